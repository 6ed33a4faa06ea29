import PyProof.Rows.All
import Wide.All
import OpenK.AllK
import Wide.FinOn
import Lean
import PyProof.EqAt
import PyProof.EqKinds
import PyProof.TupleCall
import Open.Tops
import KE.KIntText
import PyProof.ZipIter
import PyProof.ReprRoads
import PyProof.Draws
import KE.KDictSum
import KE.KSortedM
import OpenK.KRaise
import OpenK.KOwn
import PyProof.ExcBaseAll.ValueError
import KE.KTryMore
import PyProof.NsDelKeeps
import KE.KDictOf
import KE.KEqDict
import PyProof.DictWalks
import PyProof.TupleKey
import PyProof.MinMaxWalk
import KE.KSortTup
import PyProof.StrWalks
import KE.KRevIter
import KE.KListMore
import PyProof.StrLawsTight
import PyProof.StrLawsChain
import PySem.Challenge.RW_talejudge_k63_no_strictness
open PySem.W renaming Frag->c0,kia_one->C3,keepIn->M3,findIn->N3,instObj->D4,callWith_K->Y5,nsIn->m6,fnOf->o6,KasT->r6,kas_sort->E6,hideAll_get->Z6,plainGet->a8,lookIn->X8,codeIn->Y8,plainGet_of->A9,excIn->B9,methodObj->Z9,hasDictIn->j00,kas_desc->j0g,takerIn->j17,kas_rev->j18,hideAll->j19,exmOne->j20,isFn->j2j,cellsFrom_some->j30,kdu_collect->j46,of_hideAll->j4h,specialIn->j4j,plainOver->j50,kitx_list->j51,kitx_dict->j52
open PySem.PyData renaming keyHash->d0,depthAll->Q1,bool->P3,canLayAll0->y6,strOk->v8,eqvAll->P9,depth->j38
open PySem renaming wpAny_bind->j0,Shared->t0,wpAny_pure->D0,wpAny->O0,Params->U0,World->V0,model->j1,starEach->A1,reduceHash->N1,Around->U1,compareOp->J2,wpAny_call_entry->P2,OsState->S2,sliceBounds->W2,wpAny_mono->X2,eval->Y2,wpAny_callSpecial?_slot->i3,mainGlobals->m3,wpAny_holding->A3,wpAny_newObj_type->F3,treeTable->K3,sysModules->L3,wpAny_field->O3,attributeBase->S3,backTo->Z3,wpAny_seqItems->u4,wpAny_truthy_bool->y4,wpAny_pyIter_tuple->E4,eqIsQuiet->K4,foldedSetIterable->L4,binaryOp->M4,wpAny_isInstance->X4,wpAny_typeNameOfWhole_keyiter->c5,wpAny_typeOf->n5,wpAny_setField_rec->o5,wpAny_Call_Name_kw->u5,wpAny_passesOwn->K5,boot_len->L5,mem_of_lookup->T5,Keyword->c6,Builtin->i6,wpAny_attempt->A6,tupleKind->G6,keywordEach->K6,wpAny_pyIter_list->S6,placesWithHash->U6,bootBuiltins->V6,NameKind->W6,wpAny_rule->m7,swapsWith->o7,codeAny->C7,Fin->E7,callSpecialIfBoundUnlessNone?->G7,ReadsAll->K7,wpAny_execs_nil->Q7,importedModules->S7,IsPair->W7,tupleKind_room_in1->m8,pyNext->n8,isInstance->o8,wpAny_pyIter_enum->G8,relabel->K8,getItem->L8,wpAny_onRaise->U8,behindInMarks->V8,backToKw->y9,atKey->z9,strKind_is->L9,rawInt->M9,codeAny_mono->N9,assignEach->O9,Paired->Q9,IsPart->S9,typeNameOfWhole->W9,letOwnedTupleGo->X9,wpAny_updateSeq_pair->j0a,wpAny_setField->j0b,richCompare->j0c,firstArgMember->j0e,valueAt->j0i,holding->j0j,wpAny_newList->j1b,IsZip->j1f,wpAny_tupleItemsOf->j1i,call_meets->j1j,wpAny_loadPart_at->j27,wpAny_dictEntries->j28,callerA->j29,noFill_tuple_add->j2i,subscripted->j33,wpAny_specialOf->j3f,wpAny_dictEpoch->j3g,codeAny_builtin->j3i,Within->j3j,standAt->j43,wpAny_letOwnedTupleGo_enum->j48,typeOf->j49,getAttr?->j4c,Thread->j4f,GenState->j4i
open PySem.Builtin.Tuple renaming tupleHashOf->o0,tupleExact->B5,tupleItemsOf->j02
open List renaming not_mem_nil->A0,length_map->G0,length_append->K0,getElem?_eq_getElem->N0,mem_of_getElem?->Q0,size_toArray->R0,getElem?_map->W0,length_cons->X0,mem_cons->Y0,mem_cons_of_mem->E1,mem_cons_self->F1,map_cons->J1,range->K1,mem_append_right->O1,replicate->W1,forall_mem_cons->Y1,length_range->j2,map_append->u2,getElem?_append_right->B2,getD_eq_getElem?_getD->C2,getElem?_cons_succ->D2,append_nil->N2,getElem?_append_left->Q2,length_filter_le->V2,getElem?_cons_zero->Z2,map_map->G3,length_replicate->V3,forIn_nil->A4,getElem?_eq_none->C4,forIn_cons->F4,find?_cons->G4,lookup_cons->N4,length_take->O4,filter_cons_of_pos->P4,filter_cons_of_neg->Q4,filter_cons->R4,mem_append_left->O5,map_nil->R5,nodup_append->C6,length_drop->O6,getElem_mem->P6,ext_getElem->Q6,any_eq_true->R6,lookup->c7,length_nil->d7,dropLast_concat_getLast->i7,filterMap_cons->A7,nodup_nil->L7,filter_append->M7,drop_zero->N7,ext_getElem?->c8,length_filterMap_le->d8,any_cons->i8,getElem?_replicate->y8,all_eq_true->z8,take_of_length_le->M8,getElem?_set_self->N8,range_succ->c9,of_mem_zip->d9,getElem?_toArray->m9,getElem?_set_ne->C9,getElem?_modify->D9,getElem?_range->Y9,zip_cons_cons->j06,length_modify->j07,getElem_range->j08,set_eq_take_append_cons_drop->j0h,foldl_append->j12,append_assoc->j13,any_map->j14,getElem_map->j1d,getElem_inj->j1e,nodup_cons->j23,length_set->j24,filterMap_cons_some->j39,filterMap_cons_none->j3a,pairwise_mergeSort->j42,length->j55
open Nat renaming le_refl->B0,le_trans->F0,ne_of_lt->Z0,lt_of_lt_of_le->G1,zero_le->R1,lt_of_le_of_lt->T1,lt_succ_of_lt->A2,lt_succ_self->O2,le_of_lt->J3,le_succ_of_le->Q3,le_succ->T3,ne_of_gt->i4,lt_irrefl->j4,succ_le_succ->T4,le_add_right->V4,mul_le_mul_right->Q5,le_of_eq->V5,not_lt_zero->z7,zero_add->Z8,min_le_left->j9,mul_le_mul->R9,add_assoc->j05,le_of_not_lt->j21,min_eq_left->j2a
open PySem.Heap renaming get?_push_of_some->C0,lt_size->M0,get?_push_size->P0,size_push->T2,SameBut->S5,get?_update_other->O8,DictOfH->Q8,get?_update_self->o9,ExtBut->E9,FlyingW->j47
open Bool renaming false_ne_true->S0,and_eq_true->j3,false_eq_true->Y3,false_and->P7,not_true->j8,and_false->K9,not_eq_true->j1h,true_and->j3c,false_or->j3d
open Or renaming inr->B1,inl->C1
open Option.some renaming inj->P1
open PySem.PassesOwn renaming never->S1
open PySem.Builtin.SmallTypes renaming nextOf->V1,ownedTupleIsFree->W3,ownedTupleFields->X3,ownedTupleHandOut->O7
open PyProof.Rows renaming boot_isinstance->X1,callWith_type1->E3,envOfC->o4,slot_tuple_getitem->B4,boot_tuple->S4,seqObj->R7,AllBare->S8,boot_all->x9,IntsAre->U9,boot_sorted->j0f,subscriptTail->j1c,entry_list_sort->j3h,StrsAre->j44,tail_any->j4a,slot_list_sort->j4b,args_list_sort->j4d,Subscript_->j4g
open PySem.NameKind renaming free->Z1
open Array renaming getElem?_eq_getElem->E2,length_toList->G2,getElem?_toList->L6,getD_eq_getD_getElem?->B7,getElem?_eq_none->F8,map->j3e
open ForInStep renaming yield->F2,done->E8
open PySem.Value renaming none->K2,bool->J4,type->M5,str->M6,builtin->N6,isStrOf->Z7,int->t8,float->j4e
open Pure renaming pure->d3,pure->j40
open PySem.Str renaming ofString->u3
open False renaming elim->B3
open Ne renaming symm->R3
open Int renaming emod_lt_of_pos->Y4,emod_nonneg->j6,toNat_natCast->F6,le_refl->j25
open PySem.Builtin.Slice renaming slicePlaces->Z4,sliceAdjust->Y6,sliceApplied->j03
open PySem.Heap.SameBut renaming update->d5
open PySem.F renaming slot_dict_keyiterator_next->A5,slot_tuple_iterator_next->X5,plainAttrs_list->Z5,args_tuple_add_2->U7,entry_tuple_add->b8,slot_tuple_add->u8,slot_dict_get->B8,slot_zip_next->F9,args_dict_keyiterator_next_1->j2b,plainAttrs_dict->j2d,args_dict_get_3->j2e,entry_dict_keyiterator_next->j2h,entry_dict_get->j31,args_tuple_iterator_next_1->j32,slot_dict_pop->j37,entry_tuple_iterator_next->j3b
open PySem.W.Fast renaming tw16697807410369149715->C5,tw13926502685295537346->E5,tw13383273872528276517->F5,te14364793385576792824->G5,tw4214721358667687652->N5,tw14364793385576792824->A8
open PySem.Obj renaming mapSeq->P5,mapDictKeys->g9,mapFields->j41
open PySem.Calls renaming spliced_cons->d6,callWith_builtin->B6,evalArgs_plain->X6,call_function_entry->X7,spliced_nil->Y7,Name_function_global->j2c
open PySem.Builtin.List renaming listTooLong->j7,listLengthHint->j04
open PySem.Builtin.Dict renaming notOrdered->F7,updateFrom->j1a,pairItems->j1g
open Option renaming isSome_map->V7,map_some->C8,getD_some->j11,toList_none->j53,map->j54
open PySem.Builtin.Dict_items renaming ownsTuple->R8,isOneOf->u9,slot0->G9
open Sum.inr renaming inj->W8
open PySem.Data renaming cell->V9,fields->j22
open PUnit renaming unit->j01
open PySem.Around renaming under->j09
open ForIn renaming forIn->j0d
open Sum.inl renaming inj->j10
open PySem.Code renaming isFrame->j15,frames->j56
open PySem.SeqAt renaming eqAt_reads->j16
open PySem.Heap.IsSliceOf renaming new->j26
open PySem.Paired renaming length->j2f
open List.Pairwise renaming nil->j2g
open PySem.SeqAt.EqAt renaming str_str->j34,str_int->j35,int_str->j36
open PySem.Shared renaming heap->j45
set_option maxRecDepth 100000
set_option maxHeartbeats 0
namespace PySem.W.Fast
def tw16630646190270917072:=0
def tw5140683089518041948:=0
def tw8763182963456636156:=0
def tw1949667771108484893:=0
def tw710111241043686829:=0
def tw3697521145595517650:=0
def tw10388089145673211084:=0
def tw12655756857424490414:=0
def tw1329448385839540242:=0
def tw14737030425449828326:=0
def tw8061562869780469881:=0
def tw3784953323995856714:=0
def tw1468268044425271225:=0
def tw1830019846089554432:=0
def tw8469529371539858622:=0
def tw5661019029879306312:=0
def tw4608236737134887870:=0
end PySem.W.Fast
namespace K63
open_shared pre for PySem.Challenge.pw_talejudge_k63_no_strictness leaving 48
end K63
set_option maxHeartbeats 200000
-- CHANGE: your row's module here,as the last of these rows
set_option Elab.async false
set_option linter.all false
namespace L2
open PySem PySem.Spec PyProof.Rows
abbrev Key:=Sum Int Str
def keyIs:Key->Value->Bool
 | .inl k,v=>Value.isInt k v
 | .inr x,v=>Z7 x v
def keyH (w:V0):Key->Int
 | .inl k=>hashInt k
 | .inr x=>hashStr w x
theorem z0s :∀{k:Key} {v:Value},keyIs k v=true->(∃i t,k=Sum.inl i/\v=t8 i t)\/(∃x t,k=Sum.inr x/\v=M6 x t)
 | .inl i,v,h=>by obtain ⟨t,e⟩:=Value.isInt_shape (k:=i) (v:=v) h;exact .inl ⟨i,t,rfl,e⟩
 | .inr x,v,h=>by obtain ⟨t,e⟩:=Value.isStrOf_shape (x:=x) (v:=v) h;exact .inr ⟨x,t,rfl,e⟩
theorem zif (i:Int) (t:Tok):keyIs (.inl i) (.int i t)=true:=by simp [keyIs,Value.isInt]
theorem zj0 (x:Str) (t:Tok):keyIs (.inr x) (.str x t)=true:=by simp [keyIs,Z7]
theorem key_ll (a b:Int):decide ((Sum.inl a:Key)=Sum.inl b)=(a == b):=by
 by_cases e:a=b
 ·subst e;simp
 ·have h:¬ (Sum.inl a:Key)=Sum.inl b:=λ q=>e (j10 q);rw [decide_eq_false h];exact (beq_eq_false_iff_ne.mpr e).symm
theorem key_rr (a b:Str):decide ((Sum.inr a:Key)=Sum.inr b)=decide (a=b):=by
 by_cases e:a=b
 ·subst e;simp
 ·have h:¬ (Sum.inr a:Key)=Sum.inr b:=λ q=>e (W8 q);rw [decide_eq_false h,decide_eq_false e]
theorem key_lr (a:Int) (b:Str):decide ((Sum.inl a:Key)=Sum.inr b)=false:=decide_eq_false (λ q=>nomatch q)
theorem key_rl (a:Str) (b:Int):decide ((Sum.inr a:Key)=Sum.inl b)=false:=decide_eq_false (λ q=>nomatch q)
def z18 (prog:Program) (w:V0):PySem.KeyKind prog w Key where
 is:=keyIs
 hash:=keyH w
 inj:=λ v a b ha hb=>by
  rcases z0s ha with ⟨i,t,rfl,rfl⟩|⟨x,t,rfl,rfl⟩
  ·rcases z0s hb with ⟨j,u,rfl,e⟩|⟨y,u,rfl,e⟩
   ·injection e with e1 _;rw [e1]
   ·exact nomatch e
  ·rcases z0s hb with ⟨j,u,rfl,e⟩|⟨y,u,rfl,e⟩
   ·exact nomatch e
   ·injection e with e1 _;rw [e1]
 byValue:=λ k v h=>by rcases z0s h with ⟨i,t,rfl,rfl⟩|⟨x,t,rfl,rfl⟩<;>rfl
 pyHash:=λ hv h=>by
  rcases z0s hv with ⟨i,t,rfl,rfl⟩|⟨x,t,rfl,rfl⟩
  ·exact wpAny_pyHash_int h
  ·exact wpAny_pyHash_str h
 eqBool:=λ hu hv h=>by
  rcases z0s hu with ⟨i,t,rfl,rfl⟩|⟨x,t,rfl,rfl⟩
  ·rcases z0s hv with ⟨j,u,rfl,rfl⟩|⟨y,u,rfl,rfl⟩
   ·rw [key_ll] at h;exact wpAny_eqBool_int h
   ·rw [key_lr] at h;exact j36 i t y u _ _ _ _ h
  ·rcases z0s hv with ⟨j,u,rfl,rfl⟩|⟨y,u,rfl,rfl⟩
   ·rw [key_rl] at h;exact j35 x t j u _ _ _ _ h
   ·rw [key_rr] at h;exact wpAny_eqBool_str h
 «strs»:=λ k x t v h=>by
  rcases z0s h with ⟨i,u,rfl,e⟩|⟨y,u,rfl,e⟩
  ·exact nomatch e
  ·injection e with e1 _;subst e1;cases v<;>rfl
theorem ze3 (prog:Program) (w:V0) (i:Int) (t:Tok):(z18 prog w).is (.inl i) (.int i t)=true:=zif i t
theorem zek (prog:Program) (w:V0) (x:Str) (t:Tok):(z18 prog w).is (.inr x) (.str x t)=true:=zj0 x t
inductive V where
 | non|bl (b:Bool)|int (i:Int)|str (x:Str)|byt (b:Array UInt8)|flt (b:UInt64)|ref (a:Addr)|ty (n:String)
 deriving DecidableEq
def RelV:V->Value->Prop
 | .non,u=>u=K2
 | .bl b,u=>u=J4 b
 | .int i,u=>∃t,u=t8 i t
 | .str x,u=>∃t,u=M6 x t
 | .byt b,u=>∃t,u=Value.bytes b t
 | .flt b,u=>∃t,u=j4e b t
 | .ref a,u=>u=Value.ref a
 | .ty n,u=>u=M5 n
abbrev Vals:List V->List Value->Prop:=Q9 RelV
theorem Vals.length {xs:List V} {us:List Value} (r:Vals xs us):xs.length=us.length:=j2f r
theorem Vals.get :∀{xs:List V} {us:List Value} {i:Nat} {x:V},Vals xs us->xs[i]? = some x->∃u,us[i]? = some u/\RelV x u
 | _,_,_,_,.nil,e=>by simp at e
 | _,_,0,_,.cons r _,e=>by simp at e;subst e;exact ⟨_,rfl,r⟩
 | _,_,i + 1,x,.cons _ t,e=>by obtain ⟨u,b,a⟩:=Vals.get (i:=i) (x:=x) t (by simpa using e);exact ⟨u,by simpa using b,a⟩
theorem Vals.set {x:V} {u:Value} (r:RelV x u) :∀{xs:List V} {us:List Value} (i:Nat),Vals xs us->Vals (xs.set i x) (us.set i u)
 | _,_,_,.nil=>.nil
 | _,_,0,.cons _ t=>.cons r t
 | _,_,i + 1,.cons q t=>.cons q (Vals.set r i t)
theorem Vals.append :∀{xs ys:List V} {us ws:List Value},Vals xs us->Vals ys ws->Vals (xs++ys) (us++ws)
 | _,_,_,_,.nil,s=>s
 | _,_,_,_,.cons r t,s=>.cons r (Vals.append t s)
theorem Vals.take :∀{xs:List V} {us:List Value} (n:Nat),Vals xs us->Vals (xs.take n) (us.take n)
 | _,_,0,_=>.nil
 | _,_,_ + 1,.nil=>.nil
 | _,_,n + 1,.cons r t=>.cons r (Vals.take n t)
theorem Vals.drop :∀{xs:List V} {us:List Value} (n:Nat),Vals xs us->Vals (xs.drop n) (us.drop n)
 | _,_,0,r=>r
 | _,_,_ + 1,.nil=>.nil
 | _,_,n + 1,.cons _ t=>Vals.drop n t
def RelO:Option V->Option Value->Prop
 | some v,some u=>RelV v u
 | none,none=>True
 | _,_=>False
def KV {κ:Type}:List (κ×V)->List (κ×Value)->Prop:=Q9 λ (p:κ×V) (q:κ×Value)=>p.1=q.1/\RelV p.2 q.2
def kV:Key->V
 | .inl i=>.int i
 | .inr x=>.str x
inductive HO where
 | lst (xs:List V)
 | tup (xs:List V)
 | dK (kvs:List (Key×V))|dT (kvs:List (List Key×V))
 | set (S:Int->Bool) (n:Nat)
 | ins (C dx:Addr) (fs:List (Str×V))
 | own (x:Addr)
 | xd (fs:List (Str×V))
 | met (f x:Addr)
 | rng (lo hi:Int)
 | frz (o:Obj) (u:HO)
 | tbl (ps:Array Value)
 | ext (φ:Heap->Prop)
abbrev Hp:=Addr->Option HO
def upd (H:Hp) (a:Addr) (o:HO):Hp:=λ b=>if b=a then some o else H b
theorem z01 {H:Hp} {a:Addr} {o:HO}:upd H a o a=some o:=by unfold upd;rw [if_pos rfl]
theorem upd_ne {H:Hp} {a b:Addr} {o:HO} (h:b≠a):upd H a o b=H b:=by unfold upd;rw [if_neg h]
theorem ne_of {H:Hp} {a b:Addr} {o u:HO} (h:H a=some o) (h':H b=some u) (d:o≠u):a≠b:=by intro e;subst e;rw [h] at h';exact d (P1 h')
theorem z07 {H:Hp} {a b:Addr} {o:HO} (h:H a=some o) (h':H b=none):a≠b:=by intro e;subst e;rw [h] at h';cases h'
section
variable (P:Program) (w:V0)
def IsTupN (h:Heap) (a:Addr) (items:Array Value):Prop:=IsTup h a items/\∃o,h.get? a=some o/\o.dict=none
theorem IsTupN.new (h:Heap) (items:Array Value):IsTupN (h.push { cls:=.type "tuple",data:=.seq items }) h.objs.size items:=⟨IsTup.new _ _,_,P0 _ rfl,rfl⟩
def ObjOk (H:Hp) (h:Heap) (a:Addr):HO->Prop
 | .lst xs=>xs.length<=sizeLine/\∃(its:List Value) (n:Nat),Vals xs its/\h.get? a=some { cls:=.type "list",data:=.seq its.toArray n }
 | .tup xs=>xs.length<=sizeLine/\∃its:List Value,Vals xs its/\IsTupN h a its.toArray
 | .dK kvs=>kvs.length<=sizeLine/\(a == L3)=false/\∃vs,KV kvs vs/\h.DictOf (z18 P w) a vs
 | .dT kvs=>kvs.length<=sizeLine/\(a == L3)=false/\∃xs:List (List Key×Addr×Value),
   Q9 (λ (p:List Key×V) (q:List Key×Addr×Value)=>p.1=q.1/\H q.2.1=some (.tup (p.1.map kV))/\RelV p.2 q.2.2) kvs xs/\
   ∃o es ep,h.get? a=some o/\o.ExactDict/\o.data=.dict es ep/\es.toList=xs.map (entryOfKey (G6 (z18 P w)))/\(xs.map (·.1)).Nodup
 | .set S n=>h.SetOf (intKind P w) a S n
 | .ins C dx fs=>H dx=some (.own a)/\fs.length<=1000/\dx≠a/\h.get? a=some (D4 C dx)/\
   ∃mA,h.Ns1 dx mA/\(∀f,RelO (fs.lookup f) (mA f))/\j3j mA (fs.map (·.1))
 | .own _=>∃o,h.get? a=some o
 | .xd fs=>∃mA,h.Ns1 a mA/\∀f,RelO (fs.lookup f) (mA f)
 | .rng lo hi=>∃t u v,h.get? a=some { cls:=.type "range",data:=.fields #[.int lo t,.int hi u,.int 1 v] }
 | .frz o u=>h.get? a=some o/\ObjOk H h a u
 | .tbl ps=>h.get? a=some { cls:=.none,data:=.fields ps }
 | .met f x=>h.get? a=some (Z9 (.ref f) (.ref x))
 | .ext φ=>φ h/\(∃o,h.get? a=some o)/\∀h1 h2:Heap,φ h1->(∀o,h1.get? a=some o->h2.get? a=some o)->φ h2
def HOk (H:Hp) (h:Heap):Prop:=∀a o,H a=some o->ObjOk P w H h a o
end
section
variable {P:Program} {w:V0} {H H':Hp} {h h':Heap} {a:Addr} {o:HO}
theorem ObjOk.lt (x:ObjOk P w H h a o):a < h.objs.size:=by
 cases o with
 | lst xs=>obtain ⟨_,_,_,_,e⟩:=x;exact M0 e
 | tup xs=>obtain ⟨_,_,_,p⟩:=x;exact p.1.lt
 | dK kvs=>obtain ⟨_,_,_,_,o,_,_,e,_⟩:=x;exact M0 e
 | dT kvs=>obtain ⟨_,_,_,_,o,_,_,e,_⟩:=x;exact M0 e
 | set S n=>obtain ⟨o,_,_,_,e,_⟩:=x;exact M0 e
 | ins C dx fs=>obtain ⟨_,_,_,e,_⟩:=x;exact M0 e
 | own y=>obtain ⟨_,e⟩:=x;exact M0 e
 | xd fs=>obtain ⟨_,⟨_,_,_,e,_⟩,_⟩:=x;exact M0 e
 | rng lo hi=>obtain ⟨_,_,_,e⟩:=x;exact M0 e
 | frz ob u=>obtain ⟨e,_⟩:=x;exact M0 e
 | tbl ps=>exact M0 (show h.get? a=some _ from x)
 | met f y=>exact M0 (show h.get? a=some _ from x)
 | ext φ=>obtain ⟨_,⟨_,e⟩,_⟩:=x;exact M0 e
theorem Paired.mapP {α β:Type} {F G:α->β->Prop} :∀{l₁:List α} {l₂:List β},Q9 F l₁ l₂->(∀a b,F a b->G a b)->Q9 G l₁ l₂
 | _,_,.nil,_=>.nil
 | _,_,.cons r t,f=>.cons (f _ _ r) (Paired.mapP t f)
theorem ObjOk.stay (x:ObjOk P w H h a o) (k :∀b u,(b=a\/H b=some (.own a))->h.get? b=some u->h'.get? b=some u)
  (ho :∀b,H b=some (.own a)->H' b=some (.own a)) (ht :∀b xs,H b=some (.tup xs)->H' b=some (.tup xs)):ObjOk P w H' h' a o:=by
 induction o with
 | lst xs=>obtain ⟨z,A,n,r,e⟩:=x;exact ⟨z,A,n,r,k _ _ (.inl rfl) e⟩
 | tup xs=>obtain ⟨z,A,r,⟨g,e,c⟩,E,s,F⟩:=x;exact ⟨z,A,r,⟨g,k _ _ (.inl rfl) e,c⟩,E,k _ _ (.inl rfl) s,F⟩
 | dK kvs=>obtain ⟨z,y,D,r,g,i,j,e,c⟩:=x;exact ⟨z,y,D,r,g,i,j,k _ _ (.inl rfl) e,c⟩
 | dT kvs=>obtain ⟨z,y,xs,r,g,i,j,e,c⟩:=x;exact ⟨z,y,xs,Paired.mapP r λ p q z=>⟨z.1,ht _ _ z.2.1,z.2.2⟩,g,i,j,k _ _ (.inl rfl) e,c⟩
 | set S n=>obtain ⟨g,i,j,t,e,c⟩:=x;exact ⟨g,i,j,t,k _ _ (.inl rfl) e,c⟩
 | ins C dx fs=>obtain ⟨d,z,ne,e,m,⟨l,i,j,s,c⟩,r⟩:=x;exact ⟨ho _ d,z,ne,k _ _ (.inl rfl) e,m,⟨l,i,j,k _ _ (.inr d) s,c⟩,r⟩
 | own y=>obtain ⟨g,e⟩:=x;exact ⟨g,k _ _ (.inl rfl) e⟩
 | xd fs=>obtain ⟨m,⟨l,i,j,e,c⟩,r⟩:=x;exact ⟨m,⟨l,i,j,k _ _ (.inl rfl) e,c⟩,r⟩
 | rng lo hi=>obtain ⟨t,u,v,e⟩:=x;exact ⟨t,u,v,k _ _ (.inl rfl) e⟩
 | frz g u ih=>obtain ⟨e,q⟩:=x;exact ⟨k _ _ (.inl rfl) e,ih q⟩
 | tbl ps=>have e:h.get? a=some { cls:=.none,data:=.fields ps }:=x;show h'.get? a=some { cls:=.none,data:=.fields ps };exact k a _ (.inl rfl) e
 | met f y=>have e:h.get? a=some (Z9 (.ref f) (.ref y)):=x;show h'.get? a=some (Z9 (.ref f) (.ref y));exact k a _ (.inl rfl) e
 | ext φ=>obtain ⟨p,⟨o,e⟩,B⟩:=x;exact ⟨B _ _ p λ o q=>k _ _ (.inl rfl) q,⟨o,k _ _ (.inl rfl) e⟩,B⟩
theorem HOk.lt (x:HOk P w H h) (e:H a=some o):a < h.objs.size:=(x a o e).lt
theorem HOk.fresh (x:HOk P w H h) (e:h.objs.size<=a):H a=none:=by
 cases q:H a with
 | none=>rfl
 | some u=>exact absurd (G1 (x.lt q) e) (j4 _)
theorem HOk.kept (x:HOk P w H h) (k :∀b u,h.get? b=some u->h'.get? b=some u):HOk P w H h':=λ a o e=>(x a o e).stay (λ b u _ q=>k b u q) (λ _ q=>q) λ _ _ q=>q
theorem HOk.laid (x:HOk P w H h) (k :∀b u,h.get? b=some u->h'.get? b=some u) (hp:h.objs.size<=a) (new:ObjOk P w (upd H a o) h' a o):HOk P w (upd H a o) h':=λ b u e=>by
 have d:=x.fresh hp;by_cases hb:b=a
 ·subst hb;rw [z01] at e;cases e;exact new
 ·rw [upd_ne hb] at e;exact (x b u e).stay (λ c v _ q=>k c v q) (λ c q=>by rw [upd_ne (z07 q d)];exact q) λ c f q=>by rw [upd_ne (z07 q d)];exact q
end
def Rd (H:Hp) (a:Addr) (u:HO):Prop:=H a=some u\/∃o,H a=some (.frz o u)
theorem Rd.ok {P:Program} {w:V0} {H:Hp} {h:Heap} {a:Addr} {u:HO} (r:Rd H a u) (x:HOk P w H h):ObjOk P w H h a u:=by
 rcases r with r|⟨o,r⟩
 ·exact x a u r
 ·obtain ⟨_,q⟩:=x a _ r;exact q
def Mut:Option HO->Prop
 | some (.lst _)=>True
 | some (.dK _)=>True
 | some (.dT _)=>True
 | some (.set _ _)=>True
 | some (.ins _ _ _)=>True
 | some (.ext _)=>True
 | _=>False
section
variable {P:Program} {w:V0} {H:Hp} {h h':Heap} {x e:Addr} {o':HO}
theorem HOk.write (ok:HOk P w H h) (mu:Mut (H x)) (he:e=x\/H e=some (.own x)) (k :∀b u,b≠e->h.get? b=some u->h'.get? b=some u) (heo :∃u,h'.get? e=some u)
  (new:ObjOk P w (upd H x o') h' x o'):HOk P w (upd H x o') h':=λ b u q=>by
 have g :∀c y,H c=some (.own y)->c≠x:=λ c y r z=>by subst z;rw [r] at mu;exact mu
 have j :∀c a,H c=some (.tup a)->c≠x:=λ c a r z=>by subst z;rw [r] at mu;exact mu
 by_cases hb:b=x
 ·subst hb;rw [z01] at q;cases q;exact new
 ·rw [upd_ne hb] at q;by_cases hbe:b=e
  ·have f:H b=some (.own x):=by
    rcases he with z|z
    ·exact absurd (hbe.trans z) hb
    ·rw [hbe];exact z
   rw [q] at f;cases f;obtain ⟨v,i⟩:=heo;exact ⟨v,by rw [hbe];exact i⟩
  ·refine (ok b u q).stay (λ c v d r=>k c v ?_ r) (λ c r=>by rw [upd_ne (g c b r)];exact r) λ c a r=>by rw [upd_ne (j c a r)];exact r
   rcases d with rfl|d
   ·exact hbe
   ·rintro rfl;rcases he with z|z
    ·exact g c b d z
    ·rw [d] at z;cases z;exact hb rfl
end
structure Un (fs ex:List Addr) (H H':Hp) (h h':Heap):Prop where
 keep :∀b o,h.get? b=some o->H b=none->b∉fs->b∉ex->h'.get? b=some o
 slot :∀b o,h.get? b=some o->H b=none->b∈fs->b∉ex->∃sl,h'.get? b=some { o with slots:=sl }
 free :∀b o,h.get? b=some o->H b=none->b∉ex->H' b=none
 there :∀b o,h.get? b=some o->b∉ex->∃o',h'.get? b=some o'
 tups :∀b xs,H b=some (.tup xs)->H' b=some (.tup xs)
 frzs :∀b o u,H b=some (.frz o u)->H' b=some (.frz o u)
 tbls :∀b ps,H b=some (.tbl ps)->∃more,H' b=some (.tbl (ps++more))
section
variable {fs fs' ex ex':List Addr} {H H1 H2:Hp} {h h1 h2 h':Heap} {a x e:Addr} {o:HO}
theorem Un.any (u:Un fs ex H H1 h h1) {b:Addr} {ob:Obj} (q:h.get? b=some ob) (n:H b=none) (hx:b∉ex) :∃sl,h1.get? b=some { ob with slots:=sl }:=by
 by_cases hb:b∈fs
 ·exact u.slot b ob q n hb hx
 ·exact ⟨ob.slots,u.keep b ob q n hb hx⟩
theorem Un.kept (k :∀b u,h.get? b=some u->h'.get? b=some u):Un fs ex H H h h':=
 ⟨λ b a q _ _ _=>k b a q,λ b a q _ _ _=>⟨a.slots,k b a q⟩,λ _ _ _ n _=>n,λ b a q _=>⟨a,k b a q⟩,λ _ _ q=>q,λ _ _ _ q=>q,λ _ c q=>⟨#[],by rw [q];simp⟩⟩
theorem Un.refl:Un fs ex H H h h:=Un.kept λ _ _ q=>q
theorem Un.laid (k :∀b u,h.get? b=some u->h'.get? b=some u) (hp:h.objs.size<=a) (hn:H a=none):Un fs ex H (upd H a o) h h' where
 keep:=λ b u q _ _ _=>k b u q
 slot:=λ b u q _ _ _=>⟨u.slots,k b u q⟩
 free:=λ b u q n _=>by rw [upd_ne (Z0 (G1 (M0 q) hp))];exact n
 there:=λ b u q _=>⟨u,k b u q⟩
 tups:=λ b c q=>by rw [upd_ne (z07 q hn)];exact q
 frzs:=λ b u c q=>by rw [upd_ne (z07 q hn)];exact q
 tbls:=λ b d q=>⟨#[],by rw [upd_ne (z07 q hn),q];simp⟩
theorem Un.write (mu:Mut (H x)) (he:e=x\/H e=some (.own x)) (k :∀b u,b≠e->h.get? b=some u->h'.get? b=some u) (heo :∃u,h'.get? e=some u):Un fs ex H (upd H x o) h h':=by
 have d :∀b,H b=none->b≠x:=λ b n z=>by subst z;rw [n] at mu;exact mu
 have c :∀b,H b=none->b≠e:=λ b n z=>by
  subst z;rcases he with r|r
  ·exact d b n r
  ·rw [n] at r;cases r
 have a :∀b u,H b=some u->¬ Mut (some u)->b≠x:=λ b u q f z=>by subst z;rw [q] at mu;exact f mu
 refine ⟨λ b u q n _ _=>k b u (c b n) q,λ b u q n _ _=>⟨u.slots,k b u (c b n) q⟩,λ b u q n _=>by rw [upd_ne (d b n)];exact n,λ b u q _=>?_,
  λ b g q=>by rw [upd_ne (a b _ q λ z=>z)];exact q,λ b u g q=>by rw [upd_ne (a b _ q λ z=>z)];exact q,λ b i q=>⟨#[],by rw [upd_ne (a b _ q λ z=>z),q];simp⟩⟩
 by_cases hbe:b=e
 ·subst hbe;exact heo
 ·exact ⟨u,k b u hbe q⟩
end
def trk (h:Heap) (H:Hp):List Addr:=(K1 h.objs.size).filter λ a=>(H a).isSome
def hidT (h:Heap) (H:Hp):Heap:=j19 h (trk h H)
theorem zi3 (h:Heap) (H:Hp):(hidT h H).objs.size=h.objs.size:=PySem.W.hideAll_size _ _
theorem zl5 {h:Heap} {H:Hp} {b:Addr} {o:Obj} (e:h.get? b=some o) (n:H b=none):(hidT h H).get? b=some o:=
 Z6 _ e λ a=>by have q:(H b).isSome=true:=(List.mem_filter.mp a).2;rw [n] at q;simp at q
theorem zmj {h:Heap} {H:Hp} {b:Addr} {o:Obj} (e:(hidT h H).get? b=some o):h.get? b=some o/\H b=none:=by
 have a:h.get? b=some o:=j4h (trk h H) e;refine ⟨a,?_⟩;cases q:H b with
 | none=>rfl
 | some x=>have c:b∈trk h H:=List.mem_filter.mpr ⟨List.mem_range.mpr (M0 a),by simp [q]⟩;have z:(hidT h H).get? b=none:=PySem.W.hideAll_none (trk h H) c;rw [z] at e;cases e
def zmz (g h:Heap) (L:Addr):List (Addr×Obj):=(K1 h.objs.size).filterMap λ a=>if a=L\/(g.get? a).isSome=true then none else (h.get? a).map λ o=>(a,o)
def rest (g h:Heap) (L d:Addr):List (Addr×Obj):=(zmz g h L).filter λ p=>decide (p.1≠d)
structure Mod (K:c0) (mg:Str->Option Value) (base:Heap):Prop where
 kin:K.In base
 glob:base.Ns m3 mg
 blt :∃mb,base.Ns builtinsNs mb/\∀x:Str,x≠"__name__"->mb x=V6 x
 nolimit:base.NoLimit
structure Cx where
 prog:Program
 w:V0
 K:c0
 mg:Str->Option Value
 base:Heap
 A:U1
 N:List Str
 s₀:t0
 H₀:Hp
 env:Env
 outer:List Env
 stack:List Env
 ex:List Addr
 fn:Str->Bool
 calm:Bool
 pn:List (Addr×Obj)
 xe:Value->t0->Prop
def frs (l:List Env):List Addr:=l.filterMap (·.frame)
abbrev Cx.fs (X:Cx):List Addr:=frs X.outer
def Vis (sc:Scope) (x:Str):Prop:=sc.names.lookup x=some .local\/sc.names.lookup x=some .cell\/sc.names.lookup x=some .free
def Loc (sc:Scope) (x:Str):Prop:=sc.names.lookup x=some .local\/sc.names.lookup x=some .cell
def Look (env:Env) (h:Heap) (m:Str->Option Value) (x:Str) (u:Value):Prop:=
 (env.kindOf x=some .local/\m x=some u)\/((env.kindOf x=some .cell\/env.kindOf x=some .free)/\∃c,env.cells.lookup x=some c/\h.IsCell c (some u))
structure Cx.Ok (X:Cx):Prop where
 mod:Mod X.K X.mg X.base
 kind:X.env.scope.kind=.function
 glob:X.env.globals=m3
 blt:X.env.builtins=builtinsNs
 above:X.s₀.heap.objs.size<=X.env.locals
 inj :∀x y c,X.env.cells.lookup x=some c->X.env.cells.lookup y=some c->x=y
 has :∀x,(X.env.kindOf x=some .cell\/X.env.kindOf x=some .free)->∃c,X.env.cells.lookup x=some c
 cab :∀x c,X.fn x=true->X.env.cells.lookup x=some c->X.s₀.heap.objs.size<=c
 hd:X.calm=true->X.A.handled=none
 frames:X.A.frames=some X.stack
 stk:X.stack=X.outer\/(X.stack=X.env :: X.outer/\X.env.frame=some X.env.locals)
 exf :∀b∈X.ex,b≠X.env.locals/\∀x c,X.env.cells.lookup x=some c->c≠b
 bs :∀b o,X.base.get? b=some o->X.s₀.heap.get? b=some o/\X.H₀ b=none
 bsz:X.base.objs.size<=X.s₀.heap.objs.size
 noex :∀b o,X.base.get? b=some o->b∉X.ex
 exfs :∀b∈X.ex,b∉X.fs
 funs:X.s₀.heap.FunFrames X.base X.outer
 frf :∀b∈X.fs,X.H₀ b=none
structure Inv (X:Cx) (pins:List (Addr×Obj)) (σ:List (Option V)) (H:Hp) (s:t0):Prop where
 ok:X.Ok
 os:s.os=X.s₀.os
 bare:S8 s.gens
 base:Un X.fs X.ex X.H₀ H X.s₀.heap s.heap
 loc :∃m,s.heap.Ns X.env.locals m/\∀(i:Nat) (x:Str) (v:V),X.N[i]? = some x->σ[i]? = some (some v)->Vis X.env.scope x->∃u,RelV v u/\Look X.env s.heap m x u
 cell :∀x c,X.env.cells.lookup x=some c->∃v,s.heap.IsCell c v
 free:H X.env.locals=none
 freeC :∀x c,X.env.cells.lookup x=some c->H c=none
 pin :∀p∈X.pn++pins,s.heap.get? p.1=some p.2/\H p.1=none/\p.1≠X.env.locals/\p.1∉X.fs/\∀v,p.2.data≠.cell v
 hok:HOk X.prog X.w H s.heap
 len:σ.length=X.N.length
section
variable {X:Cx} {pins:List (Addr×Obj)} {σ:List (Option V)} {H H':Hp} {s:t0} {h':Heap}
theorem Cx.Ok.nofr (ok:X.Ok) {b:Addr} {o:Obj} (e:X.base.get? b=some o):b∉X.fs:=λ a=>by have:=(ok.funs.mem a).1;rw [e] at this;cases this
theorem Inv.bs (I:Inv X pins σ H s) :∀b o,X.base.get? b=some o->s.heap.get? b=some o/\H b=none:=λ b o e=>⟨I.base.keep b o (I.ok.bs b o e).1 (I.ok.bs b o e).2 (I.ok.nofr e) (I.ok.noex b o e),I.base.free b o (I.ok.bs b o e).1 (I.ok.bs b o e).2 (I.ok.noex b o e)⟩
theorem Inv.bk (I:Inv X pins σ H s) :∀b o,X.base.get? b=some o->s.heap.get? b=some o:=λ b o e=>(I.bs b o e).1
theorem Inv.mod (I:Inv X pins σ H s):Mod X.K X.mg X.base:=I.ok.mod
theorem Inv.kIn (I:Inv X pins σ H s):X.K.In s.heap:=I.ok.mod.kin.keeps I.bk
theorem Inv.lt (I:Inv X pins σ H s):X.env.locals < s.heap.objs.size:=let ⟨_,hn,_⟩:=I.loc;hn.lt
theorem Inv.sz (I:Inv X pins σ H s):X.s₀.heap.objs.size<=s.heap.objs.size:=F0 I.ok.above (J3 I.lt)
theorem Inv.nofs (I:Inv X pins σ H s) {a:Addr} (h:s.heap.objs.size<=a):a∉X.fs:=λ b=>by obtain ⟨_,o,c,_⟩:=I.ok.funs.mem b;exact absurd (G1 (M0 c) (F0 I.sz h)) (j4 _)
theorem Inv.cne (I:Inv X pins σ H s) :∀x c,X.env.cells.lookup x=some c->c≠X.env.locals:=λ x c e z=>by obtain ⟨v,o,b,a⟩:=I.cell x c e;obtain ⟨m,⟨g,i,h,f,d,_⟩,_⟩:=I.loc;rw [z,f] at b;cases b;rw [d] at a;cases a
theorem Inv.funs (I:Inv X pins σ H s):s.heap.FunFrames X.base X.outer:=by
 have all :∀(l:List Env),(∀b∈frs l,b∈X.fs)->X.s₀.heap.FunFrames X.base l->s.heap.FunFrames X.base l:=by
  intro l;induction l with
  | nil=>intro _ _;trivial
  | cons env r ih=>intro f j;obtain ⟨k,⟨L,o,d,m,h,g⟩,i⟩:=j;have c:L∈X.fs:=f L (by unfold frs;rw [A7,d];exact F1);obtain ⟨n,e⟩:=I.base.slot L o h (I.ok.frf L c) c λ z=>I.ok.exfs L z c;exact ⟨k,⟨L,_,d,m,e,g⟩,ih (λ b a=>f b (by unfold frs;rw [A7,d];exact E1 _ a)) i⟩
 exact all X.outer (λ _ a=>a) I.ok.funs
theorem Inv.stack (I:Inv X pins σ H s):s.heap.FunFrames X.base X.stack:=by
 rcases I.ok.stk with e|⟨e,hf⟩
 ·rw [e];exact I.funs
 ·rw [e];obtain ⟨m,a,_⟩:=I.loc;refine .cons (by rw [I.ok.kind];decide) hf a ?_ I.funs;exact Heap.get?_none_of_le (F0 I.ok.bsz I.ok.above)
theorem Inv.stkSub (I:Inv X pins σ H s) :∀b∈frs X.stack,b∈X.env.locals :: X.fs:=λ b a=>by
 rcases I.ok.stk with e|⟨e,hf⟩
 ·rw [e] at a;exact E1 _ a
 ·rw [e] at a;unfold frs at a;rw [A7,hf] at a;exact a
theorem Inv.stkFree (I:Inv X pins σ H s) :∀b∈frs X.stack,H b=none:=λ b a=>by
 rcases List.mem_cons.mp (I.stkSub b a) with e|a
 ·rw [e];exact I.free
 ·obtain ⟨_,o,c,_⟩:=I.ok.funs.mem a;exact I.base.free b o c (I.ok.frf b a) λ z=>I.ok.exfs b z a
theorem Inv.step {g':Array j4i} {t':Nat} {d':Drawn} {ch:List Addr} (I:Inv X pins σ H s)
  (hch :∀b∈ch,(b∈X.ex\/X.s₀.heap.objs.size<=b)/\b≠X.env.locals/\(∀x c,X.env.cells.lookup x=some c->c≠b)/\∀p∈X.pn++pins,p.1≠b)
  (keep :∀b o,b≠X.env.locals->b∉X.fs->b∉ch->s.heap.get? b=some o->H b=none->h'.get? b=some o)
  (slot :∀b o,b≠X.env.locals->b∈X.fs->b∉ch->s.heap.get? b=some o->H b=none->∃sl,h'.get? b=some { o with slots:=sl }) (free :∀b o,b∉ch->s.heap.get? b=some o->H b=none->H' b=none)
  (there :∀b o,b∉ch->s.heap.get? b=some o->∃o',h'.get? b=some o')
  (tups :∀b xs,H b=some (.tup xs)->H' b=some (.tup xs)) (frzs :∀b o u,H b=some (.frz o u)->H' b=some (.frz o u)) (tbls :∀b ps,H b=some (.tbl ps)->∃more,H' b=some (.tbl (ps++more)))
  (ns :∀m,s.heap.Ns X.env.locals m->h'.Ns X.env.locals m) (hok:HOk X.prog X.w H' h') (hg:S8 g') :
  Inv X pins σ H' { s with heap:=h',gens:=g',drawn:=d',toks:=t' }:=by
 have E :∀b o,X.s₀.heap.get? b=some o->b≠X.env.locals:=λ b o e=>Z0 (G1 (M0 e) I.ok.above);have y :∀b o,X.s₀.heap.get? b=some o->b∉X.ex->b∉ch:=λ b o e a g=>by
  rcases (hch b g).1 with z|z
  ·exact a z
  ·exact absurd (G1 (M0 e) z) (j4 _)
 have C :∀x c,X.env.cells.lookup x=some c->∀v,s.heap.IsCell c v->h'.IsCell c v:=λ x c e v ⟨o,h,A⟩=>by
  have t:c∉ch:=λ z=>(hch c z).2.2.1 x c e rfl;by_cases hc:c∈X.fs
  ·obtain ⟨sl,q⟩:=slot c o (I.cne x c e) hc t h (I.freeC x c e);exact ⟨_,q,A⟩
  ·exact ⟨o,keep c o (I.cne x c e) hc t h (I.freeC x c e),A⟩
 refine ⟨I.ok,I.os,hg,⟨λ b o e n g a=>?_,λ b o e n g a=>?_,λ b o e n a=>?_,λ b o e a=>?_,λ b xs e=>tups b xs (I.base.tups b xs e),λ b o xs e=>frzs b o xs (I.base.frzs b o xs e),λ b ps e=>?_⟩,?_,λ x c e=>?_,?_,λ x c e=>?_,λ p D=>?_,hok,I.len⟩
 ·exact keep b o (E b o e) g (y b o e a) (I.base.keep b o e n g a) (I.base.free b o e n a)
 ·obtain ⟨sl,f⟩:=I.base.slot b o e n g a;obtain ⟨K,j⟩:=slot b _ (E b o e) g (y b o e a) f (I.base.free b o e n a);exact ⟨K,j⟩
 ·obtain ⟨o',f⟩:=I.base.there b o e a;exact free b o' (y b o e a) f (I.base.free b o e n a)
 ·obtain ⟨o',f⟩:=I.base.there b o e a;exact there b o' (y b o e a) f
 ·obtain ⟨G,f⟩:=I.base.tbls b ps e;obtain ⟨F,j⟩:=tbls b _ f;exact ⟨G++F,by rw [j,Array.append_assoc]⟩
 ·obtain ⟨m,L,J⟩:=I.loc;refine ⟨m,ns m L,λ i x v f j M=>?_⟩;obtain ⟨u,r,l⟩:=J i x v f j M;refine ⟨u,r,?_⟩;rcases l with l|⟨k,c,e,z⟩
  ·exact .inl l
  ·exact .inr ⟨k,c,e,C x c e _ z⟩
 ·obtain ⟨v,z⟩:=I.cell x c e;exact ⟨v,C x c e v z⟩
 ·obtain ⟨m,⟨o,_,_,h,_⟩,_⟩:=I.loc;exact free _ o (λ z=>(hch _ z).2.1 rfl) h I.free
 ·obtain ⟨v,o,h,A⟩:=I.cell x c e;exact free c o (λ z=>(hch c z).2.2.1 x c e rfl) h (I.freeC x c e)
 ·obtain ⟨e,n,ne,B,d⟩:=I.pin p D;have t:p.1∉ch:=λ z=>(hch p.1 z).2.2.2 p D rfl;exact ⟨keep p.1 p.2 ne B t e n,free p.1 p.2 t e n,ne,B,d⟩
theorem Inv.un {t':Nat} (I:Inv X pins σ H s) (u:Un X.fs [] H H' s.heap h') (hok:HOk X.prog X.w H' h'):Inv X pins σ H' { s with heap:=h',toks:=t' }:=by obtain ⟨m,⟨o,q,t,c,r⟩,_⟩:=id I.loc;obtain ⟨k,j⟩:=u.any c I.free (by simp);exact I.step (g':=s.gens) (d':=s.drawn) (ch:=[]) (λ _ z=>nomatch z) (λ b o _ a _ e n=>u.keep b o e n a (by simp)) (λ b o _ a _ e n=>u.slot b o e n a (by simp)) (λ b o _ e n=>u.free b o e n (by simp)) (λ b o _ e=>u.there b o e (by simp)) u.tups u.frzs u.tbls (λ l f=>by obtain ⟨p,h,i,d,g⟩:=f;rw [c] at d;cases d;exact ⟨_,h,i,j,g⟩) hok I.bare
theorem Inv.call {g':Array j4i} {t':Nat} {d':Drawn} {ch:List Addr} (I:Inv X pins σ H s) (u:Un (frs X.stack) ch H H' s.heap h') (hok:HOk X.prog X.w H' h') (hg:S8 g')
  (hch :∀b∈ch,(b∈X.ex\/X.s₀.heap.objs.size<=b)/\b≠X.env.locals/\(∀x c,X.env.cells.lookup x=some c->c≠b)/\∀p∈X.pn++pins,p.1≠b) :
  Inv X pins σ H' { s with heap:=h',gens:=g',drawn:=d',toks:=t' }:=by
 obtain ⟨m,⟨o,y,A,f,r⟩,_⟩:=id I.loc;obtain ⟨q,d⟩:=u.any f I.free λ z=>(hch _ z).2.1 rfl;exact I.step (ch:=ch) hch (λ b o d j a e n=>u.keep b o e n (λ z=>(List.mem_cons.mp (I.stkSub b z)).elim d j) a) (λ b o _ _ a e n=>u.any e n a) (λ b o a e n=>u.free b o e n a) (λ b o a e=>u.there b o e a) u.tups u.frzs u.tbls (λ t h=>by obtain ⟨v,k,l,g,i⟩:=h;rw [f] at g;cases g;exact ⟨_,k,l,d,i⟩) hok hg
theorem Inv.turned {t':Nat} {it:Addr} (I:Inv X pins σ H s) (k :∀b o,b≠it->s.heap.get? b=some o->h'.get? b=some o) (hn:H it=none) (hL:it≠X.env.locals)
  (h1:it∈X.ex\/X.s₀.heap.objs.size<=it) (h2 :∀x c,X.env.cells.lookup x=some c->c≠it) (h3 :∀p∈X.pn++pins,p.1≠it):Inv X pins σ H { s with heap:=h',toks:=t' }:=by
 have d :∀b u,H b=some u->b≠it:=λ b u e z=>by rw [z,hn] at e;cases e
 refine I.step (g':=s.gens) (d':=s.drawn) (ch:=[it]) (λ b i=>?_) (λ b o _ _ a e _=>k b o (λ z=>a (by simp [z])) e) (λ b o _ _ a e _=>⟨o.slots,k b o (λ z=>a (by simp [z])) e⟩) (λ _ _ _ _ n=>n)
  (λ b o a e=>⟨o,k b o (λ z=>a (by simp [z])) e⟩) (λ _ _ e=>e) (λ _ _ _ e=>e) (λ b l e=>⟨#[],by rw [e];simp⟩) (λ m f=>?_) (λ b u e=>?_) I.bare
 ·have e:b=it:=by simpa using i
  subst e;exact ⟨h1,hL,h2,h3⟩
 ·obtain ⟨o,j,h,g,r⟩:=f;exact ⟨o,j,h,k _ o (R3 hL) g,r⟩
 ·refine (I.hok b u e).stay (λ c v a q=>k c v ?_ q) (λ _ q=>q) λ _ _ q=>q;rcases a with z|z
  ·rw [z];exact d b u e
  ·exact d c _ z
theorem Inv.tok (I:Inv X pins σ H s) (t:Nat):Inv X pins σ H { s with toks:=t }:=I.un (h':=s.heap) (t':=t) Un.refl I.hok
theorem Inv.kept {t':Nat} (I:Inv X pins σ H s) (k :∀b u,s.heap.get? b=some u->h'.get? b=some u):Inv X pins σ H { s with heap:=h',toks:=t' }:=I.un (Un.kept k) (I.hok.kept k)
theorem Inv.laid {a:Addr} {o:HO} {t':Nat} (I:Inv X pins σ H s) (k :∀b u,s.heap.get? b=some u->h'.get? b=some u) (hp:s.heap.objs.size<=a) (new:ObjOk X.prog X.w (upd H a o) h' a o) :
  Inv X pins σ (upd H a o) { s with heap:=h',toks:=t' }:=I.un (Un.laid k hp (I.hok.fresh hp)) (I.hok.laid k hp new)
theorem Inv.write {x e:Addr} {o:HO} {t':Nat} (I:Inv X pins σ H s) (mu:Mut (H x)) (he:e=x\/H e=some (.own x)) (k :∀b u,b≠e->s.heap.get? b=some u->h'.get? b=some u) (heo :∃u,h'.get? e=some u)
  (new:ObjOk X.prog X.w (upd H x o) h' x o):Inv X pins σ (upd H x o) { s with heap:=h',toks:=t' }:=I.un (Un.write mu he k heo) (I.hok.write mu he k heo new)
theorem Inv.weak {σ':List (Option V)} (I:Inv X pins σ H s) (hl:σ'.length=σ.length) (w :∀(i:Nat) v,σ'[i]? = some (some v)->σ[i]? = some (some v)):Inv X pins σ' H s:=
 ⟨I.ok,I.os,I.bare,I.base,let ⟨m,hn,hl'⟩:=I.loc;⟨m,hn,λ i x v c b a=>hl' i x v c (w i v b) a⟩,I.cell,I.free,I.freeC,I.pin,I.hok,hl.trans I.len⟩
theorem Inv.pins_of {pins':List (Addr×Obj)} (I:Inv X pins σ H s) (h :∀p∈pins',s.heap.get? p.1=some p.2/\H p.1=none/\p.1≠X.env.locals/\p.1∉X.fs/\∀v,p.2.data≠.cell v):Inv X pins' σ H s:=
 ⟨I.ok,I.os,I.bare,I.base,I.loc,I.cell,I.free,I.freeC,λ p a=>(List.mem_append.mp a).elim (λ z=>I.pin p (O5 _ z)) (h p),I.hok,I.len⟩
theorem zb5 {N:List Str} (hN:N.Nodup) {i j:Nat} {x:Str} (a:N[i]? = some x) (b:N[j]? = some x):i=j:=by obtain ⟨f,d⟩:=List.getElem?_eq_some_iff.mp a;obtain ⟨e,c⟩:=List.getElem?_eq_some_iff.mp b;exact (j1e hN).mp (d.trans c.symm)
theorem zin {M:Model} {A:U1} {E:Value->t0->Prop} {i:Nat} {x:Str} {v:V} {u:Value} {Q:Unit->t0->Prop} (I:Inv X pins σ H s) (hN:X.N.Nodup) (hi:X.N[i]? = some x) (hx:Loc X.env.scope x) (r:RelV v u)
  (h :∀s',Inv X pins (σ.set i (some v)) H s'->(∃a,S5 a s.heap s'.heap/\(a=X.env.locals\/X.env.cells.lookup x=some a))->Q () s') (hf:X.fn x=true\/X.env.scope.names.lookup x=some .local:=by first|exact .inl rfl|exact .inr rfl|assumption):O0 M A (storeName X.env x u) Q E s:=by
 obtain ⟨m,S,hl⟩:=id I.loc;have a5:(X.env.scope.kind == .class || (X.env.scope.kind == .module && X.env.locals != X.env.globals))=false:=by rw [I.ok.kind];rfl
 have a0:i < σ.length:=by rw [I.len];exact (List.getElem?_eq_some_iff.mp hi).1
 have cne:=I.cne;have Z :∀{a:Addr} {C:Heap},(∃o,s.heap.get? a=some o/\H a=none)->S5 a s.heap C->HOk X.prog X.w H C:=λ {a C} ha f b ob e=>by
  obtain ⟨_,_,a2⟩:=ha;refine (I.hok b ob e).stay (λ c F l q=>(f.2 c ?_).trans q) (λ _ q=>q) λ _ _ q=>q;rintro rfl;rcases l with rfl|l
  ·rw [a2] at e;cases e
  ·rw [a2] at l;cases l
 rcases hx with hk|hk
 ·refine wpAny_storeName_local hk S (λ C a6 f=>?_) a5;obtain ⟨oL,_,_,a3,_⟩:=id S;refine h _ ⟨I.ok,I.os,I.bare,⟨λ b o e n B hx=>?_,λ b o e n B hx=>?_,I.base.free,λ b o e hx=>?_,I.base.tups,I.base.frzs,I.base.tbls⟩,⟨_,a6,λ j y R g t U=>?_⟩,λ y c e=>?_,I.free,I.freeC,λ p P=>?_,Z ⟨oL,a3,I.free⟩ f,by simpa using I.len⟩ ⟨_,f,.inl rfl⟩
  ·exact (f.2 b (Z0 (G1 (M0 e) I.ok.above))).trans (I.base.keep b o e n B hx)
  ·obtain ⟨G,g⟩:=I.base.slot b o e n B hx;exact ⟨G,(f.2 b (Z0 (G1 (M0 e) I.ok.above))).trans g⟩
  ·obtain ⟨K,g⟩:=I.base.there b o e hx;exact ⟨K,(f.2 b (Z0 (G1 (M0 e) I.ok.above))).trans g⟩
  ·by_cases hj:j=i
   ·subst hj;rw [hi] at g;cases g;rw [N8 a0] at t;cases t;exact ⟨u,r,.inl ⟨hk,by simp⟩⟩
   ·rw [C9 (R3 hj)] at t;obtain ⟨T,J,q⟩:=hl j y R g t U;refine ⟨T,J,?_⟩;rcases q with ⟨k,e⟩|⟨k,c,e,z⟩
    ·refine .inl ⟨k,?_⟩;have:y≠x:=λ e=>hj (zb5 hN g (e ▸ hi));simp [this,e]
    ·exact .inr ⟨k,c,e,z.sameBut f (cne y c e)⟩
  ·obtain ⟨F,z⟩:=I.cell y c e;exact ⟨F,z.sameBut f (cne y c e)⟩
  ·obtain ⟨e,n,ne,O,d⟩:=I.pin p P;exact ⟨(f.2 p.1 ne).trans e,n,ne,O,d⟩
 ·have L:X.fn x=true:=by
   rcases hf with z|z
   ·exact z
   ·rw [z] at hk;cases hk
  obtain ⟨c,l⟩:=I.ok.has x (.inl hk);obtain ⟨F,z⟩:=I.cell x c l;refine wpAny_storeName_cell I.ok.kind hk l z (λ C W f=>?_);obtain ⟨Y,a1,a4⟩:=id z;refine h { s with heap:=C } ⟨I.ok,I.os,I.bare,⟨λ b o e n B hx=>?_,λ b o e n B hx=>?_,I.base.free,λ b o e hx=>?_,I.base.tups,I.base.frzs,I.base.tbls⟩,⟨m,S.sameBut f (R3 (cne x c l)),λ j y R g t U=>?_⟩,λ y D e=>?_,I.free,I.freeC,λ p P=>?_,Z ⟨Y,a1,I.freeC x c l⟩ f,by simpa using I.len⟩ ⟨c,f,.inr l⟩
  ·exact (f.2 b (Z0 (G1 (M0 e) (I.ok.cab x c L l)))).trans (I.base.keep b o e n B hx)
  ·obtain ⟨G,g⟩:=I.base.slot b o e n B hx;exact ⟨G,(f.2 b (Z0 (G1 (M0 e) (I.ok.cab x c L l)))).trans g⟩
  ·obtain ⟨K,g⟩:=I.base.there b o e hx;exact ⟨K,(f.2 b (Z0 (G1 (M0 e) (I.ok.cab x c L l)))).trans g⟩
  ·by_cases hj:j=i
   ·subst hj;rw [hi] at g;cases g;rw [N8 a0] at t;cases t;exact ⟨u,r,.inr ⟨.inl hk,c,l,W⟩⟩
   ·rw [C9 (R3 hj)] at t;obtain ⟨T,J,q⟩:=hl j y R g t U;refine ⟨T,J,?_⟩;rcases q with q|⟨k,D,e,z'⟩
    ·exact .inl q
    ·refine .inr ⟨k,D,e,z'.sameBut f ?_⟩;rintro rfl;exact hj (zb5 hN g (I.ok.inj _ _ _ e l ▸ hi))
  ·by_cases hcc:D=c
   ·subst hcc;exact ⟨_,W⟩
   ·obtain ⟨w2,z2⟩:=I.cell y D e;exact ⟨w2,z2.sameBut f hcc⟩
  ·obtain ⟨e,n,ne,O,d⟩:=I.pin p P;refine ⟨(f.2 p.1 ?_).trans e,n,ne,O,d⟩;intro q;rw [q,a1] at e;have q':Y=p.2:=P1 e;exact d F (by rw [<-q'];exact a4)
theorem zc3 {M:Model} {A:U1} {E:Value->t0->Prop} {i:Nat} {x:Str} {v:V} {u:Value} {Q:Unit->t0->Prop} (I:Inv X pins σ H s) (hN:X.N.Nodup) (hi:X.N[i]? = some x) (hx:Loc X.env.scope x) (r:RelV v u)
  (h :∀s',Inv X pins (σ.set i (some v)) H s'->Q () s') (hf:X.fn x=true\/X.env.scope.names.lookup x=some .local:=by first|exact .inl rfl|exact .inr rfl|assumption):O0 M A (storeName X.env x u) Q E s:=
 zin I hN hi hx r (λ s' a _=>h s' a) hf
theorem Inv.call' {s':t0} {ch:List Addr} (I:Inv X pins σ H s) (ho:s'.os=s.os) (u:Un (frs X.stack) ch H H' s.heap s'.heap) (hok:HOk X.prog X.w H' s'.heap) (hg:S8 s'.gens)
  (hch :∀b∈ch,(b∈X.ex\/X.s₀.heap.objs.size<=b)/\b≠X.env.locals/\(∀x c,X.env.cells.lookup x=some c->c≠b)/\∀p∈X.pn++pins,p.1≠b):Inv X pins σ H' s':=by
 obtain ⟨d,g',d',t',a⟩:=s';have e:a=s.os:=ho;subst e;exact I.call (g':=g') (t':=t') (d':=d') u hok hg hch
end
abbrev XK:=Value->Option Addr->Hp->Prop
abbrev St:=List (Option V)
abbrev VK:=V->Hp->Prop
abbrev TE:=St->Hp->VK->Prop
abbrev TT:=St->Hp->(Bool->Hp->Prop)->Prop
abbrev TA:=St->Hp->(List V->Hp->Prop)->Prop
structure Ends where
 nx:St->Hp->Prop
 rt:VK
 bk:St->Hp->Prop:=λ _ _=>False
 ct:St->Hp->Prop:=λ _ _=>False
abbrev TS:=Ends->St->Hp->Prop
def EP (X:Cx) (pins:List (Addr×Obj)) (σ:St) (Q:VK) (u:Value) (s':t0):Prop:=∃v H',Inv X pins σ H' s'/\RelV v u/\Q v H'
def TP (X:Cx) (pins:List (Addr×Obj)) (σ:St) (Q:Bool->Hp->Prop) (b:Bool) (s':t0):Prop:=∃H',Inv X pins σ H' s'/\Q b H'
def AP (X:Cx) (pins:List (Addr×Obj)) (σ:St) (Q:List V->Hp->Prop) (us:List Value) (s':t0):Prop:=∃vs H',Inv X pins σ H' s'/\Vals vs us/\Q vs H'
def SP (X:Cx) (pins:List (Addr×Obj)) (D:Ends) (f:Flow) (s':t0):Prop:=
 match f with
 | .next=>∃σ' H',Inv X pins σ' H' s'/\D.nx σ' H'
 | .brk=>∃σ' H',Inv X pins σ' H' s'/\D.bk σ' H'
 | .cont=>∃σ' H',Inv X pins σ' H' s'/\D.ct σ' H'
 | .ret u=>∃v σ' H',Inv X pins σ' H' s'/\RelV v u/\D.rt v H'
def PE (X:Cx) (e:Expr) (t:TE):Prop:=
 ∀(pins:List (Addr×Obj)) (s:t0) (σ:St) (H:Hp) (Q:VK),Inv X pins σ H s->t σ H Q->O0 (j1 X.prog X.w) X.A (Y2 e X.env) (EP X pins σ Q) X.xe s
def PT (X:Cx) (e:Expr) (t:TT):Prop:=
 ∀(pins:List (Addr×Obj)) (s:t0) (σ:St) (H:Hp) (Q:Bool->Hp->Prop),Inv X pins σ H s->t σ H Q->O0 (j1 X.prog X.w) X.A (isTrue e X.env (Y2 e X.env)) (TP X pins σ Q) X.xe s
def PW (X:Cx) (e:Expr) (t:TT):Prop:=
 ∀(whole:Sem Value) (pins:List (Addr×Obj)) (s:t0) (σ:St) (H:Hp) (Q:Bool->Hp->Prop),Inv X pins σ H s->t σ H Q->O0 (j1 X.prog X.w) X.A (isTrue e X.env whole) (TP X pins σ Q) X.xe s
theorem PW.pt {X:Cx} {e:Expr} {t:TT} (h:PW X e t):PT X e t:=h _
def PA (X:Cx) (es:List Expr) (t:TA):Prop:=
 ∀(pos:Pos) (pins:List (Addr×Obj)) (s:t0) (σ:St) (H:Hp) (Q:List V->Hp->Prop),Inv X pins σ H s->t σ H Q->O0 (j1 X.prog X.w) X.A (spliced (Z3 pos (A1 es X.env))) (AP X pins σ Q) X.xe s
def PS (X:Cx) (st:Stmt) (t:TS):Prop:=
 ∀(pins:List (Addr×Obj)) (s:t0) (σ:St) (H:Hp) (D:Ends),Inv X pins σ H s->t D σ H->O0 (j1 X.prog X.w) X.A (exec st X.env) (SP X pins D) X.xe s
def PSs (X:Cx) (st:List Stmt) (t:TS):Prop:=
 ∀(pins:List (Addr×Obj)) (s:t0) (σ:St) (H:Hp) (D:Ends),Inv X pins σ H s->t D σ H->O0 (j1 X.prog X.w) X.A (execs st X.env) (SP X pins D) X.xe s
theorem thn {α:Type} {t:Sem α} {Q Q':α->t0->Prop} {M:Model} {A:U1} {E:Value->t0->Prop} {s:t0} (h:O0 M A t Q E s) (hQ :∀a s,Q a s->Q' a s):O0 M A t Q' E s:=X2 h hQ λ _ _ x=>x
section
variable {X:Cx}
def tVar (i:Nat):TE:=λ σ H Q=>∃v,σ[i]? = some (some v)/\Q v H
def tC (v:V):TE:=λ _ H Q=>Q v H
theorem pe_var {i:Nat} {x:Str} {pos:Pos} (hN:X.N[i]? = some x) (hv:Vis X.env.scope x) (hd:(x == ("__debug__" : Str))=false:=by decide) (hcd:(x == ("__classdict__" : Str))=false:=by decide):PE X (.Name x pos) (tVar i):=by
 intro f s σ H Q I h;obtain ⟨v,e,h⟩:=h;obtain ⟨m,j,g⟩:=I.loc;obtain ⟨u,r,l⟩:=g i x v hN e hv;have b:EP X f σ Q u s:=⟨v,H,I,r,h⟩
 rcases l with ⟨a,d⟩|⟨a,c,hc,hcell⟩
 ·exact wpAny_Name (wpAny_loadName_local I.ok.kind a j d b) hd
 ·rcases a with a|a
  ·exact wpAny_Name (wpAny_loadName_cell I.ok.kind a hc hcell b) hd
  ·exact wpAny_Name (wpAny_loadName_free I.ok.kind a hc hcell b hcd) hd
theorem pe_int {i j pos}:PE X (.Constant (.int i) j pos) (tC (.int i)):=λ _ _ _ H _ I h=>wpAny_Constant_int ⟨.int i,H,I.tok _,⟨_,rfl⟩,h⟩
theorem pe_bl {b j pos}:PE X (.Constant (.bool b) j pos) (tC (.bl b)):=λ _ _ _ H _ I h=>Constant_bool ⟨.bl b,H,I,rfl,h⟩
theorem pe_non {j pos}:PE X (.Constant .none j pos) (tC .non):=λ _ _ _ H _ I h=>Constant_none ⟨.non,H,I,rfl,h⟩
theorem pe_str {x j pos}:PE X (.Constant (.str x) j pos) (tC (.str x)):=λ _ _ _ H _ I h=>Calls.Constant_str ⟨.str x,H,I.tok _,⟨_,rfl⟩,h⟩
def Gl (X:Cx) (x:Str):Prop:=X.env.kindOf x=some .globalImplicit
theorem z85 {E:Value->t0->Prop} {pins:List (Addr×Obj)} {s:t0} {σ:St} {H:Hp} {x:Str} {u:Value} {pos:Pos} {Q:Value->t0->Prop} (I:Inv X pins σ H s) (hg:Gl X x) (hm:X.mg x=some u) (h:Q u s)
  (hd:(x == ("__debug__" : Str))=false:=by decide):O0 (j1 X.prog X.w) X.A (Y2 (.Name x pos) X.env) Q E s:=
 j2c I.ok.kind hg (Calls.loadGlobal_global (by rw [I.ok.glob];exact I.mod.glob.keeps I.bk) hm h) hd
theorem ld_blt {E:Value->t0->Prop} {pins:List (Addr×Obj)} {s:t0} {σ:St} {H:Hp} {x:Str} {u:Value} {pos:Pos} {Q:Value->t0->Prop} (I:Inv X pins σ H s) (hg:Gl X x) (hm:X.mg x=none) (hv:V6 x=some u) (h:Q u s)
  (hn:x≠"__name__":=by decide) (hd:(x == ("__debug__" : Str))=false:=by decide):O0 (j1 X.prog X.w) X.A (Y2 (.Name x pos) X.env) Q E s:=by
 obtain ⟨c,b,a⟩:=I.mod.blt;exact j2c I.ok.kind hg (Calls.loadGlobal_builtin (by rw [I.ok.glob];exact I.mod.glob.keeps I.bk) hm (by rw [I.ok.blt];exact b.keeps I.bk) ((a x hn).trans hv) h) hd
theorem z0m {x:Str} {v:V} {u:Value} {pos:Pos} (hg:Gl X x) (hm:X.mg x=some u) (r:RelV v u) (hd:(x == ("__debug__" : Str))=false:=by decide):PE X (.Name x pos) (tC v):=
 λ _ _ _ H _ I h=>z85 I hg hm ⟨v,H,I,r,h⟩ hd
theorem z37 {x:Str} {v:V} {u:Value} {pos:Pos} (hg:Gl X x) (hm:X.mg x=none) (hv:V6 x=some u) (r:RelV v u) (hn:x≠"__name__":=by decide) (hd:(x == ("__debug__" : Str))=false:=by decide):PE X (.Name x pos) (tC v):=
 λ _ _ _ H _ I h=>ld_blt I hg hm hv ⟨v,H,I,r,h⟩ hn hd
variable {a b:Expr} {ta tb:TE} {pos:Pos}
def PC (X:Cx) (op:CmpOp) (a b:Expr) (t:TE):Prop:=
 ∀(pins:List (Addr×Obj)) (s:t0) (σ:St) (H:Hp) (Q:VK),Inv X pins σ H s->t σ H Q->
  O0 (j1 X.prog X.w) X.A (Y2 a X.env) (λ v s₁=>O0 (j1 X.prog X.w) X.A (Y2 b X.env) (λ u s₂=>O0 (j1 X.prog X.w) X.A (J2 op v u) (EP X pins σ Q) X.xe s₂) X.xe s₁) X.xe s
def tB (t:TE):TT:=λ σ H Q=>t σ H λ x H1=>∃c,x=.bl c/\Q c H1
theorem pt_cmp {op:CmpOp} {t:TE} (h:PC X op a b t) (h1:V8 op b=false:=by first|exact nobehind _ (by decide) (by decide)|rfl):PT X (.Compare a [op] [b] pos) (tB t):=by intro e s σ H Q I f;refine wpAny_isTrue_Compare1 (thn (h e s σ H _ I f) λ v i h1=>thn h1 λ u j g=>thn g λ c k ⟨x,H1,I1,r1,q1⟩=>?_) h1;obtain ⟨d,rfl,q⟩:=q1;cases r1;exact y4 ⟨H1,I1,q⟩
theorem pt_val {e:Expr} {t:TE} (h:PE X e t) (he :∀whole,isTrue e X.env whole=(do let v <-whole;j43 e.pos;j0j [v] (truthy v)):=by intro _;rfl):PT X e (tB t):=by intro a s σ H Q I b;refine isTrue_plain (thn (h a s σ H _ I b) λ v c ⟨x,H1,I1,r1,q1⟩=>?_) (he _);obtain ⟨d,rfl,q⟩:=q1;cases r1;exact y4 ⟨H1,I1,q⟩
variable {tA tB':TT} {rest:List Expr}
def tAnd (t u:TT):TT:=λ σ H Q=>t σ H λ c H1=>if c=true then u σ H1 Q else Q false H1
def tOr (t u:TT):TT:=λ σ H Q=>t σ H λ c H1=>if c=true then Q true H1 else u σ H1 Q
def tNot (t:TT):TT:=λ σ H Q=>t σ H λ c H1=>Q (!c) H1
theorem zm7 (ha:PT X a tA):PW X (.BoolOp .And [a] pos) tA:=by
 intro d b s σ H Q I h;refine isTrue_and (thn (ha b s σ H Q I h) λ c f e=>?_);cases c with
 | true=>exact isTrue_and_nil e
 | false=>exact e
theorem pw_or1 (ha:PT X a tA):PW X (.BoolOp .Or [a] pos) tA:=by
 intro d b s σ H Q I h;refine isTrue_or (thn (ha b s σ H Q I h) λ c f e=>?_);cases c with
 | false=>exact isTrue_or_nil e
 | true=>exact e
theorem pw_and (ha:PT X a tA) (hb:PW X (.BoolOp .And (b :: rest) pos) tB'):PW X (.BoolOp .And (a :: b :: rest) pos) (tAnd tA tB'):=by
 intro e d s σ H Q I h;refine isTrue_and (thn (ha d s σ H _ I h) λ c f ⟨H1,I1,q1⟩=>?_);cases c with
 | true=>exact hb e d f σ H1 Q I1 q1
 | false=>exact ⟨H1,I1,q1⟩
theorem pw_or (ha:PT X a tA) (hb:PW X (.BoolOp .Or (b :: rest) pos) tB'):PW X (.BoolOp .Or (a :: b :: rest) pos) (tOr tA tB'):=by
 intro e d s σ H Q I h;refine isTrue_or (thn (ha d s σ H _ I h) λ c f ⟨H1,I1,q1⟩=>?_);cases c with
 | true=>exact ⟨H1,I1,q1⟩
 | false=>exact hb e d f σ H1 Q I1 q1
theorem pt_not (ha:PT X a tA):PT X (.UnaryOp .Not a pos) (tNot tA):=by intro b s σ H Q I h;exact isTrue_not (ha b s σ H (λ c d=>Q (!c) d) I h)
def tAndV (ta tb:TE):TE:=λ σ H Q=>ta σ H λ x H1=>∃c,x=.bl c/\if c=true then tb σ H1 Q else Q (.bl false) H1
def tOrV (ta tb:TE):TE:=λ σ H Q=>ta σ H λ x H1=>∃c,x=.bl c/\if c=true then Q (.bl true) H1 else tb σ H1 Q
def tNotV (ta:TE):TE:=λ σ H Q=>ta σ H λ x H1=>∃c,x=.bl c/\Q (.bl (!c)) H1
theorem pe_one {op} {t:TE} (h:PE X a t):PE X (.BoolOp op [a] pos) t:=λ b s σ H Q I c=>BoolOp_one (h b s σ H Q I c)
theorem pe_and (ha:PE X a ta) (hb:PE X (.BoolOp .And (b :: rest) pos) tb):PE X (.BoolOp .And (a :: b :: rest) pos) (tAndV ta tb):=by
 intro e s σ H Q I h;refine BoolOp_and (thn (ha e s σ H _ I h) λ v f ⟨x,H1,I1,r1,d⟩=>?_);obtain ⟨c,rfl,d⟩:=d;cases r1;refine y4 ?_;cases c with
 | true=>exact hb e f σ H1 Q I1 d
 | false=>exact ⟨.bl false,H1,I1,rfl,d⟩
theorem pe_or (ha:PE X a ta) (hb:PE X (.BoolOp .Or (b :: rest) pos) tb):PE X (.BoolOp .Or (a :: b :: rest) pos) (tOrV ta tb):=by
 intro e s σ H Q I h;refine BoolOp_or (thn (ha e s σ H _ I h) λ v f ⟨x,H1,I1,r1,d⟩=>?_);obtain ⟨c,rfl,d⟩:=d;cases r1;refine y4 ?_;cases c with
 | false=>exact hb e f σ H1 Q I1 d
 | true=>exact ⟨.bl true,H1,I1,rfl,d⟩
theorem pe_not (ha:PE X a ta):PE X (.UnaryOp .Not a pos) (tNotV ta):=by intro d s σ H Q I h;refine UnaryOp_ (thn (ha d s σ H _ I h) λ v e ⟨x,H1,I1,r1,b⟩=>?_);obtain ⟨c,rfl,b⟩:=b;cases r1;exact not_of (y4 ⟨.bl (!c),H1,I1,rfl,b⟩)
def tIf (t:TT) (ta tb:TE):TE:=λ σ H Q=>t σ H λ c H1=>if c=true then ta σ H1 Q else tb σ H1 Q
theorem zl6 {c:Expr} (hc:PT X c tA) (ha:PE X a ta) (hb:PE X b tb):PE X (.IfExp c a b pos) (tIf tA ta tb):=by
 intro e s σ H Q I h;refine wpAny_IfExp (thn (hc e s σ H _ I h) λ d f ⟨H1,I1,q1⟩=>?_);cases d with
 | true=>exact ha e f σ H1 Q I1 q1
 | false=>exact hb e f σ H1 Q I1 q1
end
def SqL (K:c0) (H:Hp) (a:Addr) (xs:List V):Prop:=
 Rd H a (.lst xs)\/
  ∃(o:Obj) (its:Array Value) (n:Nat),K.lookup a=some o/\o.cls=.type "list"/\o.dict=none/\o.data=.seq its n/\its.size<=sizeLine/\Vals xs its.toList
def SqT (K:c0) (H:Hp) (a:Addr) (xs:List V):Prop:=
 Rd H a (.tup xs)\/
  ∃(o:Obj) (its:Array Value) (n:Nat),K.lookup a=some o/\o.cls=.type "tuple"/\o.data=.seq its n/\its.size<=sizeLine/\Vals xs its.toList
def absV:Value->Option V
 | .none=>some .non
 | .bool b=>some (.bl b)
 | .int i _=>some (.int i)
 | .str x _=>some (.str x)
 | .bytes b _=>some (.byt b)
 | .float b _=>some (.flt b)
 | .ref a=>some (.ref a)
 | .type n=>some (.ty n)
 | _=>none
theorem RelV.abs {x:V} {u:Value} (r:RelV x u):absV u=some x:=by
 cases x with
 | non=>cases r;rfl
 | bl _=>cases r;rfl
 | int _=>obtain ⟨t,rfl⟩:=r;rfl
 | str _=>obtain ⟨t,rfl⟩:=r;rfl
 | byt _=>obtain ⟨t,rfl⟩:=r;rfl
 | flt _=>obtain ⟨t,rfl⟩:=r;rfl
 | ref _=>cases r;rfl
 | ty _=>cases r;rfl
theorem RelV.inj {x y:V} {u:Value} (r:RelV x u) (q:RelV y u):x=y:=P1 (r.abs.symm.trans q.abs)
theorem Vals.inj :∀{xs ys:List V} {us:List Value},Vals xs us->Vals ys us->xs=ys
 | _,_,_,.nil,.nil=>rfl
 | _,_,_,.cons r t,.cons r' t'=>by rw [r.inj r',Vals.inj t t']
section
variable {X:Cx} {pins:List (Addr×Obj)} {σ:St} {H:Hp} {s:t0} {a:Addr} {xs ys:List V}
theorem SqL.of {K:c0} (h:H a=some (.lst xs)):SqL K H a xs:=.inl (.inl h)
theorem SqT.of {K:c0} (h:H a=some (.tup xs)):SqT K H a xs:=.inl (.inl h)
theorem Inv.list (I:Inv X pins σ H s) (h:SqL X.K H a xs) :∃its:List Value,Vals xs its/\PlainL s.heap a its.toArray/\xs.length<=sizeLine:=by
 rcases h with h|⟨o,its,n,hk,hc,hd,hs,hz,r⟩
 ·obtain ⟨z,its,n,r,e⟩:=h.ok I.hok;exact ⟨its,r,⟨_,n,e,rfl,rfl,rfl⟩,z⟩
 ·refine ⟨its.toList,r,⟨o,n,I.kIn a o hk,hc,hd,by simpa using hs⟩,?_⟩;have e:=r.length;simp only [G2] at e;omega
theorem Inv.tuple (I:Inv X pins σ H s) (h:SqT X.K H a xs) :∃its:List Value,Vals xs its/\IsTup s.heap a its.toArray/\xs.length<=sizeLine:=by
 rcases h with h|⟨o,its,n,hk,hc,hs,hz,r⟩
 ·obtain ⟨z,its,r,p⟩:=h.ok I.hok;exact ⟨its,r,p.1,z⟩
 ·refine ⟨its.toList,r,⟨o,I.kIn a o hk,hc,n,by simpa using hs⟩,?_⟩;have e:=r.length;simp only [G2] at e;omega
theorem Inv.list_inj (I:Inv X pins σ H s) (h:SqL X.K H a xs) (h':SqL X.K H a ys):xs=ys:=by
 obtain ⟨g,r,⟨o,n,e,_,_,d⟩,_⟩:=I.list h;obtain ⟨i,f,⟨j,k,c,_,_,b⟩,_⟩:=I.list h';rw [e] at c;cases c;rw [d] at b;injection b with d1 _;have:g=i:=by simpa using congrArg Array.toList d1
 subst this;exact r.inj f
theorem Inv.tuple_inj (I:Inv X pins σ H s) (h:SqT X.K H a xs) (h':SqT X.K H a ys):xs=ys:=by
 obtain ⟨g,r,⟨o,e,_,n,d⟩,_⟩:=I.tuple h;obtain ⟨i,f,⟨j,c,_,k,b⟩,_⟩:=I.tuple h';rw [e] at c;cases c;rw [d] at b;injection b with d1 _;have:g=i:=by simpa using congrArg Array.toList d1
 subst this;exact r.inj f
end
abbrev Cx.wish (X:Cx) (E:Value->t0->Prop):Cx:={ X with xe:=E }
abbrev Cx.nox (X:Cx):Cx:=X.wish λ _ _=>False
theorem Cx.Ok.wish {X:Cx} (ok:X.Ok) (E:Value->t0->Prop):(X.wish E).Ok:=
 ⟨ok.mod,ok.kind,ok.glob,ok.blt,ok.above,ok.inj,ok.has,ok.cab,ok.hd,ok.frames,ok.stk,ok.exf,ok.bs,ok.bsz,ok.noex,ok.exfs,ok.funs,ok.frf⟩
theorem Cx.Ok.unwish {X:Cx} {E:Value->t0->Prop} (ok:(X.wish E).Ok):X.Ok:=
 ⟨ok.mod,ok.kind,ok.glob,ok.blt,ok.above,ok.inj,ok.has,ok.cab,ok.hd,ok.frames,ok.stk,ok.exf,ok.bs,ok.bsz,ok.noex,ok.exfs,ok.funs,ok.frf⟩
section
variable {X:Cx} {pins:List (Addr×Obj)} {σ:St} {H:Hp} {s:t0} {E:Value->t0->Prop}
theorem Inv.wish (I:Inv X pins σ H s) (E:Value->t0->Prop):Inv (X.wish E) pins σ H s:=⟨I.ok.wish E,I.os,I.bare,I.base,I.loc,I.cell,I.free,I.freeC,I.pin,I.hok,I.len⟩
theorem Inv.unwish (I:Inv (X.wish E) pins σ H s):Inv X pins σ H s:=⟨I.ok.unwish,I.os,I.bare,I.base,I.loc,I.cell,I.free,I.freeC,I.pin,I.hok,I.len⟩
theorem SP.unwish {D:Ends} {f:Flow} {s':t0} (h:SP (X.wish E) pins D f s'):SP X pins D f s':=by
 cases f with
 | next=>obtain ⟨a,b,I,q⟩:=h;exact ⟨a,b,I.unwish,q⟩
 | brk=>obtain ⟨a,b,I,q⟩:=h;exact ⟨a,b,I.unwish,q⟩
 | cont=>obtain ⟨a,b,I,q⟩:=h;exact ⟨a,b,I.unwish,q⟩
 | ret u=>obtain ⟨v,a,b,I,r,q⟩:=h;exact ⟨v,a,b,I.unwish,r,q⟩
theorem PSs.nox {st:List Stmt} {t:TS} (h:PSs X.nox st t):PSs X st t:=λ a s σ H D I b=>X2 (h a s σ H D (I.wish _) b) (λ _ _ q=>q.unwish) λ _ _ z=>B3 z
end
section
variable {X:Cx} {st:Stmt} {rest:List Stmt} {t u:TS} {e:Expr} {te:TE} {pos:Pos}
def tNext:TS:=λ D σ H=>D.nx σ H
def tSeq (t u:TS):TS:=λ D σ H=>t { D with nx:=u D } σ H
theorem z0b:PSs X [] tNext:=λ _ _ σ H _ I h=>Q7 ⟨σ,H,I,h⟩
theorem z02 (h1:PS X st t) (h2:PSs X rest u):PSs X (st :: rest) (tSeq t u):=by
 intro a s σ H D I h;refine wpAny_execs_cons (thn (h1 a s σ H { D with nx:=u D } I h) λ f d q=>?_);cases f with
 | next=>obtain ⟨c,e,b,q⟩:=q;exact h2 a d c e D b q
 | ret v=>exact q
 | brk=>exact q
 | cont=>exact q
theorem z04 (h1:PS X st t):PSs X [st] t:=by
 intro a s σ H D I h;refine wpAny_execs_cons (thn (h1 a s σ H D I h) λ f b q=>?_);cases f with
 | next=>exact Q7 q
 | ret v=>exact q
 | brk=>exact q
 | cont=>exact q
theorem Inv.quiet {pins:List (Addr×Obj)} {σ:St} {H:Hp} {s:t0} (I:Inv X pins σ H s):interactive X.env=false:=by simp [interactive,I.ok.kind]
def tDrop (te:TE):TS:=λ D σ H=>te σ H λ _ H1=>D.nx σ H1
theorem z1a (he:PE X e te) (hs:o7 e none pos.line X.env=d3 false:=by rfl):PS X (.Expr e pos) (tDrop te):=by intro a s σ H D I h;exact wpAny_Expr_any (thn (he a s σ H _ I h) λ v b ⟨x,H1,I1,r1,q1⟩=>⟨σ,H1,I1,q1⟩) I.quiet hs
def tRet (te:TE):TS:=λ D σ H=>te σ H D.rt
theorem ps_ret (he:PE X e te):PS X (.Return (some e) pos) (tRet te):=by intro a s σ H D I h;exact wpAny_Return_some (thn (he a s σ H _ I h) λ v b ⟨x,H1,I1,r1,q1⟩=>⟨x,σ,H1,I1,r1,q1⟩)
def tIfS (c:TT) (t u:TS):TS:=λ D σ H=>c σ H λ b H1=>if b=true then t D σ H1 else u D σ H1
theorem ps_if {c:Expr} {a b:List Stmt} {tc:TT} (hc:PT X c tc) (ha:PSs X a t) (hb:PSs X b u):PS X (.If c a b pos) (tIfS tc t u):=by
 intro e s σ H D I h;refine wpAny_If (thn (hc e s σ H _ I h) λ d f ⟨H1,I1,q1⟩=>?_);cases d with
 | true=>exact ha e f σ H1 D I1 q1
 | false=>exact hb e f σ H1 D I1 q1
def tNever:TS:=λ _ _ _=>False
theorem z0k:PS X st tNever:=λ _ _ _ _ _ _ h=>h.elim
end
abbrev TG:=V->St->Hp->(St->Hp->Prop)->Prop
abbrev TGs:=List V->St->Hp->(St->Hp->Prop)->Prop
def PG (X:Cx) (target:Expr) (t:TG):Prop:=
 ∀(pins:List (Addr×Obj)) (s:t0) (σ:St) (H:Hp) (v:V) (u:Value) (Q:St->Hp->Prop),Inv X pins σ H s->RelV v u->t v σ H Q->
  O0 (j1 X.prog X.w) X.A (assign target X.env u) (λ _ s'=>∃σ' H',Inv X pins σ' H' s'/\Q σ' H') X.xe s
def PGs (X:Cx) (ts:List Expr) (t:TGs):Prop:=
 ∀(pins:List (Addr×Obj)) (s:t0) (σ:St) (H:Hp) (vs:List V) (us:List Value) (Q:St->Hp->Prop),Inv X pins σ H s->Vals vs us->t vs σ H Q->
  O0 (j1 X.prog X.w) X.A (assignInOrder ((O9 ts X.env).map (·.2)) us) (λ _ s'=>∃σ' H',Inv X pins σ' H' s'/\Q σ' H') X.xe s
abbrev TSet:=V->V->V->Hp->(Hp->Prop)->Prop
def PSet (X:Cx) (t:TSet):Prop:=
 ∀(pins:List (Addr×Obj)) (s:t0) (σ:St) (H:Hp) (o i v:V) (ov iv u:Value) (Q:Hp->Prop),Inv X pins σ H s->RelV o ov->RelV i iv->RelV v u->t o i v H Q->
  O0 (j1 X.prog X.w) X.A (setItem ov iv u) (λ _ s'=>∃H',Inv X pins σ H' s'/\Q H') X.xe s
section
variable {X:Cx} {pos:Pos}
def gName (i:Nat):TG:=λ v σ H Q=>Q (σ.set i (some v)) H
theorem z0j {i:Nat} {x:Str} (hN:X.N.Nodup) (hi:X.N[i]? = some x) (hx:Loc X.env.scope x) (hf:X.fn x=true\/X.env.scope.names.lookup x=some .local:=by first|exact .inl rfl|exact .inr rfl|assumption):PG X (.Name x pos) (gName i):=by intro b s σ H v u Q I r h;exact wpAny_assign_Name (zc3 I hN hi hx r (λ c a=>⟨_,H,a,h⟩) hf)
def gNil:TGs:=λ vs σ H Q=>vs=[]/\Q σ H
def gCons (t:TG) (u:TGs):TGs:=λ vs σ H Q=>∃v r,vs=v :: r/\t v σ H λ σ' H'=>u r σ' H' Q
theorem z19:PGs X [] gNil:=by intro a s σ H c b Q I r h;obtain ⟨e,h⟩:=h;subst e;cases r;exact assignInOrder_nil ⟨σ,H,I,h⟩
theorem z0h {e:Expr} {es:List Expr} {t:TG} {u:TGs} (h1:PG X e t) (h2:PGs X es u)
  (hs:(O9 (e :: es) X.env).map (·.2)=assign e X.env :: (O9 es X.env).map (·.2):=by rfl):PGs X (e :: es) (gCons t u):=by
 intro a s σ H g f Q I r h;obtain ⟨v,d,b,h⟩:=h;subst b;cases r with
 | cons r rr=>rw [hs];refine assignInOrder_cons (thn (h1 a s σ H _ _ _ I r h) λ _ c ⟨σ1,H1,I1,q1⟩=>?_);exact h2 a c σ1 H1 _ _ Q I1 rr q1
def gTup (K:c0) (n:Nat) (t:TGs):TG:=λ v σ H Q=>∃a xs,v=.ref a/\SqT K H a xs/\xs.length=n/\t xs σ H Q
theorem pg_tup {es:List Expr} {k:Nat} {t:TGs} {n:Nat} (hc:X.calm=true) (h:PGs X es t)
  (hn:(O9 es X.env).length=n:=by rfl) (hst:(O9 es X.env).findIdx? (·.1)=none:=by rfl):PG X (.Tuple es k pos) (gTup X.K n t):=by
 intro d s σ H v u Q I r c;obtain ⟨a,g,m,j,q,c⟩:=c;subst m;cases r;obtain ⟨y,f,p,x⟩:=I.tuple j;refine assign_Tuple_tuple (I.ok.hd hc) p (by simp [hn,<-q,f.length]) hst λ l w=>?_;have i:Inv X d σ H { s with heap:=l }:=I.kept (t':=s.toks) λ b o e=>w b o (Z0 (M0 e)) e;exact h d _ σ H g _ Q i (by simpa using f) c
def gSub (to ti:TE) (t:TSet):TG:=λ v σ H Q=>to σ H λ o H1=>ti σ H1 λ i H2=>t o i v H2 λ H3=>Q σ H3
theorem pg_sub {o i:Expr} {to ti:TE} {t:TSet} (ho:PE X o to) (hi:PE X i ti) (hs:PSet X t)
  (ha :∀v,assign (.Subscript o i pos) X.env v=(do
   let ov <-j0j [v] (Y2 o X.env)
   let iv <-j0j [v,ov] (Y2 i X.env)
   j43 pos
   j0j [v,ov,iv] (setItem ov iv v)
   release [v,ov,iv] []):=by intro _;rfl):PG X (.Subscript o i pos) (gSub to ti t):=by
 intro a s σ H v u Q I r h;rw [ha];refine j0 (A3 (thn (ho a s σ H _ I h) λ ov b ⟨x,H1,I1,r1,q1⟩=>?_));refine j0 (A3 (thn (hi a b σ H1 _ I1 q1) λ iv c ⟨y,H2,I2,r2,q2⟩=>?_));refine j0 (wpAny_standAt (j0 (A3 (thn (hs a c σ H2 x y v ov iv u _ I2 r1 r2 r q2) λ _ d ⟨H3,I3,q3⟩=>?_))));exact wpAny_release ⟨σ,H3,I3,q3⟩
def tAsg (te:TE) (g:TG):TS:=λ D σ H=>te σ H λ x H1=>g x σ H1 D.nx
theorem ps_asg {tg e:Expr} {te:TE} {g:TG} (he:PE X e te) (hg:PG X tg g) (hs:swapsWithSole [tg] e pos.line X.env=d3 false:=by rfl) (hw:swappedStores [tg] e X.env=d3 none:=by rfl)
  (h1:(O9 [tg] X.env).map (·.2)=[assign tg X.env]:=by rfl):PS X (.Assign [tg] e pos) (tAsg te g):=by
 intro a s σ H D I h;refine wpAny_Assign_stores (thn (he a s σ H _ I h) λ v b ⟨x,H1,I1,r1,q1⟩=>?_) hs hw;rw [h1];exact thn (hg a b σ H1 x v _ I1 r1 q1) λ _ c q=>q
theorem ps_set {i:Nat} {x:Str} {e:Expr} {te:TE} {pos':Pos} (hN:X.N.Nodup) (hi:X.N[i]? = some x) (hx:Loc X.env.scope x) (he:PE X e te) (hs:o7 e (some (.Name x pos')) pos.line X.env=d3 false:=by rfl) (hf:X.fn x=true\/X.env.scope.names.lookup x=some .local:=by first|exact .inl rfl|exact .inr rfl|assumption) :
  PS X (.Assign [.Name x pos'] e pos) (tAsg te (gName i)):=by
 intro a s σ H D I h;refine wpAny_Assign_Name (thn (he a s σ H _ I h) λ v c ⟨y,H1,I1,r1,q1⟩=>?_) hs;exact zc3 I1 hN hi hx r1 (λ d b=>⟨_,H1,b,q1⟩) hf
def tWhile (c:TT) (tb:TS):TS:=λ D σ H=>∃W:Nat->St->Hp->Prop,(∃m,W m σ H)/\∀m σ H,W m σ H->
 c σ H λ b H1=>if b=true then∃N:St->Hp->Prop,(∀σ' H',N σ' H'->∃m',m' < m/\W m' σ' H')/\tb { D with nx:=N,ct:=N,bk:=D.nx } σ H1 else D.nx σ H1
theorem zfx {c:Expr} {body:List Stmt} {tc:TT} {tb:TS} (hp:PassesOwn (j1 X.prog X.w) X.A X.env X.xe) (hc:PT X c tc) (hb:PSs X body tb):PS X (.While c body [] pos) (tWhile tc tb):=by
 intro l s σ H D I h;obtain ⟨W,⟨q,r⟩,t⟩:=h;refine wpAny_While (codeAny_whileLoop (λ n u=>∃σ' H',Inv X l σ' H' u/\W n σ' H') ?_ q ⟨σ,H,I,r⟩);rintro n x ⟨σ1,H1,I1,w1⟩;refine K5 hp (thn (hc l x σ1 H1 _ I1 (t n σ1 H1 w1)) λ b y ⟨H2,I2,e⟩=>?_);cases b with
 | true=>
  obtain ⟨N,p,e⟩:=e;rw [if_pos rfl];refine K5 hp (thn (hb l y σ1 H2 _ I2 e) λ f z g=>?_);cases f with
  | next=>obtain ⟨a,d,k,m⟩:=g;obtain ⟨j,i,o⟩:=p a d m;exact ⟨j,i,a,d,k,o⟩
  | cont=>obtain ⟨a,d,k,m⟩:=g;obtain ⟨j,i,o⟩:=p a d m;exact ⟨j,i,a,d,k,o⟩
  | brk=>exact g
  | ret v=>exact g
 | false=>rw [if_neg S0];exact Q7 ⟨σ1,H2,I2,e⟩
end
structure It where
 go:Nat->Hp->Prop
 yld:Nat->Hp->V->Hp->Prop
 stop:Nat->Hp->Prop
def FpOk (X:Cx) (pins:List (Addr×Obj)) (H:Hp) (b:Addr):Prop:=
 H b=none/\b≠X.env.locals/\b∉X.fs/\(b∈X.ex\/X.s₀.heap.objs.size<=b)/\(∀x c,X.env.cells.lookup x=some c->c≠b)/\∀p∈X.pn++pins,p.1≠b
theorem Inv.fpOk {X:Cx} {pins:List (Addr×Obj)} {σ:St} {H H':Hp} {s:t0} {b:Addr} (I:Inv X pins σ H s) (hb:s.heap.objs.size<=b) (hn:H' b=none):FpOk X pins H' b:=by
 refine ⟨hn,i4 (G1 I.lt hb),I.nofs hb,.inr (F0 I.sz hb),λ x c e z=>?_,λ p a z=>?_⟩
 ·obtain ⟨v,q⟩:=I.cell x c e;exact absurd (G1 q.lt (by rw [z];exact hb)) (j4 _)
 ·exact absurd (G1 (M0 (I.pin p a).1) (by rw [z];exact hb)) (j4 _)
structure Turn (P:Program) (w:V0) (K:c0) (tg:Expr) (J:It) (fp:List Addr) (it:Addr) (tn:Nat->Heap->Prop):Prop where
 mem:it∈fp
 obj :∀i h,tn i h->∀b∈fp,∃o,h.get? b=some o/\∀v,o.data≠.cell v
 keep :∀i h h',tn i h->(∀b∈fp,∀o,h.get? b=some o->h'.get? b=some o)->tn i h'
 item :∀(X:Cx),X.prog=P->X.w=w->X.K=K->X.calm=true->∀(i:Nat) (pins:List (Addr×Obj)) (s:t0) (σ:St) (H:Hp) (E:Value->t0->Prop),Inv X pins σ H s->(∀b∈fp,FpOk X pins H b)->tn i s.heap->J.go i H->
  O0 (j1 P w) X.A (n8 (.ref it)) (λ r s1=>∃u,r=some u/\
   O0 (j1 P w) X.A (X9 tg (.ref it) u) (λ _ s2=>∃x H',Inv X pins σ H' s2/\RelV x u/\J.yld i H x H'/\tn (i + 1) s2.heap/\∀b∈fp,H' b=none) E s1) E s
 done :∀(X:Cx),X.prog=P->X.w=w->X.K=K->X.calm=true->∀(i:Nat) (pins:List (Addr×Obj)) (s:t0) (σ:St) (H:Hp) (E:Value->t0->Prop),Inv X pins σ H s->(∀b∈fp,FpOk X pins H b)->tn i s.heap->J.stop i H->
  O0 (j1 P w) X.A (n8 (.ref it)) (λ r s1=>r=none/\Inv X pins σ H s1) E s
 self :∀(A:U1) (i:Nat) (s:t0) (Q:Value->t0->Prop) (E:Value->t0->Prop),tn i s.heap->Q (.ref it) s->O0 (j1 P w) A (pyIter (.ref it)) Q E s
abbrev TI:=St->Hp->(It->Hp->Prop)->Prop
def PIE (X:Cx) (pins:List (Addr×Obj)) (σ:St) (tg:Expr) (R:It->Hp->Prop) (itv:Value) (s2:t0):Prop:=
 ∃(it:Addr) (fp:List Addr) (tn:Nat->Heap->Prop) (J:It) (H':Hp),itv=.ref it/\Inv X pins σ H' s2/\Turn X.prog X.w X.K tg J fp it tn/\tn 0 s2.heap/\(∀b∈fp,FpOk X pins H' b)/\R J H'
def PI (X:Cx) (tg iter:Expr) (wi:TI):Prop:=
 ∀(pins:List (Addr×Obj)) (s:t0) (σ:St) (H:Hp) (R:It->Hp->Prop),Inv X pins σ H s->wi σ H R->
  O0 (j1 X.prog X.w) X.A (Y2 iter X.env) (λ v s1=>O0 (j1 X.prog X.w) X.A (pyIter v) (PIE X pins σ tg R) X.xe s1) X.xe s
theorem go_of {M:Model} {A:U1} {E:Value->t0->Prop} {s:t0} {tg:Expr} {it:Addr} {u:Value} {o:Obj} {n:String} {vs:Array Value} {Q:Unit->t0->Prop} (ho:s.heap.get? it=some o) (hc:o.cls=.type n) (hd:o.data=.fields vs)
    (hn:["enumerate","zip","dict_itemiterator","dict_reverseitemiterator","odict_iterator","itertools.zip_longest","itertools.pairwise"].contains n=false) (hQ:Q () s):O0 M A (X9 tg (.ref it) u) Q E s:=by
  unfold X9;cases tg<;>first
    | exact D0 hQ
    | (cases u<;>first
        | exact D0 hQ
        | (refine j0 (wpAny_load ho ?_)
           rw [hc,hd];show O0 M A (if (["enumerate","zip","dict_itemiterator","dict_reverseitemiterator","odict_iterator","itertools.zip_longest","itertools.pairwise"].contains n && vs[0]? == some (M9 _))=true then _ else _) Q E s;rw [if_neg (by intro h;rw [hn,P7] at h;cases h)];exact D0 hQ))
def Itl (K:c0) (a:Addr):It:=
 ⟨λ i H=>∃xs x,SqL K H a xs/\xs[i]? = some x,λ i H x H'=>H'=H/\∀xs,SqL K H a xs->xs[i]? = some x,λ i H=>∃xs,SqL K H a xs/\xs.length<=i⟩
def Itt (K:c0) (a:Addr):It:=
 ⟨λ i H=>∃xs x,SqT K H a xs/\xs[i]? = some x,λ i H x H'=>H'=H/\∀xs,SqT K H a xs->xs[i]? = some x,λ i H=>∃xs,SqT K H a xs/\xs.length<=i⟩
def Itr (lo:Int) (n:Nat):It:=⟨λ i _=>i < n,λ i H x H'=>H'=H/\x=.int (lo + i),λ i _=>n<=i⟩
theorem ziw {P:Program} {w:V0} {K:c0} {tg:Expr} (a it:Addr):Turn P w K tg (Itl K a) [it] it (λ i h=>h.IsListIter it a i) where
 mem:=by simp
 obj:=λ i h f b g=>by
  have e:b=it:=by simpa using g
  subst e;obtain ⟨o,e,c,d⟩:=f;exact ⟨o,e,λ v z=>by rw [d] at z;cases z⟩
 keep:=λ i h l f k=>f.at λ o e=>k it (by simp) o e
 item:=by intro X n C B J i L s σ H E I m f r;subst n C B;obtain ⟨O,x,j,G⟩:=r;obtain ⟨V,F,p,S⟩:=I.list j;obtain ⟨u,T,Y⟩:=F.get G;obtain ⟨D,y,Q,q,t,A⟩:=m it (by simp);refine wpAny_pyNext_list_item f p.isList (x:=u) (by simpa using T) λ l M W=>?_;have R:Inv X L σ H { s with heap:=l }:=I.turned (t':=s.toks) (λ b o g e=>(W.2 b g).trans e) D y q t A;obtain ⟨o,e,c,d⟩:=id M;exact ⟨u,rfl,go_of (s:={ s with heap:=l }) e c d (by decide) ⟨x,H,R,Y,⟨rfl,λ Z U=>by rw [I.list_inj U j];exact G⟩,M,λ b g=>(m b g).1⟩⟩
 done:=by intro X n C B J i L s σ H E I m f r;subst n C B;obtain ⟨O,j,G⟩:=r;obtain ⟨V,F,p,S⟩:=I.list j;obtain ⟨D,y,Q,q,t,A⟩:=m it (by simp);have hl:=F.length;exact wpAny_pyNext_list_end (I.ok.hd J) f p.isList (by simp;omega) λ l N=>⟨rfl,I.turned (t':=s.toks) (λ b o g e=>N b o g e) D y q t A⟩
 self:=λ _ _ _ _ _ f h=>wpAny_pyIter_listiter f h
theorem zgl {P:Program} {w:V0} {K:c0} {tg:Expr} (a it:Addr):Turn P w K tg (Itt K a) [it] it (λ i h=>h.IsTupleIter it a i) where
 mem:=by simp
 obj:=λ i h f b g=>by
  have e:b=it:=by simpa using g
  subst e;obtain ⟨o,e,c,d⟩:=f;exact ⟨o,e,λ v z=>by rw [d] at z;cases z⟩
 keep:=λ i h l f k=>f.at λ o e=>k it (by simp) o e
 item:=by intro X n C B L i M s σ H E I m f r;subst n C B;obtain ⟨Q,x,j,J⟩:=r;obtain ⟨F,G,p,T⟩:=I.tuple j;obtain ⟨u,U,Y⟩:=G.get J;obtain ⟨D,y,R,q,t,A⟩:=m it (by simp);refine wpAny_pyNext_tuple_item f (show s.heap.IsTuple a F.toArray from p) (x:=u) (by simpa using U) λ l N W=>?_;have S:Inv X M σ H { s with heap:=l }:=I.turned (t':=s.toks) (λ b o g e=>(W.2 b g).trans e) D y q t A;obtain ⟨o,e,c,d⟩:=id N;exact ⟨u,rfl,go_of (s:={ s with heap:=l }) e c d (by decide) ⟨x,H,S,Y,⟨rfl,λ Z V=>by rw [I.tuple_inj V j];exact J⟩,N,λ b g=>(m b g).1⟩⟩
 done:=by intro X n C B L i M s σ H E I m f r;subst n C B;obtain ⟨Q,j,J⟩:=r;obtain ⟨F,G,p,T⟩:=I.tuple j;obtain ⟨D,y,R,q,t,A⟩:=m it (by simp);have hl:=G.length;exact wpAny_pyNext_tuple_end (I.ok.hd L) f (show s.heap.IsTuple a F.toArray from p) (by simp;omega) λ l O=>⟨rfl,I.turned (t':=s.toks) (λ b o g e=>O b o g e) D y q t A⟩
 self:=λ _ _ _ _ _ f h=>wpAny_pyIter_tupleiter f h
theorem zgn {P:Program} {w:V0} {K:c0} {tg:Expr} (it:Addr) (lo:Int) (n:Nat):Turn P w K tg (Itr lo n) [it] it (λ i h=>IsRangeIter h it (lo + (i:Nat) * 1) ((n:Int) - (i:Nat)) 1) where
 mem:=by simp
 obj:=λ i h a b c=>by
  have e:b=it:=by simpa using c
  subst e;exact ⟨_,a,λ v z=>by have M:j22 _=V9 v:=z;cases M⟩
 keep:=λ i h d a k=>k it (by simp) _ a
 item:=by intro X g x u l i A s σ H E I f a m;subst g x u;obtain ⟨y,q,F,j,p,r⟩:=f it (by simp);have W:=Walks.range (prog:=X.prog) (w:=X.w) (I.ok.hd l) it lo 1 n;refine W.item i s _ _ m a λ v d B L C J=>?_;obtain ⟨t,rfl⟩:=L;have G:Inv X A σ H { s with heap:=d,toks:=B }:=I.turned (λ b o c e=>J b o (by simpa using c) e) y q j p r;refine ⟨_,rfl,go_of (s:={ s with heap:=d,toks:=B }) (n:="range_iterator") C rfl rfl (by decide) ⟨.int (lo + i),H,G,⟨t,?_⟩,⟨rfl,rfl⟩,C,λ b c=>(f b c).1⟩⟩;rw [Int.mul_one]
 done:=by intro X g x u l i A s σ H E I f a m;subst g x u;obtain ⟨y,q,F,j,p,r⟩:=f it (by simp);exact wpAny_pyNext_range_end (I.ok.hd l) a (by have:n<=i:=m;omega) λ d D=>⟨rfl,I.turned (t':=s.toks) (λ b o c e=>D b o c e) y q j p r⟩
 self:=λ _ _ _ _ _ a h=>wpAny_pyIter_rangeiter a h
section
variable {X:Cx} {tg:Expr}
def iList (K:c0) (tl:TE):TI:=λ σ H R=>tl σ H λ x H1=>∃a,x=.ref a/\(∃xs,SqL K H1 a xs)/\R (Itl K a) H1
def iTup (K:c0) (tl:TE):TI:=λ σ H R=>tl σ H λ x H1=>∃a,x=.ref a/\(∃xs,SqT K H1 a xs)/\R (Itt K a) H1
theorem z22 {l:Expr} {tl:TE} (hl:PE X l tl):PI X tg l (iList X.K tl):=by
 intro f s σ H R I h;refine thn (hl f s σ H _ I h) λ v c ⟨x,H1,I1,r1,q1⟩=>?_;obtain ⟨a,e,⟨i,g⟩,q⟩:=q1;subst e;cases r1;obtain ⟨k,m,p,j⟩:=I1.list g;refine S6 p.isList ?_;refine ⟨c.heap.objs.size,[c.heap.objs.size],_,_,H1,rfl,I1.kept (t':=c.toks) λ b o e=>C0 _ e,ziw a _,⟨_,P0 _ rfl,rfl,rfl⟩,λ b d=>?_,q⟩;have e:b=c.heap.objs.size:=by simpa using d
 subst e;exact I1.fpOk (B0 _) (I1.hok.fresh (B0 _))
theorem pi_tup {l:Expr} {tl:TE} (hl:PE X l tl):PI X tg l (iTup X.K tl):=by
 intro f s σ H R I h;refine thn (hl f s σ H _ I h) λ v c ⟨x,H1,I1,r1,q1⟩=>?_;obtain ⟨a,e,⟨j,g⟩,q⟩:=q1;subst e;cases r1;obtain ⟨i,m,p,k⟩:=I1.tuple g;refine E4 (show c.heap.IsTuple a i.toArray from p) ?_;refine ⟨c.heap.objs.size,[c.heap.objs.size],_,_,H1,rfl,I1.kept (t':=c.toks) λ b o e=>C0 _ e,zgl a _,⟨_,P0 _ rfl,rfl,rfl⟩,λ b d=>?_,q⟩;have e:b=c.heap.objs.size:=by simpa using d
 subst e;exact I1.fpOk (B0 _) (I1.hok.fresh (B0 _))
theorem zlf {pins:List (Addr×Obj)} {σ:St} {H:Hp} {s:t0} {R:It->Hp->Prop} {E:Value->t0->Prop} {lo hi:Int} {t u v:Tok} {tk:Nat} (I:Inv X pins σ H s) (h1:-(2 ^ 62)<=lo) (h2:lo < 2 ^ 62) (h3:-(2 ^ 62)<=hi) (h4:hi < 2 ^ 62)
  (q:R (Itr lo (hi - lo).toNat) H):O0 (j1 X.prog X.w) X.A (pyIter (.ref s.heap.objs.size)) (PIE X pins σ tg R) E { s with heap:=s.heap.push { cls:=.type "range",data:=.fields #[.int lo t,.int hi u,.int 1 v] },toks:=tk }:=by
 refine wpAny_pyIter_range (IsRange.new ..) (small_one h1 h2 h3 h4) ?_;have a:Inv X pins σ H { s with heap:=s.heap.push { cls:=.type "range",data:=.fields #[.int lo t,.int hi u,.int 1 v] },toks:=tk }:=I.kept λ b o e=>C0 _ e;refine ⟨(s.heap.push { cls:=.type "range",data:=.fields #[.int lo t,.int hi u,.int 1 v] }).objs.size,[(s.heap.push { cls:=.type "range",data:=.fields #[.int lo t,.int hi u,.int 1 v] }).objs.size],_,_,H,rfl,
  a.kept (t':=tk) λ b o e=>C0 _ e,zgn _ lo (hi - lo).toNat,?_,λ b f=>?_,q⟩
 ·have c:lo + ((0:Nat):Int) * 1=lo:=by simp
  have d:(((hi - lo).toNat:Nat):Int) - ((0:Nat):Int)=Builtin.Range.rangeSize lo hi 1:=by rw [rangeSize_one];split<;>omega
  show IsRangeIter _ _ (lo + ((0:Nat):Int) * 1) ((((hi - lo).toNat:Nat):Int) - ((0:Nat):Int)) 1;rw [c,d];exact P0 _ rfl
 ·have e:b=(s.heap.push { cls:=.type "range",data:=.fields #[.int lo t,.int hi u,.int 1 v] }).objs.size:=by simpa using f
  subst e;exact a.fpOk (B0 _) (a.hok.fresh (B0 _))
def iRng1 (ta:TA):TI:=λ σ H R=>ta σ H λ vs H1=>∃j:Int,vs=[.int j]/\-(2 ^ 62)<=j/\j < 2 ^ 62/\R (Itr 0 j.toNat) H1
theorem z6a {a:Expr} {ta:TA} {p pos:Pos} (hg:Gl X "range") (hm:X.mg "range" = none) (ha:PA X [a] ta) (hs:A1 [a] X.env=[(false,Y2 a X.env)]:=by rfl):PI X tg (.Call (.Name "range" p) [a] [] pos) (iRng1 ta):=by
 intro c s σ H R I h;refine Call_ (ld_blt I hg hm boot_range (E3 (thn (ha pos c s σ H _ I h) λ f g ⟨vs,H1,I1,r1,b⟩=>?_) hs rfl));obtain ⟨j,e,b,d,q⟩:=b;subst e;cases r1 with
 | cons r rr=>cases rr;obtain ⟨t,rfl⟩:=r;exact call_range_1 (zlf I1 (by omega) (by omega) b d (by simpa using q))
def tFor (wi:TI) (g:TG) (tb:TS):TS:=λ D σ H=>wi σ H λ J H1=>∃W:Nat->Nat->St->Hp->Prop,(∃m,W 0 m σ H1)/\∀i m σ H,W i m σ H->
 (J.stop i H/\D.nx σ H)\/(J.go i H/\∃N:St->Hp->Prop,(∀σ' H',N σ' H'->∃m',m' < m/\W (i + 1) m' σ' H')/\∀x H',J.yld i H x H'->g x σ H' λ σ2 H2=>tb { D with nx:=N,ct:=N,bk:=D.nx } σ2 H2)
def pinsAt (fp:List Addr) (h:Heap):List (Addr×Obj):=fp.filterMap λ b=>(h.get? b).map λ o=>(b,o)
theorem z4r {fp:List Addr} {h:Heap} {b:Addr} {o:Obj} (hb:b∈fp) (e:h.get? b=some o):(b,o)∈pinsAt fp h:=List.mem_filterMap.mpr ⟨b,hb,by rw [e];rfl⟩
theorem zcm {fp:List Addr} {h:Heap} {p:Addr×Obj} (hp:p∈pinsAt fp h):p.1∈fp/\h.get? p.1=some p.2:=by
 obtain ⟨b,a,e⟩:=List.mem_filterMap.mp hp;cases q:h.get? b with
 | none=>rw [q] at e;cases e
 | some o=>rw [q] at e;have c:(b,o)=p:=P1 e;subst c;exact ⟨a,q⟩
theorem Inv.pinned {pins:List (Addr×Obj)} {σ:St} {H:Hp} {s:t0} {fp:List Addr} (I:Inv X pins σ H s) (hf :∀b∈fp,FpOk X pins H b) (ho :∀b∈fp,∃o,s.heap.get? b=some o/\∀v,o.data≠.cell v):Inv X (pins++pinsAt fp s.heap) σ H s:=
 I.pins_of λ p i=>(List.mem_append.mp i).elim (λ z=>I.pin p (O1 _ z)) λ z=>by obtain ⟨a,e⟩:=zcm z;obtain ⟨h,g,f,_⟩:=hf p.1 a;obtain ⟨o,c,d⟩:=ho p.1 a;rw [e] at c;cases c;exact ⟨e,h,g,f,d⟩
theorem Inv.unpinned {pins pl:List (Addr×Obj)} {σ:St} {H:Hp} {s:t0} (I:Inv X (pins++pl) σ H s):Inv X pins σ H s:=I.pins_of λ p a=>I.pin p (O1 _ (O5 _ a))
theorem ps_for {iter:Expr} {body:List Stmt} {wi:TI} {g:TG} {tb:TS} {pos:Pos} (hp:PassesOwn (j1 X.prog X.w) X.A X.env X.xe) (hc:X.calm=true) (hi:PI X tg iter wi) (hg:PG X tg g) (hb:PSs X body tb)
  (hs :∀x,L4 iter X.env x=d3 x:=by intro _;rfl):PS X (.For tg iter body [] pos) (tFor wi g tb):=by
 intro l s σ H D I h;refine wpAny_For (thn (hi l s σ H _ I h) λ v s1 h1=>thn h1 λ a3 s2 Q=>?_) hs;obtain ⟨it,p,G,J,V,e,O,T,a1,C,W,⟨P,S⟩,a0⟩:=Q;subst e
 -- what stays true of the iterator's objects through the loop
 have y :∀{H':Hp},(∀b∈p,H' b=none)->∀b∈p,FpOk X l H' b:=λ hn b hb=>⟨hn b hb,(C b hb).2⟩
 refine codeAny_forLoop_any (λ n F=>∃i σ' H',Inv X l σ' H' F/\G i F.heap/\(∀b∈p,H' b=none)/\W i n σ' H') ?_ P ⟨0,σ,V,O,a1,λ b hb=>(C b hb).1,S⟩;rintro n z ⟨i,σ3,H3,I3,st3,fr3,w3⟩;rcases a0 i n σ3 H3 w3 with ⟨a2,L⟩|⟨go,N,hN,step⟩
 ·refine K5 hp (thn (T.done X rfl rfl rfl hc i l z σ3 H3 X.xe I3 (y fr3) st3 a2) λ r s4 ⟨hr,I4⟩=>?_);subst hr;exact Q7 ⟨σ3,H3,I4,L⟩
 ·refine K5 hp (thn (T.item X rfl rfl rfl hc i l z σ3 H3 X.xe I3 (y fr3) st3 go) λ r s4 ⟨u,hr,h4⟩=>?_);subst hr;refine K5 hp (thn h4 λ _ B ⟨x,H5,I5,r5,y5,st5,fr5⟩=>?_);have Z:=I5.pinned (y fr5) (T.obj _ _ st5);refine K5 hp (thn (hg _ B σ3 H5 x u _ Z r5 (step x H5 y5)) λ _ Y ⟨σ6,H6,I6,q6⟩=>?_);refine K5 hp (thn (hb _ Y σ6 H6 _ I6 q6) λ f t k=>?_);have E :∀{a:St} {j:Hp},Inv X (l++pinsAt p B.heap) a j t->N a j->∃m,m < n/\∃i σ' H',Inv X l σ' H' t/\G i t.heap/\(∀b∈p,H' b=none)/\W i m σ' H':=λ {a j} c q=>by obtain ⟨M,K,R⟩:=hN a j q;refine ⟨M,K,i + 1,a,j,c.unpinned,T.keep _ _ _ st5 λ b hb o e=>(c.pin (b,o) (O1 _ (O1 _ (z4r hb e)))).1,λ b hb=>?_,R⟩;obtain ⟨o,e,d⟩:=T.obj _ _ st5 b hb;exact (c.pin (b,o) (O1 _ (O1 _ (z4r hb e)))).2.1
  cases f with
  | next=>obtain ⟨a,j,c,q⟩:=k;exact E c q
  | cont=>obtain ⟨a,j,c,q⟩:=k;exact E c q
  | brk=>obtain ⟨a,j,c,k⟩:=k;exact ⟨a,j,c.unpinned,k⟩
  | ret v=>obtain ⟨x7,a,j,c,U,k⟩:=k;exact ⟨x7,a,j,c.unpinned,U,k⟩
end
theorem z2o {K:c0} {a:Addr} {xs:List V} {g:TG} {tb:TS} {D:Ends} {σ:St} {H:Hp} (Pv:Nat->St->Hp->Prop) (h0:Pv 0 σ H) (hl :∀i σ H,i<=xs.length->Pv i σ H->SqL K H a xs)
  (hs :∀i x σ H,xs[i]? = some x->Pv i σ H->g x σ H λ σ2 H2=>tb { D with nx:=Pv (i + 1),ct:=Pv (i + 1),bk:=D.nx } σ2 H2) (hd :∀σ H,Pv xs.length σ H->D.nx σ H) :
  ∃W:Nat->Nat->St->Hp->Prop,(∃m,W 0 m σ H)/\∀i m σ H,W i m σ H->
   ((Itl K a).stop i H/\D.nx σ H)\/((Itl K a).go i H/\∃N:St->Hp->Prop,(∀σ' H',N σ' H'->∃m',m' < m/\W (i + 1) m' σ' H')/\∀x H',(Itl K a).yld i H x H'->g x σ H' λ σ2 H2=>tb { D with nx:=N,ct:=N,bk:=D.nx } σ2 H2):=by
 refine ⟨λ i m σ H=>m=xs.length - i/\i<=xs.length/\Pv i σ H,⟨xs.length,by simp,R1 _,h0⟩,?_⟩;rintro i m σ H ⟨rfl,hi,p⟩;have q:=hl i σ H hi p;by_cases hlt:i < xs.length
 ·refine .inr ⟨⟨xs,xs[i],q,by simp [hlt]⟩,Pv (i + 1),λ σ' H' b=>⟨xs.length - (i + 1),by omega,rfl,hlt,b⟩,λ x H' y=>?_⟩;obtain ⟨e,y⟩:=y;subst e;exact hs i x σ _ (y xs q) p
 ·have e:i=xs.length:=by omega
  subst e;exact .inl ⟨⟨xs,q,B0 _⟩,hd σ H p⟩
theorem z69 {lo:Int} {n:Nat} {g:TG} {tb:TS} {D:Ends} {σ:St} {H:Hp} (Pv:Nat->St->Hp->Prop) (h0:Pv 0 σ H)
  (hs :∀i σ H,i < n->Pv i σ H->g (.int (lo + i)) σ H λ σ2 H2=>tb { D with nx:=Pv (i + 1),ct:=Pv (i + 1),bk:=D.nx } σ2 H2) (hd :∀σ H,Pv n σ H->D.nx σ H) :
  ∃W:Nat->Nat->St->Hp->Prop,(∃m,W 0 m σ H)/\∀i m σ H,W i m σ H->
   ((Itr lo n).stop i H/\D.nx σ H)\/((Itr lo n).go i H/\∃N:St->Hp->Prop,(∀σ' H',N σ' H'->∃m',m' < m/\W (i + 1) m' σ' H')/\∀x H',(Itr lo n).yld i H x H'->g x σ H' λ σ2 H2=>tb { D with nx:=N,ct:=N,bk:=D.nx } σ2 H2):=by
 refine ⟨λ i m σ H=>m=n - i/\i<=n/\Pv i σ H,⟨n,by simp,R1 _,h0⟩,?_⟩;rintro i m σ H ⟨rfl,hi,p⟩;by_cases hlt:i < n
 ·refine .inr ⟨hlt,Pv (i + 1),λ σ' H' a=>⟨n - (i + 1),by omega,rfl,hlt,a⟩,λ x H' y=>?_⟩;obtain ⟨e,y⟩:=y;subst e y;exact hs i σ _ hlt p
 ·have e:i=n:=by omega
  subst e;exact .inl ⟨B0 _,hd σ H p⟩
abbrev R2:=V->V->Hp->VK->Prop
def OpR (X:Cx) (f:Value->Value->Sem Value) (r:R2):Prop:=
 ∀(pins:List (Addr×Obj)) (s:t0) (σ:St) (H:Hp) (x y:V) (v u:Value) (Q:VK),Inv X pins σ H s->RelV x v->RelV y u->r x y H Q->
  O0 (j1 X.prog X.w) X.A (f v u) (EP X pins σ Q) X.xe s
def UnR (X:Cx) (f:Value->Sem Value) (r:V->Hp->VK->Prop):Prop:=
 ∀(pins:List (Addr×Obj)) (s:t0) (σ:St) (H:Hp) (x:V) (v:Value) (Q:VK),Inv X pins σ H s->RelV x v->r x H Q->
  O0 (j1 X.prog X.w) X.A (f v) (EP X pins σ Q) X.xe s
def CallR (X:Cx) (f:Value) (r:List V->Hp->VK->Prop):Prop:=
 ∀(pins:List (Addr×Obj)) (s:t0) (σ:St) (H:Hp) (xs:List V) (us:List Value) (Q:VK),Inv X pins σ H s->Vals xs us->r xs H Q->
  O0 (j1 X.prog X.w) X.A (call f us) (EP X pins σ Q) X.xe s
def tOp (r:R2) (ta tb:TE):TE:=λ σ H Q=>ta σ H λ x H1=>tb σ H1 λ y H2=>r x y H2 Q
def tUn (r:V->Hp->VK->Prop) (ta:TE):TE:=λ σ H Q=>ta σ H λ x H1=>r x H1 Q
def rI (C:Int->Int->Prop) (g:Int->Int->V):R2:=λ x y H Q=>∃i j,x=.int i/\y=.int j/\C i j/\Q (g i j) H
def rI0 (g:Int->Int->V):R2:=λ x y H Q=>∃i j,x=.int i/\y=.int j/\Q (g i j) H
def rU (g:Int->V):V->Hp->VK->Prop:=λ x H Q=>∃i,x=.int i/\Q (g i) H
section
variable {X:Cx} {a b c:Expr} {ta tb tc:TE} {pos:Pos}
theorem binT (ha:PE X a ta) (hb:PE X b tb) {pins:List (Addr×Obj)} {s:t0} {σ:St} {H:Hp} {R:V->V->Hp->Prop} (I:Inv X pins σ H s)
  (h:ta σ H λ x H1=>tb σ H1 λ y H2=>R x y H2) {Q:Value->t0->Prop} {f:Value->Value->Sem Value}
  (hf :∀v u s2 x y H2,Inv X pins σ H2 s2->RelV x v->RelV y u->R x y H2->O0 (j1 X.prog X.w) X.A (f v u) Q X.xe s2) :
  O0 (j1 X.prog X.w) X.A (Y2 a X.env) (λ v s₁=>O0 (j1 X.prog X.w) X.A (Y2 b X.env) (λ u s₂=>O0 (j1 X.prog X.w) X.A (f v u) Q X.xe s₂) X.xe s₁) X.xe s:=by
 refine thn (ha pins s σ H _ I h) λ v c ⟨x,H1,I1,r1,q1⟩=>?_;refine thn (hb pins c σ H1 _ I1 q1) λ u s2 ⟨y,H2,I2,r2,q2⟩=>?_;exact hf v u s2 x y H2 I2 r1 r2 q2
theorem pe_op {op:Operator} {r:R2} (ho:OpR X (M4 op) r) (ha:PE X a ta) (hb:PE X b tb):PE X (.BinOp a op b pos) (tOp r ta tb):=by intro d s σ H Q I h;exact wpAny_BinOp (binT ha hb I h λ v u g x y i e c f q=>ho d g σ i x y v u Q e c f q)
theorem pe_un {op:UnaryOp} {r:V->Hp->VK->Prop} (ho:UnR X (unaryOp op) r) (ha:PE X a ta):PE X (.UnaryOp op a pos) (tUn r ta):=by intro b s σ H Q I h;exact UnaryOp_ (thn (ha b s σ H _ I h) λ v c ⟨x,H1,I1,r1,q1⟩=>ho b c σ H1 x v Q I1 r1 q1)
theorem opI {f:Value->Value->Sem Value} {C:Int->Int->Prop} {g:Int->Int->Int}
  (rule :∀(i j:Int) (t u:Tok) (s:t0) (Q:Value->t0->Prop) (E:Value->t0->Prop),C i j->Q (.int (g i j) s.toks) { s with toks:=s.toks + 1 }->O0 (j1 X.prog X.w) X.A (f (.int i t) (.int j u)) Q E s) :
  OpR X f (rI C λ i j=>.int (g i j)):=by
 intro e s σ H x y v u Q I b c h;obtain ⟨i,j,rfl,rfl,d,q⟩:=h;obtain ⟨t,rfl⟩:=b;obtain ⟨a,rfl⟩:=c;exact rule i j t a s _ _ d ⟨.int (g i j),H,I.tok _,⟨_,rfl⟩,q⟩
theorem opI0 {f:Value->Value->Sem Value} {g:Int->Int->Int}
  (rule :∀(i j:Int) (t u:Tok) (s:t0) (Q:Value->t0->Prop) (E:Value->t0->Prop),Q (.int (g i j) s.toks) { s with toks:=s.toks + 1 }->O0 (j1 X.prog X.w) X.A (f (.int i t) (.int j u)) Q E s) :
  OpR X f (rI0 λ i j=>.int (g i j)):=by
 intro d s σ H x y v u Q I b c h;obtain ⟨i,j,rfl,rfl,q⟩:=h;obtain ⟨t,rfl⟩:=b;obtain ⟨a,rfl⟩:=c;exact rule i j t a s _ _ ⟨.int (g i j),H,I.tok _,⟨_,rfl⟩,q⟩
theorem opB0 {f:Value->Value->Sem Value} {g:Int->Int->Bool}
  (rule :∀(i j:Int) (t u:Tok) (s:t0) (Q:Value->t0->Prop) (E:Value->t0->Prop),Q (.bool (g i j)) s->O0 (j1 X.prog X.w) X.A (f (.int i t) (.int j u)) Q E s) :
  OpR X f (rI0 λ i j=>.bl (g i j)):=by
 intro d s σ H x y v u Q I b c h;obtain ⟨i,j,rfl,rfl,q⟩:=h;obtain ⟨t,rfl⟩:=b;obtain ⟨a,rfl⟩:=c;exact rule i j t a s _ _ ⟨.bl (g i j),H,I,rfl,q⟩
def CPow (i j:Int):Prop:=0<=j/\j<=1000000/\i.natAbs < 2 ^ 64
def CMul (i j:Int):Prop:=(-(2 ^ 64) < i/\i < 2 ^ 64)\/(-(2 ^ 64) < j/\j < 2 ^ 64)
theorem CMul.ok {i j:Int} (h:CMul i j):IntMulOk i j:=by
 rcases h with ⟨b,a⟩|⟨b,a⟩
 ·exact .of_left (intBits_le_64 b a)
 ·exact .of_right (intBits_le_64 b a)
theorem op_add:OpR X (M4 .Add) (rI0 λ i j=>.int (i + j)):=opI0 λ _ _ _ _ _ _ _ q=>add_int q
theorem op_sub:OpR X (M4 .Sub) (rI0 λ i j=>.int (i - j)):=opI0 λ _ _ _ _ _ _ _ q=>sub_int q
theorem op_mul:OpR X (M4 .Mult) (rI CMul λ i j=>.int (i * j)):=opI λ _ _ _ _ _ _ _ a q=>mul_int q a.ok
theorem op_mod:OpR X (M4 .Mod) (rI (λ _ j=>0 < j) λ i j=>.int (i % j)):=opI λ i j _ _ _ _ _ a q=>by have b:(0:Int) < j:=a;exact mod_int' (by omega) (by rw [Int.fmod_eq_emod_of_nonneg i (by omega)];exact q)
theorem op_pow:OpR X (M4 .Pow) (rI CPow λ i j=>.int (i ^ j.toNat)):=opI λ _ _ _ _ _ _ _ a q=>pow_int_small a.1 a.2.1 a.2.2 q
theorem unI {f:Value->Sem Value} {g:Int->Int}
  (rule :∀(i:Int) (t:Tok) (s:t0) (Q:Value->t0->Prop) (E:Value->t0->Prop),Q (.int (g i) s.toks) { s with toks:=s.toks + 1 }->O0 (j1 X.prog X.w) X.A (f (.int i t)) Q E s) :
  UnR X f (rU λ i=>.int (g i)):=by
 intro b s σ H x v Q I a h;obtain ⟨i,rfl,q⟩:=h;obtain ⟨t,rfl⟩:=a;exact rule i t s _ _ ⟨.int (g i),H,I.tok _,⟨_,rfl⟩,q⟩
theorem un_neg:UnR X (unaryOp .USub) (rU λ i=>.int (-i)):=unI λ _ _ _ _ _ q=>neg_int q
end
def scal:V->V->Bool
 | .non,.non=>true | .non,.int _=>true | .int _,.non=>true | .non,.bl _=>true | .bl _,.non=>true | .non,.str _=>true | .str _,.non=>true
 | .int _,.int _=>true | .bl _,.bl _=>true | .str _,.str _=>true | .byt _,.byt _=>true
 | .int _,.str _=>true | .str _,.int _=>true | .bl _,.str _=>true | .str _,.bl _=>true
 | _,_=>false
def rEq:R2:=λ x y H Q=>scal x y=true/\Q (.bl (decide (x=y))) H
def rNe:R2:=λ x y H Q=>scal x y=true/\Q (.bl (!decide (x=y))) H
theorem zk8 {i j:Int}:decide (V.int i=V.int j)=(i == j):=by rw [Bool.eq_iff_iff];simp
theorem dec_bl {i j:Bool}:decide (V.bl i=V.bl j)=(i == j):=by rw [Bool.eq_iff_iff];simp
theorem zjo {i j:Str}:decide (V.str i=V.str j)=(i == j):=by rw [Bool.eq_iff_iff];simp
theorem zje {i j:Array UInt8}:decide (V.byt i=V.byt j)=(i.toList == j.toList):=by rw [Bool.eq_iff_iff];cases i;cases j;simp
section
variable {X:Cx} {a b c:Expr} {ta tb tc:TE} {pos:Pos}
theorem fin_bl {pins:List (Addr×Obj)} {σ:St} {H:Hp} {s:t0} {Q:VK} {k k':Bool} (I:Inv X pins σ H s) (q:Q (.bl k) H) (e:k=k'):EP X pins σ Q (.bool k') s:=by subst e;exact ⟨.bl k,H,I,rfl,q⟩
theorem op_eq:OpR X (J2 .Eq) rEq:=by
 intro e s σ H x y v u Q I d a h;obtain ⟨c,q⟩:=h;cases x with
 | non=>
  cases d;cases y with
  | non=>cases a;exact PySem.EqNone.eq_none_none (fin_bl I q (by simp))
  | bl j=>cases a;exact PySem.EqNone.eq_none_bool (fin_bl I q (by simp))
  | int j=>obtain ⟨b,rfl⟩:=a;exact PySem.EqNone.eq_none_int (fin_bl I q (by simp))
  | str j=>obtain ⟨b,rfl⟩:=a;exact PySem.EqNone.eq_none_str (fin_bl I q (by simp))
  | _=>exact absurd (show false=true from c) S0
 | bl i=>
  cases d;cases y with
  | non=>cases a;exact PySem.EqNone.eq_bool_none (fin_bl I q (by simp))
  | bl j=>cases a;exact eq_bool (fin_bl I q dec_bl)
  | str j=>obtain ⟨b,rfl⟩:=a;exact PySem.EqMixed.eq_bool_str (fin_bl I q (by simp))
  | _=>exact absurd (show false=true from c) S0
 | int i=>
  obtain ⟨t,rfl⟩:=d;cases y with
  | non=>cases a;exact PySem.EqNone.eq_int_none (fin_bl I q (by simp))
  | int j=>obtain ⟨b,rfl⟩:=a;exact eq_int (fin_bl I q zk8)
  | str j=>obtain ⟨b,rfl⟩:=a;exact PySem.EqMixed.eq_int_str (fin_bl I q (by simp))
  | _=>exact absurd (show false=true from c) S0
 | str i=>
  obtain ⟨t,rfl⟩:=d;cases y with
  | non=>cases a;exact PySem.EqNone.eq_str_none (fin_bl I q (by simp))
  | bl j=>cases a;exact PySem.EqMixed.eq_str_bool (fin_bl I q (by simp))
  | int j=>obtain ⟨b,rfl⟩:=a;exact PySem.EqMixed.eq_str_int (fin_bl I q (by simp))
  | str j=>obtain ⟨b,rfl⟩:=a;exact eq_str (fin_bl I q zjo)
  | _=>exact absurd (show false=true from c) S0
 | byt i=>
  obtain ⟨t,rfl⟩:=d;cases y with
  | byt j=>obtain ⟨b,rfl⟩:=a;exact PySem.W.eq_bytes (fin_bl I q zje)
  | _=>exact absurd (show false=true from c) S0
 | _=>cases y<;>exact absurd (show false=true from c) S0
theorem op_ne:OpR X (J2 .NotEq) rNe:=by
 intro e s σ H x y v u Q I d a h;obtain ⟨c,q⟩:=h;cases x with
 | non=>
  cases d;cases y with
  | non=>cases a;exact PySem.EqNone.ne_none_none (fin_bl I q (by simp))
  | bl j=>cases a;exact PySem.EqNone.ne_none_bool (fin_bl I q (by simp))
  | int j=>obtain ⟨b,rfl⟩:=a;exact PySem.EqNone.ne_none_int (fin_bl I q (by simp))
  | str j=>obtain ⟨b,rfl⟩:=a;exact PySem.EqNone.ne_none_str (fin_bl I q (by simp))
  | _=>exact absurd (show false=true from c) S0
 | bl i=>
  cases d;cases y with
  | non=>cases a;exact PySem.EqNone.ne_bool_none (fin_bl I q (by simp))
  | bl j=>cases a;exact ne_bool (fin_bl I q (congrArg not dec_bl))
  | str j=>obtain ⟨b,rfl⟩:=a;exact PySem.EqMixed.ne_bool_str (fin_bl I q (by simp))
  | _=>exact absurd (show false=true from c) S0
 | int i=>
  obtain ⟨t,rfl⟩:=d;cases y with
  | non=>cases a;exact PySem.EqNone.ne_int_none (fin_bl I q (by simp))
  | int j=>obtain ⟨b,rfl⟩:=a;exact ne_int (fin_bl I q (congrArg not zk8))
  | str j=>obtain ⟨b,rfl⟩:=a;exact PySem.EqMixed.ne_int_str (fin_bl I q (by simp))
  | _=>exact absurd (show false=true from c) S0
 | str i=>
  obtain ⟨t,rfl⟩:=d;cases y with
  | non=>cases a;exact PySem.EqNone.ne_str_none (fin_bl I q (by simp))
  | bl j=>cases a;exact PySem.EqMixed.ne_str_bool (fin_bl I q (by simp))
  | int j=>obtain ⟨b,rfl⟩:=a;exact PySem.EqMixed.ne_str_int (fin_bl I q (by simp))
  | str j=>obtain ⟨b,rfl⟩:=a;exact ne_str (fin_bl I q (congrArg not zjo))
  | _=>exact absurd (show false=true from c) S0
 | byt i=>
  obtain ⟨t,rfl⟩:=d;cases y with
  | byt j=>obtain ⟨b,rfl⟩:=a;exact PySem.W.ne_bytes (fin_bl I q (congrArg not zje))
  | _=>exact absurd (show false=true from c) S0
 | _=>cases y<;>exact absurd (show false=true from c) S0
theorem op_lt:OpR X (J2 .Lt) (rI0 λ i j=>.bl (decide (i < j))):=opB0 λ _ _ _ _ _ _ _ q=>lt_int q
theorem op_le:OpR X (J2 .LtE) (rI0 λ i j=>.bl (decide (i<=j))):=opB0 λ _ _ _ _ _ _ _ q=>le_int q
theorem op_gt:OpR X (J2 .Gt) (rI0 λ i j=>.bl (decide (j < i))):=opB0 λ _ _ _ _ _ _ _ q=>gt_int q
theorem op_isN:OpR X (J2 .Is) (λ x y H Q=>y=.non/\Q (.bl (decide (x=.non))) H):=by
 intro c s σ H x y v u Q I a b h;obtain ⟨rfl,q⟩:=h;cases b;refine is_none_gen (fin_bl I q ?_);cases x<;>first
  | (cases a;rfl)
  | (obtain ⟨t,rfl⟩:=a;rfl)
theorem zdc:OpR X (J2 .IsNot) (λ x y H Q=>y=.non/\Q (.bl (!decide (x=.non))) H):=by
 intro c s σ H x y v u Q I a b h;obtain ⟨rfl,q⟩:=h;cases b;refine isnot_none_gen (fin_bl I q ?_);cases x<;>first
  | (cases a;rfl)
  | (obtain ⟨t,rfl⟩:=a;rfl)
theorem OpR.or {f:Value->Value->Sem Value} {r r':R2} (h:OpR X f r) (h':OpR X f r'):OpR X f (λ x y H Q=>r x y H Q\/r' x y H Q):=by
 intro b s σ H x y v u Q I a c q;rcases q with q|q
 ·exact h b s σ H x y v u Q I a c q
 ·exact h' b s σ H x y v u Q I a c q
theorem nomark (b:Expr) {op:CmpOp} (h:op≠.In:=by decide) (h2:op≠.NotIn:=by decide):V8 op b=false:=by
 have c:(op == CmpOp.In)=false:=by cases op<;>first|rfl|exact absurd rfl h
 have a:(op == CmpOp.NotIn)=false:=by cases op<;>first|rfl|exact absurd rfl h2
 cases b<;>simp [V8,c,a]
theorem z31 {op:CmpOp} {r:R2} (ho:OpR X (J2 op) r) (ha:PE X a ta) (hb:PE X b tb) (hm:V8 op b=false):PE X (.Compare a [op] [b] pos) (tOp r ta tb):=by intro d s σ H Q I h;exact wpAny_Compare1 (binT ha hb I h λ v u g x y i e c f q=>ho d g σ i x y v u Q e c f q) hm
def tTest (t:TE):TT:=λ σ H Q=>t σ H λ x H'=>∃k,x=.bl k/\Q k H'
theorem z0a {op:CmpOp} {r:R2} (ho:OpR X (J2 op) r) (ha:PE X a ta) (hb:PE X b tb) (hm:V8 op b=false):PT X (.Compare a [op] [b] pos) (tTest (tOp r ta tb)):=by
 intro d s σ H Q I h;refine wpAny_isTrue_Compare1 (thn (ha d s σ H _ I h) λ v f ⟨x,H1,I1,r1,q1⟩=>thn (hb d f σ H1 _ I1 q1) λ u g ⟨y,H2,I2,r2,q2⟩=>thn (ho d g σ H2 x y v u _ I2 r1 r2 q2) λ c i ⟨z,H3,I3,r3,k,e,q3⟩=>?_) hm;subst e;cases r3;exact y4 ⟨H3,I3,q3⟩
def tChain (r r':R2) (ta tb tc:TE):TE:=λ σ H Q=>ta σ H λ x H1=>tb σ H1 λ y H2=>r x y H2 λ z H3=>∃k,z=.bl k/\
 (if k=true then tc σ H3 λ w' H4=>r' y w' H4 Q else Q (.bl false) H3)
theorem zf3 {op op':CmpOp} {r r':R2} (ho:OpR X (J2 op) r) (ho':OpR X (J2 op') r') (ha:PE X a ta) (hb:PE X b tb) (hc:PE X c tc)
  (hm:lastMarks [op,op'] [b,c]=false:=by with_unfolding_all rfl):PE X (.Compare a [op,op'] [b,c] pos) (tChain r r' ta tb tc):=by
 intro f s σ H Q I h;refine Compare_chain (thn (ha f s σ H _ I h) λ v i ⟨x,H1,I1,r1,q1⟩=>chain_link (thn (hb f i σ H1 _ I1 q1) λ u l ⟨y,H2,I2,r2,q2⟩=>thn (ho f l σ H2 x y v u _ I2 r1 r2 q2) λ d m ⟨z,H3,I3,r3,k,e,q3⟩=>?_)) hm;subst e;cases r3;refine y4 ?_;cases k with
 | false=>exact ite_ff ⟨.bl false,H3,I3,rfl,q3⟩
 | true=>exact ite_tt (chain_last (thn (hc f m σ H3 _ I3 q3) λ j g ⟨z',H4,I4,r4,q4⟩=>ho' f g σ H4 y z' u j Q I4 r2 r4 q4))
theorem line63:(sizeLine:Nat) < 2 ^ 63:=by rw [sizeLine_eq];decide
theorem op_add_str:OpR X (M4 .Add) (λ x y H Q=>∃i j,x=.str i/\y=.str j/\i.length + j.length<=sizeLine/\Q (.str (i++j)) H):=by intro e s σ H x y v u Q I b d h;obtain ⟨i,j,rfl,rfl,c,q⟩:=h;obtain ⟨t,rfl⟩:=b;obtain ⟨a,rfl⟩:=d;exact add_str (λ a f=>⟨.str (i++j),H,I.tok _,⟨_,rfl⟩,q⟩) c
theorem vals1 {x:V} {us:List Value} (r:Vals [x] us) :∃u,us=[u]/\RelV x u:=by
 cases r with
 | cons r1 r2=>cases r2;exact ⟨_,rfl,r1⟩
theorem vals2 {x y:V} {us:List Value} (r:Vals [x,y] us) :∃u w',us=[u,w']/\RelV x u/\RelV y w':=by
 cases r with
 | cons r1 r2=>
  cases r2 with
  | cons r3 r4=>cases r4;exact ⟨_,_,rfl,r1,r3⟩
theorem zho (hc:X.calm=true):CallR X (.builtin "max") (λ xs H Q=>∃i j,xs=[.int i,.int j]/\Q (.int (if j > i then j else i)) H):=by
 intro b s σ H xs c Q I r h;obtain ⟨i,j,rfl,q⟩:=h;obtain ⟨u,d,rfl,⟨t,rfl⟩,⟨a,rfl⟩⟩:=vals2 r;refine max_two_ints (I.ok.hd hc) λ f e k=>⟨_,H,I.kept k,?_,q⟩
 by_cases hj:j > i
 ·rw [if_pos hj,if_pos hj];exact ⟨_,rfl⟩
 ·rw [if_neg hj,if_neg hj];exact ⟨_,rfl⟩
theorem zj7 (hc:X.calm=true):CallR X (.builtin "min") (λ xs H Q=>∃i j,xs=[.int i,.int j]/\Q (.int (if j < i then j else i)) H):=by
 intro b s σ H xs c Q I r h;obtain ⟨i,j,rfl,q⟩:=h;obtain ⟨u,d,rfl,⟨t,rfl⟩,⟨a,rfl⟩⟩:=vals2 r;refine min_two_ints (I.ok.hd hc) λ f e k=>⟨_,H,I.kept k,?_,q⟩
 by_cases hj:j < i
 ·rw [if_pos hj,if_pos hj];exact ⟨_,rfl⟩
 ·rw [if_neg hj,if_neg hj];exact ⟨_,rfl⟩
theorem call_int1:CallR X (.type "int") (λ xs H Q=>(∃i,xs=[.int i]/\Q (.int i) H)\/∃k,xs=[.bl k]/\Q (.int (if k then 1 else 0)) H):=by
 intro b s σ H xs c Q I r h;rcases h with ⟨i,rfl,q⟩|⟨k,rfl,q⟩
 ·obtain ⟨u,rfl,t,rfl⟩:=vals1 r;exact call_int_int ⟨.int i,H,I,⟨_,rfl⟩,q⟩
 ·obtain ⟨u,rfl,a⟩:=vals1 r;cases a;exact call_int_bool ⟨.int (if k then 1 else 0),H,I.tok _,⟨_,rfl⟩,q⟩
end
structure ObjM (h:Heap) (x dx C:Addr) (mA:Str->Option Value):Prop where
 obj:h.get? x=some (D4 C dx)
 ns:h.Ns1 dx mA
 ne:dx≠x
theorem zi2 {h:Heap} {dx:Addr} {mA:Str->Option Value} (n:h.Ns1 dx mA) :∃od,h.get? dx=some od/\∀name,X8 name od=some (mA name):=by
 obtain ⟨o,b,l,g,d,i,_,c⟩:=n;refine ⟨o,g,λ name=>?_⟩;have e:=c name;unfold nsFind findBy at e;rw [<-Array.find?_toList] at e;unfold X8;rw [d];dsimp only;split
 ·rename_i y q;rw [q] at e;exact congrArg some e
 ·rename_i q;rw [q] at e;have a:b.toList.any (·.refKey)=false:=by rw [List.any_eq_false];intro y f;obtain ⟨z,t,j⟩:=i y (Array.mem_toList_iff.mp f);simp [DictEntry.refKey,j]
  have k:¬ b.toList.any (·.refKey)=true:=by rw [a];exact S0
  rw [if_neg k];exact congrArg some e
theorem ObjM.look {h:Heap} {x dx C:Addr} {mA:Str->Option Value} (I:ObjM h x dx C mA) :∃od,PySem.W.InstAt h x (D4 C dx) C (some od)/\∀name,X8 name od=some (mA name):=
 let ⟨od,ho,hl⟩:=zi2 I.ns
 ⟨od,⟨I.obj,rfl,rfl,ho⟩,hl⟩
section
variable {prog:Program} {w:V0} {A:U1} {E:Value->t0->Prop} {s:t0} {K:c0} {x dx C f:Addr} {mA:Str->Option Value} {name:Str} {v:Value}
theorem zlw {expr:Bool} {Q:Value->t0->Prop} (X:K.In s.heap) (I:ObjM s.heap x dx C mA) (hg:a8 K C name=true) (hh:j00 K C=true)
  (ha:N3 K (.ref C) name=some none) (hv:mA name=some v) (hv':PySem.W.handedIn v=true) (h:Q v { s with toks:=s.toks + 1 }) :
  O0 (j1 prog w) A (getAttr (.ref x) name expr) Q E s:=by
 obtain ⟨b,J,a⟩:=I.look;exact PySem.W.get_value X J (A9 hg).1 (PySem.W.findObj_own hh ha rfl (by rw [a,hv])) hv' h
theorem zks {pl:Sem Bool} {Q:Value×List Value->t0->Prop} (X:K.In s.heap) (I:ObjM s.heap x dx C mA) (hg:a8 K C name=true)
  (hf:N3 K (.ref C) name=some (some (.ref f))) (ht:j2j K (.ref f)=true) (hv:mA name=none) (h:Q (.ref f,[.ref x]) s) :
  O0 (j1 prog w) A (getMethod (.ref x) name pl) Q E s:=by
 obtain ⟨a,J,b⟩:=I.look;exact PySem.W.method_fn X J (A9 hg).1 (A9 hg).2 hf (beq_iff_eq.mp ht) (by show (X8 name a).map (·.isSome)=some false;rw [b,hv];rfl) h
theorem zn2 {ns:List Str} {Q:Unit->t0->Prop} (X:K.In s.heap) (I:ObjM s.heap x dx C mA)
  (hs:N3 K (.ref C) "__setattr__" = some (some (.builtin "object.__setattr__"))) (hp:j50 K C=true) (ht:j17 K C name=some none) (hh:j00 K C=true)
  (hw:j3j mA ns) (hsz:ns.length<=sizeLine)
  (h :∀h',ObjM h' x dx C (λ y=>if y=name then some v else mA y)->S5 dx s.heap h'->Q () { s with heap:=h',toks:=s.toks + 2 }) :
  O0 (j1 prog w) A (setAttr (.ref x) name v) Q E s:=by
 obtain ⟨l,J,n⟩:=I.look;refine PySem.W.set_plain X J hs (PySem.W.osa_open (s:={ s with toks:=s.toks + 1 }) (r:=none) X J hp ht λ b=>?_);obtain ⟨m,k,e⟩:=PySem.W.any_some hh;have j:s.heap.get? x=some ⟨.ref C,some dx,.plain,#[]⟩:=I.obj;refine j0 (D0 (j0 (j0 (wpAny_loadPart j (j0 (PySem.W.Looks.here (s:={ s with toks:=s.toks + 1 }) (PySem.W.looks_clsIn X k) ?_))))));rw [e];refine D0 (a:=some dx) (j0 (D0 (j0 ?_)));refine wpAny_nsSet1 (s:={ s with toks:=s.toks + 1 }) I.ns λ h' d c=>?_;obtain ⟨q,o,p,g,f,i⟩:=d.count (PySem.Within.cons name v hw);refine j0 (wpAny_lookBehind g (by rw [f];exact pastItsLine_dict (F0 i (by rw [X0];omega))) ?_);exact D0 (h _ ⟨(c.2 _ (R3 I.ne)).trans I.obj,d,I.ne⟩ c)
theorem zkr {R:Result->t0->Prop} {vs:List Value} {kw:List (Str×Value)} (X:K.In s.heap) (hm:PySem.W.makesIn K C=true)
  (hi:N3 K (.ref C) "__init__" = some (some (.ref f))) (hf:PySem.W.typeIn K (.ref f)=some (.type "function"))
  (h:C7 (j1 prog w) (A.under (.builtin "type.__call__" ⟨.ref C :: vs,kw⟩)) (.call (.ref f) ⟨.ref (s.heap.objs.size + 1) :: vs,kw⟩) (PySem.W.InitBack (s.heap.objs.size + 1) R)
   { s with heap:=(s.heap.push PySem.W.emptyDict).push (D4 C s.heap.objs.size) }) :
  C7 (j1 prog w) A (.call (.ref C) ⟨vs,kw⟩) R s:=by
 obtain ⟨b,g,d,t,c⟩:=s;exact PySem.W.make_core (PySem.W.makes_of X hm) (PySem.W.looks_findIn X hi) (λ a=>PySem.W.bind_fn X a hf) (.inl rfl) h
end
def putF (f:Str) (v:V):List (Str×V)->List (Str×V)
 | []=>[(f,v)]
 | (g,x) :: r=>if g=f then (g,v) :: r else (g,x) :: putF f v r
theorem z3x (f g:Str) (v:V) :∀fs:List (Str×V),(putF f v fs).lookup g=if g=f then some v else fs.lookup g
 | []=>by
  show c7 g [(f,v)]=_;by_cases h:g=f
  ·have a:(g == f)=true:=beq_iff_eq.mpr h;simp only [c7,a,if_pos h]
  ·have a:(g == f)=false:=beq_eq_false_iff_ne.mpr h;simp only [c7,a,if_neg h]
 | (k,x) :: r=>by
  have b:=z3x f g v r;rw [show putF f v ((k,x) :: r)=(if k=f then (k,v) :: r else (k,x) :: putF f v r) from rfl];by_cases hk:k=f
  ·rw [if_pos hk];by_cases h:g=k
   ·have a:(g == k)=true:=beq_iff_eq.mpr h;simp only [c7,a,if_pos (h.trans hk)]
   ·have a:(g == k)=false:=beq_eq_false_iff_ne.mpr h;simp only [c7,a,if_neg (λ e:g=f=>h (e.trans hk.symm))]
  ·rw [if_neg hk];by_cases h:g=k
   ·have a:(g == k)=true:=beq_iff_eq.mpr h;simp only [c7,a,if_neg (λ e:g=f=>hk (h.symm.trans e))]
   ·have a:(g == k)=false:=beq_eq_false_iff_ne.mpr h;simp only [c7,a];exact b
theorem z9b (f:Str) (v:V) :∀fs:List (Str×V),f∈(putF f v fs).map (·.1)/\∀g,g∈fs.map (·.1)->g∈(putF f v fs).map (·.1)
 | []=>⟨by simp [putF],λ g h=>by simp at h⟩
 | (k,x) :: r=>by
  obtain ⟨a,b⟩:=z9b f v r;rw [show putF f v ((k,x) :: r)=(if k=f then (k,v) :: r else (k,x) :: putF f v r) from rfl];by_cases hk:k=f
  ·rw [if_pos hk];subst hk;exact ⟨by simp,λ g h=>by simpa using h⟩
  ·rw [if_neg hk];refine ⟨?_,λ g h=>?_⟩
   ·rw [J1];exact E1 _ a
   ·rw [J1] at h⊢;rcases List.mem_cons.mp h with e|e
    ·exact List.mem_cons.mpr (.inl e)
    ·exact E1 _ (b g e)
theorem z87 (f:Str) (v:V) :∀fs:List (Str×V),(putF f v fs).length<=fs.length + 1
 | []=>by simp [putF]
 | (k,x) :: r=>by
  have a:=z87 f v r;rw [show putF f v ((k,x) :: r)=(if k=f then (k,v) :: r else (k,x) :: putF f v r) from rfl];by_cases hk:k=f
  ·rw [if_pos hk,X0,X0];omega
  ·rw [if_neg hk,X0,X0];omega
theorem RelO.some_of {v:V} {o:Option Value} (r:RelO (some v) o) :∃u,o=some u/\RelV v u:=by
 cases o with
 | none=>exact (show False from r).elim
 | some u=>exact ⟨u,rfl,r⟩
theorem RelO.none_of {o:Option Value} (r:RelO none o):o=none:=by
 cases o with
 | none=>rfl
 | some u=>exact (show False from r).elim
theorem zi0 {v:V} {u:Value} (r:RelV v u):PySem.W.handedIn u=true:=by
 cases v with
 | non=>cases (show u=K2 from r);rfl
 | bl b=>cases (show u=J4 b from r);rfl
 | int i=>obtain ⟨t,e⟩:=(show∃t,u=t8 i t from r);cases e;rfl
 | str x=>obtain ⟨t,e⟩:=(show∃t,u=M6 x t from r);cases e;rfl
 | byt b=>obtain ⟨t,e⟩:=(show∃t,u=Value.bytes b t from r);cases e;rfl
 | flt b=>obtain ⟨t,e⟩:=(show∃t,u=j4e b t from r);cases e;rfl
 | ref a=>cases (show u=Value.ref a from r);rfl
 | ty n=>cases (show u=M5 n from r);rfl
section
variable {P:Program} {w:V0} {H H':Hp} {h h':Heap} {a C dx:Addr} {fs fs':List (Str×V)}
theorem zdo (hok:HOk P w H h) (e:H a=some (.ins C dx fs)) :∃mA,ObjM h a dx C mA/\(∀f,RelO (fs.lookup f) (mA f))/\j3j mA (fs.map (·.1))/\fs.length<=1000/\H dx=some (.own a):=by
 obtain ⟨d,z,ne,b,mA,n,r,q⟩:=(show ObjOk P w H h a (.ins C dx fs) from hok a _ e)
 exact ⟨mA,⟨b,n,ne⟩,r,q,z,d⟩
end
structure Cls (K:c0) (C:Addr):Prop where
 pg:a8 K C Str.empty=true
 hd:j00 K C=true
 po:j50 K C=true
 sa:N3 K (.ref C) "__setattr__" = some (some (.builtin "object.__setattr__"))
theorem Cls.get {K:c0} {C:Addr} (c:Cls K C) (f:Str):a8 K C f=true:=c.pg
def NoAttr (K:c0) (C:Addr) (f:Str):Prop:=N3 K (.ref C) f=some none
theorem NoAttr.taker {K:c0} {C:Addr} {f:Str} (n:NoAttr K C f):j17 K C f=some none:=by unfold j17;rw [show N3 K (.ref C) f=some none from n];rfl
structure Con (K:c0) (C:Addr) (f:Str) (v:V) (u:Value):Prop where
 at_:N3 K (.ref C) f=some (some u)
 rel:RelV v u
 get:j4j K u "__get__" = some none
 cp:PySem.W.copiedNames.contains f=false
structure Meth (K:c0) (C:Addr) (m:Str) (f:Addr):Prop where
 at_:N3 K (.ref C) m=some (some (.ref f))
 fn:j2j K (.ref f)=true
 kp:M3 K (.ref f)=true
section
variable {X:Cx} {pins:List (Addr×Obj)} {σ:St} {H:Hp} {s:t0} {a C dx:Addr} {fs:List (Str×V)} {f:Str} {v:V} {A:U1} {E:Value->t0->Prop}
theorem zg2 {b:Bool} {Q:Value->t0->Prop} (I:Inv X pins σ H s) (e:H a=some (.ins C dx fs)) (c:Cls X.K C) (n:NoAttr X.K C f) (l:fs.lookup f=some v)
  (h :∀u s',Inv X pins σ H s'->RelV v u->Q u s'):O0 (j1 X.prog X.w) A (getAttr (.ref a) f b) Q E s:=by
 obtain ⟨g,O,r,_,_,_⟩:=zdo I.hok e;obtain ⟨u,i,d⟩:=RelO.some_of (v:=v) (o:=g f) (by rw [<-l];exact r f);exact zlw I.kIn O (c.get f) c.hd n i (zi0 d) (h u _ (I.tok _) d)
theorem zgy {m:Str} {g:Addr} {pl:Sem Bool} {Q:Value×List Value->t0->Prop} (I:Inv X pins σ H s) (e:H a=some (.ins C dx fs)) (c:Cls X.K C) (k:Meth X.K C m g) (l:fs.lookup m=none)
  (h:Q (.ref g,[.ref a]) s):O0 (j1 X.prog X.w) A (getMethod (.ref a) m pl) Q E s:=by
 obtain ⟨b,O,r,_,_,_⟩:=zdo I.hok e;have d:b m=none:=RelO.none_of (by rw [<-l];exact r m);exact zks I.kIn O (c.get m) k.at_ k.fn d h
theorem zhh {y:V} {u:Value} {Q:Unit->t0->Prop} (I:Inv X pins σ H s) (e:H a=some (.ins C dx fs)) (c:Cls X.K C) (n:NoAttr X.K C f) (hl:fs.length < 1000) (ry:RelV y u)
  (h :∀s',Inv X pins σ (upd H a (.ins C dx (putF f y fs))) s'->Q () s'):O0 (j1 X.prog X.w) A (setAttr (.ref a) f u) Q E s:=by
 obtain ⟨i,O,r,k,_,j⟩:=zdo I.hok e;have p:(fs.map (·.1)).length<=sizeLine:=by rw [G0,sizeLine_eq];omega
 refine zn2 I.kIn O c.sa c.po n.taker c.hd k p λ B d v=>h _ ?_;have l :∃o,B.get? dx=some o:=let ⟨o,_,_,e',_⟩:=d.ns;⟨o,e'⟩;refine I.write (x:=a) (e:=dx) (by rw [e];exact True.intro) (.inr j) (λ b q t z=>(v.2 b t).trans z) l ?_;refine ⟨by rw [upd_ne O.ne];exact j,?_,O.ne,d.obj,_,d.ns,λ g=>?_,λ g m=>?_⟩
 ·have:=z87 f y fs;omega
 ·show RelO ((putF f y fs).lookup g) (if g=f then some u else i g);rw [z3x];by_cases q:g=f
  ·rw [if_pos q,if_pos q];exact ry
  ·rw [if_neg q,if_neg q];exact r g
 ·by_cases q:g=f
  ·rw [q];exact (z9b f y fs).1
  ·refine (z9b f y fs).2 g (k g λ z=>m ?_);show (if g=f then some u else i g)=none;rw [if_neg q];exact z
theorem Inv.made (I:Inv X pins σ H s):Inv X pins σ (upd (upd H s.heap.objs.size (.own (s.heap.objs.size + 1))) (s.heap.objs.size + 1) (.ins C s.heap.objs.size []))
  { s with heap:=(s.heap.push PySem.W.emptyDict).push (D4 C s.heap.objs.size) }:=by
 have c:(s.heap.push PySem.W.emptyDict).get? s.heap.objs.size=some PySem.W.emptyDict:=P0 s.heap rfl;have f:((s.heap.push PySem.W.emptyDict).push (D4 C s.heap.objs.size)).get? (s.heap.objs.size + 1)=some (D4 C s.heap.objs.size):=by
  have:=P0 (s.heap.push PySem.W.emptyDict) (o:=D4 C s.heap.objs.size) rfl
  rwa [T2] at this
 have h:(s.heap.push PySem.W.emptyDict).Ns s.heap.objs.size (λ _=>none):=⟨PySem.W.emptyDict,#[],_,c,rfl,(λ e i=>absurd i (by simp)),λ _=>rfl⟩
 have g:=I.laid (a:=s.heap.objs.size) (o:=.own (s.heap.objs.size + 1)) (h':=s.heap.push PySem.W.emptyDict) (t':=s.toks) (λ b u q=>C0 _ q) (B0 _) ⟨_,c⟩;refine g.laid (a:=s.heap.objs.size + 1) (o:=.ins C s.heap.objs.size []) (t':=s.toks) (λ b u q=>C0 _ q) (V5 (T2 _ _)) ?_;have ne:s.heap.objs.size≠s.heap.objs.size + 1:=Z0 (O2 _);refine ⟨by rw [upd_ne ne,z01],R1 _,ne,f,λ _=>none,(Heap.Ns1.of_empty h).at λ o q=>C0 _ q,λ _=>True.intro,λ y d=>absurd rfl d⟩
theorem zmb {prog:Program} {w:V0} {env:Env} {e:Expr} {f:Str} {pos:Pos} {s:t0} {Q:Value->t0->Prop} (hb:S3 e f env (Y2 e env)=Y2 e env)
  (h:O0 (j1 prog w) A (Y2 e env) (λ o s₁=>O0 (j1 prog w) A (getAttr o f true) Q E s₁) E s):O0 (j1 prog w) A (Y2 (.Attribute e f pos) env) Q E s:=
 Attribute_any_ h (by rw [arm_eval_Attribute,hb])
end
def tFld (K:c0) (ta:TE) (f:Str):TE:=λ σ H Q=>ta σ H λ x H1=>∃a C dx fs v,x=.ref a/\H1 a=some (.ins C dx fs)/\Cls K C/\NoAttr K C f/\fs.lookup f=some v/\Q v H1
def sFld (K:c0) (ta tv:TE) (f:Str):TS:=λ D σ H=>tv σ H λ y H1=>ta σ H1 λ x H2=>∃a C dx fs,x=.ref a/\H2 a=some (.ins C dx fs)/\Cls K C/\NoAttr K C f/\fs.length < 1000/\
 D.nx σ (upd H2 a (.ins C dx (putF f y fs)))
section
variable {X:Cx} {o e value:Expr} {f:Str} {pos pos' tpos:Pos} {ta tv:TE}
theorem pe_fld (he:PE X e ta) (hb:S3 e f X.env (Y2 e X.env)=Y2 e X.env):PE X (.Attribute e f pos) (tFld X.K ta f):=by intro b s σ H Q I h;refine zmb hb (thn (he b s σ H _ I h) λ u i ⟨x,H1,I1,rx,a,C,dx,fs,v,ex,ea,c,n,l,q⟩=>?_);subst ex;obtain rfl:u=Value.ref a:=rx;exact zg2 I1 ea c n l λ k j d g=>⟨v,H1,d,g,q⟩
theorem ps_fld (ha:PE X o ta) (hv:PE X value tv) (hs:o7 value (some (.Attribute o f pos')) pos.line X.env=d3 false):PS X (.Assign [.Attribute o f pos'] value pos) (sFld X.K ta tv f):=by intro b s σ H D I h;refine plainObj_wpAny_Assign_Attribute (thn (hv b s σ H _ I h) λ u e ⟨y,H1,I1,ry,q⟩=>thn (ha b e σ H1 _ I1 q) λ d i ⟨x,H2,I2,rx,a,C,dx,fs,ex,ea,c,n,l,q2⟩=>?_) hs;subst ex;obtain rfl:d=Value.ref a:=rx;exact zhh I2 ea c n l ry λ j g=>⟨σ,_,g,q2⟩
end
section
variable {X:Cx} {pins:List (Addr×Obj)} {σ:St} {H:Hp} {s:t0} {A:U1} {E:Value->t0->Prop} {Q:Value->t0->Prop} {c:Value} {b:Bool}
inductive TyOf (K:c0) (H:Hp):V->Value->Prop where
 | non:TyOf K H .non (.type "NoneType")
 | bl (x:Bool):TyOf K H (.bl x) (.type "bool")
 | int (i:Int):TyOf K H (.int i) (.type "int")
 | str (x:Str):TyOf K H (.str x) (.type "str")
 | flt (x:UInt64):TyOf K H (.flt x) (.type "float")
 | lst {a:Addr} {xs:List V} (e:H a=some (.lst xs)):TyOf K H (.ref a) (.type "list")
 | frz {a:Addr} {o:Obj} {xs:List V} (e:H a=some (.frz o (.lst xs))):TyOf K H (.ref a) (.type "list")
 | tup {a:Addr} {xs:List V} (e:H a=some (.tup xs)):TyOf K H (.ref a) (.type "tuple")
 | dK {a:Addr} {kvs:List (Key×V)} (e:H a=some (.dK kvs)):TyOf K H (.ref a) (.type "dict")
 | dT {a:Addr} {kvs:List (List Key×V)} (e:H a=some (.dT kvs)):TyOf K H (.ref a) (.type "dict")
 | ins {a C dx:Addr} {fs:List (Str×V)} (e:H a=some (.ins C dx fs)) (cl:Cls K C) (ha:N3 K (.ref C) "__class__" = some (some (.builtin "object.__class__")))
   (hn:j4j K (.builtin "object.__class__") "__get__" = some (some (.builtin "getset_descriptor.__get__"))) (htk:PySem.W.takesIn K (.builtin "object.__class__")=some true)
   (hm:PySem.W.mroIn K C (.type "object")=some true):TyOf K H (.ref a) (.ref C)
theorem zil {x:V} {u t:Value} (I:Inv X pins σ H s) (rx:RelV x u) (ty:TyOf X.K H x t) (e:PySem.W.kitOne X.K t c=some b) (h :∀tk,Q (.bool b) { s with toks:=tk }) :
  O0 (j1 X.prog X.w) A (call (.builtin "isinstance") [u,c]) Q E s:=by
 cases ty with
 | non=>cases (show u=K2 from rx);exact C3 PySem.W.kitx_none I.kIn True.intro e (λ z=>nomatch z) h
 | bl y=>cases (show u=J4 y from rx);exact C3 PySem.W.kitx_bool I.kIn True.intro e (λ z=>nomatch z) h
 | int i=>obtain ⟨t,q⟩:=(show∃t,u=t8 i t from rx);cases q;exact C3 PySem.W.kitx_int I.kIn True.intro e (λ z=>nomatch z) h
 | str y=>obtain ⟨t,q⟩:=(show∃t,u=M6 y t from rx);cases q;exact C3 PySem.W.kitx_str I.kIn True.intro e (λ z=>nomatch z) h
 | flt y=>obtain ⟨t,q⟩:=(show∃t,u=j4e y t from rx);cases q;exact C3 PySem.W.kitx_float I.kIn True.intro e (λ z=>nomatch z) h
 | @lst a f ea=>
  cases (show u=Value.ref a from rx);obtain ⟨_,_,n,_,d⟩:=(show ObjOk X.prog X.w H s.heap a (.lst f) from I.hok a _ ea)
  exact C3 j51 I.kIn ⟨_,d,rfl⟩ e (λ z=>nomatch z) h
 | @frz a ob f ea=>
  cases (show u=Value.ref a from rx);obtain ⟨_,_,_,n,_,d⟩:=(show ObjOk X.prog X.w H s.heap a (.frz ob (.lst f)) from I.hok a _ ea)
  exact C3 j51 I.kIn ⟨_,d,rfl⟩ e (λ z=>nomatch z) h
 | @tup a f ea=>
  cases (show u=Value.ref a from rx);obtain ⟨_,_,_,p,_⟩:=(show ObjOk X.prog X.w H s.heap a (.tup f) from I.hok a _ ea)
  obtain ⟨o,d,g,_⟩:=p;exact C3 PySem.W.kitx_tuple I.kIn ⟨o,d,g⟩ e (λ z=>nomatch z) h
 | @dK a kvs ea=>
  cases (show u=Value.ref a from rx);obtain ⟨_,_,r,_,p⟩:=(show ObjOk X.prog X.w H s.heap a (.dK kvs) from I.hok a _ ea)
  obtain ⟨o,k,j,d,g,_⟩:=p;exact C3 j52 I.kIn ⟨o,d,g.1⟩ e (λ z=>nomatch z) h
 | @dT a kvs ea=>
  cases (show u=Value.ref a from rx);obtain ⟨_,_,f,_,o,k,j,d,g,_⟩:=(show ObjOk X.prog X.w H s.heap a (.dT kvs) from I.hok a _ ea)
  exact C3 j52 I.kIn ⟨o,d,g.1⟩ e (λ z=>nomatch z) h
 | @ins a C dx fs ea cl ha hn htk hm=>cases (show u=Value.ref a from rx);obtain ⟨m,O,_⟩:=zdo I.hok ea;obtain ⟨l,J,_⟩:=O.look;exact C3 (PySem.W.kitx_own (cl.get _) cl.hd ha hn htk hm) I.kIn J e (λ z=>nomatch z) h
end
structure Room (k:Nat) (A:U1):Prop where
 hd:A.handled=none
 dp:A.depth + 3 * k + 5 < recursionLimit
 un:A.units + 16 * k + 200 < cLine
 gd:A.guards=some []
theorem Room.mono {j k:Nat} {A:U1} (r:Room k A) (h:j<=k):Room j A:=⟨r.hd,by have:=r.dp;omega,by have:=r.un;omega,r.gd⟩
theorem Room.deeper {k:Nat} {A:U1} (r:Room (k + 1) A) (env:Env):Room k (A.deeper env):=
 ⟨r.hd,by have:=r.dp;show A.depth + 1 + 3 * k + 5 < _;omega,by have:=r.un;show A.units + 3 + 16 * k + 200 < _;omega,r.gd⟩
theorem zgu {A:U1} {C:Addr} {us:List Value} {kw:List (Str×Value)}:(A.under (.builtin "type.__call__" ⟨.ref C :: us,kw⟩)).depth=A.depth + 1:=by first|rfl|simp [j09,Code.weight,Code.isCreation,Code.isGuard,Code.isCaller,j56,j15,guardIds]
theorem zfk {A:U1} {C:Addr} {us:List Value} {kw:List (Str×Value)}:(A.under (.builtin "type.__call__" ⟨.ref C :: us,kw⟩)).units=A.units + 1:=by first|rfl|simp [j09,Code.cUnits,j56,j15]
theorem Room.make {k:Nat} {A:U1} (r:Room (k + 1) A) (C:Addr) (us:List Value) (kw:List (Str×Value)):Room k (A.under (.builtin "type.__call__" ⟨.ref C :: us,kw⟩)):=
 ⟨r.hd,by have:=r.dp;rw [zgu];omega,by have:=r.un;rw [zfk];omega,by have h:=r.gd;first|exact h|simp [j09,h,Code.weight,Code.isCreation,Code.isGuard,Code.isCaller,j56,j15,guardIds]⟩
theorem Room.depth {k:Nat} {A:U1} (r:Room k A):A.depth < recursionLimit:=by have:=r.dp;omega
theorem Room.units {k:Nat} {A:U1} (r:Room k A):A.units + 64 < cLine:=by have:=r.un;omega
def tNil:TA:=λ _ H Q=>Q [] H
def tCons (ta:TE) (tr:TA):TA:=λ σ H Q=>ta σ H λ x H1=>tr σ H1 λ xs H2=>Q (x :: xs) H2
section
variable {X:Cx} {e:Expr} {es:List Expr} {te:TE} {t:TA} {pos:Pos}
theorem pa_nil:PA X [] tNil:=λ _ _ _ _ H Q I h=>Y7 ⟨[],H,I,.nil,h⟩
theorem z00 (ha:PE X e te) (hr:PA X es t) (hs:A1 (e :: es) X.env=(false,Y2 e X.env) :: A1 es X.env:=by rfl):PA X (e :: es) (tCons te t):=by intro a b s σ H Q I h;rw [hs];show O0 _ _ (spliced ((false,Y2 e X.env) :: Z3 a (A1 es X.env))) _ _ s;refine d6 (thn (ha b s σ H _ I h) λ u c ⟨x,H1,I1,r1,q1⟩=>?_);exact thn (hr a b c σ H1 _ I1 q1) λ d f ⟨xs,H2,I2,r2,q2⟩=>⟨x :: xs,H2,I2,.cons r1 r2,q2⟩
def tTup (t:TA):TE:=λ σ H Q=>t σ H λ xs H1=>xs.length<=sizeLine/\∀p,H1 p=none->Q (.ref p) (upd H1 p (.tup xs))
def tLst (t:TA):TE:=λ σ H Q=>t σ H λ xs H1=>xs.length<=sizeLine/\∀p,H1 p=none->Q (.ref p) (upd H1 p (.lst xs))
theorem pe_tup {x1} (h:PA X es t):PE X (.Tuple es x1 pos) (tTup t):=by intro c s σ H Q I f;refine wpAny_Tuple_spliced (thn (h pos c s σ H _ I f) λ d a ⟨xs,H1,I1,r,z,q⟩=>⟨by rw [<-r.length];exact z,?_⟩);have g:H1 a.heap.objs.size=none:=I1.hok.fresh (B0 _);refine ⟨.ref a.heap.objs.size,upd H1 a.heap.objs.size (.tup xs),I1.laid (t':=a.toks) (λ b u e=>C0 _ e) (B0 _) ?_,rfl,q _ g⟩;exact ⟨z,d,r,IsTupN.new _ _⟩
theorem pe_lst (h:PA X es t):PE X (.List es pos) (tLst t):=by intro c s σ H Q I f;refine wpAny_List_spliced (thn (h pos c s σ H _ I f) λ d a ⟨xs,H1,I1,r,z,q⟩=>⟨by rw [<-r.length];exact z,?_⟩);have g:H1 a.heap.objs.size=none:=I1.hok.fresh (B0 _);refine ⟨.ref a.heap.objs.size,upd H1 a.heap.objs.size (.lst xs),I1.laid (t':=a.toks) (λ b u e=>C0 _ e) (B0 _) ?_,rfl,q _ g⟩;exact ⟨z,d,0,r,P0 _ rfl⟩
end
abbrev Sp:=List V->Hp->VK->XK->Prop
abbrev CXT:=List Env->Hp->t0->XK->Value->t0->Prop
structure Env0 (P:Program) (w:V0) (K:c0) (mg:Str->Option Value) (base:Heap) (A:U1) (outer:List Env) (s:t0) (H:Hp):Prop where
 frames:A.frames=some outer
 mod:Mod K mg base
 bs :∀b o,base.get? b=some o->s.heap.get? b=some o/\H b=none
 bsz:base.objs.size<=s.heap.objs.size
 funs:s.heap.FunFrames base outer
 frf :∀b∈frs outer,H b=none
 hok:HOk P w H s.heap
 bare:S8 s.gens
def CE (outer:List Env) (P:Program) (w:V0) (H:Hp) (s:t0) (Q:VK) (u:Value) (s':t0):Prop:=
 ∃v H',s'.os=s.os/\S8 s'.gens/\Un (frs outer) [] H H' s.heap s'.heap/\HOk P w H' s'.heap/\RelV v u/\Q v H'
def CR (CX:CXT) (outer:List Env) (P:Program) (w:V0) (H:Hp) (s:t0) (Q:VK) (E:XK) (r:Result) (s':t0):Prop:=
 match r with
 | .ok (.ret u)=>CE outer P w H s Q u s'
 | .ok _=>False
 | .error e=>CX outer H s E e s'
structure FnOk (P:Program) (w:V0) (K:c0) (mg:Str->Option Value) (base:Heap) (CX:CXT) (k:Nat) (f:Addr) (fd:FuncData) (ps:List Str) (sp:Sp):Prop where
 len :∀vs H Q E,sp vs H Q E->vs.length=ps.length
 run :∀(A:U1) (outer:List Env) (s:t0) (H:Hp) (args:Args) (us:List Value) (vs:List V) (Q:VK) (E:XK),Room k A->Env0 P w K mg base A outer s H->BindsTo s fd args (ps.zip us)->Vals vs us->sp vs H Q E->
  C7 (j1 P w) A (.call (.ref f) args) (CR CX outer P w H s Q E) s
theorem Env0.make {P:Program} {w:V0} {K:c0} {mg:Str->Option Value} {base:Heap} {A:U1} {outer:List Env} {s:t0} {H:Hp} (e:Env0 P w K mg base A outer s H) (C:Addr) (us:List Value) (kw:List (Str×Value)) :
  Env0 P w K mg base (A.under (.builtin "type.__call__" ⟨.ref C :: us,kw⟩)) outer s H:=⟨by first|exact e.frames|(simpa [j09,Code.envs,j15,pushEnvs] using e.frames),e.mod,e.bs,e.bsz,e.funs,e.frf,e.hok,e.bare⟩
section
variable {X:Cx} {pins:List (Addr×Obj)} {σ:St} {H:Hp} {s s':t0}
theorem Inv.env0 (I:Inv X pins σ H s):Env0 X.prog X.w X.K X.mg X.base X.A X.stack s H:=
 ⟨I.ok.frames,I.ok.mod,I.bs,F0 I.ok.bsz I.sz,I.stack,I.stkFree,I.hok,I.bare⟩
theorem Inv.after {Q:VK} {u:Value} (I:Inv X pins σ H s) (h:CE X.stack X.prog X.w H s Q u s'):EP X pins σ Q u s':=by obtain ⟨v,j,f,c,un,e,r,q⟩:=h;obtain ⟨a,g,d,t,i⟩:=s';obtain rfl:i=s.os:=f;exact ⟨v,j,I.call (h':=a) (g':=g) (d':=d) (t':=t) (ch:=[]) un e c (λ b z=>absurd z (by simp)),r,q⟩
end
def tCall (sp:Sp) (dvs:List V) (E:XK) (t:TA):TE:=λ σ H Q=>t σ H λ vs H1=>sp (vs++dvs) H1 Q E
def tMeth (C:Addr) (m:Str) (sp:Sp) (dvs:List V) (E:XK) (ta:TE) (t:TA):TE:=λ σ H Q=>ta σ H λ x H1=>∃a dx fs,x=.ref a/\H1 a=some (.ins C dx fs)/\fs.lookup m=none/\
 t σ H1 λ vs H2=>sp (x :: (vs++dvs)) H2 Q E
def tMake (C:Addr) (sp:Sp) (dvs:List V) (E:XK) (t:TA):TE:=λ σ H Q=>t σ H λ vs H1=>∀x dx,H1 x=none->H1 dx=none->dx≠x->
 sp (.ref x :: (vs++dvs)) (upd (upd H1 dx (.own x)) x (.ins C dx [])) (λ v H2=>v=.non/\Q (.ref x) H2) E
def Binds (K:c0) (fd:FuncData) (ps:List Str) (ds:List Value):Prop:=
 ∀(s:t0) (us:List Value),K.In s.heap->(us++ds).length=ps.length->BindsTo s fd ⟨us,[]⟩ (ps.zip (us++ds))
theorem Binds.all {K:c0} {fd:FuncData} {ps:List Str} (h :∀us:List Value,us.length=ps.length->bindArgs fd ⟨us,[]⟩=d3 (ps.zip us)):Binds K fd ps []:=λ s us _ a=>by rw [N2] at a⊢;exact .of_eq (h us a)
def Passes (CX:CXT) (X:Cx) (E:XK):Prop:=∀(pins:List (Addr×Obj)) (σ:St) (H:Hp) (s:t0) (e:Value) (s':t0),Inv X pins σ H s->CX X.stack H s E e s'->X.xe e s'
section
variable {X:Cx} {CX:CXT} {k:Nat} {f C:Addr} {fd:FuncData} {ps:List Str} {sp:Sp} {dvs:List V} {ds:List Value} {E:XK} {x m:Str} {p pos apos:Pos} {e o:Expr} {es:List Expr} {ta:TE} {t:TA}
theorem run_fn {pins:List (Addr×Obj)} {σ:St} {H:Hp} {s:t0} {Q:VK} {us:List Value} {vs:List V} (F:FnOk X.prog X.w X.K X.mg X.base CX k f fd ps sp) (hr:Room k X.A) (hb:Binds X.K fd ps ds) (hd:Vals dvs ds) (hx:Passes CX X E)
  (I:Inv X pins σ H s) (r:Vals vs us) (h:sp (vs++dvs) H Q E):O0 (j1 X.prog X.w) X.A (call (.ref f) us) (EP X pins σ Q) X.xe s:=by
 have b:Vals (vs++dvs) (us++ds):=r.append hd;have c:(us++ds).length=ps.length:=by rw [<-b.length];exact F.len _ _ _ _ h
 refine wpAny_call (N9 (F.run X.A X.stack s H ⟨us,[]⟩ (us++ds) (vs++dvs) Q E hr I.env0 (hb s us I.kIn c) b h) λ r d a=>?_);cases r with
 | error e=>exact hx pins σ H s e d I a
 | ok fl=>
  cases fl with
  | ret u=>exact I.after a
  | next=>exact B3 a
  | brk=>exact B3 a
  | cont=>exact B3 a
theorem zkh (F:FnOk X.prog X.w X.K X.mg X.base CX k f fd ps sp) (hr:Room k X.A) (hg:Gl X x) (hm:X.mg x=some (.ref f)) (hk:M3 X.K (.ref f)=true) (hb:Binds X.K fd ps ds) (hd:Vals dvs ds) (hx:Passes CX X E)
  (ha:PA X (e :: es) t) (hdb:(x == ("__debug__" : Str))=false:=by decide) (he:A1 (e :: es) X.env=(false,Y2 e X.env) :: A1 es X.env:=by rfl) (hpl:(Z3 pos (A1 es X.env)).any (·.1)=false:=by rfl) :
  PE X (.Call (.Name x p) (e :: es) [] pos) (tCall sp dvs E t):=by
 intro a s σ H Q I h;refine u5 (z85 I hg hm ?_ hdb);refine Y5 (h₀:=X.base) I.ok.mod.kin hk (thn (ha pos a s σ H _ I h) λ b c ⟨vs,H1,I1,r,q⟩=>⟨I1.kIn,?_⟩) he hpl;exact run_fn F hr hb hd hx I1 r q
theorem z78 {pl:Sem Bool} (he:PE X o ta) (c:Cls X.K C) (hm:Meth X.K C m f) (F:FnOk X.prog X.w X.K X.mg X.base CX k f fd ps sp) (hr:Room k X.A) (hb:Binds X.K fd ps ds) (hd:Vals dvs ds) (hx:Passes CX X E) (ha:PA X (e :: es) t)
  (hst:A1 (e :: es) X.env=(false,Y2 e X.env) :: A1 es X.env:=by rfl) (hpl:(Z3 pos (A1 es X.env)).any (·.1)=false:=by rfl)
  (ht:Y2 (.Call (.Attribute o m apos) (e :: es) [] pos) X.env=(do
   let ov <-Y2 o X.env
   j43 apos.atName
   let (f,first) <-j0j [ov] (getMethod ov m pl)
   callWith pos f first (Z3 pos (A1 (e :: es) X.env)) (y9 pos (K6 [] X.env))):=by rfl) :
  PE X (.Call (.Attribute o m apos) (e :: es) [] pos) (tMeth C m sp dvs E ta t):=by
 intro b s σ H Q I h;refine PySem.W.methodCall_KW (pl:=pl) (thn (he b s σ H _ I h) λ u d ⟨x,H1,I1,rx,a,dx,fs,ex,ea,l,q⟩=>?_) ht;subst ex;obtain rfl:u=Value.ref a:=rx;refine zgy I1 ea c hm l ?_;refine Y5 (first:=[.ref a]) (h₀:=X.base) I.ok.mod.kin hm.kp (thn (ha pos b d σ H1 _ I1 q) λ us g ⟨vs,H2,I2,r,q2⟩=>⟨I2.kIn,?_⟩) hst hpl;exact run_fn (us:=.ref a :: us) (vs:=.ref a :: vs) F hr hb hd hx I2 (.cons rfl r) q2
structure Mk (K:c0) (C f:Addr):Prop where
 makes:PySem.W.makesIn K C=true
 init:N3 K (.ref C) "__init__" = some (some (.ref f))
 fn:j2j K (.ref f)=true
 kp:M3 K (.ref C)=true
theorem zkv {pins:List (Addr×Obj)} {σ:St} {H:Hp} {s:t0} {Q:VK} {us:List Value} {vs:List V} (M:Mk X.K C f) (F:FnOk X.prog X.w X.K X.mg X.base CX k f fd ps sp) (hr:Room (k + 1) X.A) (hb:Binds X.K fd ps ds) (hd:Vals dvs ds)
  (hx:Passes CX X E) (I:Inv X pins σ H s) (r:Vals vs us)
  (h :∀x dx,H x=none->H dx=none->dx≠x->sp (.ref x :: (vs++dvs)) (upd (upd H dx (.own x)) x (.ins C dx [])) (λ v H2=>v=.non/\Q (.ref x) H2) E) :
  O0 (j1 X.prog X.w) X.A (call (.ref C) us) (EP X pins σ Q) X.xe s:=by
 have d:=h (s.heap.objs.size + 1) s.heap.objs.size (I.hok.fresh (T3 _)) (I.hok.fresh (B0 _)) (Z0 (O2 _));have b:=Inv.made (C:=C) I;have c:Vals (V.ref (s.heap.objs.size + 1) :: (vs++dvs)) (Value.ref (s.heap.objs.size + 1) :: (us++ds)):=.cons rfl (r.append hd);have i:(Value.ref (s.heap.objs.size + 1) :: us++ds).length=ps.length:=by have e:=c.length;rw [F.len _ _ _ _ d] at e;exact e.symm
 refine wpAny_call (zkr (f:=f) I.kIn M.makes M.init (beq_iff_eq.mp M.fn) (N9 (F.run _ X.stack _ _ ⟨Value.ref (s.heap.objs.size + 1) :: us,[]⟩ (Value.ref (s.heap.objs.size + 1) :: (us++ds)) _ _ E (hr.make C us [])
  (b.env0.make C us []) (hb _ (Value.ref (s.heap.objs.size + 1) :: us) b.kIn i) c d) λ r j a=>?_))
 cases r with
 | error e=>exact hx pins σ _ _ e j b a
 | ok fl=>
  cases fl with
  | ret u=>obtain ⟨v,n,l,o,m,g⟩:=b.after a;subst m;exact ⟨o,⟨V.ref (s.heap.objs.size + 1),n,l,rfl,g⟩⟩
  | next=>exact B3 a
  | brk=>exact B3 a
  | cont=>exact B3 a
theorem z82 (M:Mk X.K C f) (F:FnOk X.prog X.w X.K X.mg X.base CX k f fd ps sp) (hr:Room (k + 1) X.A) (hg:Gl X x) (hm:X.mg x=some (.ref C)) (hb:Binds X.K fd ps ds) (hd:Vals dvs ds) (hx:Passes CX X E)
  (ha:PA X (e :: es) t) (hdb:(x == ("__debug__" : Str))=false:=by decide) (he:A1 (e :: es) X.env=(false,Y2 e X.env) :: A1 es X.env:=by rfl) (hpl:(Z3 pos (A1 es X.env)).any (·.1)=false:=by rfl) :
  PE X (.Call (.Name x p) (e :: es) [] pos) (tMake C sp dvs E t):=by
 intro a s σ H Q I h;refine u5 (z85 I hg hm ?_ hdb);refine Y5 (h₀:=X.base) I.ok.mod.kin M.kp (thn (ha pos a s σ H _ I h) λ b c ⟨vs,H1,I1,r,q⟩=>⟨I1.kIn,?_⟩) he hpl;exact zkv M F hr hb hd hx I1 r q
end
section
variable {X:Cx} {CX:CXT} {k:Nat} {f C:Addr} {fd:FuncData} {ps ks:List Str} {sp:Sp} {E:XK} {x m:Str} {p pos apos kpos:Pos} {e o:Expr} {es:List Expr} {kws:List c6} {te ta:TE} {t tk:TA} {nm:Option Str}
structure KBinds (K:c0) (fd:FuncData) (ps ks:List Str) (g:List Value->List Value->List Value) (gV:List V->List V->List V):Prop where
 to :∀(s:t0) (us ws:List Value),K.In s.heap->(g us ws).length=ps.length->BindsTo s fd ⟨us,ks.zip ws⟩ (ps.zip (g us ws))
 rel :∀{vs:List V} {us:List Value} {zs:List V} {ws:List Value},Vals vs us->Vals zs ws->Vals (gV vs zs) (g us ws)
variable {g:List Value->List Value->List Value} {gV:List V->List V->List V}
end
structure FnScope (N P:List Str) (sc:Scope):Prop where
 kind:sc.kind=.function
 co:sc.isCoroutine=false
 gen:sc.isGenerator=false
 nd:N.Nodup
 pre:N.take P.length=P
 par :∀x∈P,sc.names.lookup x=some .local\/sc.names.lookup x=some .cell
 nofree :∀y∈sc.names,y.2≠.free
theorem zcx {kindOf:Str->Option W6} {x:Str} :∀{binds:List (Str×Value)} {m:Str->Option Value},(∀v,(x,v)∉binds)->bindL kindOf binds m x=m x
 | [],_,_=>rfl
 | (n,v) :: r,m,h=>by
  unfold bindL;rw [zcx λ w a=>h w (E1 _ a)];split
  ·have:x≠n:=by rintro rfl;exact h v F1
   simp [this]
  ·rfl
theorem zd0 {kindOf:Str->Option W6} {x:Str} :∀{binds:List (Str×Value)} {m:Str->Option Value},(∀v,(x,v)∉binds)->bindC kindOf binds m x=m x
 | [],_,_=>rfl
 | (n,v) :: r,m,h=>by
  unfold bindC;rw [zd0 λ w a=>h w (E1 _ a)];split
  ·rfl
  ·have:x≠n:=by rintro rfl;exact h v F1
   simp [this]
theorem zct {kindOf:Str->Option W6} {x:Str} {v:Value} :∀{P:List Str} {vs:List Value} {i:Nat} {m:Str->Option Value},P.Nodup->P[i]? = some x->vs[i]? = some v->kindOf x=some .local->
  bindL kindOf (P.zip vs) m x=some v
 | [],_,_,_,_,h,_,_=>by simp at h
 | _ :: _,[],_,_,_,_,h,_=>by simp at h
 | p :: P,w :: vs,0,m,nd,h1,h2,hk=>by simp at h1 h2;subst h1;subst h2;show bindL kindOf ((p,w) :: P.zip vs) m p=_;unfold bindL;rw [zcx λ v a=>(List.nodup_cons.mp nd).1 (d9 a).1,if_pos hk];simp
 | p :: P,w :: vs,i + 1,m,nd,h1,h2,hk=>by show bindL kindOf ((p,w) :: P.zip vs) m x=_;unfold bindL;exact zct (i:=i) (List.nodup_cons.mp nd).2 (by simpa using h1) (by simpa using h2) hk
theorem zdt {kindOf:Str->Option W6} {x:Str} {v:Value} :∀{P:List Str} {vs:List Value} {i:Nat} {m:Str->Option Value},P.Nodup->P[i]? = some x->vs[i]? = some v->kindOf x≠some .local->
  bindC kindOf (P.zip vs) m x=some v
 | [],_,_,_,_,h,_,_=>by simp at h
 | _ :: _,[],_,_,_,_,h,_=>by simp at h
 | p :: P,w :: vs,0,m,nd,h1,h2,hk=>by simp at h1 h2;subst h1;subst h2;show bindC kindOf ((p,w) :: P.zip vs) m p=_;unfold bindC;rw [zd0 λ v a=>(List.nodup_cons.mp nd).1 (d9 a).1,if_neg hk];simp
 | p :: P,w :: vs,i + 1,m,nd,h1,h2,hk=>by show bindC kindOf ((p,w) :: P.zip vs) m x=_;unfold bindC;exact zdt (i:=i) (List.nodup_cons.mp nd).2 (by simpa using h1) (by simpa using h2) hk
def start (N:List Str) (vs:List V):St:=vs.map some++W1 (N.length - vs.length) none
def cxOf (CX:CXT) (P:Program) (w:V0) (K:c0) (mg:Str->Option Value) (base:Heap) (N:List Str) (qual:Str) (scope:Scope) (f:Addr) (cd:Value) (A:U1) (outer:List Env) (s:t0) (H:Hp) (E:XK):Cx where
 prog:=P
 w:=w
 K:=K
 mg:=mg
 base:=base
 A:=A.deeper (o4 qual scope s.heap.objs.size f cd)
 N:=N
 s₀:=s
 H₀:=H
 env:=o4 qual scope s.heap.objs.size f cd
 outer:=outer
 stack:=o4 qual scope s.heap.objs.size f cd :: outer
 ex:=[]
 calm:=true
 fn:=λ _=>true
 pn:=[]
 xe:=λ e s'=>O0 (j1 P w) (A.deeper (o4 qual scope s.heap.objs.size f cd)) («leaving» (o4 qual scope s.heap.objs.size f cd) e) (λ _ s''=>CX outer H s E e s'') (λ e' s''=>CX outer H s E e' s'') s'
theorem zf0 {sc:Scope} {n:Nat} {x:Str} (h:sc.names.lookup x=some .cell) :∃c,(cellsFrom n sc.names []).lookup x=some c:=by have q:=j30 sc.names n [] (.inl h);exact Option.isSome_iff_exists.mp q
theorem zii {CX:CXT} {P:Program} {w:V0} {K:c0} {mg:Str->Option Value} {base:Heap} {N ps:List Str} {qual:Str} {scope:Scope} {f:Addr} {cd:Value} {A:U1} {outer:List Env} {s s1:t0} {H:Hp} {E:XK} {us:List Value} {vs:List V}
  (S:FnScope N ps scope) (hd:A.handled=none) (e0:Env0 P w K mg base A outer s H) (hl:vs.length=ps.length) (r:Vals vs us)
  (x:InCallC s s.heap.objs.size (bindL (o4 qual scope s.heap.objs.size f cd).kindOf (ps.zip us) λ _=>none) (cellsFrom (s.heap.objs.size + 1) scope.names []) (bindC (o4 qual scope s.heap.objs.size f cd).kindOf (ps.zip us) λ _=>none) s1) :
  Inv (cxOf CX P w K mg base N qual scope f cd A outer s H E) [] (start N vs) H s1:=by
 have I:ps.length<=N.length:=by have:=congrArg j55 S.pre;rw [O4] at this;omega
 obtain ⟨l,J,rfl,C⟩:=x.done;have o :∀b:Addr,b∉(cxOf CX P w K mg base N qual scope f cd A outer s H E).ex:=λ b z=>absurd (show b∈([]:List Addr) from z) (by simp);refine ⟨⟨e0.mod,S.kind,rfl,rfl,B0 _,λ y z c l d=>?_,λ y g=>?_,λ y c _ h=>?_,λ _=>hd,Around.frames_deeper e0.frames,.inr ⟨rfl,rfl⟩,λ b z=>absurd z (o b),e0.bs,e0.bsz,λ b _ _=>o b,λ b z=>absurd z (o b),e0.funs,e0.frf⟩,
  rfl,e0.bare,Un.kept C,⟨_,x.toInCall.ns,λ i y v l d G=>?_⟩,λ y c h=>⟨_,x.cell y c h⟩,e0.hok.fresh (B0 _),λ y c h=>?_,λ p j=>absurd (show p∈([]:List (Addr×Obj)) from j) (by simp),e0.hok.kept C,?_⟩
 ·exact name_of_addr x.apart (T5 l) (T5 d)
 ·have g:scope.names.lookup y=some .cell\/scope.names.lookup y=some .free:=g;rcases g with g|g
  ·exact zf0 g
  ·exact absurd rfl (S.nofree _ (T5 g))
 ·exact J3 (x.above y c (T5 h))
 ·have m:i < vs.length:=by
   unfold start at d;by_cases m:i < vs.length
   ·exact m
   ·rw [B2 (by simpa using m)] at d;rw [y8] at d;split at d<;>cases d
  have D:vs[i]? = some v:=by
   unfold start at d;rw [Q2 (by simpa using m),W0] at d;cases e:vs[i]? with
   | none=>rw [e] at d;cases d
   | some a=>rw [e] at d;cases d;rfl
  obtain ⟨u,t,F⟩:=r.get D;have j:ps[i]? = some y:=by rw [<-S.pre,List.getElem?_take_of_lt (by omega)];exact l
  have B:ps.Nodup:=by rw [<-S.pre];exact S.nd.sublist (List.take_sublist _ _)
  refine ⟨u,F,?_⟩;rcases S.par y (Q0 j) with k|k
  ·exact .inl ⟨k,zct B j t k⟩
  ·obtain ⟨c,e⟩:=zf0 (n:=s.heap.objs.size + 1) k;refine .inr ⟨.inl k,c,e,?_⟩;have q:=x.cell y c e;rw [zdt B j t (by show scope.names.lookup y≠_;rw [k];decide)] at q;exact q
 ·exact e0.hok.fresh (J3 (x.above y c (T5 h)))
 ·unfold start;show _=N.length;rw [K0,G0,V3];omega
theorem fn_of {CX:CXT} {P:Program} {w:V0} {K:c0} {mg:Str->Option Value} {base:Heap} {k:Nat} {f:Addr} {name qual:Str} {params:Arguments} {body:List Stmt} {scope:Scope} {dV kV doc pm cdv ct oc:Value} {an od:Option Addr}
  {osl:Array (Option Value)} {N ps:List Str} {sp:Sp} (lk:K.lookup f=some ⟨oc,od,.func (o6 name qual params body scope dV kV doc pm an cdv ct),osl⟩) (hcd:Y8 K cdv qual=true) (S:FnScope N ps scope)
  (len :∀vs H Q E,sp vs H Q E->vs.length=ps.length)
  (hbody :∀(A:U1) (outer:List Env) (s:t0) (H:Hp) (vs:List V) (Q:VK) (E:XK),Room k (A.deeper (o4 qual scope s.heap.objs.size f cdv))->sp vs H Q E->
   ∃t,PSs (cxOf CX P w K mg base N qual scope f cdv A outer s H E) body t/\t { nx:=λ _ H'=>Q .non H',rt:=Q } (start N vs) H) :
  FnOk P w K mg base CX (k + 1) f (o6 name qual params body scope dV kV doc pm an cdv ct) ps sp:=by
 refine ⟨len,λ A outer s H O D vs Q E h c p r l=>?_⟩;have M:=len _ _ _ _ l;have KX:K.In s.heap:=c.mod.kin.keeps λ b o e=>(c.bs b o e).1;have z:s.heap.NoLimit:=c.mod.nolimit.keeps λ b o e=>(c.bs b o e).1;have C :∀y∈ps.zip D,scope.names.lookup y.1=some .local\/(scope.names.lookup y.1=some .cell/\((cellsFrom (s.heap.objs.size + 1) scope.names []).lookup y.1).isSome=true):=λ ⟨n,v⟩ hy=>by
  rcases S.par n (d9 hy).1 with q|q
  ·exact .inl q
  ·exact .inr ⟨q,j30 _ _ _ (.inl q)⟩
 refine codeAny_call_function h.depth (KX _ _ lk) rfl S.co S.gen rfl (PySem.W.codeRec_of KX hcd) (p _ _ _ _ ?_);refine wpAny_newFunctionEnv_cells S.kind C λ R B m x=>?_;subst B;refine ⟨z.keeps x.toInCall.keep,codeAny_func ?_⟩;obtain ⟨t,L,F⟩:=hbody A outer s H vs Q E (h.deeper _) l;have I:Inv (cxOf CX P w K mg base N qual scope f cdv A outer s H E) [] (start N vs) H m:=zii S h.hd c M r x;refine X2 (L [] m (start N vs) H _ I F) (λ G g a=>?_) λ e g a=>a;have j :∀{d:St} {H':Hp} {v:V} {u:Value},Inv (cxOf CX P w K mg base N qual scope f cdv A outer s H E) [] d H' g->RelV v u->Q v H'->CE outer P w H s Q u g:=
  λ {d H' v u} J i q=>⟨v,H',J.os,J.bare,J.base,J.hok,i,q⟩
 cases G with
 | ret u=>obtain ⟨v,d,H',J,i,q⟩:=a;exact j J i q
 | next=>obtain ⟨d,H',J,q⟩:=a;exact j (v:=V.non) (u:=K2) J rfl q
 | brk=>obtain ⟨_,_,_,q⟩:=a;exact B3 q
 | cont=>obtain ⟨_,_,_,q⟩:=a;exact B3 q
section
variable {X:Cx} {x:Str} {p pos:Pos} {e:Expr} {es:List Expr} {t:TA} {id T:String} {r:List V->Hp->VK->Prop}
def tCB (r:List V->Hp->VK->Prop) (t:TA):TE:=λ σ H Q=>t σ H λ vs H1=>r vs H1 Q
theorem z09 (hc:CallR X (.builtin id) r) (hg:Gl X x) (hm:X.mg x=none) (hv:V6 x=some (.builtin id)) (ha:PA X (e :: es) t) (hn:x≠"__name__":=by decide) (hdb:(x == ("__debug__" : Str))=false:=by decide)
  (he:A1 (e :: es) X.env=(false,Y2 e X.env) :: A1 es X.env:=by rfl) (hpl:(Z3 pos (A1 es X.env)).any (·.1)=false:=by rfl):PE X (.Call (.Name x p) (e :: es) [] pos) (tCB r t):=by
 intro a s σ H Q I h;refine u5 (ld_blt I hg hm hv ?_ hn hdb);exact PyProof.Rows.callWith_builtin1 (thn (ha pos a s σ H _ I h) λ b c ⟨vs,H1,I1,r1,q1⟩=>hc a c σ H1 vs b Q I1 r1 q1) he hpl
theorem z0z (hc:CallR X (.type T) r) (hg:Gl X x) (hm:X.mg x=none) (hv:V6 x=some (.type T)) (ha:PA X (e :: es) t) (hn:x≠"__name__":=by decide) (hdb:(x == ("__debug__" : Str))=false:=by decide)
  (he:A1 (e :: es) X.env=(false,Y2 e X.env) :: A1 es X.env:=by rfl) (hpl:(Z3 pos (A1 es X.env)).any (·.1)=false:=by rfl):PE X (.Call (.Name x p) (e :: es) [] pos) (tCB r t):=by
 intro a s σ H Q I h;refine u5 (ld_blt I hg hm hv ?_ hn hdb);exact E3 (thn (ha pos a s σ H _ I h) λ b c ⟨vs,H1,I1,r1,q1⟩=>hc a c σ H1 vs b Q I1 r1 q1) he hpl
end
end L2
namespace HT
open PySem PyProof.Rows
section
variable {prog:Program} {w:V0} {A:U1} {E:Value->t0->Prop} {s:t0}
theorem cat_tup {t b:Addr} {vs ws:List Value} {Q:Value->t0->Prop} (ht:IsTup s.heap t vs.toArray) (hb:IsTup s.heap b ws.toArray) (hv:vs≠[])
  (h1:ws=[]->Q (.ref t) s) (h2:ws≠[]->Q (.ref s.heap.objs.size) { s with heap:=s.heap.push { cls:=.type "tuple",data:=.seq (vs++ws).toArray } })
  (hsz:vs.length + ws.length<=sizeLine):O0 (j1 prog w) A (M4 .Add (.ref t) (.ref b)) Q E s:=by
 obtain ⟨⟨cls,h,data,d⟩,a,m,n,f⟩:=id ht;obtain ⟨⟨p,j,o,i⟩,c,g,l,k⟩:=id hb;simp only at m f g k;subst m f g k;have e:vs.toArray++ws.toArray=(vs++ws).toArray:=by simp
 by_cases hw:ws=[]
 ·exact concat_meets ⟨_,a,rfl⟩ ⟨_,c,rfl⟩ j2i seq_tuple_add u8 b8 (U7 _ _)
   (tuple_addW1 t b vs.toArray ws.toArray n l h j d i (by simpa using hv) (by simp [hw])) ⟨a,c,h1 hw⟩
 ·refine concat_meets ⟨_,a,rfl⟩ ⟨_,c,rfl⟩ j2i seq_tuple_add u8 b8 (U7 _ _)
   (tuple_addW2 t b vs.toArray ws.toArray n l h j d i (by simpa using hv) (by simpa using hw) (by rw [R0,R0];exact hsz)) ⟨a,c,?_⟩
  rw [e];exact h2 hw
def sIx (n d:Nat):Option Int->Nat
 | none=>d
 | some v=>if v < 0 then (v + (n:Int)).toNat else min v.toNat n
theorem sIx_none (n d:Nat):sIx n d none=d:=rfl
theorem sIx_nat (n d k:Nat):sIx n d (some (k:Int))=min k n:=by show (if (k:Int) < 0 then ((k:Int) + (n:Int)).toNat else min (k:Int).toNat n)=min k n;rw [if_neg (by omega),F6]
theorem sIx_le (n d:Nat) (hd:d<=n) (o:Option Int):sIx n d o<=n:=by
 cases o with
 | none=>exact hd
 | some v=>
  show (if v < 0 then (v + (n:Int)).toNat else min v.toNat n)<=n;by_cases hv:v < 0
  ·rw [if_pos hv];omega
  ·rw [if_neg hv];exact Nat.min_le_right _ _
theorem zjx (v:Int) (n d:Nat):(if v < 0 then max (v + (n:Int)) 0 else min v (n:Int))=((sIx n d (some v):Nat):Int):=by
 show (if v < 0 then max (v + (n:Int)) 0 else min v (n:Int))=(((if v < 0 then (v + (n:Int)).toNat else min v.toNat n):Nat):Int);by_cases hv:v < 0
 ·simp only [if_pos hv];omega
 ·simp only [if_neg hv];omega
theorem zg7 (lo hi:Option Int) (n:Nat):Y6 lo hi 1 (n:Int)=(((sIx n 0 lo:Nat):Int),((sIx n n hi:Nat):Int)):=by
 have a:¬ ((1:Int) < 0):=by omega
 unfold Y6;simp only [a,if_false];refine Prod.ext ?_ ?_
 ·cases lo with
  | none=>rfl
  | some v=>exact zjx v n 0
 ·cases hi with
  | none=>rfl
  | some v=>exact zjx v n n
theorem zhb (i j:Nat):Z4 (i:Int) (j:Int) 1=j - i:=by
 unfold Z4;have a:(1:Int) > 0:=by omega
 simp only [a,if_true,Int.ediv_one];split<;>omega
theorem z9h {v:Value} {o:Option Int} {Q:Option Int->t0->Prop} (p:S9 v o) (h:Q o s):O0 (j1 prog w) A (Builtin.Slice.slicePartIndex v) Q E s:=by
 cases p with
 | none=>exact slicePart_none h
 | int i t=>exact slicePart_int h
theorem z3m {sl:Addr} {vl vu:Value} {lo hi:Option Int} {n:Nat} {Q:Int×Int×Nat->t0->Prop} (hs:s.heap.IsSliceOf sl vl vu .none) (pl:S9 vl lo) (pu:S9 vu hi)
  (h:Q (((sIx n 0 lo:Nat):Int),1,sIx n n hi - sIx n 0 lo) s):O0 (j1 prog w) A (j03 (.ref sl) (d3 (n:Int))) Q E s:=by
 obtain ⟨c,a,d,b⟩:=id hs;unfold j03 Builtin.Slice.sliceFields;refine j0 (j0 (O3 a b (x:=vl) rfl (j0 (O3 a b (x:=vu) rfl (j0 (O3 a b (x:=.none) rfl (D0 ?_)))))));refine j0 (slicePart_none ?_);show O0 _ _ (if ((1:Int) == 0)=true then _ else _) _ _ s;rw [if_neg (by decide)];refine j0 (z9h pl (j0 (z9h pu (j0 (D0 ?_)))));show O0 _ _ (match Y6 lo hi 1 (n:Int) with|(lo,hi)=>d3 (lo,(1:Int),Z4 lo hi 1)) _ _ s;rw [zg7 lo hi n];show O0 _ _ (d3 (((sIx n 0 lo:Nat):Int),(1:Int),Z4 ((sIx n 0 lo:Nat):Int) ((sIx n n hi:Nat):Int) 1)) _ _ s;rw [zhb];exact D0 h
theorem zky (xs:Array Value) (i k:Nat):((K1 k).filterMap λ (m:Nat)=>xs[((i:Int) + (m:Int) * 1).toNat]?).toArray=((xs.toList.drop i).take k).toArray:=by
 have e:(λ (m:Nat)=>xs[((i:Int) + (m:Int) * 1).toNat]?)=λ m=>xs[i + m]?:=by
  funext m;have:((i:Int) + (m:Int) * 1).toNat=i + m:=by omega
  rw [this]
 rw [e];have:=pick_run xs i k;rw [List.filterMap_map] at this;have a:((λ x=>xs[x]?) ∘ λ x=>i + x)=λ m=>xs[i + m]?:=rfl;rw [a] at this;rw [this]
theorem getItem_tuple_cut {t sl:Addr} {items:Array Value} {vl vu:Value} {lo hi:Option Int} {Q:Value->t0->Prop} (ht:IsTup s.heap t items) (hs:s.heap.IsSliceOf sl vl vu .none) (pl:S9 vl lo) (pu:S9 vu hi)
  (hw:¬ (sIx items.size 0 lo=0/\sIx items.size items.size hi=items.size))
  (h:Q (.ref s.heap.objs.size) { s with heap:=s.heap.push { cls:=.type "tuple",data:=.seq ((items.toList.drop (sIx items.size 0 lo)).take (sIx items.size items.size hi - sIx items.size 0 lo)).toArray } })
  (hsz:items.size<=sizeLine):O0 (j1 prog w) A (L8 (.ref t) (.ref sl)) Q E s:=by
 have a:sizeOk (.seq ((items.toList.drop (sIx items.size 0 lo)).take (sIx items.size items.size hi - sIx items.size 0 lo)).toArray):=by show ((items.toList.drop (sIx items.size 0 lo)).take (sIx items.size items.size hi - sIx items.size 0 lo)).toArray.size<=sizeLine;rw [R0,O4,O6,G2];omega
 have k:sIx items.size items.size hi<=items.size:=sIx_le _ _ (B0 _) hi;obtain ⟨d,c,e,i⟩:=id hs;have f:s.TypeIs (.ref sl) "slice":=⟨d,c,e⟩
 unfold L8
 try with_reducible refine A3 ?_
 first|refine j0 (D0 ?_)|skip
 refine j0 (wpAny_sequenceKey ht.typeIs (by decide) ?_);refine j0 (i3 (name:=u3 "__getitem__") ht.typeIs B4
  (P2 B4 ht.typeIs entry_tuple_getitem ?_ (args_tuple_getitem _ _)))
 show O0 _ _ (j02 (.ref t) >>= _) _ _ s;refine j0 (tupleItemsOf_ ht ?_);refine j0 (n5 f ?_);rw [if_pos (by decide)];refine j0 (z3m hs pl pu ?_);have b:¬ ((((sIx items.size 0 lo:Nat):Int) == 0 && (1:Int) == 1 && (sIx items.size items.size hi - sIx items.size 0 lo) == items.size)=true):=by intro q;rw [j3,j3] at q;have g:((sIx items.size 0 lo:Nat):Int)=0:=eq_of_beq q.1.1;have j:sIx items.size items.size hi - sIx items.size 0 lo=items.size:=eq_of_beq q.2;exact hw ⟨by omega,by omega⟩
 show O0 _ _ (if (((sIx items.size 0 lo:Nat):Int) == 0 && (1:Int) == 1 && (sIx items.size items.size hi - sIx items.size 0 lo) == items.size)=true then _ else _) _ _ s;rw [if_neg b,zky];first
  | exact j0 (m:=B5 _) (F3 (D0 ⟨_,rfl,D0 h⟩) a)
  | exact j0 (m:=B5 _) (F3 (j0 (D0 (D0 ⟨_,rfl,D0 h⟩))) a)
  | exact j0 (j0 (m:=B5 _) (F3 (D0 (D0 ⟨_,rfl,D0 h⟩)) a))
  | exact j0 (j0 (m:=B5 _) (F3 (D0 ⟨_,rfl,D0 h⟩) a))
end
end HT
namespace L2
open PySem PySem.Spec PyProof.Rows
abbrev TO:=St->Hp->(Option Int->Hp->Prop)->Prop
def PO (X:Cx) (e:Option Expr) (t:TO):Prop:=
 ∀(pins:List (Addr×Obj)) (s:t0) (σ:St) (H:Hp) (Q:Option Int->Hp->Prop),Inv X pins σ H s->t σ H Q->
  O0 (j1 X.prog X.w) X.A (evalPart e X.env) (λ u s'=>∃o H',Inv X pins σ H' s'/\S9 u o/\Q o H') X.xe s
def zhd:TO:=λ _ H Q=>Q none H
def tPart (t:TE):TO:=λ σ H Q=>t σ H λ x H1=>∃i,x=.int i/\Q (some i) H1
theorem za8 {ns:List Int} :∀{us:List Value},Vals (ns.map V.int) us->U9 us ns:=by
 induction ns with
 | nil=>intro us r;rw [R5] at r;cases r;exact .nil
 | cons n ns ih=>
  intro us r;rw [J1] at r;cases r with
  | cons r1 r2=>obtain ⟨t,e⟩:=r1;subst e;exact .cons n t (ih r2)
section
variable {X:Cx} {e:Expr} {te:TE} {lo hi:Option Expr} {tl th:TO} {pos p2:Pos}
theorem z2e:PO X none zhd:=by intro a s σ H Q I h;rw [evalPart_none];exact D0 ⟨none,H,I,.none,h⟩
theorem z1m (h:PE X e te):PO X (some e) (tPart te):=by intro a s σ H Q I b;rw [evalPart_some];refine thn (h a s σ H _ I b) λ u c ⟨x,H1,I1,r1,q1⟩=>?_;obtain ⟨i,rfl,q⟩:=q1;obtain ⟨t,rfl⟩:=r1;exact ⟨some i,H1,I1,.int i t,q⟩
def SlR (X:Cx) (r:V->Option Int->Option Int->Hp->VK->Prop):Prop:=
 ∀(pins:List (Addr×Obj)) (s:t0) (σ:St) (H:Hp) (x:V) (v vl vu:Value) (lo hi:Option Int) (sl:Addr) (Q:VK),Inv X pins σ H s->RelV x v->s.heap.IsSliceOf sl vl vu .none->S9 vl lo->S9 vu hi->r x lo hi H Q->
  ∃T id,typeLookup (.type T) "__getitem__" = d3 (some (.builtin id))/\s.TypeIs v T/\O0 (j1 X.prog X.w) X.A (L8 v (.ref sl)) (EP X pins σ Q) X.xe s
theorem SlR.or {r r':V->Option Int->Option Int->Hp->VK->Prop} (h:SlR X r) (h':SlR X r'):SlR X (λ x lo hi H Q=>r x lo hi H Q\/r' x lo hi H Q):=by
 intro d s σ H x v e f lo hi b Q I c i a g q;rcases q with q|q
 ·exact h d s σ H x v e f lo hi b Q I c i a g q
 ·exact h' d s σ H x v e f lo hi b Q I c i a g q
def tSl (r:V->Option Int->Option Int->Hp->VK->Prop) (te:TE) (tl th:TO):TE:=λ σ H Q=>te σ H λ x H1=>tl σ H1 λ l H2=>th σ H2 λ u H3=>r x l u H3 Q
theorem z1b {r:V->Option Int->Option Int->Hp->VK->Prop} (hr:SlR X r) (he:PE X e te) (hl:PO X lo tl) (hu:PO X hi th):PE X (.Subscript e (.Slice lo hi none p2) pos) (tSl r te tl th):=by intro c s σ H Q I h;refine j4g (thn (he c s σ H _ I h) λ v m ⟨x,H1,I1,r1,q1⟩=>?_);refine wpAny_Slice (thn (hl c m σ H1 _ I1 q1) λ f n ⟨l,H2,I2,pl,q2⟩=>thn (hu c n σ H2 _ I2 q2) λ d a ⟨u,H3,I3,pu,q3⟩=>?_);rw [evalPart_none];refine D0 ?_;have i:Inv X c σ H3 { a with heap:=a.heap.push { cls:=.type "slice",data:=.fields #[f,d,.none] } }:=I3.kept (t':=a.toks) λ b o q=>C0 _ q;obtain ⟨T,id,k,j,g⟩:=hr c { a with heap:=a.heap.push { cls:=.type "slice",data:=.fields #[f,d,.none] } } σ H3 x v f d l u a.heap.objs.size Q i r1 (j26 ..) pl pu q3;show O0 (j1 X.prog X.w) X.A (j1c e (.Slice lo hi none p2) v (.ref a.heap.objs.size)) (EP X c σ Q) X.xe { a with heap:=a.heap.push { cls:=.type "slice",data:=.fields #[f,d,.none] } };exact j4a (ops:=[.ref a.heap.objs.size,v]) j k g (by with_unfolding_all rfl)
def cutV (xs:List V) (lo hi:Option Int):List V:=(xs.drop (HT.sIx xs.length 0 lo)).take (HT.sIx xs.length xs.length hi - HT.sIx xs.length 0 lo)
theorem z8d (xs:List V) (lo hi:Option Int):(cutV xs lo hi).length<=xs.length:=by unfold cutV;rw [O4,O6];omega
def rSlT (K:c0):V->Option Int->Option Int->Hp->VK->Prop:=λ x lo hi H Q=>∃a xs,x=.ref a/\SqT K H a xs/\
 ¬ (HT.sIx xs.length 0 lo=0/\HT.sIx xs.length xs.length hi=xs.length)/\∀p,H p=none->Q (.ref p) (upd H p (.tup (cutV xs lo hi)))
theorem sl_tup:SlR X (rSlT X.K):=by
 intro y s σ H x v A z d f u Q I l k j p h;obtain ⟨a,c,rfl,t,m,q⟩:=h;cases l;obtain ⟨n,r,i,g⟩:=I.tuple t;have e:n.toArray.size=c.length:=by rw [R0];exact r.length.symm
 refine ⟨"tuple",_,PyProof.Rows.slot_tuple_getitem.lookup,i.typeIs,?_⟩;refine HT.getItem_tuple_cut i k j p (by rw [e];exact m) ?_ (by rw [e];exact g);rw [e];refine ⟨.ref s.heap.objs.size,_,I.laid (t':=s.toks) (o:=.tup (cutV c d f)) (λ b w q=>C0 _ q) (B0 _) ?_,rfl,q _ (I.hok.fresh (B0 _))⟩;exact ⟨F0 (z8d c d f) g,_,(r.drop (HT.sIx c.length 0 d)).take (HT.sIx c.length c.length f - HT.sIx c.length 0 d),IsTupN.new _ _⟩
def rCatT (K:c0):R2:=λ x y H Q=>∃a b xs ys,x=.ref a/\y=.ref b/\SqT K H a xs/\SqT K H b ys/\xs≠[]/\xs.length + ys.length<=sizeLine/\
 (ys=[]->Q (.ref a) H)/\(ys≠[]->∀p,H p=none->Q (.ref p) (upd H p (.tup (xs++ys))))
theorem Vals.nil_iff {xs:List V} {us:List Value} (r:Vals xs us):us=[]↔xs=[]:=by
 cases r with
 | nil=>simp
 | cons _ _=>simp
theorem zar:OpR X (M4 .Add) (rCatT X.K):=by intro B s σ H x y v u Q I m n h;obtain ⟨a,b,k,p,rfl,rfl,i,g,r,e,f,l⟩:=h;cases m;cases n;obtain ⟨D,d,j,_⟩:=I.tuple i;obtain ⟨C,c,t,_⟩:=I.tuple g;refine HT.cat_tup j t (λ z=>r (d.nil_iff.mp z)) (λ z=>⟨.ref a,H,I,rfl,f (c.nil_iff.mp z)⟩) (λ z=>?_) (by rw [<-d.length,<-c.length];exact e);refine ⟨.ref s.heap.objs.size,_,I.laid (t':=s.toks) (o:=.tup (k++p)) (λ b A q=>C0 _ q) (B0 _) ?_,rfl,l (λ w=>z (c.nil_iff.mpr w)) _ (I.hok.fresh (B0 _))⟩;exact ⟨by rw [K0];exact e,_,d.append c,IsTupN.new _ _⟩
end
def ixN (n:Nat) (i:Int):Option Nat:=if 0<=i then (if i < n then some i.toNat else none) else if -(n:Int)<=i then some (i + n).toNat else none
def atI {α:Type} (xs:List α) (i:Int):Option α:=(ixN xs.length i).bind λ j=>xs[j]?
theorem zjq {n:Nat} {i:Int} {j:Nat} (h:ixN n i=some j):seqIndex? i n=some j/\j < n/\-(n:Int)<=i/\i < n:=by
 unfold ixN at h;by_cases h0:0<=i
 ·rw [if_pos h0] at h;by_cases h1:i < n
  ·rw [if_pos h1] at h;have e:i.toNat=j:=P1 h;exact ⟨by rw [seqIndex_of h0 h1,e],by omega,by omega,h1⟩
  ·rw [if_neg h1] at h;cases h
 ·rw [if_neg h0] at h;by_cases h1:-(n:Int)<=i
  ·rw [if_pos h1] at h;have e:(i + n).toNat=j:=P1 h;exact ⟨by rw [seqIndex_neg (by omega) h1,e],by omega,h1,by omega⟩
  ·rw [if_neg h1] at h;cases h
theorem zfz {α:Type} {xs:List α} {i:Int} {v:α} (h:atI xs i=some v) :∃j,seqIndex? i xs.length=some j/\xs[j]? = some v/\j < xs.length/\-(xs.length:Int)<=i/\i < xs.length:=by
 unfold atI at h;cases e:ixN xs.length i with
 | none=>rw [e] at h;cases h
 | some j=>rw [e] at h;obtain ⟨c,b,d,a⟩:=zjq e;exact ⟨j,c,h,b,d,a⟩
theorem z0c {α:Type} {xs:List α} {j:Nat} {v:α} (h:xs[j]? = some v):atI xs (j:Int)=some v:=by
 have a:j < xs.length:=(List.getElem?_eq_some_iff.mp h).1;have e:ixN xs.length (j:Int)=some j:=by unfold ixN;rw [if_pos (by omega),if_pos (by omega)];simp
 unfold atI;rw [e];exact h
def zjt (b:Expr):Prop:=∀o i,j33 b false o i=operate [o,i] (L8 o i)
def IxR (X:Cx) (r:R2):Prop:=
 ∀(value slice:Expr) (pins:List (Addr×Obj)) (s:t0) (σ:St) (H:Hp) (x y:V) (v u:Value) (Q:VK),Inv X pins σ H s->RelV x v->RelV y u->r x y H Q->
  j33 slice false v u=operate [v,u] (L8 v u)->O0 (j1 X.prog X.w) X.A (j1c value slice v u) (EP X pins σ Q) X.xe s
def MtR (X:Cx) (id:String) (r:V->List V->Hp->VK->Prop):Prop:=
 ∀(pins:List (Addr×Obj)) (s:t0) (σ:St) (H:Hp) (x:V) (xs:List V) (v:Value) (us:List Value) (Q:VK),Inv X pins σ H s->RelV x v->Vals xs us->r x xs H Q->
  O0 (j1 X.prog X.w) X.A (call (.builtin id) (v :: us)) (EP X pins σ Q) X.xe s
section
variable {X:Cx} {a b:Expr} {ta tb:TE} {pos:Pos}
theorem IxR.or {r r':R2} (h:IxR X r) (h':IxR X r'):IxR X (λ x y H Q=>r x y H Q\/r' x y H Q):=by
 intro e c b s σ H x y v u Q I a d q f;rcases q with q|q
 ·exact h e c b s σ H x y v u Q I a d q f
 ·exact h' e c b s σ H x y v u Q I a d q f
theorem pe_ix {r:R2} (hr:IxR X r) (ha:PE X a ta) (hb:PE X b tb) (hs:zjt b):PE X (.Subscript a b pos) (tOp r ta tb):=by intro d s σ H Q I h;exact j4g (binT ha hb I h λ v u g x y i e c f q=>hr a b d g σ i x y v u Q e c f q (hs _ _))
def rIxL (K:c0):R2:=λ x y H Q=>∃p xs i v,x=.ref p/\y=.int i/\SqL K H p xs/\atI xs i=some v/\Q v H
def rIxT (K:c0):R2:=λ x y H Q=>∃p xs i v,x=.ref p/\y=.int i/\SqT K H p xs/\atI xs i=some v/\Q v H
def rIxS:R2:=λ x y H Q=>∃z i c,x=.str z/\y=.int i/\z.length<=sizeLine/\atI z.cps.toList i=some c/\Q (.str ⟨#[c]⟩) H
theorem ix_list:IxR X (rIxL X.K):=by
 intro N J e s σ H x y v u Q I B C h f;obtain ⟨p,L,i,z,rfl,rfl,n,m,q⟩:=h;cases B;obtain ⟨t,rfl⟩:=C;obtain ⟨E,r,b,M⟩:=I.list n;obtain ⟨j,a,l,G,o,A⟩:=zfz m;obtain ⟨w,g,k⟩:=r.get l;have F:=r.length;have O:=line63;have d:EP X e σ Q w s:=⟨z,H,I,k,q⟩
 by_cases h0:0<=i
 ·have c:i.toNat=j:=by rw [seqIndex_of h0 A] at a;exact P1 a
  exact item_listR b.isList h0 (by omega) (by rw [c];simpa using g) d f
 ·have c:(i + (E.toArray.size:Int)).toNat=j:=by rw [seqIndex_neg (by omega) o] at a;rw [R0,<-F];exact P1 a
  exact subscriptTail_builtinR (x:=w) b.isList.typeIs slot_list_getitem.lookup
   (wpAny_getItem_list_neg (Q:=λ r D=>r=w/\EP X e σ Q r D) b.isList (by omega) (by rw [R0]<;>omega) (by omega) (by rw [c];simpa using g) ⟨rfl,d⟩) f
theorem ix_tup:IxR X (rIxT X.K):=by
 intro L D b s σ H x y v u Q I l m h k;obtain ⟨p,E,i,z,rfl,rfl,g,f,q⟩:=h;cases l;obtain ⟨t,rfl⟩:=m;obtain ⟨M,r,a,F⟩:=I.tuple g;obtain ⟨j,n,d,C,G,J⟩:=zfz f;obtain ⟨w,B,c⟩:=r.get d;have A:=r.length;have N:=line63;have e:EP X b σ Q w s:=⟨z,H,I,c,q⟩
 exact subscriptTail_builtinR (x:=w) a.typeIs slot_tuple_getitem.lookup
  (getItem_tuple (j:=j) (Q:=λ r o=>r=w/\EP X b σ Q r o) a (by omega) (by omega) (by rw [R0,<-A];exact n) (by simpa using B) ⟨rfl,e⟩) k
theorem ix_str:IxR X rIxS:=by
 intro C A w s σ H x y v u Q I l m h f;obtain ⟨z,i,c,rfl,rfl,B,e,q⟩:=h;obtain ⟨t,rfl⟩:=l;obtain ⟨r,rfl⟩:=m;obtain ⟨j,a,b,p,g,k⟩:=zfz e;have o:z.cps.toList.length=z.length:=by simp [Str.length]
 rw [o] at a g k;have D:=line63;exact j4a (typeIs_str s z t) slot_str_getitem.lookup (getItem_str (c:=c) (by have n:decide (i < -(2 ^ 63:Int))=false:=decide_eq_false (by omega);have d:decide (i ≥ 2 ^ 63)=false:=decide_eq_false (by omega);rw [n,d,Bool.or_false]) (by rw [a];simpa using b) ⟨.str ⟨#[c]⟩,H,I.tok _,⟨_,rfl⟩,q⟩) f
def rIx (K:c0):R2:=λ x y H Q=>rIxL K x y H Q\/rIxT K x y H Q\/rIxS x y H Q
theorem ix_seq:IxR X (rIx X.K):=ix_list.or (ix_tup.or ix_str)
theorem zes (its:List Value) (n j:Nat) (u:Value):P5 (·.setIfInBounds j u) { cls:=.type "list",data:=.seq its.toArray n }={ cls:=.type "list",data:=.seq (its.set j u).toArray n }:=by simp [P5]
theorem Inv.lst {pins:List (Addr×Obj)} {σ:St} {H:Hp} {s:t0} {p:Addr} {xs:List V} (I:Inv X pins σ H s) (h:H p=some (.lst xs)) :
  ∃(its:List Value) (n:Nat),Vals xs its/\s.heap.get? p=some { cls:=.type "list",data:=.seq its.toArray n }/\xs.length<=sizeLine:=by
 obtain ⟨z,its,n,r,e⟩:=I.hok p _ h;exact ⟨its,n,r,e,z⟩
theorem Inv.lstUpd {pins:List (Addr×Obj)} {σ:St} {H:Hp} {s:t0} {p:Addr} {xs ys:List V} {its its':List Value} {n n':Nat} {f:Obj->Obj} (I:Inv X pins σ H s) (h:H p=some (.lst xs))
  (ho:s.heap.get? p=some { cls:=.type "list",data:=.seq its.toArray n }) (hf:f { cls:=.type "list",data:=.seq its.toArray n }={ cls:=.type "list",data:=.seq its'.toArray n' }) (r:Vals ys its') (hz:ys.length<=sizeLine) (t:Nat) :
  Inv X pins σ (upd H p (.lst ys)) { s with heap:=s.heap.update p f,toks:=t }:=by
 have e:(s.heap.update p f).get? p=some { cls:=.type "list",data:=.seq its'.toArray n' }:=by rw [o9 f ho (by rw [hf]<;>rfl),hf]
 refine I.write (x:=p) (e:=p) (by rw [h];trivial) (.inl rfl) (λ b u a q=>(O8 _ _ (R3 a)).trans q) ⟨_,e⟩ ?_;exact ⟨hz,its',n',r,e⟩
def rSetL:V->V->V->Hp->(Hp->Prop)->Prop:=λ o i v H Q=>∃p xs k j,o=.ref p/\i=.int k/\H p=some (.lst xs)/\ixN xs.length k=some j/\Q (upd H p (.lst (xs.set j v)))
theorem z8n:PSet X rSetL:=by
 intro x s σ H o i v D F u Q I w A B h;obtain ⟨p,y,k,j,rfl,rfl,f,C,q⟩:=h;cases w;obtain ⟨t,rfl⟩:=A;obtain ⟨m,n,r,b,z⟩:=I.lst f;obtain ⟨a,E,e,g⟩:=zjq C;have c:=r.length;have G:=line63;have l:Inv X x σ (upd H p (.lst (y.set j v))) { s with heap:=s.heap.update p (P5 (·.setIfInBounds j u)) }:=
  I.lstUpd f b (zes m n j u) (r.set B j) (by rw [j24];exact z) s.toks
 by_cases h0:0<=k
 ·have d:k.toNat=j:=by rw [seqIndex_of h0 g] at a;exact P1 a
  exact PySem.W.ki_setAt b h0 (by omega) (by rw [R0,<-c];exact g) (by rw [d];exact ⟨_,l,q⟩)
 ·have d:(k + (m.toArray.size:Int)).toNat=j:=by rw [seqIndex_neg (by omega) e] at a;rw [R0,<-c];exact P1 a
  exact PySem.W.ki_setBack b (by omega) (by rw [R0,<-c];exact e) (by omega) (by rw [d];exact ⟨_,l,q⟩)
theorem zbx (lo hi:Option Int) (n:Nat):(W2 lo hi none n).1=((HT.sIx n 0 lo:Nat):Int)/\(W2 lo hi none n).2.1=((HT.sIx n n hi:Nat):Int)/\(W2 lo hi none n).2.2=1:=by
 refine ⟨?_,?_,rfl⟩
 ·cases lo with
  | none=>simp [W2,HT.sIx]
  | some i=>
   simp only [W2,HT.sIx,Option.getD_none,show (1:Int) > 0 by decide,if_true];by_cases h:i < 0
   ·simp only [h,if_true]<;>omega
   ·simp only [h,if_false]<;>omega
 ·cases hi with
  | none=>simp [W2,HT.sIx]
  | some i=>
   simp only [W2,HT.sIx,Option.getD_none,show (1:Int) > 0 by decide,if_true];by_cases h:i < 0
   ·simp only [h,if_true]<;>omega
   ·simp only [h,if_false]<;>omega
theorem zap (its:List Value) (lo hi:Option Int):slicePick its.toArray lo hi none=((its.drop (HT.sIx its.length 0 lo)).take (HT.sIx its.length its.length hi - HT.sIx its.length 0 lo)).toArray:=by obtain ⟨b,a,c⟩:=zbx lo hi its.toArray.size;unfold slicePick;rw [b,a,c];simp only [sliceRange_one,pick_run,R0]<;>rfl
def rSlL (K:c0):V->Option Int->Option Int->Hp->VK->Prop:=λ x lo hi H Q=>∃a xs,x=.ref a/\SqL K H a xs/\∀p,H p=none->Q (.ref p) (upd H p (.lst (cutV xs lo hi)))
theorem sl_list:SlR X (rSlL X.K):=by intro u s σ H x v y w d e p Q I k j g m h;obtain ⟨a,c,rfl,n,q⟩:=h;cases k;obtain ⟨z,r,f,i⟩:=I.list n;have l:=r.length;refine ⟨"list",_,slot_list_getitem.lookup,f.isList.typeIs,?_⟩;refine wpAny_getItem_list_slice f.isList j g m .none (by simp) ?_ (by rw [R0]<;>omega);rw [zap,<-l];refine ⟨.ref s.heap.objs.size,_,I.laid (t':=s.toks) (o:=.lst (cutV c d e)) (λ b t q=>C0 _ q) (B0 _) ?_,rfl,q _ (I.hok.fresh (B0 _))⟩;exact ⟨F0 (z8d c d e) i,_,0,(r.drop (HT.sIx c.length 0 d)).take (HT.sIx c.length c.length e - HT.sIx c.length 0 d),P0 _ rfl⟩
def flatV:V->Bool
 | .non=>true
 | .bl _=>true
 | .int _=>true
 | .str _=>true
 | _=>false
def eqV:V->V->Bool
 | .non,.non=>true
 | .bl a,.bl b=>a == b
 | .bl a,.int b=>(if a then 1 else 0) == b
 | .int a,.bl b=>a == (if b then 1 else 0)
 | .int a,.int b=>a == b
 | .str a,.str b=>a == b
 | _,_=>false
theorem eqAt_V {A:U1} {s:t0} {y x:V} {u v:Value} (ry:RelV y u) (rx:RelV x v) (fy:flatV y=true) (fx:flatV x=true):SeqAt.EqAt A s u v (eqV y x):=by
 cases y with
 | non=>
  cases ry;cases x with
  | non=>cases rx;exact SeqAt.EqAt.same _
  | bl b=>cases rx;exact SeqAt.EqAt.none_bool b
  | int b=>obtain ⟨t,rfl⟩:=rx;exact SeqAt.EqAt.none_int b t
  | str b=>obtain ⟨t,rfl⟩:=rx;exact SeqAt.EqAt.none_str b t
  | _=>exact absurd (show false=true from fx) S0
 | bl a=>
  cases ry;cases x with
  | non=>cases rx;exact SeqAt.EqAt.bool_none a
  | bl b=>cases rx;exact SeqAt.EqAt.bool_bool a b
  | int b=>obtain ⟨t,rfl⟩:=rx;exact SeqAt.EqAt.bool_int a b t
  | str b=>obtain ⟨t,rfl⟩:=rx;exact SeqAt.EqAt.bool_str a b t
  | _=>exact absurd (show false=true from fx) S0
 | int a=>
  obtain ⟨c,rfl⟩:=ry;cases x with
  | non=>cases rx;exact SeqAt.EqAt.int_none a c
  | bl b=>cases rx;exact SeqAt.EqAt.int_bool a c b
  | int b=>obtain ⟨t,rfl⟩:=rx;exact SeqAt.EqAt.int_int a c b t
  | str b=>obtain ⟨t,rfl⟩:=rx;exact j36 a c b t
  | _=>exact absurd (show false=true from fx) S0
 | str a=>
  obtain ⟨c,rfl⟩:=ry;cases x with
  | non=>cases rx;exact SeqAt.EqAt.str_none a c
  | bl b=>cases rx;exact SeqAt.EqAt.str_bool a c b
  | int b=>obtain ⟨t,rfl⟩:=rx;exact j35 a c b t
  | str b=>obtain ⟨t,rfl⟩:=rx;exact j34 a c b t
  | _=>exact absurd (show false=true from fx) S0
 | _=>exact absurd (show false=true from fy) S0
def eqU (x:V) (u:Value):Bool:=match u with
 | .none=>eqV .non x
 | .bool b=>eqV (.bl b) x
 | .int i _=>eqV (.int i) x
 | .str z _=>eqV (.str z) x
 | _=>false
theorem eqU_of {x y:V} {u:Value} (r:RelV y u) (f:flatV y=true):eqU x u=eqV y x:=by
 cases y with
 | non=>cases r;rfl
 | bl b=>cases r;rfl
 | int i=>obtain ⟨t,rfl⟩:=r;rfl
 | str z=>obtain ⟨t,rfl⟩:=r;rfl
 | _=>exact absurd (show false=true from f) S0
theorem zah {x:V} :∀{xs:List V} {us:List Value},Vals xs us->xs.all flatV=true->us.any (eqU x)=xs.any λ y=>eqV y x
 | _,_,.nil,_=>rfl
 | y :: xs,u :: us,.cons r t,f=>by rw [List.all_cons,j3] at f;rw [i8,i8,eqU_of r f.1,zah t f.2]
theorem z6f {A:U1} {s:t0} {x:V} {v:Value} (rx:RelV x v) (fx:flatV x=true) :∀{xs:List V} {us:List Value},Vals xs us->xs.all flatV=true->∀u∈us,SeqAt.EqAt A s u v (eqU x u)
 | _,_,.nil,_=>λ u a=>by cases a
 | y :: xs,u :: us,.cons r t,f=>λ b a=>by
  rw [List.all_cons,j3] at f;rcases List.mem_cons.mp a with rfl|a
  ·rw [eqU_of r f.1];exact eqAt_V r rx f.1 fx
  ·exact z6f rx fx t f.2 b a
def inV (x:V) (xs:List V):Bool:=xs.any λ y=>eqV y x
def rIn (K:c0) (neg:Bool):R2:=λ x y H Q=>∃p xs,y=.ref p/\(SqL K H p xs\/SqT K H p xs)/\flatV x=true/\xs.all flatV=true/\Q (.bl (if neg then !inV x xs else inV x xs)) H
theorem z28:OpR X (J2 .In) (rIn X.K false):=by
 intro j s σ H x y v u Q I f i h;obtain ⟨p,k,rfl,a,e,fs,q⟩:=h;cases i;rcases a with a|a
 ·obtain ⟨b,r,c,g⟩:=I.list a;refine SeqAt.in_listAt (eqU x) c.isList (λ w d=>z6f f e r fs w (by simpa using d)) ⟨.bl _,H,I,rfl,?_⟩;rw [show b.toArray.any (eqU x)=b.any (eqU x) by simp,zah r fs];exact q
 ·obtain ⟨b,r,c,g⟩:=I.tuple a;refine SeqAt.in_tupleAt (eqU x) c (λ w d=>z6f f e r fs w (by simpa using d)) ⟨.bl _,H,I,rfl,?_⟩;rw [show b.toArray.any (eqU x)=b.any (eqU x) by simp,zah r fs];exact q
theorem z2u:OpR X (J2 .NotIn) (rIn X.K true):=by
 intro j s σ H x y v u Q I f i h;obtain ⟨p,k,rfl,a,e,fs,q⟩:=h;cases i;rcases a with a|a
 ·obtain ⟨b,r,c,g⟩:=I.list a;refine SeqAt.notIn_listAt (eqU x) c.isList (λ w d=>z6f f e r fs w (by simpa using d)) ⟨.bl _,H,I,rfl,?_⟩;rw [show b.toArray.any (eqU x)=b.any (eqU x) by simp,zah r fs];exact q
 ·obtain ⟨b,r,c,g⟩:=I.tuple a;refine SeqAt.notIn_tupleAt (eqU x) c (λ w d=>z6f f e r fs w (by simpa using d)) ⟨.bl _,H,I,rfl,?_⟩;rw [show b.toArray.any (eqU x)=b.any (eqU x) by simp,zah r fs];exact q
theorem call_len_seq:CallR X (.builtin "len") (λ xs H Q=>∃p ys,xs=[.ref p]/\(SqL X.K H p ys\/SqT X.K H p ys)/\Q (.int ys.length) H):=by
 intro i s σ H xs j Q I r h;obtain ⟨p,ys,rfl,a,q⟩:=h;obtain ⟨u,rfl,e⟩:=vals1 r;cases e;have k:=line63;rcases a with a|a
 ·obtain ⟨f,c,b,g⟩:=I.list a;have d:=c.length;exact Calls.call_len_list b.isList (by simp only [R0]<;>omega) ⟨.int ys.length,H,I.tok _,⟨s.toks + 1,by rw [R0,d]⟩,q⟩
 ·obtain ⟨f,c,b,g⟩:=I.tuple a;have d:=c.length;exact len_tuple b (by simp only [R0]<;>omega) ⟨.int ys.length,H,I.tok _,⟨s.toks + 1,by rw [R0,d]⟩,q⟩
theorem zba:CallR X (.builtin "len") (λ xs H Q=>∃z,xs=[.str z]/\z.length<=sizeLine/\Q (.int z.length) H):=by intro a s σ H xs b Q I r h;obtain ⟨z,rfl,d,q⟩:=h;obtain ⟨u,rfl,t,rfl⟩:=vals1 r;have c:=line63;exact len_str (by omega) ⟨.int z.length,H,I.tok _,⟨_,rfl⟩,q⟩
theorem CallR.or {f:Value} {r r':List V->Hp->VK->Prop} (h:CallR X f r) (h':CallR X f r'):CallR X f (λ xs H Q=>r xs H Q\/r' xs H Q):=by
 intro a s σ H xs c Q I b q;rcases q with q|q
 ·exact h a s σ H xs c Q I b q
 ·exact h' a s σ H xs c Q I b q
theorem z0l:CallR X (.type "tuple") (λ xs H Q=>∃p ys,xs=[.ref p]/\((SqL X.K H p ys/\∀l,H l=none->Q (.ref l) (upd H l (.tup ys)))\/(SqT X.K H p ys/\Q (.ref p) H))):=by
 intro i s σ H xs v Q I r h;obtain ⟨p,ys,rfl,h⟩:=h;obtain ⟨u,rfl,n⟩:=vals1 r;cases n;rcases h with ⟨f,q⟩|⟨f,q⟩
 ·obtain ⟨g,d,c,k⟩:=I.list f;have x:=d.length;refine call_tuple_list c.isList (λ a t=>?_) (by simp only [R0]<;>omega);have j:Inv X i σ H { s with heap:=a }:=I.kept (t':=s.toks) t;have m:Inv X i σ (upd H a.objs.size (.tup ys)) { s with heap:=a.push { cls:=.type "tuple",data:=.seq g.toArray } }:=
   j.laid (t':=s.toks) (λ b o e=>C0 _ e) (B0 _) (show ObjOk X.prog X.w _ _ _ (.tup ys) from ⟨k,g,d,IsTupN.new _ _⟩)
  exact ⟨.ref a.objs.size,_,m,rfl,q _ (j.hok.fresh (B0 _))⟩
 ·obtain ⟨g,d,c,k⟩:=I.tuple f;exact call_tuple_same c ⟨.ref p,H,I,rfl,q⟩
def tyV (K:c0) (T:String) (x:V) (H:Hp):Prop:=match x with
 | .str _=>T = "str"
 | .int _=>T = "int"
 | .ref p=>(T = "list"/\∃xs,SqL K H p xs)\/(T = "tuple"/\∃o,K.lookup p=some o/\o.cls=.type "tuple"/\o.dict=none)\/
   (T = "dict"/\((∃kvs,H p=some (.dK kvs))\/∃kvs,H p=some (.dT kvs)))\/(T = "set"/\∃S n,H p=some (.set S n))
 | _=>False
theorem tyV_is {pins:List (Addr×Obj)} {σ:St} {H:Hp} {s:t0} {T:String} {x:V} {v:Value} (I:Inv X pins σ H s) (r:RelV x v) (ty:tyV X.K T x H) :
  s.TypeIs v T/\∀a,v=.ref a->∃ob,s.heap.get? a=some ob/\ob.dict=none:=by
 cases x with
 | str z=>obtain ⟨t,rfl⟩:=r;cases (show T = "str" from ty);exact ⟨typeIs_str s z t,λ _ e=>nomatch e⟩
 | int i=>obtain ⟨t,rfl⟩:=r;cases (show T = "int" from ty);exact ⟨typeIs_int s i t,λ _ e=>nomatch e⟩
 | ref p=>
  cases r;rcases ty with ⟨rfl,m,k⟩|⟨rfl,o,b,hc,f⟩|⟨rfl,b⟩|⟨rfl,S,n,b⟩
  ·obtain ⟨l,_,h,_⟩:=I.list k;refine ⟨h.isList.typeIs,λ a e=>?_⟩;cases e;obtain ⟨o,n,e,c,f,_⟩:=h;exact ⟨o,e,f⟩
  ·refine ⟨⟨o,I.kIn p o b,hc⟩,λ a e=>?_⟩;cases e;exact ⟨o,I.kIn _ o b,f⟩
  ·have z :∃o,s.heap.get? p=some o/\o.ExactDict:=by
    rcases b with ⟨j,b⟩|⟨j,b⟩
    ·obtain ⟨_,_,_,_,o,_,_,e,d,_⟩:=I.hok p _ b;exact ⟨o,e,d⟩
    ·obtain ⟨_,_,_,_,o,_,_,e,d,_⟩:=I.hok p _ b;exact ⟨o,e,d⟩
   obtain ⟨o,e,d⟩:=z;refine ⟨⟨o,e,d.1⟩,λ a g=>?_⟩;cases g;exact ⟨o,e,d.2.1⟩
  ·obtain ⟨o,_,_,_,e,d,_⟩:=I.hok p _ b;refine ⟨⟨o,e,d.1⟩,λ a g=>?_⟩;cases g;exact ⟨o,e,d.2.1⟩
 | _=>exact B3 ty
def tBM0 (K:c0) (T:String) (r:V->List V->Hp->VK->Prop) (to:TE):TE:=λ σ H Q=>to σ H λ x H1=>tyV K T x H1/\r x [] H1 Q
def tBM (K:c0) (T:String) (r:V->List V->Hp->VK->Prop) (to:TE) (t:TA):TE:=λ σ H Q=>to σ H λ x H1=>tyV K T x H1/\t σ H1 λ xs H2=>r x xs H2 Q
variable {o e:Expr} {es:List Expr} {to:TE} {t:TA} {name:Str} {apos cpos:Pos} {T id:String} {r:V->List V->Hp->VK->Prop}
theorem pe_bm0 (pa:PlainAttrs T) (slot:Slot T name id) (hty:j49 (.builtin id)=d3 (.type "method_descriptor")) (hm:MtR X id r) (ho:PE X o to)
  (hbase:S3 o name X.env (Y2 o X.env)=Y2 o X.env:=by rfl) (hline:(apos.endLine == cpos.line)=true:=by rfl):PE X (.Call (.Attribute o name apos) [] [] cpos) (tBM0 X.K T r to):=by
 intro a s σ H Q I h;refine wpAny_Call_method0_late hbase hline (thn (ho a s σ H _ I h) λ v c ⟨x,H1,I1,r1,ty,q1⟩=>?_);obtain ⟨b,d⟩:=tyV_is I1 r1 ty;exact ⟨T,id,pa,slot,hty,b,d,B6 rfl (PySem.evalArgs_none (hm a c σ H1 x [] v [] Q I1 r1 .nil q1))⟩
theorem pe_bm (pa:PlainAttrs T) (slot:Slot T name id) (hty:j49 (.builtin id)=d3 (.type "method_descriptor")) (hm:MtR X id r) (ho:PE X o to) (ha:PA X (e :: es) t)
  (hbase:S3 o name X.env (Y2 o X.env)=Y2 o X.env:=by rfl)
  (hfew:((Z3 cpos (A1 (e :: es) X.env)).all (λ x=>!x.1) && (y9 cpos (K6 [] X.env)).all (λ x=>x.1.isSome)
   && decide ((e :: es).length + ([]:List c6).length + (if ([]:List c6).isEmpty then 0 else 1) < 30))=true:=by rfl)
  (hline:(apos.endLine == cpos.line)=true:=by rfl) (hs:A1 (e :: es) X.env=(false,Y2 e X.env) :: A1 es X.env:=by rfl) (hplain:(Z3 cpos (A1 es X.env)).any (·.1)=false:=by rfl) :
  PE X (.Call (.Attribute o name apos) (e :: es) [] cpos) (tBM X.K T r to t):=by
 intro a s σ H Q I h;refine wpAny_Call_method_late hbase hfew hline rfl (thn (ho a s σ H _ I h) λ v d ⟨x,H1,I1,r1,ty,q1⟩=>?_);obtain ⟨c,g⟩:=tyV_is I1 r1 ty;refine ⟨T,id,pa,slot,hty,c,g,?_⟩;have b:=ha cpos a d σ H1 _ I1 q1;rw [hs] at b⊢;refine B6 (by show (false || (Z3 cpos (A1 es X.env)).any (·.1))=false;rw [hplain]<;>rfl) (X6 ?_);exact thn b λ f i ⟨vs,H2,I2,r2,q2⟩=>hm a i σ H2 x vs v f Q I2 r1 r2 q2
end
def MtM (X:Cx) (id:String) (r:V->List V->Hp->VK->Prop):Prop:=
 ∀(pins:List (Addr×Obj)) (s:t0) (σ:St) (H:Hp) (x:V) (xs:List V) (v:Value) (us:List Value) (Q:VK),Inv X pins σ H s->RelV x v->Vals xs us->r x xs H Q->
  O0 (j1 X.prog X.w) X.A (call (.builtin id) (v :: us)) (EP X pins σ Q) X.xe s
theorem Vals.one :∀{x:V} {us:List Value},Vals [x] us->∃u,us=[u]/\RelV x u
 | _,_,.cons r .nil=>⟨_,rfl,r⟩
theorem Vals.zero :∀{us:List Value},Vals [] us->us=[]
 | _,.nil=>rfl
theorem Vals.dropLast {xs:List V} {us:List Value} (h:Vals xs us):Vals xs.dropLast us.dropLast:=by
 induction h with
 | nil=>exact .nil
 | cons r t ih=>
  cases t with
  | nil=>exact .nil
  | cons q t'=>exact .cons r ih
theorem zfc {α:Type} (l:List α):l.eraseIdx (l.length - 1)=l.dropLast:=by
 induction l with
 | nil=>rfl
 | cons a r ih=>
  cases r with
  | nil=>rfl
  | cons b r=>
   have e:(a :: b :: r).length - 1=((b :: r).length - 1) + 1:=by have d:(a :: b :: r).length=r.length + 2:=rfl;have c:(b :: r).length=r.length + 1:=rfl;omega
   rw [e,List.eraseIdx_cons_succ,ih]
   all_goals rfl
section
variable {X:Cx} {pins:List (Addr×Obj)} {σ:St} {H:Hp} {s:t0} {l b:Addr} {xs ys zs:List V}
theorem Inv.lset {its its':List Value} {n:Nat} {f:Array Value->Array Value} {t':Nat} (I:Inv X pins σ H s) (hH:H l=some (.lst xs))
  (e:s.heap.get? l=some { cls:=.type "list",data:=.seq its.toArray n }) (hf:f its.toArray=its'.toArray) (hv:Vals ys its') (hz:ys.length<=sizeLine) :
  Inv X pins σ (upd H l (.lst ys)) { s with heap:=s.heap.update l (P5 f),toks:=t' }:=by
 have q:=PySem.IsL.update e f;rw [hf] at q;refine I.write (x:=l) (e:=l) (by rw [hH];exact trivial) (.inl rfl) (λ c u b a=>(O8 s.heap (P5 f) (R3 b)).trans a) ⟨_,q⟩ ?_;exact ⟨hz,its',_,hv,q⟩
theorem Inv.lnew {its:List Value} {t':Nat} (I:Inv X pins σ H s) (hv:Vals ys its) (hz:ys.length<=sizeLine) :
  Inv X pins σ (upd H s.heap.objs.size (.lst ys)) { s with heap:=s.heap.push { cls:=.type "list",data:=.seq its.toArray },toks:=t' }:=
 I.laid (λ _ _ q=>C0 _ q) (B0 _) ⟨hz,its,0,hv,P0 _ rfl⟩
theorem Inv.fresh (I:Inv X pins σ H s):H s.heap.objs.size=none:=I.hok.fresh (B0 _)
theorem Inv.lstM (I:Inv X pins σ H s) (hH:H l=some (.lst xs)):xs.length<=sizeLine/\∃(its:List Value) (n:Nat),Vals xs its/\xs.length=its.length/\s.heap.get? l=some { cls:=.type "list",data:=.seq its.toArray n }:=by obtain ⟨z,its,n,r,e⟩:=I.hok l _ hH;exact ⟨z,its,n,r,r.length,e⟩
theorem zlm {n:Nat} (h:n<=sizeLine):j7 n=false:=by unfold j7;exact decide_eq_false (by omega)
end
section
variable {X:Cx}
def zf7:V->List V->Hp->VK->Prop:=λ x vs H Q=>∃l xs y,x=.ref l/\vs=[y]/\H l=some (.lst xs)/\xs.length < sizeLine/\Q .non (upd H l (.lst (xs++[y])))
theorem zis:MtM X "list.append" zf7:=by intro i s σ H x g v k Q I d c h;obtain ⟨l,j,y,rfl,rfl,a,m,q⟩:=h;cases d;obtain ⟨u,rfl,f⟩:=c.one;obtain ⟨z,b,n,r,o,e⟩:=I.lstM a;refine j1j F.slot_list_append ⟨_,e,rfl⟩ F.entry_list_append (F.args_list_append_2 _ _) (PySem.list_append l b.toArray n u (by rw [R0];omega)) ⟨e,?_⟩;refine ⟨.non,_,I.lset (its':=b++[u]) a e (by simp) (r.append (.cons f .nil)) ?_,rfl,q⟩;rw [K0,List.length_singleton];omega
def zk0:V->List V->Hp->VK->Prop:=λ x vs H Q=>∃l b xs zs,x=.ref l/\vs=[.ref b]/\H l=some (.lst xs)/\H b=some (.lst zs)/\xs.length + zs.length<=sizeLine/\Q .non (upd H l (.lst (xs++zs)))
theorem zir:MtM X "list.extend" zk0:=by
 intro y s σ H x w v B Q I o f h;obtain ⟨l,b,A,D,rfl,rfl,d,m,C,q⟩:=h;cases o;obtain ⟨u,rfl,t⟩:=f.one;cases t;obtain ⟨z,a,n,r,J,e⟩:=I.lstM d;obtain ⟨E,c,k,g,G,j⟩:=I.lstM m;have p:a.toArray.size + c.toArray.size<=sizeLine:=by rw [R0,R0];omega
 have i:¬ (not a.toArray.isEmpty && j7 (a.toArray.size + c.toArray.size))=true:=by rw [zlm p,K9];exact S0
 refine j1j F.slot_list_extend ⟨_,e,rfl⟩ F.entry_list_extend (F.args_list_extend_2 _ _)
  (AutoSeq1.list_extend_list_list_0 l a.toArray n b c.toArray k i (by rw [R0];omega) (by omega)) ⟨e,j,?_⟩
 refine ⟨.non,_,I.lset (its':=a++c) d e (by simp) (r.append g) ?_,rfl,q⟩;rw [K0];omega
def rPop:V->List V->Hp->VK->Prop:=λ x vs H Q=>∃l xs y,x=.ref l/\vs=[]/\H l=some (.lst xs)/\xs[xs.length - 1]? = some y/\Q y (upd H l (.lst xs.dropLast))
theorem mt_pop:MtM X "list.pop" rPop:=by
 intro p s σ H x o v w Q I f c h;obtain ⟨l,t,y,rfl,rfl,b,j,q⟩:=h;cases f;have d:=c.zero;subst d;obtain ⟨z,a,n,r,k,e⟩:=I.lstM b;obtain ⟨u,g,m⟩:=r.get j;have i:a.toArray[a.toArray.size - 1]? = some u:=by show a.toArray[a.length - 1]? = some u;rw [<-L6,<-k];exact g
 refine j1j F.slot_list_pop ⟨_,e,rfl⟩ F.entry_list_pop (F.args_list_pop_1 _) (MeetsSeq.list_pop_last l a.toArray n u i (by rw [R0];omega)) ⟨e,?_⟩;refine ⟨y,_,I.lset (its':=a.dropLast) b e ?_ r.dropLast ?_,m,q⟩
 ·show a.toArray.eraseIdxIfInBounds (a.toArray.size - 1)=a.dropLast.toArray;rw [R0,List.eraseIdxIfInBounds_toArray,zfc]
 ·rw [List.length_dropLast];omega
def rCat:R2:=λ x y H Q=>∃l b xs zs,x=.ref l/\y=.ref b/\H l=some (.lst xs)/\H b=some (.lst zs)/\xs.length + zs.length<=sizeLine/\∀p,H p=none->Q (.ref p) (upd H p (.lst (xs++zs)))
theorem op_cat:OpR X (M4 .Add) rCat:=by
 intro p s σ H x y v u Q I k m h;obtain ⟨l,b,t,A,rfl,rfl,g,j,w,q⟩:=h;cases k;cases m;obtain ⟨z,c,n,r,D,e⟩:=I.lstM g;obtain ⟨B,a,o,d,C,f⟩:=I.lstM j;refine PySem.P.add_list e f ?_ (by rw [R0,R0];omega);have i:c.toArray++a.toArray=(c++a).toArray:=by simp
 rw [i];exact ⟨.ref _,_,I.lnew (t':=s.toks) (r.append d) (by rw [K0];omega),rfl,q _ I.fresh⟩
end
section
variable {prog:Program} {w:V0} {A:U1} {E:Value->t0->Prop} {s:t0}
set_option maxRecDepth 100000 in
end
section
variable {κ:Type} [DecidableEq κ]
def valV (kvs:List (κ×V)) (k:κ):Option V:=(kvs.find? λ kv=>decide (kv.1=k)).map (·.2)
def putK (kvs:List (κ×V)) (k:κ) (v:V):List (κ×V):=
 if (kvs.any λ kv=>decide (kv.1=k))=true then kvs.map (λ kv=>if kv.1=k then (kv.1,v) else kv) else kvs++[(k,v)]
def dropK (kvs:List (κ×V)) (k:κ):List (κ×V):=kvs.filter λ kv=>decide (kv.1≠k)
theorem z0u {p:κ×V} {r:List (κ×V)} {k:κ} (e:p.1=k):valV (p :: r) k=some p.2:=by simp [valV,G4,e]
theorem z0q {p:κ×V} {r:List (κ×V)} {k:κ} (e:¬ p.1=k):valV (p :: r) k=valV r k:=by simp [valV,G4,e]
theorem z8t (k:κ) :∀kvs:List (κ×V),(kvs.any λ kv=>decide (kv.1=k))=(valV kvs k).isSome
 | []=>rfl
 | p :: r=>by
  rw [i8];by_cases e:p.1=k
  ·simp only [z0u e,decide_eq_true e,Bool.true_or,Option.isSome_some]
  ·rw [z0q e,decide_eq_false e,j3d];exact z8t k r
theorem zhi (k j:κ) (y:V) :∀kvs:List (κ×V),valV (kvs.map λ kv=>if kv.1=k then (kv.1,y) else kv) j=(valV kvs j).map λ x=>if j=k then y else x
 | []=>rfl
 | p :: r=>by
  have a:=zhi k j y r;rw [J1];by_cases h:p.1=k
  ·rw [if_pos h];by_cases e:p.1=j
   ·rw [z0u (p:=(p.1,y)) e,z0u e,C8,if_pos (e.symm.trans h)]
   ·rw [z0q (p:=(p.1,y)) e,z0q e,a]
  ·rw [if_neg h];by_cases e:p.1=j
   ·rw [z0u (p:=p) e,z0u e,C8,if_neg (λ z=>h (e.trans z))]
   ·rw [z0q (p:=p) e,z0q e,a]
theorem zdp (k j:κ) (y:V) :∀kvs:List (κ×V),valV kvs k=none->valV (kvs++[(k,y)]) j=if j=k then some y else valV kvs j
 | [],_=>by
  by_cases e:k=j
  ·rw [if_pos e.symm];exact z0u (p:=(k,y)) e
  ·rw [if_neg (λ z=>e z.symm)];exact z0q (p:=(k,y)) e
 | p :: r,hn=>by
  rw [List.cons_append];have a:¬ p.1=k:=λ z=>by rw [z0u z] at hn;cases hn
  rw [z0q a] at hn;have b:=zdp k j y r hn;by_cases e:p.1=j
  ·rw [z0u e,z0u e,if_neg (λ z=>a (e.trans z))]
  ·rw [z0q e,z0q e,b]
theorem z5m (kvs:List (κ×V)) (k j:κ) (y:V):valV (putK kvs k y) j=if j=k then some y else valV kvs j:=by
 unfold putK;by_cases a:(kvs.any λ b=>decide (b.1=k))=true
 ·rw [if_pos a,zhi];rw [z8t] at a;by_cases e:j=k
  ·obtain ⟨x,c⟩:=Option.isSome_iff_exists.mp a;rw [if_pos e,e,c,C8,if_pos rfl]
  ·rw [if_neg e];cases valV kvs j with
   | none=>rfl
   | some x=>rw [C8,if_neg e]
 ·rw [if_neg a];refine zdp k j y kvs ?_;rw [z8t] at a;cases q:valV kvs k with
  | none=>rfl
  | some x=>rw [q] at a;exact (a rfl).elim
theorem z5p (kvs:List (κ×V)) (k:κ) (v:V):(putK kvs k v).length<=kvs.length + 1:=by
 unfold putK;split
 ·rw [G0];omega
 ·rw [K0,X0,d7];omega
theorem RelO.isSome_eq {o:Option V} {u:Option Value} (r:RelO o u):o.isSome=u.isSome:=by
 cases o with
 | none=>cases u with
  | none=>rfl
  | some _=>exact (show False from r).elim
 | some _=>cases u with
  | none=>exact (show False from r).elim
  | some _=>rfl
theorem RelO.getD {o:Option V} {u:Option Value} {d:V} {d':Value} (r:RelO o u) (rd:RelV d d'):RelV (o.getD d) (u.getD d'):=by
 cases o with
 | none=>cases u with
  | none=>exact rd
  | some _=>exact (show False from r).elim
 | some _=>cases u with
  | none=>exact (show False from r).elim
  | some _=>exact r
theorem KV.val {kvs:List (κ×V)} {vs:List (κ×Value)} (r:KV kvs vs) (k:κ):RelO (valV kvs k) (j0i vs k):=by
 unfold KV at r;induction r with
 | nil=>exact True.intro
 | @cons p q ps qs h t ih=>
  obtain ⟨c,d⟩:=h;by_cases e:p.1=k
  ·have a:q.1=k:=c.symm.trans e;have b:j0i (q :: qs) k=some q.2:=by simp [j0i,G4,a]
   rw [z0u e,b];exact d
  ·have a:¬ q.1=k:=λ z=>e (c.trans z);have b:j0i (q :: qs) k=j0i qs k:=by simp [j0i,G4,a]
   rw [z0q e,b];exact ih
theorem KV.any {kvs:List (κ×V)} {vs:List (κ×Value)} (r:KV kvs vs) (k:κ):(kvs.any λ kv=>decide (kv.1=k))=vs.any λ kv=>decide (kv.1=k):=by
 unfold KV at r;induction r with
 | nil=>rfl
 | cons h t ih=>rw [i8,i8,ih,h.1]
theorem KV.repl {kvs:List (κ×V)} {vs:List (κ×Value)} (r:KV kvs vs) (k:κ) {y:V} {u:Value} (ry:RelV y u) :
  KV (kvs.map λ kv=>if kv.1=k then (kv.1,y) else kv) (vs.map λ kv=>if kv.1=k then (kv.1,u) else kv):=by
 unfold KV at r⊢;induction r with
 | nil=>exact .nil
 | @cons p q ps qs h t ih=>
  rw [J1,J1];refine .cons ?_ ih;obtain ⟨a,b⟩:=h;by_cases e:p.1=k
  ·rw [if_pos e,if_pos (a.symm.trans e)];exact ⟨a,ry⟩
  ·rw [if_neg e,if_neg (λ z=>e (a.trans z))];exact ⟨a,b⟩
theorem KV.put {kvs:List (κ×V)} {vs:List (κ×Value)} (r:KV kvs vs) (k:κ) {y:V} {u:Value} (ry:RelV y u):KV (putK kvs k y) (stored vs k u):=by
 unfold putK stored;rw [r.any k];by_cases e:(vs.any λ a=>decide (a.1=k))=true
 ·rw [if_pos e,if_pos e];exact r.repl k ry
 ·rw [if_neg e,if_neg e];exact Paired.snoc r ⟨rfl,ry⟩
theorem KV.drop {kvs:List (κ×V)} {vs:List (κ×Value)} (r:KV kvs vs) (k:κ):KV (dropK kvs k) (without vs k):=by
 unfold KV at r⊢;unfold dropK without;induction r with
 | nil=>exact .nil
 | @cons p q ps qs h t ih=>
  obtain ⟨c,f⟩:=h;rw [R4,R4];by_cases e:p.1=k
  ·have a:¬ decide (p.1≠k)=true:=by simp [e]
   have b:¬ decide (q.1≠k)=true:=by simp [c.symm.trans e]
   rw [if_neg a,if_neg b];exact ih
  ·have d:¬ q.1=k:=λ z=>e (c.trans z);have a:decide (p.1≠k)=true:=by simp [e]
   have b:decide (q.1≠k)=true:=by simp [d]
   rw [if_pos a,if_pos b];exact .cons ⟨c,f⟩ ih
theorem KV.keys {kvs:List (κ×V)} {vs:List (κ×Value)} (r:KV kvs vs):kvs.map (·.1)=vs.map (·.1):=by
 unfold KV at r;induction r with
 | nil=>rfl
 | cons h t ih=>rw [J1,J1,ih,h.1]
theorem KV.length {kvs:List (κ×V)} {vs:List (κ×Value)} (r:KV kvs vs):kvs.length=vs.length:=j2f r
theorem zf9 (kvs:List (κ×V)) (k:κ):(dropK kvs k).length<=kvs.length:=V2 _ _
end
theorem kV_is {P:Program} {w:V0} {k:Key} {u:Value} (r:RelV (kV k) u):(z18 P w).is k u=true:=by
 cases k with
 | inl i=>obtain ⟨t,e⟩:=(show∃t,u=t8 i t from r);subst e;exact ze3 P w i t
 | inr x=>obtain ⟨t,e⟩:=(show∃t,u=M6 x t from r);subst e;exact zek P w x t
theorem zde {P:Program} {w:V0} :∀{ks:List Key} {us:List Value},Vals (ks.map kV) us->ItemsAre (z18 P w) ks us
 | [],_,r=>by rw [R5] at r;cases r;exact .nil
 | k :: ks,_,r=>by
  rw [J1] at r;cases r with
  | cons h t=>exact .cons (kV_is h) (zde t)
abbrev KT (H:Hp):List (List Key×V)->List (List Key×Addr×Value)->Prop:=Q9 λ p q=>p.1=q.1/\H q.2.1=some (.tup (p.1.map kV))/\RelV p.2 q.2.2
theorem KT.val {H:Hp} {kvs:List (List Key×V)} {xs:List (List Key×Addr×Value)} (r:KT H kvs xs) (k:List Key):RelO (valV kvs k) ((z9 xs k).map (·.2)):=by
 induction r with
 | nil=>exact True.intro
 | @cons p q ps qs h t ih=>
  obtain ⟨c,_,d⟩:=h;by_cases e:p.1=k
  ·have a:q.1=k:=c.symm.trans e;have b:z9 (q :: qs) k=some q.2:=by simp [z9,G4,a]
   rw [z0u e,b];exact d
  ·have a:¬ q.1=k:=λ z=>e (c.trans z);have b:z9 (q :: qs) k=z9 qs k:=by simp [z9,G4,a]
   rw [z0q e,b];exact ih
theorem KT.repl {H:Hp} {kvs:List (List Key×V)} {xs:List (List Key×Addr×Value)} (r:KT H kvs xs) (k:List Key) {y:V} {u:Value} (ry:RelV y u) :
  KT H (kvs.map λ kv=>if kv.1=k then (kv.1,y) else kv) (xs.map (putAt k u)):=by
 induction r with
 | nil=>exact .nil
 | @cons p q ps qs h t ih=>
  rw [J1,J1];refine .cons ?_ ih;obtain ⟨a,b,c⟩:=h;unfold putAt;by_cases e:p.1=k
  ·rw [if_pos e,if_pos (a.symm.trans e)];exact ⟨a,b,ry⟩
  ·rw [if_neg e,if_neg (λ z=>e (a.trans z))];exact ⟨a,b,c⟩
theorem KT.put {H:Hp} {kvs:List (List Key×V)} {xs:List (List Key×Addr×Value)} (r:KT H kvs xs) (k:List Key) {b:Addr} {y:V} {u:Value} (hb:H b=some (.tup (k.map kV))) (ry:RelV y u) :
  KT H (putK kvs k y) (storedH xs k b u):=by
 have e:(kvs.any λ a=>decide (a.1=k))=(z9 xs k).isSome:=by rw [z8t,(r.val k).isSome_eq,V7]
 unfold putK storedH;rw [e];by_cases q:(z9 xs k).isSome=true
 ·rw [if_pos q,if_pos q];exact r.repl k ry
 ·rw [if_neg q,if_neg q];exact Paired.snoc r ⟨rfl,hb,ry⟩
theorem KT.keeps {H H':Hp} {kvs:List (List Key×V)} {xs:List (List Key×Addr×Value)} (r:KT H kvs xs) (ht :∀b ys,H b=some (.tup ys)->H' b=some (.tup ys)):KT H' kvs xs:=
 Paired.mapP r λ _ _ z=>⟨z.1,ht _ _ z.2.1,z.2.2⟩
section
variable {P:Program} {w:V0} {H:Hp} {h:Heap} {a:Addr}
theorem rd_of {u:HO} (ok:HOk P w H h) (e:Rd H a u):ObjOk P w H h a u:=e.ok ok
theorem dk_rd {kvs:List (Key×V)} (ok:HOk P w H h) (e:Rd H a (.dK kvs)):kvs.length<=sizeLine/\(a == L3)=false/\∃vs,KV kvs vs/\h.DictOf (z18 P w) a vs:=
 show ObjOk P w H h a (.dK kvs) from rd_of ok e
theorem dk_of {kvs:List (Key×V)} (ok:HOk P w H h) (e:H a=some (.dK kvs)):kvs.length<=sizeLine/\(a == L3)=false/\∃vs,KV kvs vs/\h.DictOf (z18 P w) a vs:=dk_rd ok (.inl e)
theorem key_of {ks:List Key} (ok:HOk P w H h) (e:H a=some (.tup (ks.map kV))):(G6 (z18 P w)).is h ks a:=by
 obtain ⟨_,c,r,⟨o,d,f,n,b⟩,_⟩:=(show ObjOk P w H h a (.tup (ks.map kV)) from ok a _ e)
 exact ⟨o,c.toArray,n,d,f,b,by simpa using zde r⟩
theorem dt_rd {kvs:List (List Key×V)} (ok:HOk P w H h) (e:Rd H a (.dT kvs)):kvs.length<=sizeLine/\(a == L3)=false/\
  ∃xs,KT H kvs xs/\h.DictOfH (G6 (z18 P w)) a xs:=by
 obtain ⟨z,y,xs,r,o,f,j,i,k,g,c,d⟩:=(show ObjOk P w H h a (.dT kvs) from rd_of ok e)
 refine ⟨z,y,xs,r,o,f,j,i,k,g,c,λ x b=>?_,d⟩;have all :∀{l:List (List Key×V)} {m:List (List Key×Addr×Value)},KT H l m->∀x∈m,(G6 (z18 P w)).is h x.1 x.2.1:=by
  intro l m q;induction q with
  | nil=>intro x b;exact nomatch b
  | @cons p q ps qs hq t ih=>
   intro x b;rcases List.mem_cons.mp b with e|b
   ·subst e;exact key_of ok (by rw [<-hq.1];exact hq.2.1)
   ·exact ih x b
 exact all r x b
theorem dt_of {kvs:List (List Key×V)} (ok:HOk P w H h) (e:H a=some (.dT kvs)):kvs.length<=sizeLine/\(a == L3)=false/\
  ∃xs,KT H kvs xs/\h.DictOfH (G6 (z18 P w)) a xs:=dt_rd ok (.inl e)
end
def DGet (H:Hp) (a:Addr) (y:V) (r:Option V):Prop:=
 (∃kvs k,Rd H a (.dK kvs)/\y=kV k/\r=valV kvs k)\/∃kvs k b,Rd H a (.dT kvs)/\y=.ref b/\H b=some (.tup (k.map kV))/\r=valV kvs k
def DPut (H:Hp) (a:Addr) (y v:V) (H':Hp):Prop:=
 (∃kvs k,H a=some (.dK kvs)/\y=kV k/\kvs.length < sizeLine/\H'=upd H a (.dK (putK kvs k v)))\/
 ∃kvs k b,H a=some (.dT kvs)/\y=.ref b/\H b=some (.tup (k.map kV))/\kvs.length < sizeLine/\H'=upd H a (.dT (putK kvs k v))
theorem DGet.k {H:Hp} {a:Addr} {kvs:List (Key×V)} {k:Key} (e:H a=some (.dK kvs)):DGet H a (kV k) (valV kvs k):=.inl ⟨kvs,k,.inl e,rfl,rfl⟩
theorem DPut.k {H:Hp} {a:Addr} {kvs:List (Key×V)} {k:Key} {v:V} (e:H a=some (.dK kvs)) (hl:kvs.length < sizeLine):DPut H a (kV k) v (upd H a (.dK (putK kvs k v))):=.inl ⟨kvs,k,e,rfl,hl,rfl⟩
section
variable {X:Cx} {pins:List (Addr×Obj)} {σ:St} {H:Hp} {s:t0} {a:Addr} {y v:V} {u r:Value} {o:Option V} {A:U1} {E:Value->t0->Prop}
theorem Inv.big (I:Inv X pins σ H s):L3 < s.heap.objs.size:=by have h:m3 < s.heap.objs.size:=(I.mod.glob.keeps I.bk).lt;exact Nat.lt_trans (by decide) h
theorem zhy {Q:Value->t0->Prop} (hu:A.units + 1 < cLine) (I:Inv X pins σ H s) (g:DGet H a y (some v)) (ry:RelV y u) (h :∀w' s',Inv X pins σ H s'->RelV v w'->Q w' s') :
  O0 (j1 X.prog X.w) A (L8 (.ref a) u) Q E s:=by
 rcases g with ⟨t,k,e,c,l⟩|⟨t,k,b,e,c,eb,l⟩
 ·subst c;obtain ⟨z,m,r,j,d⟩:=dk_rd I.hok e;obtain ⟨w',i,f⟩:=RelO.some_of (v:=v) (o:=j0i r k) (by rw [l];exact j.val k);exact wpAny_getItem_of (kV_is ry) d.mapOf i (h w' _ (I.tok _) f)
 ·subst c;cases (show u=Value.ref b from ry);obtain ⟨z,m,q,j,d⟩:=dt_rd I.hok e;obtain ⟨w',i,f⟩:=RelO.some_of (v:=v) (o:=(z9 q k).map (·.2)) (by rw [l];exact j.val k);obtain ⟨p,x,n⟩:=Option.map_eq_some_iff.mp i;refine wpAny_getItem_heap (m8 hu) (key_of I.hok eb) d x ?_;rw [n];exact h w' _ (I.tok _) f
theorem d_in {Q:Value->t0->Prop} (hu:A.units + 1 < cLine) (I:Inv X pins σ H s) (g:DGet H a y o) (ry:RelV y u) (h :∀s',Inv X pins σ H s'->Q (.bool o.isSome) s') :
  O0 (j1 X.prog X.w) A (J2 .In u (.ref a)) Q E s:=by
 rcases g with ⟨j,k,e,d,l⟩|⟨j,k,b,e,d,eb,l⟩
 ·subst d;obtain ⟨z,c,n,i,f⟩:=dk_rd I.hok e;refine wpAny_in_of (kV_is ry) c f.mapOf ?_;rw [<-(i.val k).isSome_eq,<-l];exact h _ (I.tok _)
 ·subst d;cases (show u=Value.ref b from ry);obtain ⟨z,c,m,i,f⟩:=dt_rd I.hok e;refine wpAny_in_heap (m8 hu) (key_of I.hok eb) c f ?_;have q:=(i.val k).isSome_eq;rw [V7] at q;rw [<-q,<-l];exact h _ (I.tok _)
theorem z9f {h':Heap} {t':Nat} {ob:HO} (I:Inv X pins σ H s) (mu:Mut (H a)) (hs:S5 a s.heap h') (he :∃q,h'.get? a=some q) (new:ObjOk X.prog X.w (upd H a ob) h' a ob) :
  Inv X pins σ (upd H a ob) { s with heap:=h',toks:=t' }:=
 I.write (x:=a) (e:=a) mu (.inl rfl) (λ b q c z=>(hs.2 b c).trans z) he new
theorem dk_new {P:Program} {w:V0} {H':Hp} {h':Heap} {kvs:List (Key×V)} {vs:List (Key×Value)} (z:kvs.length<=sizeLine) (hd:(a == L3)=false) (rel:KV kvs vs) (dd:h'.DictOf (z18 P w) a vs) :
  ObjOk P w H' h' a (.dK kvs):=⟨z,hd,vs,rel,dd⟩
theorem zhr {H':Hp} {Q:Unit->t0->Prop} (hu:A.units + 1 < cLine) (I:Inv X pins σ H s) (g:DPut H a y v H') (ry:RelV y u) (rv:RelV v r) (h :∀s',Inv X pins σ H' s'->Q () s') :
  O0 (j1 X.prog X.w) A (setItem (.ref a) u r) Q E s:=by
 rcases g with ⟨d,k,e,t,l,n⟩|⟨d,k,b,e,t,eb,l,n⟩
 ·subst t n;obtain ⟨z,m,J,f,x⟩:=dk_of I.hok e;have o:J.length<=sizeLine:=by rw [<-f.length];exact z
  have B:(putK d k v).length<=sizeLine:=by have:=z5p d k v;omega
  refine wpAny_setItem_pairs (hsz:=o) (kV_is ry) x λ D j p=>h _ ?_;have L :∃q,D.get? a=some q:=let ⟨q,_,_,i,_⟩:=j;⟨q,i⟩;exact z9f I (by rw [e];exact True.intro) p L (dk_new B m (f.put k rv) j)
 ·subst t n;cases (show u=Value.ref b from ry);obtain ⟨z,m,M,f,x⟩:=dt_of I.hok e;have o:M.length<=sizeLine:=by rw [<-j2f f];exact z
  have B:(putK d k v).length<=sizeLine:=by have:=z5p d k v;omega
  refine wpAny_setItem_heap (hsz:=o) (m8 hu) (key_of I.hok eb) x λ D j p=>h _ ?_;obtain ⟨q,K,P,i,G,F,N,_,O⟩:=j;refine z9f I (by rw [e];exact True.intro) p ⟨q,i⟩ ⟨B,m,_,(f.put k eb rv).keeps λ c R C=>?_,q,K,P,i,G,F,N,O⟩;rw [upd_ne (ne_of C e (λ z=>nomatch z))];exact C
end
section
variable {X:Cx} {pins:List (Addr×Obj)} {σ:St} {H:Hp} {s:t0} {a:Addr} {kvs:List (Key×V)} {k:Key} {u:Value} {A:U1} {E:Value->t0->Prop}
theorem d_pop {v:V} {more:List Value} {Q:Value->t0->Prop} (I:Inv X pins σ H s) (e:H a=some (.dK kvs)) (ry:RelV (kV k) u) (l:valV kvs k=some v) (hm:more=[]\/∃x,more=[x])
  (h :∀w' s',Inv X pins σ (upd H a (.dK (dropK kvs k))) s'->RelV v w'->Q w' s'):O0 (j1 X.prog X.w) A (call (.builtin "dict.pop") (.ref a :: u :: more)) Q E s:=by
 obtain ⟨z,g,f,b,d⟩:=dk_of I.hok e;obtain ⟨w',n,m⟩:=RelO.some_of (v:=v) (o:=j0i f k) (by rw [<-l];exact b.val k);have r:(keyPart u).isSome=true:=by
  cases k with
  | inl i=>obtain ⟨t,q⟩:=(show∃t,u=t8 i t from ry);subst q;rfl
  | inr x=>obtain ⟨t,q⟩:=(show∃t,u=M6 x t from ry);subst q;rfl
 have y:argsOk "dict.pop" ⟨.ref a :: u :: more,[]⟩:=by
  rcases hm with q|⟨x,q⟩
  ·subst q;exact PySem.F.args_dict_pop_2 _ _
  ·subst q;exact PySem.F.args_dict_pop_3 _ _ _
 refine call_meetsIn j37 d.typeIs PySem.F.entry_dict_pop y (meets_dict_pop_there (z18 X.prog X.w) a (kV_is ry) more hm r)
  ⟨f,w',d,by rw [<-b.length];exact z,n,λ p c j=>h w' _ ?_ m⟩
 have B :∃q,p.get? a=some q:=let ⟨q,_,_,hq,_⟩:=c;⟨q,hq⟩;exact z9f I (by rw [e];exact True.intro) j B (dk_new (F0 (zf9 kvs k) z) g (b.drop k) c)
end
def NoSl (i:Expr):Prop:=∀ov iv,j33 i false ov iv=operate [ov,iv] (L8 ov iv)
theorem zm0 {prog:Program} {w:V0} {A:U1} {E:Value->t0->Prop} {s:t0} {env:Env} {value slice:Expr} {pos:Pos} {T id:String} {Q:Value->t0->Prop}
  (hl:typeLookup (.type T) "__getitem__" = d3 (some (.builtin id))) (hs:NoSl slice)
  (h:O0 (j1 prog w) A (Y2 value env) (λ o s₁=>O0 (j1 prog w) A (Y2 slice env) (λ i s₂=>s₂.TypeIs o T/\O0 (j1 prog w) A (L8 o i) Q E s₂) E s₁) E s) :
  O0 (j1 prog w) A (Y2 (.Subscript value slice pos) env) Q E s:=by
 refine j4g (X2 h (λ o s₁ f=>X2 f (λ i s₂ b=>?_) λ _ _ x=>x) λ _ _ x=>x);obtain ⟨d,b⟩:=b;unfold j1c;refine j0 ?_;rw [getitemInPython_of_ne d.not_modules];refine j0 (j3f d hl ?_);have a:O0 (j1 prog w) A (j33 slice false o i) (λ r c=>O0 (j1 prog w) A (letTemporaryGo value o r >>= λ _=>d3 r) Q E c) E s₂:=by rw [hs o i];exact wpAny_operating (X2 b (λ r c e=>j0 (wpAny_letTemporaryGo (D0 e))) λ _ _ x=>x)
 first
  | exact D0 (j0 a)
  | exact j0 (D0 (j0 a))
  | exact j0 a
theorem ze2 {X:Cx} {pins:List (Addr×Obj)} {σ:St} {H:Hp} {s:t0} {a:Addr} {y:V} {o:Option V} (I:Inv X pins σ H s) (g:DGet H a y o):s.TypeIs (.ref a) "dict":=by
 rcases g with ⟨d,k,e,_,_⟩|⟨d,k,b,e,_,_,_⟩
 ·obtain ⟨_,_,h,_,c⟩:=dk_rd I.hok e;exact c.typeIs
 ·obtain ⟨_,_,f,_,c⟩:=dt_rd I.hok e;exact c.typeIs
def tDGet (td ty:TE):TE:=λ σ H Q=>td σ H λ x H1=>ty σ H1 λ y H2=>∃a v,x=.ref a/\DGet H2 a y (some v)/\Q v H2
def tDIn (ty td:TE):TE:=λ σ H Q=>ty σ H λ y H1=>td σ H1 λ x H2=>∃a o,x=.ref a/\DGet H2 a y o/\Q (.bl o.isSome) H2
def sDPut (td ty tv:TE):TS:=λ D σ H=>tv σ H λ v H1=>td σ H1 λ x H2=>ty σ H2 λ y H3=>∃a H4,x=.ref a/\DPut H3 a y v H4/\D.nx σ H4
section
variable {X:Cx} {o i e value:Expr} {pos pos' tpos:Pos} {td ty tv:TE}
theorem zb2 (hu:X.A.units + 1 < cLine) (ho:PE X o td) (hi:PE X i ty) (hs:NoSl i):PE X (.Subscript o i pos) (tDGet td ty):=by intro b s σ H Q I h;refine zm0 PySem.F.slot_dict_getitem.lookup hs (thn (ho b s σ H _ I h) λ u c ⟨x,H1,I1,rx,q1⟩=>thn (hi b c σ H1 _ I1 q1) λ l j ⟨y,H2,I2,ry,a,v,ex,g,q2⟩=>?_);subst ex;obtain rfl:u=Value.ref a:=rx;exact ⟨ze2 I2 g,zhy hu I2 g ry λ f k e d=>⟨v,H2,e,d,q2⟩⟩
theorem pc_din (hu:X.A.units + 1 < cLine) (hi:PE X i ty) (ho:PE X o td):PC X .In i o (tDIn ty td):=by intro b s σ H Q I h;refine thn (hi b s σ H _ I h) λ j c ⟨y,H1,I1,ry,q1⟩=>thn (ho b c σ H1 _ I1 q1) λ u e ⟨x,H2,I2,rx,a,ov,ex,g,q2⟩=>?_;subst ex;obtain rfl:u=Value.ref a:=rx;exact d_in hu I2 g ry λ f d=>⟨.bl ov.isSome,H2,d,rfl,q2⟩
theorem zfv (hu:X.A.units + 1 < cLine) (ho:PE X o td) (hi:PE X i ty) (hv:PE X value tv) (hs:o7 value (some (.Subscript o i pos')) pos.line X.env=d3 false) :
  PS X (.Assign [.Subscript o i pos'] value pos) (sDPut td ty tv):=by
 intro b s σ H D I h;refine wpAny_Assign_Subscript (thn (hv b s σ H _ I h) λ r c ⟨v,H1,I1,rv,q1⟩=>thn (ho b c σ H1 _ I1 q1) λ u d ⟨x,H2,I2,rx,q2⟩=>thn (hi b d σ H2 _ I2 q2) λ k j ⟨y,H3,I3,ry,a,H4,ex,g,q3⟩=>?_) hs;subst ex;obtain rfl:u=Value.ref a:=rx;exact zhr hu I3 g ry rv λ f e=>⟨σ,H4,e,q3⟩
end
theorem zfh {P:Program} {w:V0} {H:Hp} (h:Heap) (hb:L3 < h.objs.size):ObjOk P w H (h.push { cls:=.type "dict",data:=.dict #[] }) h.objs.size (.dK []):=
 ⟨R1 _,beq_eq_false_iff_ne.mpr (R3 (Z0 hb)),[],.nil,Heap.DictOf.new h⟩
def tDNewK:TE:=λ _ H Q=>∀p,H p=none->Q (.ref p) (upd H p (.dK []))
section
variable {X:Cx} {pos:Pos}
theorem z8z:PE X (.Dict [] [] pos) tDNewK:=λ b s σ H Q I h=>wpAny_Dict_empty ⟨.ref s.heap.objs.size,_,I.laid (a:=s.heap.objs.size) (o:=.dK []) (t':=s.toks) (λ _ _ q=>C0 _ q) (B0 _) (zfh s.heap I.big),rfl,h _ (I.hok.fresh (B0 _))⟩
end
def tPairs:List (TE×TE)->St->Hp->(List (V×V)->Hp->Prop)->Prop
 | [],_,H,Q=>Q [] H
 | (tk,tv) :: r,σ,H,Q=>tk σ H λ x H1=>tv σ H1 λ y H2=>tPairs r σ H2 λ ps H3=>Q ((x,y) :: ps) H3
abbrev VV:List (V×V)->List (Value×Value)->Prop:=Q9 λ p q=>RelV p.1 q.1/\RelV p.2 q.2
def PPs (X:Cx) (pos:Pos) (keys:List (Option Expr)) (values:List Expr) (trs:List (TE×TE)):Prop:=
 ∀(pins:List (Addr×Obj)) (s:t0) (σ:St) (H:Hp) (Q:List (V×V)->Hp->Prop),Inv X pins σ H s->tPairs trs σ H Q->
  O0 (j1 X.prog X.w) X.A (evalPairs (pairTrees keys values X.env pos)) (λ vs s'=>∃ps H',Inv X pins σ H' s'/\VV ps vs/\Q ps H') X.xe s
theorem zjc {X:Cx} {pos:Pos}:PPs X pos [] [] []:=λ a s σ H Q I h=>pairTrees_nil_walk ⟨[],H,I,.nil,h⟩
theorem zcf {X:Cx} {pos:Pos} {k v:Expr} {ks:List (Option Expr)} {vs:List Expr} {tk tv:TE} {trs:List (TE×TE)} (hk:PE X k tk) (hv:PE X v tv) (hr:PPs X pos ks vs trs) :
  PPs X pos (some k :: ks) (v :: vs) ((tk,tv) :: trs):=λ a s σ H Q I h=>
 pairTrees_cons_walk (thn (hk a s σ H _ I h) λ u b ⟨x,H1,I1,rx,q1⟩=>thn (hv a b σ H1 _ I1 q1) λ d c ⟨y,H2,I2,ry,q2⟩=>thn (hr a c σ H2 _ I2 q2) λ e f ⟨ps,H3,I3,rel,q3⟩=>⟨(x,y) :: ps,H3,I3,.cons ⟨rx,ry⟩ rel,q3⟩)
def mergeK (kvs more:List (Key×V)):List (Key×V):=more.foldl (λ acc kv=>putK acc kv.1 kv.2) kvs
theorem KV.merge :∀{more:List (Key×V)} {rs:List (Key×Value)} {kvs:List (Key×V)} {vs:List (Key×Value)},KV more rs->KV kvs vs->KV (mergeK kvs more) (merged vs rs):=by
 intro more rs kvs vs r;unfold KV at r;induction r generalizing kvs vs with
 | nil=>intro q;exact q
 | @cons p q ps qs h t ih=>
  intro a;have e:KV (putK kvs p.1 p.2) (stored vs q.1 q.2):=by have:=a.put p.1 h.2;rw [<-h.1];exact this
  exact ih e
theorem z5u :∀(more kvs:List (Key×V)),(mergeK kvs more).length<=kvs.length + more.length
 | [],kvs=>by show kvs.length<=kvs.length + 0;omega
 | p :: r,kvs=>by have b:=z5u r (putK kvs p.1 p.2);have a:=z5p kvs p.1 p.2;show (mergeK (putK kvs p.1 p.2) r).length<=_;rw [X0];omega
theorem z9j {P:Program} {w:V0} :∀{kvs:List (Key×V)} {ws:List (Value×Value)},VV (kvs.map λ kv=>(kV kv.1,kv.2)) ws->∃rs,Carries (z18 P w) ws rs/\KV kvs rs
 | [],_,r=>by rw [R5] at r;cases r;exact ⟨[],True.intro,.nil⟩
 | p :: kvs,_,r=>by
  rw [J1] at r;cases r with
  | @cons a b as bs h t=>obtain ⟨rs,c,q⟩:=z9j (P:=P) (w:=w) t;obtain ⟨e,d⟩:=b;exact ⟨(p.1,d) :: rs,⟨kV_is h.1,rfl,c⟩,.cons ⟨rfl,h.2⟩ q⟩
def tDisp (trs:List (TE×TE)):TE:=λ σ H Q=>∀p,H p=none->tPairs trs σ (upd H p (.dK [])) λ ps H2=>H2 p=some (.dK [])/\∃kvs:List (Key×V),ps=kvs.map (λ kv=>(kV kv.1,kv.2))/\kvs.length<=15/\Q (.ref p) (upd H2 p (.dK (mergeK [] kvs)))
theorem zkc {X:Cx} {pos:Pos} {keys:List (Option Expr)} {values:List Expr} {trs:List (TE×TE)} (h:PPs X pos keys values trs) (hall:keys.all (·.isSome)=true) (hl:keys.length=values.length) (h0:keys≠[])
  (h15:keys.length<=15):PE X (.Dict keys values pos) (tDisp trs):=by
 intro g s σ H Q I q;have t:=I.hok.fresh (B0 s.heap.objs.size);have j:=I.laid (a:=s.heap.objs.size) (o:=.dK []) (h':=s.heap.push { cls:=.type "dict",data:=.dict #[] }) (t':=s.toks) (λ _ _ q=>C0 _ q) (B0 _) (zfh s.heap I.big);refine wpAny_Dict_walk (knd:=z18 X.prog X.w) hall hl h0 h15 (thn (h g _ σ _ _ j (q _ t)) λ u x ⟨ps,H2,I2,rel,e,kvs,ep,lk,q2⟩=>?_);subst ep;obtain ⟨m,c,r⟩:=z9j (P:=X.prog) (w:=X.w) rel;obtain ⟨z,d,v,i,p⟩:=dk_of I2.hok e;cases i;refine ⟨m,c,p,λ h' b l=>⟨.ref s.heap.objs.size,_,?_,rfl,q2⟩⟩;have k:(mergeK [] kvs).length<=sizeLine:=by have n:=z5u kvs [];rw [d7] at n;rw [sizeLine_eq];omega
 have f :∃q,h'.get? s.heap.objs.size=some q:=let ⟨q,_,_,hq,_⟩:=b;⟨q,hq⟩;exact z9f I2 (by rw [e];exact True.intro) l f (dk_new k d (r.merge .nil) b)
structure M1 (X:Cx) (o:Expr) (m:Str) (apos:Pos) (e:Expr) (cpos:Pos):Prop where
 base:S3 o m X.env (Y2 o X.env)=Y2 o X.env
 few:((Z3 cpos (A1 [e] X.env)).all (λ x=>!x.1) && (y9 cpos (K6 [] X.env)).all (λ x=>x.1.isSome)
  && decide (([e]:List Expr).length + ([]:List c6).length + (if ([]:List c6).isEmpty then 0 else 1) < 30))=true
 line:(apos.endLine == cpos.line)=true
 trees:Z3 cpos (A1 [e] X.env)=[(false,Y2 e X.env)]
structure M2 (X:Cx) (o:Expr) (m:Str) (apos:Pos) (e f:Expr) (cpos:Pos):Prop where
 base:S3 o m X.env (Y2 o X.env)=Y2 o X.env
 few:((Z3 cpos (A1 [e,f] X.env)).all (λ x=>!x.1) && (y9 cpos (K6 [] X.env)).all (λ x=>x.1.isSome)
  && decide (([e,f]:List Expr).length + ([]:List c6).length + (if ([]:List c6).isEmpty then 0 else 1) < 30))=true
 line:(apos.endLine == cpos.line)=true
 trees:Z3 cpos (A1 [e,f] X.env)=[(false,Y2 e X.env),(false,Y2 f X.env)]
def IsD (H:Hp) (a:Addr):Prop:=(∃kvs,Rd H a (.dK kvs))\/∃kvs,Rd H a (.dT kvs)
theorem isD_at {X:Cx} {pins:List (Addr×Obj)} {σ:St} {H:Hp} {s:t0} {a:Addr} (I:Inv X pins σ H s) (d:IsD H a) :
  s.TypeIs (.ref a) "dict"/\(∀b,Value.ref a=.ref b->∃ob,s.heap.get? b=some ob/\ob.dict=none)/\(a == L3)=false:=by
 rcases d with ⟨i,e⟩|⟨i,e⟩
 ·obtain ⟨_,f,k,_,c⟩:=dk_rd I.hok e;refine ⟨c.typeIs,λ b q=>?_,f⟩;cases q;obtain ⟨ob,_,_,g,h,_⟩:=c;exact ⟨ob,g,h.2.1⟩
 ·obtain ⟨_,f,j,_,c⟩:=dt_rd I.hok e;refine ⟨c.typeIs,λ b q=>?_,f⟩;cases q;obtain ⟨ob,_,_,g,h,_⟩:=c;exact ⟨ob,g,h.2.1⟩
section
variable {X:Cx} {pins:List (Addr×Obj)} {σ:St} {H:Hp} {s:t0} {a:Addr} {y d:V} {u r:Value} {o:Option V} {A:U1} {E:Value->t0->Prop}
theorem d_get2 {Q:Value->t0->Prop} (hu:A.units + 1 < cLine) (I:Inv X pins σ H s) (g:DGet H a y o) (ry:RelV y u) (rd:RelV d r) (h :∀w' s',Inv X pins σ H s'->RelV (o.getD d) w'->Q w' s') :
  O0 (j1 X.prog X.w) A (call (.builtin "dict.get") [.ref a,u,r]) Q E s:=by
 rcases g with ⟨n,k,e,i,l⟩|⟨n,k,b,e,i,eb,l⟩
 ·subst i;obtain ⟨z,f,p,j,c⟩:=dk_rd I.hok e;refine call_meetsIn B8 c.typeIs j31 (j2e _ _ _) (meets_dict_get_default (z18 X.prog X.w) a (kV_is ry) f r) ⟨_,c.mapOf,h _ _ (I.tok _) ?_⟩;rw [l];exact (j.val k).getD rd
 ·subst i;cases (show u=Value.ref b from ry);obtain ⟨z,f,m,j,c⟩:=dt_rd I.hok e;refine call_meetsIn B8 c.typeIs j31 (j2e _ _ _) (meetsH_dict_get_default (G6 (z18 X.prog X.w)) a b f r) ⟨m8 hu,k,m,key_of I.hok eb,c,h _ _ (I.tok _) ?_⟩;rw [l];exact (j.val k).getD rd
end
def tDGet2 (td ty tx:TE):TE:=λ σ H Q=>td σ H λ x H1=>∃a,x=.ref a/\IsD H1 a/\ty σ H1 λ y H2=>tx σ H2 λ z H3=>∃o,DGet H3 a y o/\Q (o.getD z) H3
def tDPop1 (td ty:TE):TE:=λ σ H Q=>td σ H λ x H1=>∃a,x=.ref a/\IsD H1 a/\ty σ H1 λ y H2=>∃kvs k v,H2 a=some (.dK kvs)/\y=kV k/\valV kvs k=some v/\Q v (upd H2 a (.dK (dropK kvs k)))
section
variable {X:Cx} {o e f:Expr} {apos cpos:Pos} {td ty tx:TE}
theorem zlj (hu:X.A.units + 1 < cLine) (ho:PE X o td) (he:PE X e ty) (hf:PE X f tx) (m:M2 X o "get" apos e f cpos):PE X (.Call (.Attribute o "get" apos) [e,f] [] cpos) (tDGet2 td ty tx):=by
 intro b s σ H Q I h;refine wpAny_Call_method m.base m.few m.line j2d B8 PySem.F.type_dict_get (thn (ho b s σ H _ I h) λ u l ⟨x,H1,I1,rx,a,ex,d,q1⟩=>?_);subst ex;obtain rfl:u=Value.ref a:=rx;obtain ⟨j,k,_⟩:=isD_at I1 d;refine ⟨j,k,?_⟩;rw [m.trees];refine B6 rfl (X6 (d6 (thn (he b l σ H1 _ I1 q1) λ v n ⟨y,H2,I2,ry,q2⟩=>d6 (thn (hf b n σ H2 _ I2 q2) λ q p ⟨z,H3,I3,rz,ov,g,q3⟩=>Y7 ?_))));exact d_get2 hu I3 g ry rz λ t r i c=>⟨_,H3,i,c,q3⟩
theorem zkm (ho:PE X o td) (he:PE X e ty) (m:M1 X o "pop" apos e cpos):PE X (.Call (.Attribute o "pop" apos) [e] [] cpos) (tDPop1 td ty):=by intro b s σ H Q I h;refine wpAny_Call_method m.base m.few m.line j2d j37 PySem.F.type_dict_pop (thn (ho b s σ H _ I h) λ u g ⟨x,H1,I1,rx,a,ex,d,q1⟩=>?_);subst ex;obtain rfl:u=Value.ref a:=rx;obtain ⟨f,c,_⟩:=isD_at I1 d;refine ⟨f,c,?_⟩;rw [m.trees];refine B6 rfl (X6 (d6 (thn (he b g σ H1 _ I1 q1) λ r p ⟨y,H2,I2,ry,kvs,k,v,ea,ey,l,q2⟩=>Y7 ?_)));subst ey;exact d_pop I2 ea ry l (.inl rfl) λ n q j i=>⟨v,_,j,i,q2⟩
end
end L2
namespace Att
open PySem PySem.W PySem.Calls PyProof.Rows
theorem z7u {P:U0} {h:Heap} :∀(ns:List Int) (vs:List Value),WellAll P h vs (ns.map WData.int)->U9 vs ns:=by
 intro ns;induction ns with
 | nil=>intro vs w;rw [R5] at w;cases w;exact .nil
 | cons n ns ih=>
  intro vs w;rw [J1] at w;cases w with
  | cons a b=>cases a;exact .cons _ _ (ih _ b)
theorem zhq {l:OpenLaw} {n:Nat} (hn:l.most=some n) {P:U0} {h:Heap} {args:List WData} {vals:List Value}
  (hpre:l.row.toRowW.claim.pre args=true) (hwl:WellAll P h vals args) :
  ∃a vs ns,vals=[Value.ref a]/\args=[WData.list (ns.map WData.int)]/\h.get? a=some { cls:=.type "list",data:=.seq vs.toArray }/\U9 vs ns/\ns.length<=n:=by
 have i:WShape.hasAll [] args [.list .int]=true:=(pre_splitW hpre).1;have e:l.pre.holds [] { args:=args }=true:=(pre_splitW hpre).2;obtain ⟨d,r,rfl,j,m⟩:=hasAllW_cons i;obtain rfl:=hasAllW_nil m;obtain ⟨o,rfl,g⟩:=hasW_list j;obtain ⟨ns,rfl⟩:=items_int g;have k:ns.length<=n:=by
  unfold OpenLaw.pre at e;have b:(WTm.not (.lt (.lit (.int (n:Int))) (.len (.arg 0)))).holds [] { args:=[.list (ns.map .int)] }=true:=by have b:=(holds_andW e).1;rw [hn] at b;exact b
  have c:=condW_of b (w_not (w_lt w_lit (w_len_list (w_arg rfl))));rw [G0] at c;refine j21 λ q=>?_;have f:(n:Int) < ((ns.length:Nat):Int):=by omega
  first
   | (rw [decide_eq_true f] at c;exact absurd c (by decide))
   | (simp at c;omega)
 cases hwl with
 | cons w1 w2=>
  cases w2;cases w1 with
  | list ho hall=>exact ⟨_,_,ns,rfl,rfl,ho,z7u ns _ hall,k⟩
theorem zi7 (l:OpenLaw) (args:List WData):l.row.toRowW.claim.post args (.bool true) args=true:=
 postW_of (r:=l.row.toRowW) (X:=(true == true))
  (show WShape.has [] (.bool true) .bool=true by first|rfl|decide|simp [WShape.has,WShape.arms,WShape.armsAll])
  (show (WTm.eq .res (.lit (.bool true))).value [] { args:=args,res:=some (.bool true),after:=args }=some (.bool (true == true)) from w_eq_bool (w_res rfl) w_lit) rfl
theorem attach_call {l:OpenLaw} {n:Nat} {q:Program} {loose:List Str} {XP:(Str->Option Value)->Heap->Prop} {YP:V0->Heap->Prop} {d:DefRec}
  (hn:l.most=some n) (hdf:d.params.defaults=[])
  (call :∀(w:V0) (s₀ s₁:t0) (mg mb:Str->Option Value) (fa:Addr) (o:Obj) (pm cd doc:Value) (a:Addr) (vs:List Value) (ns:List Int),
   Ground q loose [] XP w s₀ mg mb s₁.heap->YP w s₁.heap->
   s₁.heap.get? fa=some o->o.data=.func (docDef d.name d.params d.body d.scope pm cd doc)->s₁.heap.CodeRec cd d.name->mg d.name=some (.ref fa)->
   s₁.heap.get? a=some { cls:=.type "list",data:=.seq vs.toArray }->U9 vs ns->ns.length<=n->s₁.gens = #[]->
   C7 (j1 l.prog w) j29 (.call (.ref fa) ⟨[.ref a],[]⟩) (λ r s'=>r=.ok (.ret (.bool true))/\OldK s₁.heap s'.heap/\s'.os=s₁.os/\S8 s'.gens) s₁) :
  WalkO q loose XP YP l.row.toRowW d [] (λ f vs=>PySem.call f vs):=by
 intro w s₀ s₁ mg mb G Y fa o pm cd doc p kV m e y b z k B E C j A D x F;obtain rfl:p=.none:=Dflts.none b hdf;obtain rfl:kV=.none:=Dflts.noKw b;obtain ⟨a,vs,ns,rfl,rfl,h,v,u⟩:=zhq hn j x;refine enter_call (N9 (call w s₀ s₁ mg mb fa o pm cd doc a vs ns G Y m (fd_plain e) y z h v u k) λ r s' s=>?_);obtain ⟨rfl,i,g,t⟩:=s;exact ⟨.inl ⟨.bool true,.bool true,[],rfl,λ _=>rfl,.bool true,zi7 l _,λ _=>⟨j2g,λ _ c=>(nomatch c)⟩⟩,i,g,t⟩
end Att
namespace L2
open PySem PySem.Spec PyProof.Rows
theorem z8f :∀{vs:List Value} {ns:List Int},U9 vs ns->Vals (ns.map V.int) vs
 | _,_,.nil=>.nil
 | _,_,.cons n t h=>.cons ⟨t,rfl⟩ (z8f h)
def Only (H:Hp):Prop:=∀b,H b=none\/∃o xs,H b=some (.frz o (.lst xs))
theorem zlk {P:Program} {w:V0} {K:c0} {mg mb:Str->Option Value} {CX:CXT} {k:Nat} {fa a:Addr} {fd:FuncData} {x:Str} {sp:Sp} {s₁:t0} {vs:List Value} {ns:List Int}
  (KX:K.In s₁.heap) (hns:s₁.heap.Ns m3 mg) (hb:s₁.heap.Ns builtinsNs mb) (hbb :∀x:Str,x≠"__name__"->mb x=V6 x) (hlim:s₁.heap.NoLimit) (hg:s₁.gens = #[])
  (ha:s₁.heap.get? a=some { cls:=.type "list",data:=.seq vs.toArray }) (hi:U9 vs ns) (hl:ns.length<=sizeLine) (hr:Room k j29)
  (F :∀base:Heap,K.In base->base.Ns m3 mg->FnOk P w K mg base CX k fa fd [x] sp) (hbind :∀(s:t0) (u:Value),BindsTo s fd ⟨[u],[]⟩ [(x,u)])
  (hsp :∀H:Hp,Only H->SqL K H a (ns.map V.int)->sp [.ref a] H (λ v _=>v=.bl true) λ _ _ _=>False)
  (hCX :∀H e s',CX [] H s₁ (λ _ _ _=>False) e s'->False) :
  C7 (j1 P w) j29 (.call (.ref fa) ⟨[.ref a],[]⟩) (λ r s'=>r=.ok (.ret (.bool true))/\OldK s₁.heap s'.heap/\s'.os=s₁.os/\S8 s'.gens) s₁:=by
 have A:=z8f hi;have M:=hi.length
 -- from an abstract heap in which nothing but the script may be tracked
 have p :∀H:Hp,Only H->SqL K H a (ns.map V.int)->HOk P w H s₁.heap->(∀b,H b≠none->b=a)->(H a≠none->K.lookup a=none)->
   C7 (j1 P w) j29 (.call (.ref fa) ⟨[.ref a],[]⟩) (λ r s'=>r=.ok (.ret (.bool true))/\OldK s₁.heap s'.heap/\s'.os=s₁.os/\S8 s'.gens) s₁:=by
  intro H i Q y l O;have B :∀{b:Addr} {o:Obj},s₁.heap.get? b=some o->H b=none->(hidT s₁.heap H).get? b=some o:=λ e n=>zl5 e n;have J :∀{b:Addr} {o:Obj} {es:Array DictEntry} {ep:Nat},s₁.heap.get? b=some o->o.data=.dict es ep->H b=none:=λ {b o es ep} e d=>by
   cases q:H b with
   | none=>rfl
   | some u=>have g:b=a:=l b (by rw [q];simp);subst g;rw [ha] at e;cases e;have E:Data.seq vs.toArray _=Data.dict es ep:=d;cases E
  have f :∀{b:Addr} {m:Str->Option Value},s₁.heap.Ns b m->(hidT s₁.heap H).Ns b m:=λ {b m} ⟨o,es,ep,e,d,r⟩=>⟨o,es,ep,B e (J e d),d,r⟩
  have j:K.In (hidT s₁.heap H):=λ b o e=>B (KX b o e) (by
   cases q:H b with
   | none=>rfl
   | some u=>have g:b=a:=l b (by rw [q];simp);subst g;rw [O (by rw [q];simp)] at e;cases e)
  have R:Mod K mg (hidT s₁.heap H):=⟨j,f hns,⟨mb,f hb,hbb⟩,let ⟨mc,h1,h2⟩:=hlim;⟨mc,f h1,h2⟩⟩
  have I:Env0 P w K mg (hidT s₁.heap H) j29 [] s₁ H:=⟨rfl,R,λ b o e=>zmj e,V5 (zi3 _ _),trivial,λ b hb=>absurd (show b∈([]:List Addr) from hb) (by simp),y,.of_eq hg⟩
  refine N9 ((F _ j (f hns)).run j29 [] s₁ H ⟨[.ref a],[]⟩ [.ref a] [.ref a] _ _ hr I (hbind s₁ (.ref a)) (.cons rfl .nil) (hsp H i Q)) λ r s' h=>?_;cases r with
  | error e=>exact (hCX H e s' h).elim
  | ok fl=>
   cases fl with
   | next=>exact B3 h
   | brk=>exact B3 h
   | cont=>exact B3 h
   | ret u=>
    obtain ⟨v,T,os,L,un,C,D,q⟩:=h;have S:v=.bl true:=q;subst S;obtain rfl:u=J4 true:=D;refine ⟨rfl,OldK.of_keep λ b o e=>?_,os,L⟩;cases q:H b with
    | none=>exact un.keep b o e q (by intro z;exact absurd (show b∈([]:List Addr) from z) (by simp)) (by simp)
    | some u=>
     rcases i b with z|⟨ob,xs,z⟩
     ·rw [q] at z;cases z
     ·have N:=un.frzs b ob _ z;obtain ⟨t,_⟩:=y b _ z;obtain ⟨G,_⟩:=C b _ N;rw [e] at t;cases t;exact G
 cases hk:K.lookup a with
 | some o=>
  -- the script is one of the module's own objects
  have e:=KX a o hk;rw [ha] at e;cases e;refine p (λ _=>none) (λ _=>.inl rfl) (.inr ⟨_,vs.toArray,_,hk,rfl,rfl,rfl,by rw [R0,M];exact hl,by simpa using A⟩) (λ b u z=>by have c:(none:Option HO)=some u:=z;cases c) (λ b z=>absurd rfl z) λ z=>absurd rfl z
 | none=>
  refine p (λ b=>if b=a then some (.frz { cls:=.type "list",data:=.seq vs.toArray } (.lst (ns.map V.int))) else none) (λ b=>?_) (.inl (.inr ⟨{ cls:=.type "list",data:=.seq vs.toArray },if_pos rfl⟩)) (λ b u z=>?_) (λ b z=>?_) λ _=>hk
  ·by_cases hb:b=a
   ·exact .inr ⟨_,_,if_pos hb⟩
   ·exact .inl (if_neg hb)
  ·by_cases hb:b=a
   ·have c:=(if_pos hb).symm.trans z;cases c;subst hb;exact ⟨ha,by rw [G0];exact hl,vs,_,A,ha⟩
   ·have c:=(if_neg hb).symm.trans z;cases c
  ·by_cases hb:b=a
   ·exact hb
   ·exact absurd (if_neg hb) z
theorem walk_of {l:PySem.W.OpenLaw} {n k:Nat} {q:Program} {loose:List Str} {XP:(Str->Option Value)->Heap->Prop} {YP:V0->Heap->Prop} {d:DefRec} {K:U0->c0} {CX:V0->CXT} {sp:V0->Sp} {x:Str}
  (hn:l.most=some n) (hn2:n<=sizeLine) (hdf:d.params.defaults=[]) (hr:Room k j29)
  (hY :∀(w:V0) (h:Heap),YP w h->(K w.params).In h)
  (F :∀(w:V0) (mg:Str->Option Value) (fa:Addr) (h:Heap),(K w.params).In h->h.Ns m3 mg->mg d.name=some (.ref fa)->
   ∃fd:FuncData,(∀(s:t0) (u:Value),BindsTo s fd ⟨[u],[]⟩ [(x,u)])/\
    ∀base:Heap,(K w.params).In base->base.Ns m3 mg->FnOk l.prog w (K w.params) mg base (CX w) k fa fd [x] (sp w))
  (hsp :∀(w:V0) (H:Hp) (a:Addr) (ns:List Int),ns.length<=n->Only H->SqL (K w.params) H a (ns.map V.int)->sp w [.ref a] H (λ v _=>v=.bl true) λ _ _ _=>False)
  (hCX :∀(w:V0) (H:Hp) (s:t0) (e:Value) (s':t0),CX w [] H s (λ _ _ _=>False) e s'->False) :
  PySem.W.WalkO q loose XP YP l.row.toRowW d [] (λ f vs=>PySem.call f vs):=by
 refine Att.attach_call hn hdf λ w J A mg C fa o L D E a vs ns G Y I B M z j y c p=>?_;have KX:=hY w _ Y;obtain ⟨fd,m,t⟩:=F w mg fa _ KX G.T.g z;exact zlk KX G.T.g G.T.b G.T.builtins G.T.nolimit p j y (F0 c hn2) hr t m (λ H i r=>hsp w H a ns c i r) λ H e s'=>hCX w H A e s'
def z9g (s:Stmt):Arguments:=match s with
 | .FunctionDef _ a _ _ _ _ _ _ _ _=>a
 | _=>{ posonlyargs:=[],args:=[],vararg:=none,kwonlyargs:=[],kw_defaults:=[],kwarg:=none,defaults:=[] }
def z7k (s:Stmt):List Stmt:=match s with
 | .FunctionDef _ _ b _ _ _ _ _ _ _=>b
 | _=>[]
def z06 (s:Stmt):Scope:=match s with
 | .FunctionDef _ _ _ _ _ _ sc _ _ _=>sc
 | _=>{ kind:=.function,names:=[],isGenerator:=false,isCoroutine:=false }
abbrev CX0:CXT:=λ _ _ _ _ _ _=>False
abbrev E0:XK:=λ _ _ _=>False
theorem pass0 {X:Cx}:Passes CX0 X E0:=λ _ _ _ _ _ _ _ h=>h.elim
structure Fun (K:c0) (x qual:Str) (st:Stmt) (f:Addr) (fd:FuncData):Prop where
 ex :∃(oc:Value) (od:Option Addr) (kV doc pm:Value) (an:Option Addr) (cdv ct:Value) (osl:Array (Option Value)),
  fd=o6 x qual (z9g st) (z7k st) (z06 st) .none kV doc pm an cdv ct/\K.lookup f=some ⟨oc,od,.func fd,osl⟩/\Y8 K cdv qual=true
 kp:M3 K (.ref f)=true
section
variable {P:Program} {w:V0} {K:c0} {mg:Str->Option Value} {base:Heap}
theorem Fun.ok {x qual:Str} {st:Stmt} {f:Addr} {fd:FuncData} {N ps:List Str} {k:Nat} {sp:Sp} (F:Fun K x qual st f fd) (S:FnScope N ps (z06 st)) (len :∀vs H Q E,sp vs H Q E->vs.length=ps.length)
  (hbody :∀(cdv:Value) (A:U1) (outer:List Env) (s:t0) (H:Hp) (vs:List V) (Q:VK) (E:XK),Room k (A.deeper (o4 qual (z06 st) s.heap.objs.size f cdv))->sp vs H Q E->
   ∃t,PSs (cxOf CX0 P w K mg base N qual (z06 st) f cdv A outer s H E).nox (z7k st) t/\t { nx:=λ _ H'=>Q .non H',rt:=Q } (start N vs) H):FnOk P w K mg base CX0 (k + 1) f fd ps sp:=by
 obtain ⟨m,e,kV,n,l,g,cdv,j,i,rfl,a,d⟩:=F.ex;refine fn_of a d S len λ A outer s H vs Q E c b=>?_;obtain ⟨t,h,q⟩:=hbody cdv A outer s H vs Q E c b;exact ⟨t,h.nox,q⟩
theorem Fun.binds {x qual:Str} {st:Stmt} {f:Addr} {fd:FuncData} {ps:List Str} (F:Fun K x qual st f fd)
  (h :∀(kV doc pm:Value) (an:Option Addr) (cdv ct:Value) (us:List Value),us.length=ps.length->bindArgs (o6 x qual (z9g st) (z7k st) (z06 st) .none kV doc pm an cdv ct) ⟨us,[]⟩=d3 (ps.zip us)):Binds K fd ps []:=by
 obtain ⟨e,a,kV,doc,pm,an,cdv,ct,c,rfl,b,d⟩:=F.ex;exact .all (h kV doc pm an cdv ct)
theorem fun_mk {x qual:Str} {st:Stmt} {f:Addr} {oc:Value} {od an:Option Addr} {osl:Array (Option Value)} {kV doc pm cdv ct:Value} (l:K.lookup f=some ⟨oc,od,.func (o6 x qual (z9g st) (z7k st) (z06 st) .none kV doc pm an cdv ct),osl⟩)
  (c:Y8 K cdv qual=true) (k:M3 K (.ref f)=true):Fun K x qual st f (o6 x qual (z9g st) (z7k st) (z06 st) .none kV doc pm an cdv ct):=⟨⟨oc,od,kV,doc,pm,an,cdv,ct,osl,rfl,l,c⟩,k⟩
end
theorem hu_of {A:U1} {k:Nat} (hr:Room k A):A.units + 1 < cLine:=T1 (Nat.add_le_add_left (by decide:1<=64) _) hr.units
section
variable {X:Cx}
theorem pv (i:Nat) {x:Str} {pos:Pos} (hN:X.N[i]? = some x:=by rfl) (hv:Vis X.env.scope x:=by first|exact C1 rfl|exact B1 (C1 rfl)|exact B1 (B1 rfl)) (hd:(x == ("__debug__" : Str))=false:=by decide)
  (hcd:(x == ("__classdict__" : Str))=false:=by decide):PE X (.Name x pos) (tVar i):=pe_var hN hv hd hcd
end
theorem iteF {A B:Prop} (h:B):if false=true then A else B:=by rw [if_neg S0];exact h
theorem iteT {A B:Prop} (h:A):if true=true then A else B:=by rw [if_pos rfl];exact h
theorem ite2 {c A B:Prop} [Decidable c] (h1:c->A) (h2:¬ c->B):if c then A else B:=by
 by_cases h:c
 ·rw [if_pos h];exact h1 h
 ·rw [if_neg h];exact h2 h
def Same (H H':Hp):Prop:=∀b o,H b=some o->H' b=some o
theorem Same.refl (H:Hp):Same H H:=λ _ _ h=>h
theorem Same.trans {H H1 H2:Hp} (a:Same H H1) (b:Same H1 H2):Same H H2:=λ c o h=>b c o (a c o h)
theorem Same.free {H H':Hp} (e:Same H H') {l:Addr} (h:H' l=Option.none):H l=Option.none:=by
 cases q:H l with
 | none=>rfl
 | some o=>rw [e l o q] at h;cases h
theorem Same.seq {K:c0} {H H':Hp} {a:Addr} {xs:List V} (e:Same H H') (h:SqL K H a xs):SqL K H' a xs:=by
 rcases h with (h|⟨o,h⟩)|h
 ·exact .inl (.inl (e _ _ h))
 ·exact .inl (.inr ⟨o,e _ _ h⟩)
 ·exact .inr h
section
variable {κ:Type} [DecidableEq κ]
theorem zcs {p:κ×V} {r:List (κ×V)} {k:κ} (e:p.1=k):dropK (p :: r) k=dropK r k:=by unfold dropK;rw [R4,if_neg (by simp [e])]
theorem zdd {p:κ×V} {r:List (κ×V)} {k:κ} (e:¬ p.1=k):dropK (p :: r) k=p :: dropK r k:=by unfold dropK;rw [R4,if_pos (by simp [e])]
end
end L2
set_option maxHeartbeats 4000000
namespace L2
open PySem PySem.Spec PyProof.Rows
section
variable {prog:Program} {w:V0} {A:U1} {R:Result->t0->Prop} {s:t0}
theorem zj4 {elt target iter:Expr} {ifs:List Expr} {scope:Scope} {pos:Pos} {it acc:Value} {env:Env} (J:Nat->t0->Prop)
  (turn :∀n s,J n s->O0 (j1 prog w) A (n8 it) (λ r s₁=>match r with
   | none=>R (.ok .next) s₁
   | some v=>O0 (j1 prog w) A (X9 target it v) (λ _ s₂=>O0 (j1 prog w) A (assign target env v) (λ _ s₃=>
     O0 (j1 prog w) A (j0d ifs true λ c r=>if r=true then do let ok <-isTrue c env (Y2 c env);d3 (F2 ok) else d3 (F2 r)) (λ ok s₄=>
      if ok=true then O0 (j1 prog w) A (Y2 elt env) (λ x s₅=>O0 (j1 prog w) A (call (.builtin "list.append") [acc,x]) (λ _ s₆=>∃m,m < n/\J m s₆) (λ _ _=>False) s₅) (λ _ _=>False) s₄
      else∃m,m < n/\J m s₄) (λ _ _=>False) s₃) (λ _ _=>False) s₂) (λ _ _=>False) s₁) (λ _ _=>False) s)
  (n:Nat) (h:J n s):C7 (j1 prog w) A (.compLoop (.ListComp elt [⟨target,iter,ifs,0⟩] scope pos) 0 it acc env) R s:=by
 refine codeAny_loop rfl J (λ n s g=>?_) n h;show O0 _ A ((compTurn (.ListComp elt [⟨target,iter,ifs,0⟩] scope pos) 0 it acc env).onRaise (λ x=>do noteFrame x env;theTreesLotGoes x)) _ _ s;refine wpAny_noted ?_;rw [compTurn_list];refine j0 (wpAny_standAt (j0 (X2 (turn n s g) (λ r s₁ a=>?_) λ _ _ f=>f.elim)));cases r with
 | none=>exact D0 a
 | some v=>
  refine j0 (X2 a (λ _ s₂ i=>j0 (X2 i (λ _ s₃ e=>j0 (X2 e (λ ok s₄ b=>?_) λ _ _ f=>f.elim)) λ _ _ f=>f.elim)) λ _ _ f=>f.elim);cases ok with
  | false=>exact D0 ⟨rfl,b⟩
  | true=>exact j0 (j0 (X2 b (λ x s₅ d=>j0 (X2 d (λ _ s₆ j=>D0 (D0 ⟨rfl,j⟩)) λ _ _ f=>f.elim)) λ _ _ f=>f.elim))
end
theorem z4o {env:Env} :∀(names:List (Str×W6)) (acc:List (Str×Addr)),(∀y∈names,y.2=Z1->∃c,env.cells.lookup y.1=some c)->(∀y c,acc.lookup y=some c->env.cells.lookup y=some c)->
  ∃cl,(j0d names acc λ (x:Str×W6) (r:List (Str×Addr))=>(match x with
    | (name,kind)=>if (kind == Z1)=true then do let c <-cellOf env name;d3 (F2 ((name,c) :: r)) else d3 (F2 r):Sem (ForInStep (List (Str×Addr)))))=d3 cl/\
   (∀y c,cl.lookup y=some c->env.cells.lookup y=some c)/\(∀y,((y,Z1)∈names\/∃c,acc.lookup y=some c)->∃c,cl.lookup y=some c)
 | [],acc,_,ha=>⟨acc,by rw [A4],ha,λ y h=>h.elim (λ z=>nomatch z) id⟩
 | (n,k) :: r,acc,hf,ha=>by
  rw [F4];dsimp only;by_cases hk:k=Z1
  ·subst hk;obtain ⟨c,j⟩:=hf (n,.free) F1 rfl;have e:cellOf env n=d3 c:=by unfold cellOf;rw [j]
   rw [if_pos (by rfl),e];obtain ⟨cl,g,i,f⟩:=z4o r ((n,c) :: acc) (λ y a=>hf y (E1 _ a)) (λ y d b=>by
    rw [N4] at b;by_cases a:(y == n)=true
    ·rw [a] at b;have:=eq_of_beq a;subst this;cases b;exact j
    ·rw [j1h] at a;rw [a] at b;exact ha y d b)
   refine ⟨cl,g,i,λ y a=>f y ?_⟩;rcases a with a|⟨d,b⟩
   ·rcases List.mem_cons.mp a with z|z
    ·cases z;exact .inr ⟨c,by rw [N4];simp⟩
    ·exact .inl z
   ·refine .inr ?_;rw [N4];by_cases a:(y == n)=true
    ·rw [a];exact ⟨c,rfl⟩
    ·rw [j1h] at a;rw [a];exact ⟨d,b⟩
  ·rw [if_neg (by simpa using hk)];obtain ⟨cl,g,i,f⟩:=z4o r acc (λ y a=>hf y (E1 _ a)) ha;refine ⟨cl,g,i,λ y a=>f y ?_⟩;rcases a with a|a
   ·rcases List.mem_cons.mp a with z|z
    ·cases z;exact absurd rfl hk
    ·exact .inl z
   ·exact .inr a
theorem zfu {scope:Scope} {env:Env} (hf :∀y∈scope.names,y.2=Z1->∃c,env.cells.lookup y.1=some c) :
  ∃cl,closureFor scope env=d3 cl/\(∀y c,cl.lookup y=some c->env.cells.lookup y=some c)/\(∀y,(y,Z1)∈scope.names->∃c,cl.lookup y=some c):=by
 obtain ⟨cl,d,e,b⟩:=z4o (env:=env) scope.names [] hf (λ _ _ z=>nomatch z);refine ⟨cl,?_,e,λ y a=>b y (.inl a)⟩;simp only [closureFor];rw [d];rfl
theorem mem_of_lookup {κ:Type} {y:Str} {k:κ} :∀{l:List (Str×κ)},l.lookup y=some k->(y,k)∈l
 | (n,c) :: r,h=>by
  rw [N4] at h;by_cases hy:(y == n)=true
  ·rw [hy] at h;cases h;rw [eq_of_beq hy];exact F1
  ·rw [j1h] at hy;rw [hy] at h;exact E1 _ (mem_of_lookup h)
theorem z6b {scope:Scope} {env:Env} (hcell :∀y∈scope.names,y.2≠NameKind.cell) {y:Str} {k:W6} (h:(K8 scope env).names.lookup y=some k) (hk:k=.cell\/k=.free):(y,Z1)∈scope.names:=by
 have m:=mem_of_lookup h;unfold K8 at m;obtain ⟨⟨n,c⟩,a,e⟩:=List.mem_map.mp m;dsimp only at e;by_cases hc:(c == Z1)=true
 ·have:=eq_of_beq hc;subst this;split at e<;>(injection e with e1 e2;subst e1;exact a)
 ·rw [if_neg (by simp [hc])] at e;injection e with e1 e2;subst e1 e2;rcases hk with rfl|rfl
  ·exact absurd rfl (hcell _ a)
  ·exact absurd rfl hc
abbrev cxComp (X:Cx) (scope:Scope) (cl:List (Str×Addr)) (N:List Str) (C:Addr) (s₂:t0) (H₂:Hp) (fp:List Addr):Cx:=
 { X with N:=N,s₀:=s₂,H₀:=H₂,env:=compEnvC scope cl C X.env,outer:=X.stack,stack:=X.stack,ex:=fp,fn:=λ _=>false,pn:=[],xe:=λ _ _=>False }
def PF (X:Cx) (ifs:List Expr) (t:TT):Prop:=
 ∀(pins:List (Addr×Obj)) (s:t0) (σ:St) (H:Hp) (Q:Bool->Hp->Prop),Inv X pins σ H s->t σ H Q->
  O0 (j1 X.prog X.w) X.A (j0d ifs true λ c r=>if r=true then do let ok <-isTrue c X.env (Y2 c X.env);d3 (F2 ok) else d3 (F2 r)) (TP X pins σ Q) X.xe s
theorem pf_nil {X:Cx}:PF X [] (λ _ H Q=>Q true H):=λ _ _ _ H _ I h=>wpAny_tests_nil ⟨H,I,h⟩
theorem pf_one {X:Cx} {c:Expr} {t:TT} (h:PT X c t):PF X [c] t:=λ a s σ H Q I q=>wpAny_tests_one (h a s σ H Q I q)
theorem Vals.snoc {xs:List V} {us:List Value} {x:V} {u:Value} (r:Vals xs us) (q:RelV x u):Vals (xs++[x]) (us++[u]):=Vals.append r (.cons q .nil)
def TagOf (H:Hp) (x:V) (T:String):Prop:=match x with
 | .non=>T = "NoneType"
 | .bl _=>T = "bool"
 | .int _=>T = "int"
 | .str _=>T = "str"
 | .ref a=>((∃xs,H a=some (.lst xs))/\T = "list")\/((∃xs,H a=some (.tup xs))/\T = "tuple")\/((∃kvs,H a=some (.dK kvs))/\T = "dict")
 | _=>False
def instB (T C:String):Bool:=T == C || (T == "bool" && C == "int")
theorem TagOf.ty {K:c0} {H:Hp} {x:V} {T:String} (h:TagOf H x T):TyOf K H x (.type T):=by
 cases x with
 | non=>cases (show T = "NoneType" from h);exact .non
 | bl b=>cases (show T = "bool" from h);exact .bl b
 | int i=>cases (show T = "int" from h);exact .int i
 | str z=>cases (show T = "str" from h);exact .str z
 | ref a=>
  rcases h with ⟨⟨c,e⟩,rfl⟩|⟨⟨c,e⟩,rfl⟩|⟨⟨c,e⟩,rfl⟩
  ·exact .lst e
  ·exact .tup e
  ·exact .dK e
 | _=>exact h.elim
theorem TagOf.one {H:Hp} {x:V} {T:String} (h:TagOf H x T):T = "NoneType"\/T = "bool"\/T = "int"\/T = "str"\/T = "list"\/T = "tuple"\/T = "dict":=by
 cases x with
 | non=>exact .inl h
 | bl b=>exact .inr (.inl h)
 | int i=>exact .inr (.inr (.inl h))
 | str z=>exact .inr (.inr (.inr (.inl h)))
 | ref a=>rcases h with ⟨_,rfl⟩|⟨_,rfl⟩|⟨_,rfl⟩<;>simp
 | _=>exact h.elim
def isiC:List String:=["int","str","bool","tuple","list"]
theorem kit_of (K:c0) {T C:String} (h:T = "NoneType"\/T = "bool"\/T = "int"\/T = "str"\/T = "list"\/T = "tuple"\/T = "dict") (hC:C∈isiC):PySem.W.kitOne K (.type T) (.type C)=some (instB T C):=by
 have hC:C = "int"\/C = "str"\/C = "bool"\/C = "tuple"\/C = "list":=by simpa [isiC] using hC
 rcases h with rfl|rfl|rfl|rfl|rfl|rfl|rfl<;>rcases hC with rfl|rfl|rfl|rfl|rfl<;>kernel_rfl
section
variable {X:Cx}
theorem z0t:CallR X (.builtin "isinstance") (λ xs H Q=>∃x C T,xs=[x,.ty C]/\TagOf H x T/\C∈isiC/\Q (.bl (instB T C)) H):=by intro g s σ H xs i Q I r h;obtain ⟨x,C,T,rfl,a,b,q⟩:=h;obtain ⟨u,e,rfl,c,d⟩:=vals2 r;cases (show e=M5 C from d);exact zil I c a.ty (kit_of X.K a.one b) λ f=>⟨.bl _,H,I.tok f,rfl,q⟩
theorem zhv {ys:List V} {its:List Value} (rv:Vals ys its) (hb :∀y∈ys,∃b,y=V.bl b):((K1 its.length).all λ i=>decide (ys[i]? = some (V.bl true)))=ys.all λ y=>decide (y=V.bl true):=by
 have e:=rv.length;rw [Bool.eq_iff_iff,z8,z8];constructor
 ·intro h y d;obtain ⟨i,a,rfl⟩:=List.getElem_of_mem d;have:=h i (List.mem_range.mpr (by omega));simpa [a] using this
 ·intro h i a;have c:i < ys.length:=by have:=List.mem_range.mp a;omega
  have:=h ys[i] (P6 c);simpa [c] using this
theorem z23 (hc:X.calm=true):CallR X (.builtin "all") (λ xs H Q=>∃p ys,xs=[.ref p]/\SqL X.K H p ys/\(∀y∈ys,∃b,y=V.bl b)/\Q (.bl (ys.all λ y=>decide (y=V.bl true))) H):=by
 intro G s σ H xs L Q I r h;obtain ⟨p,ys,rfl,w,j,q⟩:=h;obtain ⟨u,rfl,B⟩:=vals1 r;cases B;obtain ⟨m,f,c,M⟩:=I.list w;have C:p≠s.heap.objs.size:=by obtain ⟨o,e,_⟩:=c.isList;exact Z0 (M0 e)
 refine call_all_walk (S6 c.isList ?_);refine ⟨s.heap.objs.size,_,_,_,_,_,λ i=>decide (ys[i]? = some (V.bl true)),rfl,Walks.list (show X.A.in1.handled=none from I.ok.hd hc) s.heap.objs.size p C m.toArray,⟨⟨_,P0 _ rfl,rfl,rfl⟩,c.isList.at λ o e=>C0 _ e⟩,?_,?_⟩
 ·intro i v O P J a t;have a:m[i]? = some v:=by simpa using a
  obtain ⟨F,e⟩:=List.getElem?_eq_some_iff.mp a;have d:i < ys.length:=by rw [f.length];exact F
  obtain ⟨b,k⟩:=j ys[i] (P6 d);obtain ⟨u,l,g⟩:=f.get (i:=i) (x:=ys[i]) (by simp [d]);rw [a] at l;cases l;rw [k] at g;cases (show v=J4 b from g);have:decide (ys[i]? = some (V.bl true))=b:=by rw [N0 d,k];cases b<;>simp
  exact y4 (this ▸ t)
 ·intro N D E;have e:=zhv f j;rw [<-R0] at e;refine ⟨.bl _,H,I.kept (t':=D) λ b o z=>E b o ?_ (C0 _ z),rfl,e.symm ▸ q⟩;intro n;rw [List.mem_singleton.mp n] at z;exact absurd (M0 z) (j4 _)
def CDivB (i j:Int):Prop:=0 < j/\j < 2 ^ 64
theorem z6d:OpR X (M4 .FloorDiv) (rI CDivB λ i j=>.int (i / j)):=opI λ i j _ _ _ _ _ a q=>by
 obtain ⟨b,c⟩:=a;refine floordiv_int (by omega) ?_ (.inl (PyProof.noPylong_of_log2 ?_))
 ·rw [Int.fdiv_eq_ediv_of_nonneg _ (by omega)];exact q
 ·have:j.natAbs.log2 < 64:=(Nat.log2_lt (by omega)).mpr (by omega);omega
structure KDict (K:c0) (P:U0) (a:Addr) (kvs:List (Str×V)):Prop where
 ex :∃es n,K.lookup a=some ⟨.type "dict",none,.dict es n,#[]⟩/\Q9 (λ (p:Str×V) (e:DictEntry)=>(∃t,e.key=.str p.1 t)/\e.hash=d0 P p.1/\RelV p.2 e.val) kvs es.toList
 lo:(a == L3)=false
theorem ziv {kvs:List (Str×V)} {P:U0} :∀{es:List DictEntry},Q9 (λ (p:Str×V) (e:DictEntry)=>(∃t,e.key=.str p.1 t)/\e.hash=d0 P p.1/\RelV p.2 e.val) kvs es->∀z,
  RelO (kvs.lookup z) (findBy Z7 es.toArray z):=by
 intro es r;induction r with
 | nil=>intro z;exact True.intro
 | @cons p e kvs es h t a=>
  intro z;obtain ⟨⟨g,d⟩,f,c⟩:=h;have a:=a z;unfold findBy at a⊢;rw [List.find?_toArray] at a⊢;rw [G4,N4];have b:Z7 z e.key=(z == p.1):=by rw [d];show (p.1 == z)=_;rw [Bool.eq_iff_iff,beq_iff_eq,beq_iff_eq];exact ⟨λ q=>q.symm,λ q=>q.symm⟩
  cases hz:(z == p.1) with
  | true=>rw [b,hz];exact c
  | false=>rw [b,hz];exact a
theorem KDict.mapOf {a:Addr} {kvs:List (Str×V)} (D:KDict X.K X.w.params a kvs) {h:Heap} (k:X.K.In h) :∃f,h.MapOf (strKind X.prog X.w) a f/\∀z,RelO (kvs.lookup z) (f z):=by
 obtain ⟨c,n,d,r⟩:=D.ex;have b:PySem.W.KeysLit X.w.params c.toList:=by
  clear d D;generalize c.toList=l at r;induction r with
  | nil=>exact True.intro
  | cons h t ih=>obtain ⟨⟨i,b⟩,g,j⟩:=h;exact ⟨⟨_,i,b,g⟩,ih⟩
 have e :∀z,RelO (kvs.lookup z) (findBy Z7 c.toList.toArray z):=ziv r;exact ⟨_,PySem.W.mapOf_K (prog:=X.prog) k d b,λ z=>by simpa using e z⟩
theorem zli {a:Addr} {kvs:List (Str×V)} (D:KDict X.K X.w.params a kvs):OpR X (J2 .In) (λ x y H Q=>∃z,x=.str z/\y=.ref a/\Q (.bl (kvs.lookup z).isSome) H):=by intro g s σ H x y v u Q I c d h;obtain ⟨z,rfl,rfl,q⟩:=h;obtain ⟨t,rfl⟩:=c;cases d;obtain ⟨f,b,e⟩:=D.mapOf I.kIn;refine wpAny_in_of (L9 X.prog X.w z t) D.lo b ⟨.bl _,H,I.tok _,rfl,?_⟩;have:=e z;rw [RelO.isSome_eq this] at q;exact q
theorem ix_kd {a:Addr} {kvs:List (Str×V)} (D:KDict X.K X.w.params a kvs):IxR X (λ x y H Q=>∃z v,x=.ref a/\y=.str z/\kvs.lookup z=some v/\Q v H):=by
 intro m l k s σ H x y v u Q I g i h d;obtain ⟨z,r,rfl,rfl,e,q⟩:=h;cases g;obtain ⟨t,rfl⟩:=i;obtain ⟨f,c,j⟩:=D.mapOf I.kIn;have b:=j z;rw [e] at b;cases ef:f z with
 | none=>rw [ef] at b;exact b.elim
 | some u=>rw [ef] at b;exact j4a c.typeIs slot_dict_getitem.lookup (wpAny_getItem_of (L9 X.prog X.w z t) c ef ⟨r,H,I.tok _,b,q⟩) d
structure KDictT (K:c0) (P:U0) (a:Addr) (kvs:List ((Str×Str)×V)):Prop where
 ex :∃es n,K.lookup a=some ⟨.type "dict",none,.dict es n,#[]⟩/\Q9 (λ (p:(Str×Str)×V) (e:DictEntry)=>(∃(b:Addr) (t t':Tok) (m:Nat),e.key=.ref b/\K.lookup b=some ⟨.type "tuple",none,.seq #[.str p.1.1 t,.str p.1.2 t'] m,#[]⟩)/\
  e.hash=N1 (o0 [d0 P p.1.1,d0 P p.1.2])/\RelV p.2 e.val) kvs es.toList
 nd:(kvs.map (·.1)).Nodup
 lo:(a == L3)=false
theorem zhw {prog:Program} {w:V0} {K:c0} {h:Heap} (k:K.In h) :∀{kvs:List ((Str×Str)×V)} {es:List DictEntry},
  Q9 (λ (p:(Str×Str)×V) (e:DictEntry)=>(∃(b:Addr) (t t':Tok) (m:Nat),e.key=.ref b/\K.lookup b=some ⟨.type "tuple",none,.seq #[.str p.1.1 t,.str p.1.2 t'] m,#[]⟩)/\
   e.hash=N1 (o0 [d0 w.params p.1.1,d0 w.params p.1.2])/\RelV p.2 e.val) kvs es->
  ∃xs:List (List Str×Addr×Value),es=xs.map (entryOfKey (G6 (strKind prog w)))/\(∀x∈xs,(G6 (strKind prog w)).is h x.1 x.2.1)/\xs.map (·.1)=kvs.map (λ p=>[p.1.1,p.1.2])/\
   ∀a b,RelO (kvs.lookup (a,b)) ((z9 xs [a,b]).map (·.2)):=by
 intro kvs es r;induction r with
 | nil=>exact ⟨[],rfl,λ x f=>absurd f A0,rfl,λ a b=>True.intro⟩
 | @cons p e kvs es hpe t ih=>
  obtain ⟨xs,u,q,n,s⟩:=ih;obtain ⟨⟨b,B,D,m,l,v⟩,g,y⟩:=hpe;refine ⟨([p.1.1,p.1.2],b,e.val) :: xs,?_,?_,?_,?_⟩
  ·rw [J1,<-u];congr 1;obtain ⟨A,o,C⟩:=e;have l:o=.ref b:=l;have g:A=_:=g;subst l g;rfl
  ·intro x f;rcases List.mem_cons.mp f with rfl|f
   ·exact ⟨_,_,m,k _ _ v,rfl,rfl,.cons (L9 prog w _ _) (.cons (L9 prog w _ _) .nil)⟩
   ·exact q x f
  ·rw [J1,J1,n]
  ·intro c d;have:=s c d;rw [N4];unfold z9 at this⊢;rw [G4];by_cases hcd:(c,d)=p.1
   ·have j:((c,d) == p.1)=true:=by rw [beq_iff_eq];exact hcd
    rw [j];have i:decide ([p.1.1,p.1.2]=[c,d])=true:=by rw [<-hcd];simp
    rw [i];exact y
   ·have j:((c,d) == p.1)=false:=by rw [beq_eq_false_iff_ne];exact hcd
    rw [j];have i:decide ([p.1.1,p.1.2]=[c,d])=false:=by rw [decide_eq_false_iff_not];intro z;injection z with z1 z;injection z with z2 _;exact hcd (Prod.ext z1.symm z2.symm)
    rw [i];exact this
theorem z81 :∀{l:List (Str×Str)},l.Nodup->(l.map λ p=>[p.1,p.2]).Nodup
 | [],_=>L7
 | p :: r,h=>by obtain ⟨a,b⟩:=List.nodup_cons.mp h;rw [J1];refine List.nodup_cons.mpr ⟨λ m=>a ?_,z81 b⟩;obtain ⟨q,c,e⟩:=List.mem_map.mp m;injection e with e1 e;injection e with e2 _;have:q=p:=Prod.ext e1 e2;exact this ▸ c
theorem KDictT.dict {a:Addr} {kvs:List ((Str×Str)×V)} (D:KDictT X.K X.w.params a kvs) {h:Heap} (k:X.K.In h) :∃xs,h.DictOfH (G6 (strKind X.prog X.w)) a xs/\∀c d,RelO (kvs.lookup (c,d)) ((z9 xs [c,d]).map (·.2)):=by obtain ⟨j,n,g,r⟩:=D.ex;obtain ⟨xs,f,i,e,b⟩:=zhw (prog:=X.prog) (w:=X.w) k r;refine ⟨xs,⟨_,j,n,k _ _ g,⟨rfl,rfl,rfl⟩,rfl,f,i,?_⟩,b⟩;rw [e];have:=z81 D.nd;rw [G3] at this;exact this
theorem zka {pins:List (Addr×Obj)} {σ:St} {H:Hp} {s:t0} {p:Addr} {c d:Str} (I:Inv X pins σ H s) (hp:H p=some (.tup [.str c,.str d])):(G6 (strKind X.prog X.w)).is s.heap [c,d] p:=by
 obtain ⟨_,h,a,⟨o,e,f,n,b⟩,_⟩:=(show ObjOk X.prog X.w H s.heap p (.tup [.str c,.str d]) from I.hok p _ hp)
 cases a with
 | cons r1 a=>
  cases a with
  | cons r2 a=>cases a;obtain ⟨i,rfl⟩:=r1;obtain ⟨g,rfl⟩:=r2;exact ⟨o,_,n,e,f,b,.cons (L9 X.prog X.w _ _) (.cons (L9 X.prog X.w _ _) .nil)⟩
theorem zby {a:Addr} {kvs:List ((Str×Str)×V)} (hu:X.A.units + 1 < cLine) (D:KDictT X.K X.w.params a kvs) :
  OpR X (J2 .NotIn) (λ x y H Q=>∃p c d,x=.ref p/\H p=some (.tup [.str c,.str d])/\y=.ref a/\Q (.bl (!(kvs.lookup (c,d)).isSome)) H):=by
 intro j s σ H x y v u Q I e f h;obtain ⟨p,c,d,rfl,g,rfl,q⟩:=h;cases e;cases f;obtain ⟨l,b,i⟩:=D.dict I.kIn;refine wpAny_notIn_heap (k:=[c,d]) hu (zka I g) D.lo b ⟨.bl _,H,I.tok _,rfl,?_⟩;have:=RelO.isSome_eq (i c d);rw [V7] at this;rw [this] at q;exact q
theorem ix_kdt {a:Addr} {kvs:List ((Str×Str)×V)} (hu:X.A.units + 1 < cLine) (D:KDictT X.K X.w.params a kvs) :
  IxR X (λ x y H Q=>∃p c d v,x=.ref a/\y=.ref p/\H p=some (.tup [.str c,.str d])/\kvs.lookup (c,d)=some v/\Q v H):=by
 intro B t o s σ H x y v u Q I l m h j;obtain ⟨p,c,d,r,rfl,rfl,i,e,q⟩:=h;cases l;cases m;obtain ⟨g,f,n⟩:=D.dict I.kIn;have b:=n c d;rw [e] at b;cases ef:z9 g [c,d] with
 | none=>rw [ef] at b;exact b.elim
 | some z=>rw [ef] at b;exact j4a f.typeIs slot_dict_getitem.lookup (wpAny_getItem_heap (k:=[c,d]) hu (zka I i) f ef ⟨r,H,I.tok _,b,q⟩) j
end
structure Cal (P:Program) (w:V0) (K:c0) (mg:Str->Option Value) (base:Heap) (x:Str) (ps:List Str) (k:Nat) (sp:Sp):Prop where
 ex :∃f fd,FnOk P w K mg base CX0 k f fd ps sp/\mg x=some (.ref f)/\M3 K (.ref f)=true/\Binds K fd ps []
section
variable {X:Cx} {x:Str} {ps:List Str} {k:Nat} {sp:Sp} {e:Expr} {es:List Expr} {t:TA} {p pos:Pos}
theorem pe_cal (c:Cal X.prog X.w X.K X.mg X.base x ps k sp) (hr:Room k X.A) (hg:Gl X x) (ha:PA X (e :: es) t) (hn:x≠"__name__":=by decide) (hdb:(x == ("__debug__" : Str))=false:=by decide)
  (he:A1 (e :: es) X.env=(false,Y2 e X.env) :: A1 es X.env:=by rfl) (hpl:(Z3 pos (A1 es X.env)).any (·.1)=false:=by rfl):PE X (.Call (.Name x p) (e :: es) [] pos) (tCall sp [] E0 t):=by
 obtain ⟨f,g,F,a,b,d⟩:=c.ex;exact zkh F hr hg a b d .nil pass0 ha hdb he hpl
end
structure TX (K:c0) (mg:Str->Option Value):Prop where
 of :∀{n:Str} {v:Value},m6 K m3 n=some (some v)->mg n=some v
 no :∀{n:Str},m6 K m3 n=some none->mg n=none
theorem TX.mk' {K:c0} {mg:Str->Option Value} {h:Heap} (X:K.In h) (G:h.Ns m3 mg):TX K mg:=⟨λ e=>PySem.W.mg_of X G e,λ e=>PySem.W.mg_none_of X G e⟩
section
variable {X:Cx}
def rAdd4 (K:c0):R2:=λ x y H Q=>(∃i j,x=.int i/\y=.int j/\Q (.int (i + j)) H)\/(∃i j,x=.str i/\y=.str j/\i.length + j.length<=sizeLine/\Q (.str (i++j)) H)\/rCat x y H Q\/rCatT K x y H Q
theorem opAdd:OpR X (M4 .Add) (rAdd4 X.K):=op_add.or (op_add_str.or (op_cat.or zar))
theorem opEq:OpR X (J2 .Eq) rEq:=op_eq
theorem opNe:OpR X (J2 .NotEq) rNe:=op_ne
theorem z2m:CallR X (.builtin "len") (λ xs H Q=>(∃p ys,xs=[.ref p]/\(SqL X.K H p ys\/SqT X.K H p ys)/\Q (.int ys.length) H)\/∃z,xs=[.str z]/\z.length<=sizeLine/\Q (.int z.length) H):=call_len_seq.or zba
end
def z11 (x:V) (g:Int):Bool:=match x with
 | .int i=>decide (-g<=i) && decide (i<=g)
 | _=>false
def tupOf (H:Hp) (x:V):Option (List V):=match x with
 | .ref a=>(match H a with|some (.tup xs)=>some xs|_=>none)
 | _=>none
theorem zg6 {H H':Hp} {x:V} {T:String} (t:TagOf H x T) (e:Same H H'):tupOf H' x=tupOf H x:=by
 cases x with
 | ref a=>rcases t with ⟨⟨b,h⟩,_⟩|⟨⟨b,h⟩,_⟩|⟨⟨b,h⟩,_⟩<;>(unfold tupOf;dsimp only;rw [h,e a _ h])
 | _=>rfl
theorem TagOf.same {H H':Hp} {x:V} {T:String} (t:TagOf H x T) (e:Same H H'):TagOf H' x T:=by
 cases x with
 | ref a=>
  rcases t with ⟨⟨b,h⟩,z⟩|⟨⟨b,h⟩,z⟩|⟨⟨b,h⟩,z⟩
  ·exact .inl ⟨⟨b,e a _ h⟩,z⟩
  ·exact .inr (.inl ⟨⟨b,e a _ h⟩,z⟩)
  ·exact .inr (.inr ⟨⟨b,e a _ h⟩,z⟩)
 | _=>exact t
theorem TagOf.tuple {H:Hp} {x:V} (t:TagOf H x "tuple") :∃a xs,x=.ref a/\H a=some (.tup xs):=by
 cases x with
 | ref a=>
  rcases t with ⟨_,z⟩|⟨⟨xs,h⟩,_⟩|⟨_,z⟩
  ·exact absurd z (by decide)
  ·exact ⟨a,xs,rfl,h⟩
  ·exact absurd z (by decide)
 | non=>exact absurd (show "tuple" = "NoneType" from t) (by decide)
 | bl b=>exact absurd (show "tuple" = "bool" from t) (by decide)
 | int i=>exact absurd (show "tuple" = "int" from t) (by decide)
 | str z=>exact absurd (show "tuple" = "str" from t) (by decide)
 | _=>exact t.elim
theorem TagOf.int {H:Hp} {x:V} (t:TagOf H x "int") :∃i,x=.int i:=by
 cases x with
 | ref a=>rcases t with ⟨_,z⟩|⟨_,z⟩|⟨_,z⟩<;>exact absurd z (by decide)
 | non=>exact absurd (show "int" = "NoneType" from t) (by decide)
 | bl b=>exact absurd (show "int" = "bool" from t) (by decide)
 | int i=>exact ⟨i,rfl⟩
 | str z=>exact absurd (show "int" = "str" from t) (by decide)
 | _=>exact t.elim
theorem TagOf.str {H:Hp} {x:V} (t:TagOf H x "str") :∃z,x=.str z:=by
 cases x with
 | ref a=>rcases t with ⟨_,z⟩|⟨_,z⟩|⟨_,z⟩<;>exact absurd z (by decide)
 | non=>exact absurd (show "str" = "NoneType" from t) (by decide)
 | bl b=>exact absurd (show "str" = "bool" from t) (by decide)
 | int i=>exact absurd (show "str" = "int" from t) (by decide)
 | str z=>exact ⟨z,rfl⟩
 | _=>exact t.elim
theorem noInt {H:Hp} {x:V} {T:String} (t:TagOf H x T) (h:T≠"int") (g:Int):z11 x g=false:=by
 cases x with
 | int i=>exact absurd t h
 | _=>rfl
theorem noTup {H:Hp} {x:V} {T:String} (t:TagOf H x T) (h:T≠"tuple"):tupOf H x=none:=by
 cases x with
 | ref a=>
  rcases t with ⟨⟨b,e⟩,_⟩|⟨_,z⟩|⟨⟨b,e⟩,_⟩
  ·unfold tupOf;dsimp only;rw [e]
  ·exact absurd z h
  ·unfold tupOf;dsimp only;rw [e]
 | _=>rfl
theorem z6u {H:Hp} {x:V} {T:String} (t:TagOf H x T) {C:String} (h:C≠"int"):instB T C=decide (T=C):=by
 unfold instB;have:(C == "int")=false:=by simpa using h
 rw [this,K9,Bool.or_false,Bool.beq_eq_decide_eq]
def Flat (H:Hp) (x:V):Prop:=∀xs,tupOf H x=some xs->xs.length<=1000/\∀y∈xs,∃T,TagOf H y T
theorem zc7 {α β:Type} [BEq α] [LawfulBEq α] {l:List (α×β)} {a:α} {b:β} (h:l.lookup a=some b):(a,b)∈l:=by
 induction l with
 | nil=>cases h
 | cons p r ih=>
  obtain ⟨c,d⟩:=p;rw [N4] at h;cases hc:(a == c) with
  | true=>rw [hc] at h;cases h;rw [eq_of_beq hc];exact F1
  | false=>rw [hc] at h;exact E1 _ (ih h)
theorem zhm {names:List (Str×W6)} {Q:Str×W6->Prop} (h:(names.all λ y=>y.2 != Z1)=true) :∀y∈names,y.2=Z1->Q y:=λ y a e=>by have:=List.all_eq_true.mp h y a;rw [e] at this;exact absurd this (by decide)
theorem Same.upd {H:Hp} {p:Addr} {o:HO} (h:H p=none):Same H (upd H p o):=λ b u e=>by rw [upd_ne (z07 e h)];exact e
theorem Same.seqT {K:c0} {H H':Hp} {a:Addr} {xs:List V} (e:Same H H') (h:SqT K H a xs):SqT K H' a xs:=by
 rcases h with (h|⟨o,h⟩)|h
 ·exact .inl (.inl (e _ _ h))
 ·exact .inl (.inr ⟨o,e _ _ h⟩)
 ·exact .inr h
theorem zh5 {H:Hp} {x:V} {xs:List V} (h:tupOf H x=some xs) :∃a,x=.ref a/\H a=some (.tup xs):=by
 unfold tupOf at h;cases x with
 | ref a=>
  dsimp only at h;split at h
  ·rename_i ys e;exact ⟨a,rfl,by rw [e,P1 h]⟩
  ·cases h
 | _=>cases h
end L2
namespace L2
open PySem PySem.Spec PyProof.Rows
open Builtin.Str (occurrences partsBetween strKind)
section
variable {X:Cx}
theorem zch {vl:Value} {lo:Option Int} (p:S9 vl lo) :∃l:Option (Int×Tok),vl=partValue l/\l.map (·.1)=lo:=by
 cases p with
 | none=>exact ⟨none,rfl,rfl⟩
 | int i t=>exact ⟨some (i,t),rfl,rfl⟩
end
end L2
namespace L2
open PySem PySem.Spec PyProof.Rows
section
variable {X:Cx}
def rSlS:V->Option Int->Option Int->Hp->VK->Prop:=λ x lo hi H Q=>∃z,x=.str z/\z.length<=sizeLine/\Q (.str (Txt.slice z lo hi)) H
theorem sl_str:SlR X rSlS:=by
 intro n s σ H x v p o m r j Q I g f a i h;obtain ⟨z,rfl,e,q⟩:=h;obtain ⟨t,rfl⟩:=g;obtain ⟨l,rfl,b⟩:=zch a;obtain ⟨u,rfl,d⟩:=zch i;subst b d;refine ⟨"str",_,F.slot_str_getitem.lookup,typeIs_str _ _ _,wpAny_getItem_str_slice (l:=l) (u:=u) (st:=none) f rfl
  (post_val_or_str ⟨F0 (Txt.slice_le z _ _) e,λ c k=>⟨.str (Txt.slice z _ _),H,I.tok k,⟨c,rfl⟩,q⟩⟩)⟩
theorem slSeq:SlR X (λ x lo hi H Q=>rSlL X.K x lo hi H Q\/rSlT X.K x lo hi H Q\/rSlS x lo hi H Q):=sl_list.or (sl_tup.or sl_str)
theorem zic:CallR X (.type "int") (λ xs H Q=>∃z n,xs=[.str z]/\PySem.intText? z=some n/\z.length<=640/\Q (.int n) H):=by intro c s σ H xs d Q I r h;obtain ⟨z,n,rfl,b,a,q⟩:=h;obtain ⟨u,rfl,t,rfl⟩:=vals1 r;exact PySem.W.KIN.call_text b a ⟨.int n,H,I.tok _,⟨_,rfl⟩,q⟩
theorem zbj:CallR X (.type "int") (λ xs H Q=>((∃i,xs=[.int i]/\Q (.int i) H)\/∃k,xs=[.bl k]/\Q (.int (if k then 1 else 0)) H)\/∃z n,xs=[.str z]/\PySem.intText? z=some n/\z.length<=640/\Q (.int n) H):=call_int1.or zic
end
def RowAt (H:Hp) (r:Addr):Prop:=∃a b c:Int,H r=some (.lst [.int a,.int b,.int c])/\0<=c/\c < 536870909
def Kept (r:Addr) (H H':Hp):Prop:=∀b o,b≠r->H b=some o->H' b=some o
theorem Kept.refl {r:Addr} {H:Hp}:Kept r H H:=λ _ _ _ h=>h
theorem Kept.trans {r:Addr} {H H1 H2:Hp} (a:Kept r H H1) (b:Kept r H1 H2):Kept r H H2:=λ c o n h=>b c o n (a c o n h)
theorem Same.kept {r:Addr} {H H':Hp} (s:Same H H'):Kept r H H':=λ b o _ h=>s b o h
theorem Kept.set {r:Addr} {H:Hp} {o:HO}:Kept r H (upd H r o):=λ b u n h=>by rw [upd_ne n];exact h
structure Rw (r:Addr) (H H':Hp):Prop where
 k:Kept r H H'
 r:RowAt H' r
theorem atI_of {α:Type} {xs:List α} {t:Int} (h0:0<=t) (h1:t < xs.length) :∃v,atI xs t=some v/\v∈xs:=by
 have a:t.toNat < xs.length:=by omega
 refine ⟨xs[t.toNat],?_,P6 a⟩;have:=z0c (xs:=xs) (j:=t.toNat) (v:=xs[t.toNat]) (by simp [a]);rw [Int.toNat_of_nonneg h0] at this;exact this
section
variable {r:Addr} {σ:St} {H0:Hp} {K:c0}
theorem g_name {i:Nat} {v:V} {σ:St} {H:Hp} {Q:St->Hp->Prop} (h:Q (σ.set i (some v)) H):gName i v σ H Q:=h
theorem t_nx {nx ct bk:St->Hp->Prop} {rt:VK} {σ:St} {H:Hp} (h:nx σ H):Ends.nx { nx:=nx,rt:=rt,bk:=bk,ct:=ct } σ H:=h
theorem t_next {nx ct bk:St->Hp->Prop} {rt:VK} {σ:St} {H:Hp} (h:nx σ H):tNext { nx:=nx,rt:=rt,bk:=bk,ct:=ct } σ H:=h
end
end L2
namespace L2
open PySem
section
variable {prog:Program} {w:V0} {A:U1} {E:Value->t0->Prop} {s:t0}
theorem tupOn {it t:Addr} {i:Nat} {its:Array Value} {x:Value} {Q:Value->t0->Prop} (a:s.heap.IsTupleIter it t i) (b:s.heap.IsTuple t its) (c:its[i]? = some x)
  (q :∀h',h'.IsTupleIter it t (i + 1)->S5 it s.heap h'->Q x { s with heap:=h' }):O0 (j1 prog w) A (V1 (.ref it)) Q E s:=by
 obtain ⟨o,e,g,d⟩:=id a;obtain ⟨p,f,_,n,h⟩:=b;unfold V1;refine j0 (i3 (name:=u3 "__next__") a.typeIs X5 (P2 X5 a.typeIs j3b (show O0 _ _ (field (.ref it) 0 >>= _) _ _ s from j0 (O3 e d (x:=.ref t) rfl ?_)) (j32 _)));show O0 _ _ (if (Value.ref t == K2)=true then _ else (field (.ref it) 1 >>= _)) _ _ s;rw [if_neg (by exact S0)];refine j0 (O3 e d (x:=.int i 0) rfl (show O0 _ _ (seqItems? (.ref t) >>= _) _ _ s from j0 (u4 f h ?_)));simp only [F6,c];refine j0 (j0b e d (by simp) (D0 ⟨x,rfl,D0 (q _ ⟨_,o9 _ e (Obj.isFreed_of_fields (Obj.data_mapFields d _)),(Obj.cls_mapFields ..).trans g,?_⟩ (d5 ..))⟩));rw [Obj.data_mapFields d];simp [M9]
theorem tupOff {it t:Addr} {i:Nat} {its:Array Value} {Q:Value->t0->Prop} (hh:A.handled=none) (a:s.heap.IsTupleIter it t i) (b:s.heap.IsTuple t its) (c:its[i]? = none)
  (q :∀h' e,E9 it s.heap h'->(∃o,h'.get? e=some o/\o.cls=.type "StopIteration")->E (.ref e) { s with heap:=h' }):O0 (j1 prog w) A (V1 (.ref it)) Q E s:=by
 obtain ⟨o,f,j,d⟩:=id a;obtain ⟨p,g,_,n,h⟩:=b;unfold V1;refine j0 (i3 (name:=u3 "__next__") a.typeIs X5 (P2 X5 a.typeIs j3b (show O0 _ _ (field (.ref it) 0 >>= _) _ _ s from j0 (O3 f d (x:=.ref t) rfl ?_)) (j32 _)));show O0 _ _ (if (Value.ref t == K2)=true then _ else (field (.ref it) 1 >>= _)) _ _ s;rw [if_neg (by exact S0)];refine j0 (O3 f d (x:=.int i 0) rfl (show O0 _ _ (seqItems? (.ref t) >>= _) _ _ s from j0 (u4 g h ?_)));simp only [F6,c];refine j0 (m7 (j0 (j0b f d (by simp) (show O0 _ _ (newExc (.type "StopIteration") [] >>= _) _ _ _ from j0 ?_))));simp only [newExc,newTuple];refine j0 (F3 (j0 (m:=j0e _ _) (wpAny_of_eq (a:=K2) (by first|rfl|(simp only [j0e];rfl)) (F3 ?_ (by size_fits)))) (by size_fits));simp only [raiseNew];refine j0 (wpAny_handled ?_);first|rw [show A.in1.handled=none from hh]|rw [hh]
 exact j0 (D0 (wpAny_throw (q _ _ (((d5 ..).extBut.push _).push _) ⟨_,P0 _ rfl,rfl⟩)))
structure ZApart (z T U i j a b:Addr):Prop where
 dis:[z,T,U,i,j].Nodup
 fa:a∉[z,T,U,i,j]
 fb:b∉[z,T,U,i,j]
structure ZAt (h:Heap) (z T U i j a b:Addr) (n:Nat) (f:Value):Prop where
 z:j1f h z T U f
 t:W7 h T (.ref i) (.ref j)
 u :∃p q,W7 h U p q
 i:h.IsTupleIter i a n
 j:h.IsTupleIter j b n
theorem ZApart.ne {z T U i j a b:Addr} (D:ZApart z T U i j a b):(z≠T/\z≠U/\z≠i/\z≠j)/\(T≠U/\T≠i/\T≠j)/\(U≠i/\U≠j)/\i≠j:=by have d:=D.dis;simp only [j23,Y0,A0,or_false,not_or,not_false_eq_true,L7,and_true] at d;exact ⟨d.1,d.2.1,d.2.2.1,d.2.2.2⟩
theorem ZApart.ofA {z T U i j a b:Addr} (D:ZApart z T U i j a b):a≠z/\a≠T/\a≠U/\a≠i/\a≠j:=by have d:=D.fa;simp only [Y0,A0,or_false,not_or] at d;exact d
theorem ZApart.ofB {z T U i j a b:Addr} (D:ZApart z T U i j a b):b≠z/\b≠T/\b≠U/\b≠i/\b≠j:=by have d:=D.fb;simp only [Y0,A0,or_false,not_or] at d;exact d
theorem zmp (n a b:Nat) (ha:a < n) (hb:b < n):([n + 4,n + 2,n + 3,n,n + 1]:List Nat).Nodup/\a∉([n + 4,n + 2,n + 3,n,n + 1]:List Nat)/\b∉([n + 4,n + 2,n + 3,n,n + 1]:List Nat):=by
 refine ⟨?_,?_,?_⟩
 ·simp only [j23,Y0,A0,or_false,not_or,not_false_eq_true,L7,and_true];omega
 ·simp only [Y0,A0,or_false,not_or];omega
 ·simp only [Y0,A0,or_false,not_or];omega
theorem zApart {n a b:Addr} (ha:a < n) (hb:b < n):ZApart (n + 4) (n + 2) (n + 3) n (n + 1) a b:=
 have h:=zmp n a b ha hb
 ⟨h.1,h.2.1,h.2.2⟩
end
end L2
namespace L2
open PySem PySem.Spec PyProof.Rows
inductive Dt where
 | non|bl (b:Bool)|int (i:Int)|str (z:Str)|tup (ds:List Dt)
mutual
def IsDt (K:c0) (H:Hp):Dt->V->Prop
 | .non,v=>v=.non
 | .bl b,v=>v=.bl b
 | .int i,v=>v=.int i
 | .str z,v=>v=.str z
 | .tup ds,v=>∃a xs,v=.ref a/\SqT K H a xs/\IsDts K H ds xs
def IsDts (K:c0) (H:Hp):List Dt->List V->Prop
 | [],xs=>xs=[]
 | d :: ds,xs=>∃x r,xs=x :: r/\IsDt K H d x/\IsDts K H ds r
end
mutual
theorem IsDt.same' {K:c0} {H H':Hp} (s:Same H H') :∀(d:Dt) (v:V),IsDt K H d v->IsDt K H' d v
 | .non,v,h=>h
 | .bl b,v,h=>h
 | .int i,v,h=>h
 | .str z,v,h=>h
 | .tup ds,v,h=>by obtain ⟨a,c,rfl,e,r⟩:=h;exact ⟨a,c,rfl,s.seqT e,IsDts.same' s ds c r⟩
theorem IsDts.same' {K:c0} {H H':Hp} (s:Same H H') :∀(d:List Dt) (v:List V),IsDts K H d v->IsDts K H' d v
 | [],xs,h=>h
 | d :: ds,xs,h=>by obtain ⟨x,r,rfl,a,b⟩:=h;exact ⟨x,r,rfl,IsDt.same' s d x a,IsDts.same' s ds r b⟩
end
theorem IsDt.same {K:c0} {H H':Hp} {d:Dt} {v:V} (h:IsDt K H d v) (s:Same H H'):IsDt K H' d v:=IsDt.same' s d v h
theorem IsDts.mk2 {K:c0} {H:Hp} {d e:Dt} {x y:V} (a:IsDt K H d x) (b:IsDt K H e y):IsDts K H [d,e] [x,y]:=⟨x,[y],rfl,a,y,[],rfl,b,rfl⟩
theorem IsDt.mkT {K:c0} {H:Hp} {p:Addr} {xs:List V} {ds:List Dt} (h:H p=some (.tup xs)) (r:IsDts K H ds xs):IsDt K H (.tup ds) (.ref p):=⟨p,xs,rfl,SqT.of h,r⟩
mutual
def Dt.deep:Dt->Nat
 | .tup ds=>Dt.deeps ds + 1
 | _=>0
def Dt.deeps:List Dt->Nat
 | []=>0
 | d :: ds=>max d.deep (Dt.deeps ds)
def Dt.plain:Dt->Bool
 | .int _=>true
 | .str _=>true
 | .tup ds=>Dt.plains ds
 | _=>false
def Dt.plains:List Dt->Bool
 | []=>true
 | d :: ds=>d.plain && Dt.plains ds
end
section
variable {X:Cx}
theorem zn7 {i:Nat} {x:Str} {p pos:Pos} {e:Expr} {es:List Expr} {t:TA} (tb:Addr->Sp->Prop) (hN:X.N[i]? = some x) (hv:Vis X.env.scope x)
  (G :∀f sp,tb f sp->∃k fd ps,FnOk X.prog X.w X.K X.mg X.base CX0 k f fd ps sp/\Room k X.A/\M3 X.K (.ref f)=true/\Binds X.K fd ps [])
  (ha:PA X (e :: es) t) (hd:(x == ("__debug__" : Str))=false:=by decide) (hcd:(x == ("__classdict__" : Str))=false:=by decide)
  (he:A1 (e :: es) X.env=(false,Y2 e X.env) :: A1 es X.env:=by rfl) (hpl:(Z3 pos (A1 es X.env)).any (·.1)=false:=by rfl) :
  PE X (.Call (.Name x p) (e :: es) [] pos) (λ σ H Q=>∃f sp,σ[i]? = some (some (.ref f))/\tb f sp/\t σ H λ vs H1=>sp vs H1 Q E0):=by
 intro a s σ H Q I h;obtain ⟨f,sp,c,j,h⟩:=h;obtain ⟨k,fd,ps,F,b,g,l⟩:=G f sp j;refine u5 (thn (pe_var hN hv hd hcd a s σ H (λ v m=>v=.ref f/\m=H) I ⟨_,c,rfl,rfl⟩) λ u d ⟨v,H0,I0,r0,ev,eH⟩=>?_);subst ev eH;obtain rfl:u=Value.ref f:=r0;refine Y5 (h₀:=X.base) I0.ok.mod.kin g (thn (ha pos a d σ _ _ I0 h) λ n o ⟨vs,H1,I1,r,q⟩=>⟨I1.kIn,?_⟩) he hpl;exact run_fn F b l .nil pass0 I1 r (by rw [N2];exact q)
theorem Inv.turnedL {pins:List (Addr×Obj)} {σ:St} {H:Hp} {s:t0} {h':Heap} {t':Nat} {fp:List Addr} (I:Inv X pins σ H s) (k :∀b o,b∉fp->s.heap.get? b=some o->h'.get? b=some o) (hf :∀b∈fp,FpOk X pins H b) :
  Inv X pins σ H { s with heap:=h',toks:=t' }:=by
 have f :∀b u,H b=some u->b∉fp:=λ b u e z=>by have:=(hf b z).1;rw [this] at e;cases e
 refine I.step (g':=s.gens) (d':=s.drawn) (ch:=fp) (λ b d=>⟨(hf b d).2.2.2.1,(hf b d).2.1,(hf b d).2.2.2.2.1,(hf b d).2.2.2.2.2⟩) (λ b o _ _ a e _=>k b o a e) (λ b o _ _ a e _=>⟨o.slots,k b o a e⟩) (λ _ _ _ _ n=>n)
  (λ b o a e=>⟨o,k b o a e⟩) (λ _ _ e=>e) (λ _ _ _ e=>e) (λ b l e=>⟨#[],by rw [e];simp⟩) (λ m g=>?_) (λ b u e=>?_) I.bare
 ·obtain ⟨o,j,i,h,r⟩:=g;exact ⟨o,j,i,k _ o (λ z=>(hf _ z).2.1 rfl) h,r⟩
 ·refine (I.hok b u e).stay (λ c v a q=>k c v ?_ q) (λ _ q=>q) λ _ _ q=>q;rcases a with z|z
  ·rw [z];exact f b u e
  ·exact f c _ z
theorem Inv.turnedLaid {pins:List (Addr×Obj)} {σ:St} {H:Hp} {s:t0} {h':Heap} {t':Nat} {fp:List Addr} {a:Addr} {o:HO} (I:Inv X pins σ H s) (k :∀b o,b∉fp->s.heap.get? b=some o->h'.get? b=some o) (hf :∀b∈fp,FpOk X pins H b)
  (hp:s.heap.objs.size<=a) (new:ObjOk X.prog X.w (upd H a o) h' a o):Inv X pins σ (upd H a o) { s with heap:=h',toks:=t' }:=by
 have t:H a=none:=I.hok.fresh hp;have h :∀b u,H b=some u->b∉fp:=λ b u e z=>by have:=(hf b z).1;rw [this] at e;cases e
 have g :∀b u,H b=some u->upd H a o b=some u:=λ b u e=>by rw [upd_ne (z07 e t)];exact e
 refine I.step (g':=s.gens) (d':=s.drawn) (ch:=fp) (λ b d=>⟨(hf b d).2.2.2.1,(hf b d).2.1,(hf b d).2.2.2.2.1,(hf b d).2.2.2.2.2⟩) (λ b o _ _ f e _=>k b o f e) (λ b o _ _ f e _=>⟨o.slots,k b o f e⟩)
  (λ b u _ e n=>by rw [upd_ne (λ z=>by subst z;exact absurd (M0 e) (Nat.not_lt.mpr hp))];exact n)
  (λ b o f e=>⟨o,k b o f e⟩) (λ _ _ e=>g _ _ e) (λ _ _ _ e=>g _ _ e) (λ b y e=>⟨#[],by rw [g _ _ e];simp⟩) (λ m i=>?_) (λ b u e=>?_) I.bare
 ·obtain ⟨o,j,p,l,r⟩:=i;exact ⟨o,j,p,k _ o (λ z=>(hf _ z).2.1 rfl) l,r⟩
 ·by_cases d:b=a
  ·subst d;rw [z01] at e;cases e;exact new
  ·rw [upd_ne d] at e;refine (I.hok b u e).stay (λ c v f q=>k c v ?_ q) (λ c q=>g _ _ q) λ c x q=>g _ _ q;rcases f with z|z
   ·rw [z];exact h b u e
   ·exact h c _ z
theorem zg4:OpR X (M4 .Add) (λ x y H Q=>∃a b ys,x=.ref a/\y=.ref b/\SqT X.K H a []/\SqT X.K H b ys/\Q (.ref b) H):=by intro F s σ H x y v u Q I A B h;obtain ⟨a,b,ys,rfl,rfl,l,k,q⟩:=h;cases A;cases B;obtain ⟨L,r,n,_⟩:=I.tuple l;obtain ⟨w,D,C,_⟩:=I.tuple k;cases r;obtain ⟨⟨E,p,J,o⟩,c,e,t,f⟩:=id n;obtain ⟨⟨G,z,M,j⟩,g,d,m,i⟩:=id C;simp only at e f d i;subst e f d i;exact concat_meets ⟨_,c,rfl⟩ ⟨_,g,rfl⟩ j2i seq_tuple_add u8 b8 (U7 _ _) (tuple_addW0 a b ([]:List Value).toArray w.toArray t m p z o j (by simp)) ⟨c,g,⟨.ref b,H,I,rfl,q⟩⟩
def rCatS (K:c0):R2:=λ x y H Q=>∃a b xs ys,x=.ref a/\y=.ref b/\SqT K H a xs/\SqT K H b ys/\ys≠[]/\xs.length + ys.length<=sizeLine/\∀p H',Same H H'->SqT K H' p (xs++ys)->Q (.ref p) H'
theorem op_catS:OpR X (M4 .Add) (rCatS X.K):=by
 intro f s σ H x y v u Q I g i h;obtain ⟨a,b,d,j,rfl,rfl,e,c,m,k,q⟩:=h;cases d with
 | nil=>exact zg4 f s σ H _ _ v u Q I g i ⟨a,b,j,rfl,rfl,e,c,q b H (Same.refl H) c⟩
 | cons x d=>exact zar f s σ H _ _ v u Q I g i ⟨a,b,x :: d,j,rfl,rfl,e,c,by simp,k,λ z=>absurd z m,λ _ p l=>q p _ (Same.upd l) (SqT.of z01)⟩
theorem z21 {o e:Expr} {es:List Expr} {to:TE} {t:TA} {apos cpos:Pos} (ho:PE X o to) (ha:PA X (e :: es) t)
  (hbase:S3 o "append" X.env (Y2 o X.env)=Y2 o X.env:=by rfl)
  (hfew:((Z3 cpos (A1 (e :: es) X.env)).all (λ x=>!x.1) && (y9 cpos (K6 [] X.env)).all (λ x=>x.1.isSome)
   && decide ((e :: es).length + ([]:List c6).length + (if ([]:List c6).isEmpty then 0 else 1) < 30))=true:=by rfl)
  (hline:(apos.endLine == cpos.line)=true:=by rfl) (hs:A1 (e :: es) X.env=(false,Y2 e X.env) :: A1 es X.env:=by rfl) (hplain:(Z3 cpos (A1 es X.env)).any (·.1)=false:=by rfl) :
  PE X (.Call (.Attribute o "append" apos) (e :: es) [] cpos) (tBM X.K "list" zf7 to t):=pe_bm Z5 PySem.F.slot_list_append PySem.F.type_list_append zis ho ha hbase hfew hline hs hplain
end
def KeptL (L:List Addr) (H H':Hp):Prop:=∀b o,b∉L->H b=some o->H' b=some o
theorem KeptL.refl {L:List Addr} {H:Hp}:KeptL L H H:=λ _ _ _ h=>h
theorem KeptL.trans {L:List Addr} {H H1 H2:Hp} (a:KeptL L H H1) (b:KeptL L H1 H2):KeptL L H H2:=λ c o n h=>b c o n (a c o n h)
theorem Same.keptL {L:List Addr} {H H':Hp} (s:Same H H'):KeptL L H H':=λ b o _ h=>s b o h
theorem KeptL.set {L:List Addr} {H:Hp} {l:Addr} {o:HO} (h:l∈L):KeptL L H (upd H l o):=λ b u n e=>by rw [upd_ne (λ z=>n (by rw [z];exact h))];exact e
mutual
theorem IsDt.mono' {K:c0} {H H':Hp} (s :∀a xs,SqT K H a xs->SqT K H' a xs) :∀(d:Dt) (v:V),IsDt K H d v->IsDt K H' d v
 | .non,v,h=>h
 | .bl b,v,h=>h
 | .int i,v,h=>h
 | .str z,v,h=>h
 | .tup ds,v,h=>by obtain ⟨a,xs,rfl,e,r⟩:=h;exact ⟨a,xs,rfl,s _ _ e,IsDts.mono' s ds xs r⟩
theorem IsDts.mono' {K:c0} {H H':Hp} (s :∀a xs,SqT K H a xs->SqT K H' a xs) :∀(d:List Dt) (v:List V),IsDts K H d v->IsDts K H' d v
 | [],xs,h=>h
 | d :: ds,xs,h=>by obtain ⟨x,r,rfl,a,b⟩:=h;exact ⟨x,r,rfl,IsDt.mono' s d x a,IsDts.mono' s ds r b⟩
end
theorem SqT.wrote {K:c0} {H:Hp} {l a:Addr} {o:HO} {zs xs:List V} (e:H l=some (.lst zs)) (h:SqT K H a xs):SqT K (upd H l o) a xs:=by
 rcases h with (h|⟨ob,h⟩)|h
 ·exact .inl (.inl (by rw [upd_ne (ne_of h e (by intro z;cases z))];exact h))
 ·exact .inl (.inr ⟨ob,by rw [upd_ne (ne_of h e (by intro z;cases z))];exact h⟩)
 ·exact .inr h
section
variable {prog:Program} {w:V0} {A:U1} {E:Value->t0->Prop} {s:t0}
theorem zll {v:Value} {Q:Value->t0->Prop} {ns:List Int} (hn:ns.length < 64)
  (hc :∀R:List Value->t0->Prop,(∀h' tk vs,(∀b o,s.heap.get? b=some o->h'.get? b=some o)->U9 vs ns->R vs { s with heap:=h',toks:=tk })->O0 (j1 prog w) A.in1 (collect v) R E s)
  (h :∀(h1 h':Heap) (tk:Nat) (out:Array Value) (ns':List Int) (e:Nat),(∀b o,s.heap.get? b=some o->h1.get? b=some o)->(∀b o,h1.get? b=some o->h'.get? b=some o)->h'.get? h1.objs.size=some { cls:=.type "list",data:=.seq out e }->U9 out.toList ns'->ns'.Perm ns->ns'.Pairwise (·<=·)->Q (.ref h1.objs.size) { s with heap:=h',toks:=tk }) :
  O0 (j1 prog w) A (call (.builtin "sorted") [v]) Q E s:=by
 refine X7 kind_sorted plain_sorted entry_sorted (args_sorted1 _) ?_;unfold i6.«sorted»;refine j0 (m:=checkCount "sorted" 1 1 _) (D0 (j0 (hc _ λ h1 tk vs i f=>?_)));have d:vs.length < 64:=by rw [f.length];exact hn
 refine j0 (j1b ?_ (F0 (J3 d) (by decide)));have a:(h1.push (R7 "list" vs.toArray 0)).get? h1.objs.size=some (R7 "list" vs.toArray 0):=P0 _ rfl;refine j0 (A3 (P2 j4b ⟨_,a,rfl⟩ j3h (list_sort_tree a f d λ out ns' g l j=>⟨_,rfl,?_⟩) (j4d _)));obtain ⟨e,k⟩:=sortedHeap_at (out:=out) a;refine D0 ⟨_,rfl,h h1 _ tk out ns' e i (λ b o c=>?_) k g l j⟩;have lt:=M0 c;refine (sortedHeap_old (Z0 lt) ?_).trans (C0 _ c);rw [size_push'];exact A2 lt
end
section
variable {X:Cx}
def srt (ns:List Int) (H:Hp) (Q:VK):Prop:=∀(l:Addr) (ns':List Int),H l=none->ns'.Perm ns->ns'.Pairwise (·<=·)->Q (.ref l) (upd H l (.lst (ns'.map V.int)))
theorem zna {pins:List (Addr×Obj)} {σ:St} {H:Hp} {s:t0} {Q:VK} {ns:List Int} {h1 h':Heap} {tk:Nat} {out:Array Value} {ns':List Int} {e:Nat} (I:Inv X pins σ H s) (hn:ns.length < 64) (q:srt ns H Q)
  (k1 :∀b o,s.heap.get? b=some o->h1.get? b=some o) (k2 :∀b o,h1.get? b=some o->h'.get? b=some o) (g:h'.get? h1.objs.size=some { cls:=.type "list",data:=.seq out e }) (i:U9 out.toList ns') (p:ns'.Perm ns) (r:ns'.Pairwise (·<=·)) :
  EP X pins σ Q (.ref h1.objs.size) { s with heap:=h',toks:=tk }:=by
 have a:Inv X pins σ H { s with heap:=h1 }:=I.kept (t':=s.toks) k1;refine ⟨.ref h1.objs.size,_,a.laid (t':=tk) (o:=.lst (ns'.map V.int)) k2 (B0 _) ⟨?_,out.toList,e,z8f i,by simpa using g⟩,rfl,q _ ns' (a.hok.fresh (B0 _)) p r⟩;rw [G0,p.length_eq];exact F0 (J3 hn) (by decide)
theorem z4f:CallR X (.builtin "sorted") (λ xs H Q=>∃a ns,xs=[.ref a]/\(SqL X.K H a (ns.map V.int)\/SqT X.K H a (ns.map V.int))/\ns.length < 64/\srt ns H Q):=by
 intro B s σ H xs D Q I r h;obtain ⟨a,ns,rfl,c,w,q⟩:=h;obtain ⟨u,rfl,x⟩:=vals1 r;cases x;refine zll w (λ R v=>?_) λ F d G E C e y A g i p r=>zna I w q y A g i p r;rcases c with c|c
 ·obtain ⟨z,b,f,m⟩:=I.list c;obtain ⟨o,l,t,n,j⟩:=f.isList;exact wpAny_collect_seq a (.inl rfl) l t j (λ d k=>v d s.toks _ k (by simpa using za8 b)) (by rw [R0,<-b.length];exact m)
 ·obtain ⟨z,b,f,m⟩:=I.tuple c;obtain ⟨o,l,t,n,j⟩:=f;exact wpAny_collect_seq a (.inr rfl) l t j (λ d k=>v d s.toks _ k (by simpa using za8 b)) (by rw [R0,<-b.length];exact m)
end
theorem iteP {c A B:Prop} [Decidable c] (hc:c) (h:A):if c then A else B:=by rw [if_pos hc];exact h
theorem iteN {c A B:Prop} [Decidable c] (hc:¬ c) (h:B):if c then A else B:=by rw [if_neg hc];exact h
theorem z5r (i:Int) (ns:List Int):inV (.int i) (ns.map V.int)=decide (i∈ns):=by
 unfold inV;rw [j14,Bool.eq_iff_iff,R6,decide_eq_true_eq];constructor
 ·rintro ⟨x,hx,e⟩;have e:(x == i)=true:=e;rw [beq_iff_eq] at e;exact e ▸ hx
 ·intro h;exact ⟨i,h,by show (i == i)=true;simp⟩
theorem z3v (ns:List Int):(ns.map V.int).all flatV=true:=by rw [z8];intro x a;obtain ⟨i,_,rfl⟩:=List.mem_map.mp a;rfl
theorem znb {names:List (Str×W6)} {n:Str} {Q:Str×W6->Prop} (h:(names.all λ y=>y.2 != Z1 || y.1 == n)=true) (q :∀k,Q (n,k)) :∀y∈names,y.2=Z1->Q y:=λ y c e=>by
 have:=List.all_eq_true.mp h y c;rw [e] at this;have:(y.1 == n)=true:=by simpa using this
 obtain ⟨a,b⟩:=y;rw [beq_iff_eq] at this;have:a=n:=this;subst this;exact q b
theorem ObjOk.there {P:Program} {w:V0} {H:Hp} {h:Heap} {a:Addr} {o:HO} (x:ObjOk P w H h a o) :∃ob,h.get? a=some ob:=by
 cases o with
 | lst xs=>obtain ⟨_,_,_,_,e⟩:=x;exact ⟨_,e⟩
 | tup xs=>obtain ⟨_,_,_,⟨o,e,_⟩,_⟩:=x;exact ⟨_,e⟩
 | dK kvs=>obtain ⟨_,_,_,_,o,_,_,e,_⟩:=x;exact ⟨_,e⟩
 | dT kvs=>obtain ⟨_,_,_,_,o,_,_,e,_⟩:=x;exact ⟨_,e⟩
 | set S n=>obtain ⟨o,_,_,_,e,_⟩:=x;exact ⟨_,e⟩
 | ins C dx fs=>obtain ⟨_,_,_,e,_⟩:=x;exact ⟨_,e⟩
 | own y=>exact x
 | xd fs=>obtain ⟨_,⟨o,_,_,e,_⟩,_⟩:=x;exact ⟨_,e⟩
 | rng lo hi=>obtain ⟨_,_,_,e⟩:=x;exact ⟨_,e⟩
 | frz ob u=>obtain ⟨e,_⟩:=x;exact ⟨_,e⟩
 | tbl ps=>exact ⟨_,show h.get? a=some _ from x⟩
 | met f y=>exact ⟨_,show h.get? a=some _ from x⟩
 | ext φ=>exact x.2.1
def CXE (P:Program) (w:V0) (base:Heap):CXT:=λ outer H s E e s'=>∃(ea:Addr) (cls a0:Value) (B:Heap) (H':Hp),e=.ref ea/\s'.os=s.os/\S8 s'.gens/\Un (frs outer) [] H H' s.heap s'.heap/\HOk P w H' s'.heap/\H' ea=none/\
 base.StaysIn B/\j47 B outer ea cls a0 s'.heap/\(∀b o,s'.heap.get? b=some o->b∉frs outer->((∃u,H' b=some u)\/∃u,s.heap.get? b=some u)->B.get? b=some o)/\E cls none H'
theorem passN {X:Cx}:Passes (CXE X.prog X.w X.base) X E0:=λ _ _ _ _ _ _ _ ⟨_,_,_,_,_,_,_,_,_,_,_,_,_,_,z⟩=>z.elim
theorem zex {env:Env} {l:List Env} {L:Addr} (h:env.frame=some L):frs (env :: l)=L :: frs l:=by unfold frs;rw [A7,h]
section
variable {P:Program} {w:V0} {K:c0} {mg:Str->Option Value} {base:Heap} {N:List Str} {qual:Str} {scope:Scope} {f:Addr} {cd:Value} {A:U1} {outer:List Env} {s:t0} {H:Hp} {E:XK}
theorem passE:Passes (CXE P w base) (cxOf (CXE P w base) P w K mg base N qual scope f cd A outer s H E) E:=by
 intro a7 σ X y e r I c;obtain ⟨ea,a6,a0,B,x,rfl,os,a3,un,a2,T,hB,fl,keep,hE⟩:=c;have O:frs (o4 qual scope s.heap.objs.size f cd :: outer)=s.heap.objs.size :: frs outer:=zex rfl;have Z :∀b o,r.heap.get? b=some o->b∉s.heap.objs.size :: frs outer->((∃u,x b=some u)\/∃u,y.heap.get? b=some u)->B.get? b=some o:=λ b o e a D=>keep b o e (by rw [show frs (cxOf (CXE P w base) P w K mg base N qual scope f cd A outer s H E).stack=_ from O];exact a) D;have p:Un (s.heap.objs.size :: frs outer) [] X x y.heap r.heap:=O ▸ un;have i:Un (frs outer) [] H X s.heap y.heap:=I.base;have Q :∀b o,s.heap.get? b=some o->b≠s.heap.objs.size:=λ b o e=>Z0 (M0 e);have W :∀b∈s.heap.objs.size :: frs outer,x b=none:=λ b a=>by
  rcases List.mem_cons.mp a with rfl|a
  ·obtain ⟨m,T,_⟩:=I.loc;obtain ⟨o,_,_,J,_⟩:=T;exact p.free _ o J I.free (by simp)
  ·obtain ⟨_,o,J,_⟩:=I.ok.funs.mem a;obtain ⟨l,L⟩:=i.there b o J (by simp);exact p.free b l L (i.free b o J (I.ok.frf b a) (by simp)) (by simp)
 show O0 (j1 P w) _ («leaving» _ _) _ _ r;refine wpAny_leaves_onW I.ok.frames rfl fl λ G R up=>?_;have stay :∀b o,r.heap.get? b=some o->b∉s.heap.objs.size :: frs outer->((∃u,x b=some u)\/∃u,y.heap.get? b=some u)->G.get? b=some o:=λ b o e a D=>R.1 b o (Z b o e a D);have a1 :∀b o,b∈frs outer->r.heap.get? b=some o->∃M,G.get? b=some { o with slots:=M }:=λ b o a e=>by
  obtain ⟨_,l,L,hd⟩:=fl.2.2.1.mem (show b∈(o4 qual scope s.heap.objs.size f cd :: outer).filterMap (·.frame) from by show b∈frs (o4 qual scope s.heap.objs.size f cd :: outer);rw [O];exact E1 _ a);rw [e] at L;cases L;exact up b o e hd
 have there :∀b o,s.heap.get? b=some o->∃j k,y.heap.get? b=some j/\r.heap.get? b=some k:=λ b o e=>by obtain ⟨j,d⟩:=i.there b o e (by simp);obtain ⟨k,h⟩:=p.there b j d (by simp);exact ⟨j,k,d,h⟩
 refine ⟨ea,a6,a0,B,x,rfl,os.trans I.os,a3,⟨λ b o e n a _=>?_,λ b o e n a _=>?_,λ b o e n _=>?_,λ b o e _=>?_,λ b Y e=>p.tups b Y (i.tups b Y e),λ b o u e=>p.frzs b o u (i.frzs b o u e),λ b ps e=>?_⟩,λ b u e=>?_,T,hB,R,λ b o e a D=>?_,hE⟩
 ·have d:=i.keep b o e n a (by simp);have F:b∉s.heap.objs.size :: frs outer:=λ z=>(List.mem_cons.mp z).elim (Q b o e) a;exact stay b o (p.keep b o d (i.free b o e n (by simp)) F (by simp)) F (.inr ⟨o,d⟩)
 ·obtain ⟨M,d⟩:=i.slot b o e n a (by simp);obtain ⟨a8,h⟩:=p.slot b _ d (i.free b o e n (by simp)) (E1 _ a) (by simp);obtain ⟨a5,U⟩:=a1 b _ a h;exact ⟨a5,U⟩
 ·obtain ⟨j,k,d,h⟩:=there b o e;exact p.free b j d (i.free b o e n (by simp)) (by simp)
 ·obtain ⟨j,k,d,h⟩:=there b o e;by_cases a:b∈frs outer
  ·obtain ⟨M,U⟩:=a1 b k a h;exact ⟨_,U⟩
  ·exact ⟨k,stay b k h (λ z=>(List.mem_cons.mp z).elim (Q b o e) a) (.inr ⟨j,d⟩)⟩
 ·obtain ⟨m1,d⟩:=i.tbls b ps e;obtain ⟨m2,h⟩:=p.tbls b _ d;exact ⟨m1++m2,by rw [h,Array.append_assoc]⟩
 ·refine (a2 b u e).stay (λ c v C q=>stay c v q ?_ (.inl ?_)) (λ _ q=>q) λ _ _ q=>q
  ·intro z;have:=W c z;rcases C with rfl|C
   ·rw [e] at this;cases this
   ·rw [C] at this;cases this
  ·rcases C with rfl|C
   ·exact ⟨u,e⟩
   ·exact ⟨_,C⟩
 ·have V :∀l,r.heap.get? b=some l->b∉s.heap.objs.size :: frs outer->((∃u,x b=some u)\/∃u,y.heap.get? b=some u)->B.get? b=some o:=λ l S F a4=>by have g:=Z b l S F a4;have:=R.1 b l g;rw [show ({ r with heap:=G }:t0).heap.get? b=G.get? b from rfl,this] at e;cases e;exact g
  rcases D with ⟨u,t⟩|⟨u,t⟩
  ·obtain ⟨l,S⟩:=(a2 b u t).there;refine V l S (λ z=>?_) (.inl ⟨u,t⟩);rw [W b z] at t;cases t
  ·obtain ⟨j,k,d,h⟩:=there b u t;exact V k h (λ z=>(List.mem_cons.mp z).elim (Q b u t) a) (.inr ⟨j,d⟩)
theorem raiseE {pins:List (Addr×Obj)} {σ:St} {H1:Hp} {s1:t0} {h':Heap} {ea C:Addr} {args:List Value} (I:Inv (cxOf (CXE P w base) P w K mg base N qual scope f cd A outer s H E) pins σ H1 s1) (hx:Heap.MadeExcOf s1.heap h' ea (.ref C) args) (hE:E (.ref C) none H1) :
  (cxOf (CXE P w base) P w K mg base N qual scope f cd A outer s H E).xe (.ref ea) { s1 with heap:=h' }:=by
 have m:frs (o4 qual scope s.heap.objs.size f cd :: outer)=s.heap.objs.size :: frs outer:=zex rfl;have h:Un (frs outer) [] H H1 s.heap s1.heap:=I.base;have B :∀b o,s.heap.get? b=some o->b≠s.heap.objs.size:=λ b o e=>Z0 (M0 e);have y:s1.heap.FunFrames base (o4 qual scope s.heap.objs.size f cd :: outer):=I.stack;have Y :∀D∈(o4 qual scope s.heap.objs.size f cd :: outer),∀a,D.frame=some a->a∈s.heap.objs.size :: frs outer:=λ D X a V=>by rw [<-m];exact List.mem_filterMap.mpr ⟨D,X,V⟩
 have M :∀b∈s.heap.objs.size :: frs outer,H1 b=none:=λ b d=>by have:=I.stkFree b (by rw [show frs (cxOf (CXE P w base) P w K mg base N qual scope f cd A outer s H E).stack=_ from m];exact d);exact this
 have a0:base.StaysIn (j19 s1.heap (s.heap.objs.size :: frs outer)):=λ b o e=>Z6 _ (I.bk b o e) λ R=>by have:=(y.mem (show b∈(o4 qual scope s.heap.objs.size f cd :: outer).filterMap (·.frame) from (show b∈frs (o4 qual scope s.heap.objs.size f cd :: outer) from by rw [m];exact R))).1;rw [e] at this;cases this
 show O0 (j1 P w) _ («leaving» _ _) _ _ _;refine wpAny_leaves_madeW (s:={ s1 with heap:=h' }) I.ok.frames rfl (λ b o q=>j4h _ q) (PySem.W.funFrames_hide y Y) hx λ p t F _ _ U=>?_;have stay :∀b o,s1.heap.get? b=some o->b∉s.heap.objs.size :: frs outer->p.get? b=some o:=λ b o e d=>F.1 b o (Z6 _ e d);have Q :∀b o,b∈frs outer->s1.heap.get? b=some o->∃r,p.get? b=some { o with slots:=r }:=λ b o d e=>by
  obtain ⟨_,i,O,S⟩:=y.mem (show b∈(o4 qual scope s.heap.objs.size f cd :: outer).filterMap (·.frame) from by show b∈frs (o4 qual scope s.heap.objs.size f cd :: outer);rw [m];exact E1 _ d);rw [e] at O;cases O;exact U b o (hx.keeps b o e) S
 have a1:H1 ea=none:=by
  cases q:H1 ea with
  | none=>rfl
  | some u=>obtain ⟨o,e⟩:=(I.hok ea u q).there;rw [hx.new] at e;cases e
 refine ⟨ea,.ref C,.ref t,_,H1,rfl,I.os,I.bare,⟨λ b o e n d _=>?_,λ b o e n d _=>?_,λ b o e n _=>h.free b o e n (by simp),λ b o e _=>?_,h.tups,h.frzs,h.tbls⟩,λ b u e=>?_,a1,a0,F,λ b o e d hi=>?_,hE⟩
 ·exact stay b o (h.keep b o e n d (by simp)) λ z=>(List.mem_cons.mp z).elim (B b o e) d
 ·obtain ⟨r,j⟩:=h.slot b o e n d (by simp);obtain ⟨Z,x⟩:=Q b _ d j;exact ⟨Z,x⟩
 ·obtain ⟨l,j⟩:=h.there b o e (by simp);by_cases d:b∈frs outer
  ·obtain ⟨r,x⟩:=Q b l d j;exact ⟨_,x⟩
  ·exact ⟨l,stay b l j λ z=>(List.mem_cons.mp z).elim (B b o e) d⟩
 ·refine (I.hok b u e).stay (λ c v J q=>stay c v q λ z=>?_) (λ _ q=>q) λ _ _ q=>q;have:=M c z;rcases J with rfl|J
  ·rw [e] at this;cases this
  ·rw [J] at this;cases this
 ·have L :∀i,s1.heap.get? b=some i->b∉s.heap.objs.size :: frs outer->(j19 s1.heap (s.heap.objs.size :: frs outer)).get? b=some o:=λ i G T=>by have g:=Z6 _ G T;have:=F.1 b i g;rw [show ({ s1 with heap:=p }:t0).heap.get? b=p.get? b from rfl,this] at e;cases e;exact g
  rcases hi with ⟨u,k⟩|⟨u,k⟩
  ·obtain ⟨i,G⟩:=(I.hok b u k).there;refine L i G λ z=>?_;rw [M b z] at k;cases k
  ·obtain ⟨l,j⟩:=h.there b u k (by simp);exact L l j λ z=>(List.mem_cons.mp z).elim (B b u k) d
end
theorem PS.nox {X:Cx} {st:Stmt} {t:TS} (h:PS X.nox st t):PS X st t:=λ a s σ H D I b=>X2 (h a s σ H D (I.wish _) b) (λ _ _ q=>q.unwish) λ _ _ z=>B3 z
theorem own_in {K:c0} {h₀:Heap} {mg:Str->Option Value} {x:Str} {C:Addr} {bmB:List Value} {newId:String} (X:K.In h₀) (hm:mg x=some (.ref C)) (q:B9 K C bmB newId=true):OwnCls x C bmB newId mg h₀:=by
 refine ⟨hm,?_⟩;unfold B9 at q;split at q
 ·rename_i dd cd sl ho;split at q
  ·rename_i C' bm k0 k1 k2 k3 n k5 hm' hs;simp only [j3,beq_iff_eq,Bool.not_eq_true'] at q;obtain ⟨⟨⟨⟨⟨rfl,rfl⟩,b⟩,j⟩,a⟩,c⟩:=q;obtain ⟨h,bs,p,m,f,d,k,g,i,e,o⟩:=cd;obtain ⟨l⟩:=sl;dsimp only at hm' b a c hs;subst hm' b hs;exact ⟨bm,m,h,f,bs,d,k,g,i,e,dd,k0,k1,k2,k3,k5,_,X _ _ ho,.of_isNs (PySem.W.isNs_of_in X a),PySem.W.nsMap_none_of_in X a c,PySem.W.tail_of_in X j⟩
  ·cases q
 ·cases q
def tRaise (C:Addr) (E:XK) (t:TA):TS:=λ _ σ H=>t σ H λ vs H1=>vs.length<=sizeLine/\E (.ref C) none H1
section
variable {P:Program} {w:V0} {K:c0} {mg:Str->Option Value} {base:Heap} {N:List Str} {qual:Str} {scope:Scope} {f:Addr} {cd:Value} {A:U1} {outer:List Env} {s:t0} {H:Hp} {E:XK}
theorem ziq {x:Str} {C:Addr} {B newId initId:String} {bm:List Value} {e0:Expr} {es:List Expr} {np cpos pos:Pos} {t:TA} (FB:ExcBaseFacts B newId initId bm) (hm:mg x=some (.ref C)) (hK:B9 K C bm newId=true)
  (hg:Gl (cxOf (CXE P w base) P w K mg base N qual scope f cd A outer s H E) x) (ha:PA (cxOf (CXE P w base) P w K mg base N qual scope f cd A outer s H E) (e0 :: es) t)
  (hdb:(x == ("__debug__" : Str))=false:=by decide)
  (he:A1 (e0 :: es) (o4 qual scope s.heap.objs.size f cd)=(false,Y2 e0 (o4 qual scope s.heap.objs.size f cd)) :: A1 es (o4 qual scope s.heap.objs.size f cd):=by rfl)
  (hpl:(Z3 cpos (A1 es (o4 qual scope s.heap.objs.size f cd))).any (·.1)=false:=by rfl) :
  PS (cxOf (CXE P w base) P w K mg base N qual scope f cd A outer s H E) (.Raise (some (.Call (.Name x np) (e0 :: es) [] cpos)) none pos) (tRaise C E t):=by
 intro c k σ d D I h;have O:OwnCls x C bm newId mg base:=own_in I.ok.mod.kin hm hK;obtain ⟨l,j,nm,q,bs,hdct,sn,sub,ab,col,dd,k0,k1,k2,k3,k5,mN,b,g,i,T⟩:=O.obj;have a:=ha cpos c k σ d _ I h;refine wpAny_Raise_call_subT (C:=C) (nm:=nm) (q:=q) (N:=j) (bs:=bs) (bm:=l) (hdct:=hdct) (sn:=sn) (sub:=sub) (ab:=ab) (col:=col) (dd:=dd) (k0:=k0) (k1:=k1) (k2:=k2) (k3:=k3) (k5:=k5)
  FB (mN:=mN) (T.hasType FB.hasBase) (I.ok.hd rfl) (by show (Z3 cpos (A1 (e0 :: es) (o4 qual scope s.heap.objs.size f cd))).any (·.1)=false;rw [he];show (false || (Z3 cpos (A1 es (o4 qual scope s.heap.objs.size f cd))).any (·.1))=false;rw [hpl];rfl) i (z85 I hg O.bound ⟨rfl,?_⟩ hdb)
 have e:A1 (e0 :: es) (cxOf (CXE P w base) P w K mg base N qual scope f cd A outer s H E).env=(false,Y2 e0 (o4 qual scope s.heap.objs.size f cd)) :: A1 es (o4 qual scope s.heap.objs.size f cd):=he;rw [e] at a⊢;exact X6 (X2 a (λ m p ⟨vs,H2,I2,r,hl,hE⟩=>⟨rfl,by rw [<-r.length];exact hl,I2.bk _ _ b,g.keeps I2.bk,T.keeps I2.bk,λ o n hm=>raiseE I2 hm hE⟩) λ _ _ y=>y)
theorem Fun.okE {x qual:Str} {st:Stmt} {f:Addr} {fd:FuncData} {N ps:List Str} {k:Nat} {sp:Sp} (F:Fun K x qual st f fd) (S:FnScope N ps (z06 st)) (len :∀vs H Q E,sp vs H Q E->vs.length=ps.length)
  (hbody :∀(cdv:Value) (A:U1) (outer:List Env) (s:t0) (H:Hp) (vs:List V) (Q:VK) (E:XK),Room k (A.deeper (o4 qual (z06 st) s.heap.objs.size f cdv))->sp vs H Q E->
   ∃t,PSs (cxOf (CXE P w base) P w K mg base N qual (z06 st) f cdv A outer s H E) (z7k st) t/\t { nx:=λ _ H'=>Q .non H',rt:=Q } (start N vs) H):FnOk P w K mg base (CXE P w base) (k + 1) f fd ps sp:=by
 obtain ⟨l,e,kV,m,j,g,cdv,i,h,rfl,a,d⟩:=F.ex;exact fn_of a d S len λ A outer s H vs Q E c b=>hbody cdv A outer s H vs Q E c b
end
structure CalE (P:Program) (w:V0) (K:c0) (mg:Str->Option Value) (base:Heap) (x:Str) (ps:List Str) (k:Nat) (sp:Sp):Prop where
 ex :∃f fd,FnOk P w K mg base (CXE P w base) k f fd ps sp/\mg x=some (.ref f)/\M3 K (.ref f)=true/\Binds K fd ps []
section
variable {X:Cx} {x:Str} {ps:List Str} {k:Nat} {sp:Sp} {e:Expr} {es:List Expr} {t:TA} {p pos:Pos}
theorem zf2 {E:XK} (hx:Passes (CXE X.prog X.w X.base) X E) (c:CalE X.prog X.w X.K X.mg X.base x ps k sp) (hr:Room k X.A) (hg:Gl X x) (ha:PA X (e :: es) t) (hn:x≠"__name__":=by decide) (hdb:(x == ("__debug__" : Str))=false:=by decide)
  (he:A1 (e :: es) X.env=(false,Y2 e X.env) :: A1 es X.env:=by rfl) (hpl:(Z3 pos (A1 es X.env)).any (·.1)=false:=by rfl):PE X (.Call (.Name x p) (e :: es) [] pos) (tCall sp [] E t):=by
 obtain ⟨f,g,F,a,b,d⟩:=c.ex;exact zkh F hr hg a b d .nil hx ha hdb he hpl
end
def ExcO (ea:Addr) (cls:Value):HO:=.ext λ h=>∃o,h.get? ea=some o/\o.cls=cls
theorem zmt {P:Program} {w:V0} {H:Hp} {h:Heap} {ea:Addr} {cls:Value} {o:Obj} (e:h.get? ea=some o) (c:o.cls=cls):ObjOk P w H h ea (ExcO ea cls):=
 ⟨⟨o,e,c⟩,⟨o,e⟩,λ _ _ ⟨o,e,c⟩ k=>⟨o,k o e,c⟩⟩
theorem Un.track {fs ex:List Addr} {H H1:Hp} {h h1:Heap} {a:Addr} {o:HO} (u:Un fs ex H H1 h h1) (hn:h.get? a=none) (hf:H1 a=none):Un fs ex H (upd H1 a o) h h1 where
 keep:=u.keep
 slot:=u.slot
 free:=λ b d q n e=>by
  have:b≠a:=λ z=>by subst z;rw [hn] at q;cases q
  rw [upd_ne this];exact u.free b d q n e
 there:=u.there
 tups:=λ b f q=>by have c:=u.tups b f q;rw [upd_ne (z07 c hf)];exact c
 frzs:=λ b d x q=>by have c:=u.frzs b d x q;rw [upd_ne (z07 c hf)];exact c
 tbls:=λ b g q=>by obtain ⟨m,c⟩:=u.tbls b g q;exact ⟨m,by rw [upd_ne (z07 c hf)];exact c⟩
theorem HOk.track {P:Program} {w:V0} {H:Hp} {h:Heap} {a:Addr} {o:HO} (x:HOk P w H h) (hf:H a=none) (new:ObjOk P w (upd H a o) h a o):HOk P w (upd H a o) h:=λ b u e=>by
 by_cases hb:b=a
 ·subst hb;rw [z01] at e;cases e;exact new
 ·rw [upd_ne hb] at e;exact (x b u e).stay (λ _ _ _ q=>q) (λ c q=>by rw [upd_ne (z07 q hf)];exact q) λ c d q=>by rw [upd_ne (z07 q hf)];exact q
section
variable {P:Program} {w:V0} {base B:Heap} {outer:List Env} {H H':Hp} {h h1 h6:Heap} {ea:Addr} {cls a0:Value}
theorem fly_un (fu:h.FunFrames base outer) (frf :∀b∈frs outer,H b=none) (un:Un (frs outer) [] H H' h h1) (hok:HOk P w H' h1) (fl:j47 B outer ea cls a0 h1)
  (keep :∀b o,h1.get? b=some o->b∉frs outer->((∃u,H' b=some u)\/∃u,h.get? b=some u)->B.get? b=some o)
  (fl6:j47 B outer ea cls a0 h6) (up:h1.UpToSlots h6):Un (frs outer) [] H H' h h6/\HOk P w H' h6/\h.get? ea=none:=by
 have stay :∀b o,h1.get? b=some o->b∉frs outer->((∃u,H' b=some u)\/∃u,h.get? b=some u)->h6.get? b=some o:=λ b o e a C=>fl6.1 b o (keep b o e a C);have m :∀b o,b∈frs outer->h1.get? b=some o->∃j,h6.get? b=some { o with slots:=j }:=λ b o a e=>by obtain ⟨_,p,i,k⟩:=fl.2.2.1.mem a;rw [e] at i;cases i;exact up b o e k
 have s :∀b∈frs outer,H' b=none:=λ b a=>by obtain ⟨_,o,x,_⟩:=fu.mem a;exact un.free b o x (frf b a) (by simp)
 refine ⟨⟨λ b o e n a _=>?_,λ b o e n a _=>?_,un.free,λ b o e _=>?_,un.tups,un.frzs,un.tbls⟩,λ b u e=>?_,?_⟩
 ·exact stay b o (un.keep b o e n a (by simp)) a (.inr ⟨o,e⟩)
 ·obtain ⟨j,d⟩:=un.slot b o e n a (by simp);obtain ⟨y,l⟩:=m b _ a d;exact ⟨y,l⟩
 ·obtain ⟨g,d⟩:=un.there b o e (by simp);by_cases a:b∈frs outer
  ·obtain ⟨j,l⟩:=m b g a d;exact ⟨_,l⟩
  ·exact ⟨g,stay b g d a (.inr ⟨o,e⟩)⟩
 ·refine (hok b u e).stay (λ c v f q=>stay c v q (λ z=>?_) (.inl ?_)) (λ _ q=>q) λ _ _ q=>q
  ·have:=s c z;rcases f with rfl|f
   ·rw [e] at this;cases this
   ·rw [f] at this;cases this
  ·rcases f with rfl|f
   ·exact ⟨u,e⟩
   ·exact ⟨_,f⟩
 ·cases q:h.get? ea with
  | none=>rfl
  | some o=>
   by_cases a:ea∈frs outer
   ·obtain ⟨_,p,i,k⟩:=fl6.2.2.1.mem a;obtain ⟨_,_,_,D,r,_,_,_,t,_,A,_⟩:=fl6;rw [t] at i;cases i;exact absurd A (k r)
   ·obtain ⟨g,d⟩:=un.there ea o q (by simp);have:=keep ea g d a (.inr ⟨o,q⟩);rw [fl6.2.1] at this;cases this
end
def Cx.tryX (X:Cx) (pn:List (Addr×Obj)) (E:St->XK):Cx:=
 ({ X with pn:=pn }:Cx).wish λ e s'=>∃pins σ1 H1 s1,Inv { X with pn:=pn } pins σ1 H1 s1/\CXE X.prog X.w X.base X.stack H1 s1 (E σ1) e s'
abbrev Cx.exc (X:Cx) (ea:Addr):Cx:={ X with A:=X.A.mark (some (.ref ea)),calm:=false,xe:=λ _ _=>False }
section
variable {X:Cx} {pins pn:List (Addr×Obj)} {σ:St} {H:Hp} {s:t0} {ea:Addr} {E:St->XK}
theorem Inv.toPn (I:Inv X pins σ H s):Inv { X with pn:=X.pn++pins } [] σ H s:=
 ⟨⟨I.ok.mod,I.ok.kind,I.ok.glob,I.ok.blt,I.ok.above,I.ok.inj,I.ok.has,I.ok.cab,I.ok.hd,I.ok.frames,I.ok.stk,I.ok.exf,I.ok.bs,I.ok.bsz,I.ok.noex,I.ok.exfs,I.ok.funs,I.ok.frf⟩,I.os,I.bare,I.base,I.loc,I.cell,I.free,I.freeC,λ p a=>I.pin p (by simpa using a),I.hok,I.len⟩
theorem Inv.ofPn {pins':List (Addr×Obj)} (I:Inv { X with pn:=X.pn++pins } pins' σ H s):Inv X pins σ H s:=
 ⟨⟨I.ok.mod,I.ok.kind,I.ok.glob,I.ok.blt,I.ok.above,I.ok.inj,I.ok.has,I.ok.cab,I.ok.hd,I.ok.frames,I.ok.stk,I.ok.exf,I.ok.bs,I.ok.bsz,I.ok.noex,I.ok.exfs,I.ok.funs,I.ok.frf⟩,I.os,I.bare,I.base,I.loc,I.cell,I.free,I.freeC,λ p a=>I.pin p (O5 _ a),I.hok,I.len⟩
theorem Inv.toExc (I:Inv X pins σ H s) (ea:Addr):Inv (X.exc ea) pins σ H s:=
 ⟨⟨I.ok.mod,I.ok.kind,I.ok.glob,I.ok.blt,I.ok.above,I.ok.inj,I.ok.has,I.ok.cab,λ z=>(nomatch z),I.ok.frames,I.ok.stk,I.ok.exf,I.ok.bs,I.ok.bsz,I.ok.noex,I.ok.exfs,I.ok.funs,I.ok.frf⟩,I.os,I.bare,I.base,I.loc,I.cell,I.free,I.freeC,I.pin,I.hok,I.len⟩
theorem Inv.ofExc (I:Inv (X.exc ea) pins σ H s) (hd:X.calm=true->X.A.handled=none):Inv X pins σ H s:=
 ⟨⟨I.ok.mod,I.ok.kind,I.ok.glob,I.ok.blt,I.ok.above,I.ok.inj,I.ok.has,I.ok.cab,hd,I.ok.frames,I.ok.stk,I.ok.exf,I.ok.bs,I.ok.bsz,I.ok.noex,I.ok.exfs,I.ok.funs,I.ok.frf⟩,I.os,I.bare,I.base,I.loc,I.cell,I.free,I.freeC,I.pin,I.hok,I.len⟩
theorem passX :∀(pins:List (Addr×Obj)) (σ:St) (H:Hp) (s:t0) (e:Value) (s':t0),Inv (X.tryX pn E) pins σ H s->CXE (X.tryX pn E).prog (X.tryX pn E).w (X.tryX pn E).base (X.tryX pn E).stack H s (E σ) e s'->(X.tryX pn E).xe e s':=
 λ pins σ H s e s' I c=>⟨pins,σ,H,s,I.unwish,c⟩
theorem SP.ofTry {D:Ends} {f:Flow} {s':t0} (h:SP (X.tryX (X.pn++pins) E) [] D f s'):SP X pins D f s':=by
 cases f with
 | next=>obtain ⟨a,b,I,q⟩:=h;exact ⟨a,b,I.unwish.ofPn,q⟩
 | brk=>obtain ⟨a,b,I,q⟩:=h;exact ⟨a,b,I.unwish.ofPn,q⟩
 | cont=>obtain ⟨a,b,I,q⟩:=h;exact ⟨a,b,I.unwish.ofPn,q⟩
 | ret u=>obtain ⟨v,a,b,I,r,q⟩:=h;exact ⟨v,a,b,I.unwish.ofPn,r,q⟩
theorem SP.ofExc {D:Ends} {f:Flow} {s':t0} (h:SP (X.exc ea) pins D f s') (hd:X.calm=true->X.A.handled=none):SP X pins D f s':=by
 cases f with
 | next=>obtain ⟨a,b,I,q⟩:=h;exact ⟨a,b,I.ofExc hd,q⟩
 | brk=>obtain ⟨a,b,I,q⟩:=h;exact ⟨a,b,I.ofExc hd,q⟩
 | cont=>obtain ⟨a,b,I,q⟩:=h;exact ⟨a,b,I.ofExc hd,q⟩
 | ret u=>obtain ⟨v,a,b,I,r,q⟩:=h;exact ⟨v,a,b,I.ofExc hd,r,q⟩
theorem z68 {M:Model} {A:U1} {E:Value->t0->Prop} {i:Nat} {x:Str} {pos:Pos} {Q:Unit->t0->Prop} (I:Inv X pins σ H s) (hN:X.N.Nodup) (hi:X.N[i]? = some x) (hk:X.env.kindOf x=some .local)
  (h :∀s',Inv X pins (σ.set i none) H s'->Q () s'):O0 M A (do bindName X.env x .none;unbindBehindTheSuite X.env x pos) Q E s:=by
 obtain ⟨m,S,R⟩:=id I.loc;have O:(X.env.scope.kind == .class || (X.env.scope.kind == .module && X.env.locals != X.env.globals))=false:=by rw [I.ok.kind];rfl
 have L:i < σ.length:=by rw [I.len];exact (List.getElem?_eq_some_iff.mp hi).1
 have cne:=I.cne;refine wpAny_nameGoes_keeps hk S O λ V v P a=>?_;refine h _ ⟨I.ok,I.os,I.bare,⟨λ b o e n t g=>?_,λ b o e n t g=>?_,I.base.free,λ b o e g=>?_,I.base.tups,I.base.frzs,I.base.tbls⟩,⟨_,P,λ j y K f l U=>?_⟩,λ y c e=>?_,I.free,I.freeC,λ p J=>?_,λ b F e=>?_,by simpa using I.len⟩
 ·exact (a.2 b (Z0 (G1 (M0 e) I.ok.above))).trans (I.base.keep b o e n t g)
 ·obtain ⟨B,f⟩:=I.base.slot b o e n t g;exact ⟨B,(a.2 b (Z0 (G1 (M0 e) I.ok.above))).trans f⟩
 ·obtain ⟨D,f⟩:=I.base.there b o e g;exact ⟨D,(a.2 b (Z0 (G1 (M0 e) I.ok.above))).trans f⟩
 ·by_cases hj:j=i
  ·subst hj;rw [N8 L] at l;cases l
  ·rw [C9 (R3 hj)] at l;obtain ⟨T,C,q⟩:=R j y K f l U;refine ⟨T,C,?_⟩;rcases q with ⟨k,e⟩|⟨k,c,e,z⟩
   ·refine .inl ⟨k,?_⟩;have:y≠x:=λ e=>hj (zb5 hN f (e ▸ hi));simp [this,e]
   ·exact .inr ⟨k,c,e,z.sameBut a (cne y c e)⟩
 ·obtain ⟨u,z⟩:=I.cell y c e;exact ⟨u,z.sameBut a (cne y c e)⟩
 ·obtain ⟨e,n,ne,G,d⟩:=I.pin p J;exact ⟨(a.2 p.1 ne).trans e,n,ne,G,d⟩
 ·refine (I.hok b F e).stay (λ c u r q=>(a.2 c ?_).trans q) (λ _ q=>q) λ _ _ q=>q;rintro rfl;have w:=I.free;rcases r with rfl|r
  ·rw [w] at e;cases e
  ·rw [w] at r;cases r
end
def tTryAs (K:c0) (c:Value) (i:Nat) (tb:(St->XK)->TS) (th:TS):TS:=λ D σ H=>tb (λ σ1 cls _ H1=>j20 K cls c=some true/\
 ∀ea,H1 ea=none->th { nx:=λ σ2 H2=>D.nx (σ2.set i none) H2,rt:=D.rt,bk:=λ σ2 H2=>D.bk (σ2.set i none) H2,ct:=λ σ2 H2=>D.ct (σ2.set i none) H2 } (σ1.set i (some (.ref ea))) (upd H1 ea (ExcO ea cls))) D σ H
section
variable {X:Cx} {x n:Str} {c:Value} {i:Nat} {body suite:List Stmt} {b0:Stmt} {np hpos pos:Pos} {tb:(St->XK)->TS} {th:TS}
theorem zh1 (hst:X.stack=X.env :: X.outer) (hf:X.env.frame=some X.env.locals) (hg:Gl X x) (hm:X.mg x=some c) (hN:X.N.Nodup) (hi:X.N[i]? = some n) (hk:X.env.scope.names.lookup n=some .local) (hb :∀pn E,PSs (X.tryX pn E) body (tb E))
  (hh :∀ea,PSs (X.exc ea) (b0 :: suite) th) (hdb:(x == ("__debug__" : Str))=false:=by decide) :
  PS X (.Try body [.ExceptHandler (some (.Name x np)) (some n) (b0 :: suite) hpos] [] [] pos) (tTryAs X.K c i tb th):=by
 intro j s σ H D I h;refine wpAny_Try_except (X2 (hb (X.pn++j) _ [] s σ H D (I.toPn.wish _) h) (λ f y q=>?_) λ e y q=>?_)
 ·cases f with
  | next=>exact Q7 (SP.ofTry q)
  | brk=>exact SP.ofTry q
  | cont=>exact SP.ofTry q
  | ret u=>exact SP.ofTry q
 ·obtain ⟨b2,p,H1,s0,I1,ea,F,a0,B,a,rfl,Q,M,un,R,C,hB,t,keep,hE,U⟩:=q;have d:Inv X j p H1 s0:=I1.ofPn;have fr:X.A.frames=some (X.env :: X.outer):=hst ▸ d.ok.frames;refine wpAny_looks_onW fr hf (hst ▸ t) λ h4 a8 P=>?_;refine wpAny_landsW a8 λ O k G=>?_;rw [<-hst] at k;obtain ⟨a3,Y,a2⟩:=fly_un d.stack d.stkFree un R t keep k (P.trans G);have L:Inv X j p a { y with heap:=O }:=d.call' (ch:=[]) Q a3 Y M λ b z=>absurd z (by simp);obtain ⟨ob,a6,a7⟩:=k.there;refine wpAny_handleBy_cons (codeAny_handlers_test (z85 (L.toExc ea) hg hm ?_ hdb)) (by intro q;cases q);have LT:PySem.W.Looks (j1 X.prog X.w) O (j49 (.ref ea)) F:=by subst a7;exact (PySem.W.Looks.ld a6).andThen .now
  refine (PySem.W.exm_one (L.toExc ea).kIn LT hE).here ?_;refine codeAny_handlers_suite_as ?_;refine lands_againW k λ h6 S a5=>?_;obtain ⟨V,a9,_⟩:=fly_un d.stack d.stkFree un R t keep S ((P.trans G).trans a5);obtain ⟨b1,a4,a1⟩:=S.there;have T:Inv X j p (upd a ea (ExcO ea F)) { y with heap:=h6 }:=d.call' (ch:=[]) Q (V.track a2 C) (a9.track C (zmt a4 a1)) M λ b z=>absurd z (by simp);refine zc3 (X:=X.exc ea) (v:=.ref ea) (T.toExc ea) hN hi (.inl hk) rfl (λ s7 Z=>?_) (.inr hk);refine X2 (hh ea j _ _ _ _ Z (U ea C)) (λ f s8 q=>?_) λ _ _ z=>B3 z;have l:=SP.ofExc q d.ok.hd;cases f with
  | next=>obtain ⟨o,a,J,z⟩:=l;exact z68 J hN hi hk λ m g=>⟨_,a,g,z⟩
  | brk=>obtain ⟨o,a,J,z⟩:=l;exact z68 J hN hi hk λ m g=>⟨_,a,g,z⟩
  | cont=>obtain ⟨o,a,J,z⟩:=l;exact z68 J hN hi hk λ m g=>⟨_,a,g,z⟩
  | ret u=>obtain ⟨v,o,a,J,r,z⟩:=l;exact z68 J hN hi hk λ m g=>⟨v,_,a,g,r,z⟩
end
section
variable {X:Cx} {x:Str} {ps:List Str} {k:Nat} {sp:Sp} {e:Expr} {es:List Expr} {t:TA} {p pos:Pos} {E:St->XK}
theorem zfj (hx :∀(pins:List (Addr×Obj)) (σ:St) (H:Hp) (s:t0) (e:Value) (s':t0),Inv X pins σ H s->CXE X.prog X.w X.base X.stack H s (E σ) e s'->X.xe e s') (c:CalE X.prog X.w X.K X.mg X.base x ps k sp) (hr:Room k X.A) (hg:Gl X x) (ha:PA X (e :: es) t)
  (hdb:(x == ("__debug__" : Str))=false:=by decide) (he:A1 (e :: es) X.env=(false,Y2 e X.env) :: A1 es X.env:=by rfl) (hpl:(Z3 pos (A1 es X.env)).any (·.1)=false:=by rfl) :
  PE X (.Call (.Name x p) (e :: es) [] pos) (λ σ H Q=>t σ H λ vs H1=>sp vs H1 Q (E σ)):=by
 intro pins s σ H Q I h;obtain ⟨f,n,F,i,l,m⟩:=c.ex;refine u5 (z85 I hg i ?_ hdb);refine Y5 (h₀:=X.base) I.ok.mod.kin l (thn (ha pos pins s σ H _ I h) λ b d ⟨vs,H1,I1,r,q⟩=>⟨I1.kIn,?_⟩) he hpl;have j:b.length=ps.length:=by rw [<-r.length];exact F.len _ _ _ _ q
 have g:=m d b I1.kIn (by rw [N2];exact j);rw [N2] at g;refine wpAny_call (N9 (F.run X.A X.stack d H1 ⟨b,[]⟩ b vs Q (E σ) hr I1.env0 g r q) λ r s' a=>?_);cases r with
 | error e=>exact hx pins σ H1 d e s' I1 a
 | ok fl=>
  cases fl with
  | ret u=>exact I1.after a
  | next=>exact B3 a
  | brk=>exact B3 a
  | cont=>exact B3 a
end
end L2
set_option maxHeartbeats 400000
namespace L2
open PySem PySem.Spec PyProof.Rows PySem.W PySem.Calls PySem.Builtin PySem.Builtin.ObjectAttr PySem.Builtin.Getset_descriptor
section
variable {prog:Program} {w:V0} {A:U1} {E:Value->t0->Prop} {h:Heap} {g:Array j4i} {d:Drawn} {t:Nat} {os:S2} {K:c0} {a C:Addr} {o:Obj}
theorem zkx {R:Result->t0->Prop} {tp:Value} (X:K.In h) (L0:Looks (j1 prog w) h (j49 (.ref a)) (.ref C)) (hm:mroIn K C (.type "object")=some true) (hq:R (.ok (.ret (.ref C))) ⟨h,g,d,t,os⟩) :
  C7 (j1 prog w) A (.call (.builtin "getset_descriptor.__get__") ⟨[.builtin "object.__class__",.ref a,tp],[]⟩) R ⟨h,g,d,t,os⟩:=by
 have b:=looks_mroIn (M:=j1 prog w) X hm;refine codeAny_call_builtin KF.slot_gs.plain KF.entry_gs (KF.slot_gs.check _ _ _ _ _ _ _ _ KF.type_class (KF.args_gs _ _ _) ?_);unfold i6.«getset_descriptor.__get__» descrGet;rw [dga_obj];refine j0 (D0 ?_);unfold descrGetter descrCheckInstance descrNameAndClass o8;simp only [KF.owner_class]
 repeat lk
 refine ⟨Code.quiet_builtin _ (by decide +kernel),j3i KF.entry_class ?_⟩;unfold i6.«object.__class__» shownTypeOf
 repeat lk
 exact hq
theorem zih {tk:Tok} {Q:Fin->t0->Prop} (X:K.In h) (hx:h.get? a=some o) (hc:o.cls=.ref C) (ha:findIn K (.ref C) "__class__" = some (some (.builtin "object.__class__"))) (hm:mroIn K C (.type "object")=some true)
  (hq:Q (.done (.ret (.ref C))) ⟨h,g,d,t,os⟩):O0 (j1 prog w) A (i6.«object.__getattribute__» ⟨[.ref a,.str "__class__" tk],[]⟩) Q E ⟨h,g,d,t,os⟩:=by
 have c:Looks (j1 prog w) h (j49 (.ref a)) (.ref C):=hc ▸ (Looks.ld hx).andThen .now;have b:=looks_findIn (M:=j1 prog w) X ha;have i:(⟨h,g,d,t,os⟩:t0).TypeIs (.builtin "object.__class__") "getset_descriptor":=KF.type_class;have j:=KF.type_class;have e:=F.slot_gs_get.lookup;have f:=F.slot_gs_set.lookup
 repeat (any_goals (first|assumption|(with_reducible refine j27 hx ?_;rw [hc])|with_reducible refine b.at ?_|wp_step))
 refine zkx X c hm ?_
 repeat (any_goals (first|assumption|wp_step))
end
end L2
namespace L2
open PySem PySem.Spec PyProof.Rows PySem.W
section
variable {prog:Program} {w:V0} {A:U1} {E:Value->t0->Prop} {h:Heap} {g:Array j4i} {d:Drawn} {t:Nat} {os:S2} {K:c0} {a C:Addr} {o:Obj}
theorem zhl {M:Model} {nameV:Value} {Q:Unit->t0->Prop} (X:K.In h) (hx:h.get? a=some o) (hc:o.cls=.ref C) (hm:mroIn K C (.type "BaseException")=some true) (hq:Q () ⟨h,g,d,t,os⟩) :
  O0 M A (checkBuiltinCall "BaseException.__getattribute__" ⟨[.ref a,nameV],[]⟩) Q E ⟨h,g,d,t,os⟩:=by
 have e:builtinKind "BaseException.__getattribute__" = some .slot:=by decide +kernel
 have b:splitId "BaseException.__getattribute__" = some ("BaseException","__getattribute__"):=by decide +kernel
 have c:=looks_mroIn (M:=M) X hm;have f:=F.args_bexc_ga (.ref a) nameV;simp only [checkBuiltinCall,e,b];refine j0 ?_
 ·unfold o8
  repeat (first|(with_reducible refine j27 hx ?_;rw [hc])|with_reducible refine c.at ?_|wp_step)
  exact hq
theorem zl1 {tk:Tok} {R:Result->t0->Prop} (X:K.In h) (hx:h.get? a=some o) (hc:o.cls=.ref C) (ha:findIn K (.ref C) "__class__" = some (some (.builtin "object.__class__"))) (hm:mroIn K C (.type "object")=some true)
  (hb:mroIn K C (.type "BaseException")=some true) (hq:R (.ok (.ret (.ref C))) ⟨h,g,d,t,os⟩):C7 (j1 prog w) A (.call (.builtin "BaseException.__getattribute__") ⟨[.ref a,.str "__class__" tk],[]⟩) R ⟨h,g,d,t,os⟩:=
 codeAny_call_builtin F.excAttr_ValueError.ga.plain F.entry_bexc_ga (zhl X hx hc hb (zih X hx hc ha hm hq))
theorem exc_by {tk:Tok} {fill expr:Bool} {Q:Value->t0->Prop} (X:K.In h) (hx:h.get? a=some o) (hc:o.cls=.ref C) (ha:findIn K (.ref C) "__class__" = some (some (.builtin "object.__class__"))) (hm:mroIn K C (.type "object")=some true)
  (hb:mroIn K C (.type "BaseException")=some true) (hg:findIn K (.ref C) "__getattribute__" = some (some (.builtin "BaseException.__getattribute__"))) (hn:findIn K (.ref C) "__getattr__" = some none) (hq:Q (.ref C) ⟨h,g,d,t,os⟩) :
  O0 (j1 prog w) A (getAttrBy (.ref a) (.str "__class__" tk) fill expr) Q E ⟨h,g,d,t,os⟩:=by
 have i:=F.excAttr_ValueError.ga.bind (.ref a);have f:(expr && onTheHeap (N6 "BaseException.__getattribute__"))=false:=by cases expr<;>rfl
 have e:(N6 "BaseException.__getattribute__" == N6 "object.__getattribute__")=false:=by decide +kernel
 have j:(onTheHeap (Value.ref C) && N6 "BaseException.__getattribute__" == N6 "object.__getattribute__")=false:=by rw [e];rfl
 have c:=looks_findIn (M:=j1 prog w) X hg;have b:=looks_findIn (M:=j1 prog w) X hn
 repeat (any_goals (first|assumption|(with_reducible refine j27 hx ?_;rw [hc])|with_reducible refine c.at ?_|with_reducible refine b.at ?_|wp_step))
 refine zl1 X hx hc ha hm hb ?_
 repeat (any_goals (first|assumption|wp_step))
theorem zmh {Q:Option Value->t0->Prop} (X:K.In h) (hx:h.get? a=some o) (hc:o.cls=.ref C) (ha:findIn K (.ref C) "__class__" = some (some (.builtin "object.__class__"))) (hm:mroIn K C (.type "object")=some true)
  (hb:mroIn K C (.type "BaseException")=some true) (hg:findIn K (.ref C) "__getattribute__" = some (some (.builtin "BaseException.__getattribute__"))) (hn:findIn K (.ref C) "__getattr__" = some none) (hq:Q (some (.ref C)) ⟨h,g,d,t + 1,os⟩) :
  O0 (j1 prog w) A (j4c (.ref a) "__class__") Q E ⟨h,g,d,t,os⟩:=by
 unfold j4c getAttrBy?;refine j0 (wpAny_mkText (j0 (A6 (exc_by X hx hc ha hm hb hg hn (D0 hq)))))
end
def excCls (K:c0) (C:Addr):Bool:=(clsIn K C).isSome && (findIn K (.ref C) "__class__" == some (some (.builtin "object.__class__")) && (mroIn K C (.type "object") == some true && (mroIn K C (.type "BaseException") == some true &&
 (findIn K (.ref C) "__getattribute__" == some (some (.builtin "BaseException.__getattribute__")) && findIn K (.ref C) "__getattr__" == some none))))
theorem zhj {K:c0} {a C:Addr} (e:excCls K C=true):KitX K (.ref a) (.ref C) (λ h=>∃o,h.get? a=some o/\o.cls=.ref C):=by
 unfold excCls at e;simp only [j3,beq_iff_eq] at e;obtain ⟨b,i,c,f,j,m⟩:=e;refine ⟨λ M h _ ⟨o,hx,hc⟩=>hc ▸ (Looks.ld hx).andThen .now,λ M h X _=>?_,λ h tp B y n p X l=>?_,λ {prog w A E Q s} X ⟨o,hx,hc⟩ k=>?_⟩
 ·unfold clsIn at b;split at b
  ·rename_i c' d' cd' sl' ho;intro u D r v k q;unfold isType loadHead;exact j0 (wpAny_loadPart (k _ _ (X _ _ ho)) (D0 q))
  ·cases b
 ·refine Bool.eq_false_iff.mpr λ q=>?_;have e:C=tp:=Value.ref.inj (beq_iff_eq.mp q);subst e;unfold clsIn at b;split at b
  ·rename_i c' d' cd' sl' ho;have z:=(X _ _ ho).symm.trans l;cases z
  ·cases b
 ·obtain ⟨h,g,d,t,x⟩:=s;exact zmh X hx hc i c f j m k
theorem zkg :∀{cs:List Addr} {its:List Value},Vals (cs.map V.ref) its->its=cs.map Value.ref
 | [],_,.nil=>rfl
 | c :: cs,_,.cons r t=>by rw [zkg t];cases (show _=Value.ref c from r);rfl
section
variable {X:Cx}
theorem z2t (K:c0) (eK:X.K=K:=by rfl):CallR X (.builtin "isinstance") (λ xs H Q=>∃ea C v u b,xs=[.ref ea,v]/\H ea=some (ExcO ea (.ref C))/\excCls K C=true/\RelV v u/\(∀u',RelV v u'->u'=u)/\kitOne K (.ref C) u=some b/\Q (.bl b) H):=by subst eK;intro k s σ H xs l Q I r h;obtain ⟨ea,C,v,u,b,rfl,a,c,m,g,j,q⟩:=h;obtain ⟨i,n,rfl,d,e⟩:=vals2 r;cases (show i=Value.ref ea from d);cases g _ e;obtain ⟨p,_⟩:=I.hok ea _ a;exact kia_one (zhj c) I.kIn p j (λ z=>nomatch z) λ f=>⟨.bl b,H,I.tok f,rfl,q⟩
theorem z27 (K:c0) (eK:X.K=K:=by rfl):CallR X (.builtin "isinstance") (λ xs H Q=>∃(ea C p:Addr) (cs:List Addr) (b:Bool),xs=[.ref ea,.ref p]/\H ea=some (ExcO ea (.ref C))/\excCls K C=true/\H p=some (.tup (cs.map V.ref))/\kitAny K (.ref C) (cs.map Value.ref)=some b/\Q (.bl b) H):=by subst eK;intro D s σ H xs F Q I r h;obtain ⟨ea,C,p,cs,b,rfl,d,g,j,v,q⟩:=h;obtain ⟨t,w,rfl,k,l⟩:=vals2 r;cases (show t=Value.ref ea from k);cases (show w=Value.ref p from l);obtain ⟨i,_⟩:=I.hok ea _ d;obtain ⟨_,u,x,⟨f,m,a,n,c⟩,_⟩:=I.hok p _ j;have e:u=cs.map Value.ref:=zkg x;subst e;obtain ⟨B,y,E,A⟩:=f;dsimp only at a c;subst a c;exact kia_tup (zhj g) I.kIn i m v (λ z=>nomatch z) λ o=>⟨.bl b,H,I.tok o,rfl,q⟩
end
end L2
namespace L2
open PySem PySem.Spec PyProof.Rows
def tStrs (xs:List Str):TA:=λ _ H Q=>Q (xs.map V.str) H
theorem zf5 {a:Str} {xs:List Str}:tStrs (a :: xs)=tCons (tC (.str a)) (tStrs xs):=rfl
theorem zle {a:Str} {b:Nat} {c:Pos} {es:List Expr} {env:Env}:A1 (.Constant (.str a) b c :: es) env=(false,Y2 (.Constant (.str a) b c) env) :: A1 es env:=rfl
theorem zmn {X:Cx} {a:Str} {b:Nat} {c:Pos} {es:List Expr} {t:TA} (h:PA X es t):PA X (.Constant (.str a) b c :: es) (tCons (tC (.str a)) t):=z00 pe_str h zle
def cStr (p:Str×Nat×Pos):Expr:=.Constant (.str p.1) p.2.1 p.2.2
theorem zmi {X:Cx} (l:List (Str×Nat×Pos)):PA X (l.map cStr) (tStrs (l.map (·.1))):=by
 induction l with
 | nil=>exact pa_nil
 | cons p l ih=>obtain ⟨a,b,c⟩:=p;rw [J1,J1,zf5];exact zmn ih
end L2
set_option maxHeartbeats 4000000
namespace L2
open PySem PySem.Spec PyProof.Rows
def cStG (σ:St) (fr:List (Nat×Str)) (us:List (Option V)):St:=us++fr.map λ p=>(σ[p.1]?).join
def tCompG (wi:TI) (n:Nat) (fr:List (Nat×Str)) (g:TG) (tc:TT) (te:TE):TE:=λ σ H Q=>wi σ H λ J H1=>∃W:Nat->Nat->List V->Hp->Prop,(∃m,W 0 m [] H1)/\∀i m ys H,W i m ys H->
 (J.stop i H/\ys.length<=sizeLine/\∀p,H p=none->Q (.ref p) (upd H p (.lst ys)))\/
 (J.go i H/\ys.length<=sizeLine/\∀v H',J.yld i H v H'->g v (cStG σ fr (W1 n none)) H' λ σ6 H6=>∃us,us.length=n/\σ6=cStG σ fr us/\tc (cStG σ fr us) H6 λ b H2=>if b=true then te (cStG σ fr us) H2 λ y H3=>∃m',m' < m/\W (i + 1) m' (ys++[y]) H3 else∃m',m' < m/\W (i + 1) m' ys H2)
section
variable {X:Cx}
theorem zl7 {scope:Scope} {cl:List (Str×Addr)} {N:List Str} {C:Addr} {s₂:t0} {H₂:Hp} {fp:List Addr} {x:Str} {px:Pos} (i:Nat) (hN:N.Nodup) (hi:N[i]? = some x) (hx:scope.names.lookup x=some .local):PG (cxComp X scope cl N C s₂ H₂ fp) (.Name x px) (gName i):=
 z0j hN hi (.inl (lookup_relabel_local hx)) (.inr (lookup_relabel_local hx))
theorem zgx {xs:List Str} {tg:Expr} {g:TG} {pos:Pos} {elt iter:Expr} {ifs:List Expr} {scope:Scope} {fr:List (Nat×Str)} {wi:TI} {tc:TT} {te:TE} {use:Option (Value->Sem Unit)} {QQ:Value->t0->Prop} {pins:List (Addr×Obj)} {s:t0} {σ:St} {H:Hp} {Q:VK} {pp:Pos} (hcalm:X.calm=true) (hi:PI X tg iter wi)
  (hfr :∀p∈fr,X.N[p.1]? = some p.2/\(X.env.kindOf p.2=some .cell\/X.env.kindOf p.2=some .free))
  (hfree :∀y∈scope.names,y.2=Z1->X.env.kindOf y.1=some .cell\/X.env.kindOf y.1=some .free)
  (hfs :∀p∈fr,(p.2,Z1)∈scope.names/\((K8 scope X.env).names.lookup p.2=some .cell\/(K8 scope X.env).names.lookup p.2=some .free))
  (hcell :∀y∈scope.names,y.2≠NameKind.cell) (hkind:scope.kind=.function) (hnames :∀y∈scope.names,y.2=NameKind.local->scope.names.lookup y.1=some .local)
  (hg :∀cl C s₂ H₂ fp,PG (cxComp X scope cl (xs++fr.map (·.2)) C s₂ H₂ fp) tg g)
  (ht :∀cl C s₂ H₂ fp,PF (cxComp X scope cl (xs++fr.map (·.2)) C s₂ H₂ fp) ifs tc) (he :∀cl C s₂ H₂ fp,PE (cxComp X scope cl (xs++fr.map (·.2)) C s₂ H₂ fp) elt te)
  (hs :∀x,L4 iter X.env x=d3 x) (I:Inv X pins σ H s) (h:tCompG wi xs.length fr g tc te σ H Q)
  (hend :∀(D:Addr) (s4:t0) (H4:Hp),Inv X pins σ H4 s4->(∃m,s4.heap.Ns (D + 1) m)->H4 (D + 1)=none->D + 1≠X.env.locals->X.s₀.heap.objs.size<=D + 1->(D + 1∉X.fs/\(∀x c,X.env.cells.lookup x=some c->c≠D + 1)/\∀p∈X.pn++pins,p.1≠D + 1)->Q (.ref D) H4->compPost (j1 X.prog X.w) X.A X.xe use QQ (.ref D) (D + 1) (.ok .next) s4) :
  O0 (j1 X.prog X.w) X.A (comprehension (.ListComp elt [⟨tg,iter,ifs,0⟩] scope pos) scope X.env pp (newList []) false (firstIter [⟨tg,iter,ifs,0⟩] X.env) use) QQ X.xe s:=by
 obtain ⟨cl,g1,U,b6⟩:=zfu (scope:=scope) (env:=X.env) λ y S hk=>I.ok.has y.1 (hfree y S hk);refine wpAny_comprehension_free (use:=use) rfl hs g1 hkind hnames (thn (hi pins s σ H _ I h) λ xv s₁ h₁=>thn h₁ λ g2 s₂ h₂=>?_);obtain ⟨it,fp,tn,J,O,e,f,T,b5,M,W,⟨m0,w0⟩,f0⟩:=h₂;subst e
 -- the list that is filled,the block's names
 refine F3 (wpAny_newFunctionEnv hcell (by intro y S;simp at S) (λ h₁ a4 a0=>?_) hkind);dsimp only at a4 a0⊢;generalize hD:s₂.heap.objs.size=D at a4 a0⊢;generalize hG:s₂.heap.push { cls:=.type "list",dict:=none,data:=.seq ([]:List Value).toArray }=G at a4 a0⊢;have hC:G.objs.size=D + 1:=by rw [<-hG,T2,hD]
 generalize hCC:G.objs.size=C at a4 a0 hC⊢;subst hC;have a7 :∀b∈fp,b < D:=λ b a=>by obtain ⟨o,e,_⟩:=T.obj _ _ b5 b a;rw [<-hD];exact M0 e
 have a1 :∀b o,s₂.heap.get? b=some o->h₁.get? b=some o:=λ b o e=>a0.extBut b o (Z0 (A2 (by rw [<-hD];exact M0 e))) (C0 _ (hG ▸ C0 _ e));have d5:G.get? D=some { cls:=.type "list",dict:=none,data:=.seq ([]:List Value).toArray }:=by rw [<-hG,<-hD];exact P0 _ rfl
 have e7:h₁.PlainList D #[]:=⟨0,a0.extBut _ _ (Z0 (O2 D)) (C0 _ d5)⟩
 have d9 :∀y c,cl.lookup y=some c->c < D:=λ y c e=>by obtain ⟨v,q⟩:=f.cell y c (U y c e);rw [<-hD];exact q.lt
 have f4 :∀b∈frs X.stack,b < D:=λ b a=>by
  rcases List.mem_cons.mp (f.stkSub b a) with e|a
  ·rw [e,<-hD];exact f.lt
  ·rw [<-hD];exact Nat.lt_of_not_le λ z=>f.nofs z a
 have d1 :∀b∈fp,b∉frs X.stack:=λ b a d2=>by
  rcases List.mem_cons.mp (f.stkSub b d2) with e|z
  ·exact (M b a).2.1 e
  ·exact (M b a).2.2.1 z
 generalize hX':cxComp X scope cl (xs++fr.map (·.2)) (D + 1) s₂ O fp=X';have f5:X'.Ok:=by
  subst hX';refine ⟨f.ok.mod,hkind,f.ok.glob,f.ok.blt,(by show s₂.heap.objs.size<=D + 1;omega),λ y z c R L=>f.ok.inj y z c (U _ _ R) (U _ _ L),λ y S=>?_,(λ _ _ z=>Bool.noConfusion z),f.ok.hd,f.ok.frames,.inl rfl,λ b a=>⟨?_,λ y c e=>?_⟩,λ b o e=>f.bs b o e,?_,λ b o e a=>?_,d1,f.env0.funs,f.stkFree⟩
  ·rcases S with S|S
   ·exact b6 y (z6b hcell S (.inl rfl))
   ·exact b6 y (z6b hcell S (.inr rfl))
  ·exact Z0 (A2 (a7 b a))
  ·exact (M b a).2.2.2.2.1 y c (U y c e)
  ·exact F0 f.ok.bsz f.sz
  ·rcases (M b a).2.2.2.1 with z|z
   ·exact f.ok.noex b o e z
   ·exact absurd (G1 (M0 (f.ok.bs b o e).1) z) (j4 _)
 have Z:X'.env.locals=D + 1:=by subst hX';rfl
 have a5:X'.env.cells=cl:=by subst hX';rfl
 have a9:X'.fs=frs X.stack:=by subst hX';rfl
 have b3:X'.pn=[]:=by subst hX';rfl
 have a3:X'.s₀=s₂:=by subst hX';rfl
 have c0:X'.H₀=O:=by subst hX';rfl
 have b9:X'.ex=fp:=by subst hX';rfl
 have c6:X'.N=xs++fr.map (·.2):=by subst hX';rfl
 have c9:X'.A=X.A:=by subst hX';rfl
 have E:X'.prog=X.prog/\X'.w=X.w/\X'.K=X.K/\X'.calm=true:=by subst hX';exact ⟨rfl,rfl,rfl,hcalm⟩
 have b7:X'.xe=λ _ _=>False:=by subst hX';rfl
 have c1:X'.env=compEnvC scope cl (D + 1) X.env:=by subst hX';rfl
 have f1:PF X' ifs tc:=hX' ▸ ht cl (D + 1) s₂ O fp;have e0:PE X' elt te:=hX' ▸ he cl (D + 1) s₂ O fp;have e8:PG X' tg g:=hX' ▸ hg cl (D + 1) s₂ O fp;have fresh :∀b,D<=b->O b=none:=λ b a=>f.hok.fresh (by rw [hD];exact a);have start :∀t,Inv X' [] (cStG σ fr (W1 xs.length none)) O { s₂ with heap:=h₁,toks:=t }:=λ t=>by
  refine ⟨f5,by rw [a3],f.bare,?_,⟨_,by rw [Z];exact a4,λ i y v R L e3=>?_⟩,λ y c e=>?_,by rw [Z];exact fresh _ (T3 _),λ y c e=>?_,λ p B=>?_,?_,?_⟩
  ·rw [a9,b9,c0,a3];exact Un.kept a1
  ·rw [c6] at R;by_cases a2:i < xs.length
   ·exfalso;unfold cStG at L;rw [Q2 (by rw [V3];exact a2),y8,if_pos a2] at L;cases L
   ·have a2:xs.length<=i:=j21 a2;rw [B2 a2,W0] at R;unfold cStG at L;rw [B2 (by rw [V3];exact a2),V3,W0] at L;generalize i - xs.length=i at R L;cases ej:fr[i]? with
    | none=>rw [ej] at R;cases R
    | some p=>
     rw [ej] at R;obtain rfl:p.2=y:=P1 R;have b0:(σ[p.1]?).join=some v:=by rw [ej] at L;exact P1 L
     have f9:σ[p.1]? = some (some v):=by
      cases q:σ[p.1]? with
      | none=>rw [q] at b0;cases b0
      | some z=>rw [q] at b0;exact congrArg some b0
     have B:=Q0 ej;obtain ⟨m,hn,hl⟩:=f.loc;obtain ⟨u,r,l⟩:=hl p.1 p.2 v (hfr p B).1 f9 (by rcases (hfr p B).2 with z|z;exact .inr (.inl z);exact .inr (.inr z));refine ⟨u,r,.inr ⟨?_,?_⟩⟩
     ·rw [c1];exact (hfs p B).2
     ·rcases l with ⟨z,_⟩|⟨_,c,ec,q⟩
      ·exfalso;rcases (hfr p B).2 with z'|z'<;>(rw [z] at z';cases z')
      ·obtain ⟨c',c7⟩:=b6 p.2 (hfs p B).1;have:=U _ _ c7;rw [ec] at this;cases this;obtain ⟨o,ho,hd⟩:=q;exact ⟨c,by rw [a5];exact c7,o,a1 _ _ ho,hd⟩
  ·rw [a5] at e;obtain ⟨v,o,ho,hd⟩:=f.cell y c (U y c e);exact ⟨v,o,a1 _ _ ho,hd⟩
  ·rw [a5] at e;exact f.freeC y c (U y c e)
  ·rw [b3] at B;exact nomatch B
  ·rw [E.1,E.2.1];exact f.hok.kept a1
  ·rw [c6];unfold cStG;simp
 have FP :∀{pins':List (Addr×Obj)} {H':Hp},(∀b∈fp,H' b=none)->(∀p∈pins',p.1=D)->∀b∈fp,FpOk X' pins' H' b:=λ hn B b a=>by
  refine ⟨hn b a,?_,?_,.inl (by rw [b9];exact a),λ y c e=>?_,λ p c2=>?_⟩
  ·rw [Z];exact Z0 (A2 (a7 b a))
  ·rw [a9];exact d1 b a
  ·rw [a5] at e;exact (M b a).2.2.2.2.1 y c (U y c e)
  ·rw [b3] at c2;rw [B p c2];exact i4 (a7 b a)
 -- the turns
 have loop :∀s₃:t0,s₃={ s₂ with heap:=h₁,toks:=s₂.toks + ([]:List (Str×Value)).length }->
   C7 (j1 X.prog X.w) X.A (.compLoop (.ListComp elt [⟨tg,iter,ifs,0⟩] scope pos) 0 (.ref it) (.ref D) (compEnvC scope cl (D + 1) X.env))
    (compPost (j1 X.prog X.w) X.A X.xe use QQ (.ref D) (D + 1)) s₃:=by
  rintro s₃ rfl;rw [<-c1,<-E.1,<-E.2.1,<-c9];refine zj4 (λ k s'=>∃i ys its H',Inv X' [] (cStG σ fr (W1 xs.length none)) H' s'/\tn i s'.heap/\(∀b∈fp,H' b=none)/\s'.heap.PlainList D its.toArray/\Vals ys its/\H' D=none/\W i k ys H') ?_ m0
   ⟨0,[],[],O,start _,T.keep _ _ _ b5 λ b a o e=>a1 b o e,λ b a=>(M b a).1,e7,.nil,fresh _ (B0 _),w0⟩
  rintro n s3 ⟨i,ys,its,H3,I3,st3,fr3,ac3,rv3,hD3,w3⟩;obtain ⟨na,f7⟩:=id ac3;have c8:Inv X' [(D,{ cls:=.type "list",data:=.seq its.toArray na })] (cStG σ fr (W1 xs.length none)) H3 s3:=I3.pins_of λ p B=>by rw [List.mem_singleton] at B;subst B;refine ⟨f7,hD3,by rw [Z];exact Z0 (O2 D),by rw [a9];exact λ z=>j4 _ (f4 D z),λ v z=>nomatch z⟩
  have hT:=T;rw [<-E.1,<-E.2.1,<-E.2.2.1] at hT;rcases f0 i n ys H3 w3 with ⟨d6,b8,qn⟩|⟨go,b8,step⟩
  ·refine thn (hT.done X' rfl rfl rfl E.2.2.2 i _ s3 _ H3 _ c8 (FP fr3 (by intro p B;rw [List.mem_singleton.mp B])) st3 d6) λ r s4 ⟨hr,I4⟩=>?_;subst hr;obtain ⟨m4,d7,_⟩:=id I4.loc;obtain ⟨Y,c4⟩ :∃Y,Y=s4.heap:=⟨_,rfl⟩
   have d0:S5 (D + 1) s4.heap Y:=by rw [c4];exact ⟨rfl,λ _ _=>rfl⟩
   have g0:D≠D + 1:=Z0 (O2 D);have e4:=(I4.pin (D,_) (O1 _ F1))
   have f3:Y.get? D=some { cls:=.type "list",data:=.seq its.toArray na }:=(d0.2 D g0).trans e4.1;have un:Un (frs X.stack) fp O H3 s₂.heap s4.heap:=by have:=I4.base;rw [a9,b9,c0,a3] at this;exact this
   have kp :∀b o,b≠D + 1->s4.heap.get? b=some o->Y.get? b=some o:=λ b o a e=>(d0.2 b a).trans e;have a6 :∀b o,s₂.heap.get? b=some o->b≠D + 1/\b≠D:=λ b o e=>by have:=M0 e;rw [hD] at this;exact ⟨Z0 (A2 this),Z0 this⟩
   have e5:Un (frs X.stack) fp O (upd H3 D (.lst ys)) s₂.heap Y:=by
    refine ⟨λ b o e n a hx=>kp b o (a6 b o e).1 (un.keep b o e n a hx),λ b o e n a hx=>?_,λ b o e n hx=>by rw [upd_ne (a6 b o e).2];exact un.free b o e n hx,λ b o e hx=>?_,λ b xs e=>?_,λ b o u e=>?_,λ b ps e=>?_⟩
    ·obtain ⟨sl,z⟩:=un.slot b o e n a hx;exact ⟨sl,kp _ _ (a6 b o e).1 z⟩
    ·obtain ⟨o',z⟩:=un.there b o e hx;exact ⟨o',kp _ _ (a6 b o e).1 z⟩
    ·rw [upd_ne (z07 e (fresh D (B0 _)))];exact un.tups b xs e
    ·rw [upd_ne (z07 e (fresh D (B0 _)))];exact un.frzs b o u e
    ·rw [upd_ne (z07 e (fresh D (B0 _)))];exact un.tbls b ps e
   have b2:H3 (D + 1)=none:=by have:=I4.free;rw [Z] at this;exact this
   have d8:HOk X.prog X.w (upd H3 D (.lst ys)) Y:=λ b u e=>by
    by_cases a:b=D
    ·subst a;rw [z01] at e;cases e;exact ⟨b8,its,na,rv3,f3⟩
    ·rw [upd_ne a] at e;have z:=I4.hok b u e;rw [E.1,E.2.1] at z;refine z.stay (λ c v hc q=>kp c v ?_ q) (λ c q=>by rw [upd_ne (z07 q hD3)];exact q) λ c xs q=>by rw [upd_ne (z07 q hD3)];exact q
     rintro rfl;rcases hc with rfl|hc
     ·rw [b2] at e;cases e
     ·rw [b2] at hc;cases hc
   subst c4;have I5:Inv X pins σ (upd H3 D (.lst ys)) s4:=f.call' (s':=s4) (ch:=fp) (by have:=I4.os;rw [a3] at this;exact this) e5 d8 I4.bare (λ b a=>⟨(M b a).2.2.2.1,(M b a).2.1,(M b a).2.2.2.2.1,(M b a).2.2.2.2.2⟩);show compPost (j1 X'.prog X'.w) X'.A X.xe use QQ (.ref D) (D + 1) (.ok .next) s4;rw [E.1,E.2.1,c9];refine hend D s4 _ I5 ⟨m4,Z ▸ d7⟩ ?_ ?_ ?_ ?_ (qn D hD3)
   ·rw [upd_ne (i4 (O2 D))];exact b2
   ·exact i4 (A2 (by rw [<-hD];exact f.lt))
   ·exact F0 f.sz (by rw [hD];exact T3 D)
   ·refine ⟨λ z=>f.nofs (by rw [hD];exact T3 D) z,λ y c e=>?_,λ p B=>?_⟩
    ·obtain ⟨v,q⟩:=f.cell y c e;exact Z0 (A2 (by rw [<-hD];exact q.lt))
    ·exact Z0 (A2 (by rw [<-hD];exact M0 (f.pin p B).1))
  ·refine thn (hT.item X' rfl rfl rfl E.2.2.2 i _ s3 _ H3 _ c8 (FP fr3 (by intro p B;rw [List.mem_singleton.mp B])) st3 go) λ r s4 ⟨u,hr,h4⟩=>?_;subst hr;refine thn h4 λ _ s5 ⟨v,H5,I5,r5,y5,st5,fr5⟩=>?_;have f8:=I5.pinned (FP fr5 (by intro p B;rw [List.mem_singleton.mp B])) (T.obj _ _ st5);have g5:=e8 _ s5 (cStG σ fr (W1 xs.length none)) H5 v u _ f8 r5 (step v H5 y5);rw [b7] at g5;refine thn g5 λ _ s6 ⟨σ6,H6,I6,us,hus,e6,q6⟩=>?_;subst e6;have t6:=f1 _ s6 _ H6 _ I6 q6;rw [b7] at t6;refine thn t6 λ ok s7 ⟨H7,I7,q7⟩=>?_;have c3 :∀{H8:Hp} {F:t0} {ys':List V} {its':List Value} {pl:List (Addr×Obj)},Inv X' (pl++pinsAt fp s5.heap) (cStG σ fr us) H8 F->F.heap.PlainList D its'.toArray->Vals ys' its'->H8 D=none->(∃m',m' < n/\W (i + 1) m' ys' H8)->
     ∃m,m < n/\∃i ys its H',Inv X' [] (cStG σ fr (W1 xs.length none)) H' F/\tn i F.heap/\(∀b∈fp,H' b=none)/\F.heap.PlainList D its.toArray/\Vals ys its/\H' D=none/\W i m ys H':=λ {H8 F ys' its' pl} P b1 rv8 a8 ⟨m',hm,w8⟩=>by
    refine ⟨m',hm,i + 1,ys',its',H8,(P.pins_of (pins':=[]) (λ p B=>absurd B A0)).weak (by unfold cStG;simp [hus]) ?_,T.keep _ _ _ st5 λ b a o e=>(P.pin (b,o) (O1 _ (O1 _ (z4r a e)))).1,λ b a=>?_,b1,rv8,a8,w8⟩
    ·intro j z e;unfold cStG at e⊢;by_cases hj:j < xs.length
     ·rw [Q2 (by rw [V3];exact hj),y8,if_pos hj] at e;cases e
     ·have hj:xs.length<=j:=j21 hj;rw [B2 (by rw [V3];exact hj),V3] at e;rw [B2 (by rw [hus];exact hj),hus];exact e
    ·obtain ⟨o,e,d⟩:=T.obj _ _ st5 b a;exact (P.pin (b,o) (O1 _ (O1 _ (z4r a e)))).2.1
   have b4 :∀{H8:Hp} {F:t0} {σ8:St},Inv X' ([(D,{ cls:=.type "list",data:=.seq its.toArray na })]++pinsAt fp s5.heap) σ8 H8 F->F.heap.PlainList D its.toArray/\H8 D=none:=λ P=>
    have z:=P.pin (D,_) (O1 _ (O5 _ F1))
    ⟨⟨na,z.1⟩,z.2.1⟩
   cases ok with
   | false=>rw [if_neg S0] at q7⊢;exact c3 I7 (b4 I7).1 rv3 (b4 I7).2 q7
   | true=>
    rw [if_pos rfl] at q7⊢;have t7:=e0 _ s7 _ H7 _ I7 q7;rw [b7] at t7;refine thn t7 λ y F ⟨vy,H8,P,r8,q8⟩=>?_;obtain ⟨b1,a8⟩:=b4 P;refine wpAny_list_append_plain (hsz:=by have:=rv3.length;rw [R0,<-this];exact b8) b1 λ h9 c5 f6=>?_;have I9:Inv X' ([]++pinsAt fp s5.heap) (cStG σ fr us) H8 F:=P.pins_of λ p B=>(P.pin p (O1 _ (O1 _ B)))
    have d4:Inv X' ([]++pinsAt fp s5.heap) (cStG σ fr us) H8 { F with heap:=h9 }:=by
     refine I9.turned (t':=F.toks) (it:=D) (λ b o a e=>(f6.2 b a).trans e) a8 (by rw [Z];exact Z0 (O2 D)) (.inr (by rw [a3,hD];exact B0 _)) (λ y' c e=>?_) λ p B=>?_
     ·rw [a5] at e;exact Z0 (d9 y' c e)
     ·rw [b3] at B;exact Z0 (a7 _ (zcm B).1)
    have e9:its.toArray.push y=(its++[y]).toArray:=by simp
    rw [e9] at c5;exact c3 d4 c5 (rv3.snoc r8) a8 q8
 exact codeAny_compStart_list (loop _ rfl) (T.self _ 0 _ _ _ (T.keep _ _ _ b5 λ b a o e=>a1 b o e) (loop _ rfl))
theorem zl8 {xs:List Str} {tg:Expr} {g:TG} {pos:Pos} {elt iter:Expr} {ifs:List Expr} {scope:Scope} {fr:List (Nat×Str)} {wi:TI} {tc:TT} {te:TE} (hcalm:X.calm=true) (hi:PI X tg iter wi)
  (hfr :∀p∈fr,X.N[p.1]? = some p.2/\(X.env.kindOf p.2=some .cell\/X.env.kindOf p.2=some .free))
  (hfree :∀y∈scope.names,y.2=Z1->X.env.kindOf y.1=some .cell\/X.env.kindOf y.1=some .free)
  (hfs :∀p∈fr,(p.2,Z1)∈scope.names/\((K8 scope X.env).names.lookup p.2=some .cell\/(K8 scope X.env).names.lookup p.2=some .free))
  (hcell :∀y∈scope.names,y.2≠NameKind.cell) (hkind:scope.kind=.function) (hnames :∀y∈scope.names,y.2=NameKind.local->scope.names.lookup y.1=some .local)
  (hg :∀cl C s₂ H₂ fp,PG (cxComp X scope cl (xs++fr.map (·.2)) C s₂ H₂ fp) tg g)
  (ht :∀cl C s₂ H₂ fp,PF (cxComp X scope cl (xs++fr.map (·.2)) C s₂ H₂ fp) ifs tc) (he :∀cl C s₂ H₂ fp,PE (cxComp X scope cl (xs++fr.map (·.2)) C s₂ H₂ fp) elt te)
  (hs :∀x,L4 iter X.env x=d3 x:=by intro _;rfl):PE X (.ListComp elt [⟨tg,iter,ifs,0⟩] scope pos) (tCompG wi xs.length fr g tc te):=by
 intro r s σ H Q I h;rw [eval_ListComp];refine zgx hcalm hi hfr hfree hfs hcell hkind hnames hg ht he hs I h λ D d k f a n l j ⟨c,hc,hp⟩ q=>?_;obtain ⟨m,a⟩:=a;exact ⟨m,a,λ t i=>⟨.ref D,k,f.turned (t':=d.toks) (it:=D + 1) (λ b o c e=>(i.2 b c).trans e) n l (.inr j) hc hp,rfl,q⟩⟩
theorem zm2 {xs:List Str} {tg:Expr} {g:TG} {pos:Pos} {elt iter:Expr} {ifs:List Expr} {scope:Scope} {fr:List (Nat×Str)} {wi:TI} {tc:TT} {te:TE} {i:Nat} {y:Str} {py spos:Pos} (hNy:X.N.Nodup) (hiy:X.N[i]? = some y) (hy:Loc X.env.scope y) (hcalm:X.calm=true) (hi:PI X tg iter wi)
  (hfr :∀p∈fr,X.N[p.1]? = some p.2/\(X.env.kindOf p.2=some .cell\/X.env.kindOf p.2=some .free))
  (hfree :∀y∈scope.names,y.2=Z1->X.env.kindOf y.1=some .cell\/X.env.kindOf y.1=some .free)
  (hfs :∀p∈fr,(p.2,Z1)∈scope.names/\((K8 scope X.env).names.lookup p.2=some .cell\/(K8 scope X.env).names.lookup p.2=some .free))
  (hcell :∀y∈scope.names,y.2≠NameKind.cell) (hkind:scope.kind=.function) (hnames :∀y∈scope.names,y.2=NameKind.local->scope.names.lookup y.1=some .local)
  (hg :∀cl C s₂ H₂ fp,PG (cxComp X scope cl (xs++fr.map (·.2)) C s₂ H₂ fp) tg g)
  (ht :∀cl C s₂ H₂ fp,PF (cxComp X scope cl (xs++fr.map (·.2)) C s₂ H₂ fp) ifs tc) (he :∀cl C s₂ H₂ fp,PE (cxComp X scope cl (xs++fr.map (·.2)) C s₂ H₂ fp) elt te)
  (hs :∀x,L4 iter X.env x=d3 x:=by intro _;rfl) (hw:o7 (.ListComp elt [⟨tg,iter,ifs,0⟩] scope pos) (some (.Name y py)) spos.line X.env=d3 true:=by rfl) (hf:X.fn y=true\/X.env.scope.names.lookup y=some .local:=by first|exact .inl rfl|exact .inr rfl|assumption) :
  PS X (.Assign [.Name y py] (.ListComp elt [⟨tg,iter,ifs,0⟩] scope pos) spos) (tAsg (tCompG wi xs.length fr g tc te) (gName i)):=by
 intro k s σ H D I h;rw [exec_Assign_Name_used y py _ spos hw];refine j0 (wpAny_standAt (j0 ?_));show O0 _ _ (do let _ <-comprehension (.ListComp elt [⟨tg,iter,ifs,0⟩] scope pos) scope X.env (firstIterPos [⟨tg,iter,ifs,0⟩] pos) (newList []) (firstAsync [⟨tg,iter,ifs,0⟩]) (firstIter [⟨tg,iter,ifs,0⟩] X.env) (some (assign (.Name y py) X.env));d3 ()) _ _ _;refine j0 (zgx hcalm hi hfr hfree hfs hcell hkind hnames hg ht he hs I h λ A l t r d J u L ⟨c,hc,hp⟩ q=>?_);obtain ⟨m,d⟩:=d;obtain ⟨o,E,M,G,f,O,w⟩:=d;have B:Inv X ((A + 1,o) :: k) σ t l:=r.pins_of λ p a=>by
  rcases List.mem_cons.mp a with rfl|a
  ·exact ⟨G,J,u,c,λ v z=>by rw [f] at z;cases z⟩
  ·exact r.pin p (O1 _ a)
 refine thn (z0j (pos:=py) hNy hiy hy hf _ l σ t (.ref A) (.ref A) D.nx B rfl q) λ _ j ⟨σ5,H5,I6,q6⟩=>?_;have n:=I6.pin (A + 1,o) (O1 _ F1);have F:Inv X k σ5 H5 j:=I6.pins_of λ p a=>I6.pin p (O1 _ (E1 _ a));refine ⟨m,⟨o,E,M,n.1,f,O,w⟩,λ P K=>?_⟩;exact D0 (D0 ⟨σ5,H5,F.turned (t':=j.toks) (it:=A + 1) (λ b o c e=>(K.2 b c).trans e) n.2.1 u (.inr L) hc hp,q6⟩)
end
end L2
set_option maxHeartbeats 400000
namespace L2
open PySem PySem.Spec PyProof.Rows
theorem z3e {t rest:TS} {D:Ends} {σ:St} {H:Hp} (R:St->Hp->Prop) (hr :∀σ1 H1,R σ1 H1->rest D σ1 H1) (h:(∀σ1 H1,R σ1 H1->rest D σ1 H1)->t { D with nx:=rest D } σ H):tSeq t rest D σ H:=h hr
theorem z0o {te:TE} {g:TG} {rest:TS} {D:Ends} {σ:St} {H:Hp} (h:te σ H λ x H1=>g x σ H1 (rest D)):tSeq (tAsg te g) rest D σ H:=h
structure Runs (J:It) (H1:Hp) (n:Nat) (Item:Nat->V->Hp->Prop):Prop where
 go :∀i,i < n->∀H,Same H1 H->J.go i H
 stop :∀H,Same H1 H->J.stop n H
 item :∀i,i < n->∀H v H',Same H1 H->J.yld i H v H'->Same H H'/\Item i v H'
theorem z10 (p:Nat->Bool) (n:Nat):(K1 (n + 1)).filter p=(K1 n).filter p++(if p n=true then [n] else []):=by rw [c9,M7,R4];cases p n<;>rfl
inductive All2 {α β:Type} (R:α->β->Prop):List α->List β->Prop
 | nil:All2 R [] []
 | cons {a:α} {b:β} {xs:List α} {ys:List β}:R a b->All2 R xs ys->All2 R (a :: xs) (b :: ys)
theorem z4i {α β:Type} {R:α->β->Prop} :∀{xs:List α} {ys:List β} {x:α} {y:β},All2 R xs ys->R x y->All2 R (xs++[x]) (ys++[y])
 | [],_,x,y,.nil,h=>.cons h .nil
 | _ :: _,_,x,y,.cons a r,h=>.cons a (z4i r h)
theorem z03 {α β:Type} {R S:α->β->Prop} (h :∀a b,R a b->S a b) :∀{xs:List α} {ys:List β},All2 R xs ys->All2 S xs ys
 | [],_,.nil=>.nil
 | _ :: _,_,.cons a r=>.cons (h _ _ a) (z03 h r)
theorem z05 {α β:Type} {R:α->β->Prop} :∀{xs:List α} {ys:List β},All2 R xs ys->ys.length=xs.length
 | [],_,.nil=>rfl
 | _ :: _,_,.cons _ r=>congrArg (· + 1) (z05 r)
theorem z5d {α β:Type} {f:α->β} :∀{xs:List α} {ys:List β},All2 (λ x y=>y=f x) xs ys->ys=xs.map f
 | [],_,.nil=>rfl
 | _ :: _,_,.cons a r=>by rw [J1,z5d r,a]
theorem zh4 {J:It} {H1:Hp} {n m:Nat} {Item:Nat->V->Hp->Prop} {fr:List (Nat×Str)} {g:TG} {tc:TT} {te:TE} {σ:St} {Q:VK} (p:Nat->Bool) (R:Nat->V->Hp->Prop) (hR :∀i y H H',Same H H'->R i y H->R i y H') (r:Runs J H1 n Item) (hn:n<=sizeLine)
  (body :∀i,i < n->∀v H,Same H1 H->Item i v H->∀(KT:VK) (KF:Hp->Prop),(p i=true->∀y H',Same H H'->R i y H'->KT y H')->(p i=false->∀H',Same H H'->KF H')->
   g v (cStG σ fr (W1 m none)) H λ σ6 H6=>∃us,us.length=m/\σ6=cStG σ fr us/\tc (cStG σ fr us) H6 λ b H2=>if b=true then te (cStG σ fr us) H2 KT else KF H2)
  (hQ :∀l H' ys,Same H1 H'->H' l=none->All2 (λ i y=>R i y H') ((K1 n).filter p) ys->Q (.ref l) (upd H' l (.lst ys))) :
  ∃W:Nat->Nat->List V->Hp->Prop,(∃m,W 0 m [] H1)/\∀i k ys H,W i k ys H->
   (J.stop i H/\ys.length<=sizeLine/\∀p,H p=none->Q (.ref p) (upd H p (.lst ys)))\/
   (J.go i H/\ys.length<=sizeLine/\∀v H',J.yld i H v H'->g v (cStG σ fr (W1 m none)) H' λ σ6 H6=>∃us,us.length=m/\σ6=cStG σ fr us/\tc (cStG σ fr us) H6 λ b H2=>if b=true then te (cStG σ fr us) H2 λ y H3=>∃m',m' < k/\W (i + 1) m' (ys++[y]) H3 else∃m',m' < k/\W (i + 1) m' ys H2):=by
 refine ⟨λ i k ys H'=>k=n - i/\i<=n/\Same H1 H'/\All2 (λ i y=>R i y H') ((K1 i).filter p) ys,⟨n,by simp,R1 _,Same.refl H1,.nil⟩,?_⟩;rintro i k ys H' ⟨rfl,hi,sm,fa⟩;have h:ys.length<=sizeLine:=by rw [z05 fa];have:=V2 p (K1 i);rw [j2] at this;omega
 by_cases hlt:i < n
 ·refine .inr ⟨r.go i hlt H' sm,h,λ v H2 y=>?_⟩;obtain ⟨c,q⟩:=r.item i hlt H' v H2 sm y;refine body i hlt v H2 (sm.trans c) q _ _ (λ f y H3 d j=>⟨n - (i + 1),by omega,rfl,hlt,(sm.trans c).trans d,?_⟩) (λ f H3 d=>⟨n - (i + 1),by omega,rfl,hlt,(sm.trans c).trans d,?_⟩)
  ·rw [z10,if_pos f];exact z4i (z03 (λ a b z=>hR a b _ _ (c.trans d) z) fa) j
  ·rw [z10,if_neg (by rw [f];decide),N2];exact z03 (λ a b z=>hR a b _ _ (c.trans d) z) fa
 ·have e:i=n:=by omega
  subst e;exact .inl ⟨r.stop H' sm,h,λ l o=>hQ l H' ys sm o fa⟩
theorem ziz {K:c0} {a:Addr} {xs:List V} {H1:Hp} (hq:SqL K H1 a xs):Runs (Itl K a) H1 xs.length (λ i v _=>xs[i]? = some v):=
 ⟨λ i b H s=>⟨xs,xs[i],s.seq hq,by simp [b]⟩,λ H s=>⟨xs,s.seq hq,B0 _⟩,λ i b H v c s y=>by obtain ⟨e,y⟩:=y;subst e;exact ⟨Same.refl _,y xs (s.seq hq)⟩⟩
theorem z6q {α β:Type} (p:α->Bool) (f:α->β) (d:α) :∀xs:List α,((K1 xs.length).filter λ i=>p (xs[i]?.getD d)).map (λ i=>f (xs[i]?.getD d))=(xs.filter p).map f:=by
 intro xs;have h:(K1 xs.length).map (λ i=>xs[i]?.getD d)=xs:=by
  apply Q6
  ·simp
  ·intro i b a;simp only [j1d,j08,N0 a,j11]
 have e:(xs.filter p).map f=((((K1 xs.length).map (λ i=>xs[i]?.getD d))).filter p).map f:=by rw [h]
 rw [e,List.filter_map,G3];rfl
theorem z8a (ns:List Int) :∀j,j<=ns.length->preSum (λ i=>ns[i]?.getD 0) j=(ns.take j).sum
 | 0,_=>by rw [List.take_zero];rfl
 | j + 1,h=>by show preSum (λ i=>ns[i]?.getD 0) j + ns[j]?.getD 0=_;rw [z8a ns j (Nat.le_of_succ_le h),List.take_succ_eq_append_getElem h,List.sum_append,N0 h];simp
structure QE (X:Cx) (e:Expr) (t:TE):Prop where
 run:PE X e t
structure QA (X:Cx) (es:List Expr) (t:TA):Prop where
 run:PA X es t
structure QPs (X:Cx) (pos:Pos) (ks:List (Option Expr)) (vs:List Expr) (t:List (TE×TE)):Prop where
 run:PPs X pos ks vs t
structure QS (X:Cx) (st:Stmt) (t:TS):Prop where
 run:PS X st t
structure QSs (X:Cx) (sts:List Stmt) (t:TS):Prop where
 run:PSs X sts t
section
variable {X:Cx} {pos:Pos}
theorem q_of {sts:List Stmt} {t:TS} {G:TS->Prop} (q:QSs X sts t) (g:G t) :∃t,PSs X sts t/\G t:=⟨t,q.run,g⟩
theorem z1g {st:Stmt} {t:TS} (h:QS X st t):QSs X [st] t:=⟨z04 h.run⟩
theorem z0f {st:Stmt} {rest:List Stmt} {t u:TS} (h:QS X st t) (r:QSs X rest u):QSs X (st :: rest) (tSeq t u):=⟨z02 h.run r.run⟩
theorem qs_set {i:Nat} {x:Str} {e:Expr} {te:TE} {pos':Pos} (hN:X.N.Nodup) (hi:X.N[i]? = some x) (hx:Loc X.env.scope x) (he:QE X e te) (hs:o7 e (some (.Name x pos')) pos.line X.env=d3 false:=by rfl) (hf:X.fn x=true\/X.env.scope.names.lookup x=some .local:=by first|exact .inl rfl|exact .inr rfl|assumption) :
  QS X (.Assign [.Name x pos'] e pos) (tAsg te (gName i)):=⟨ps_set hN hi hx he.run hs hf⟩
theorem zfo {o i value:Expr} {td ty tv:TE} {pos':Pos} (hu:X.A.units + 1 < cLine) (ho:QE X o td) (hi:QE X i ty) (hv:QE X value tv) (hs:o7 value (some (.Subscript o i pos')) pos.line X.env=d3 false) :
  QS X (.Assign [.Subscript o i pos'] value pos) (sDPut td ty tv):=⟨zfv hu ho.run hi.run hv.run hs⟩
theorem qs_for {tg iter:Expr} {body:List Stmt} {wi:TI} {g:TG} {tb:TS} (hp:PassesOwn (j1 X.prog X.w) X.A X.env X.xe) (hc:X.calm=true) (hi:PI X tg iter wi) (hg:PG X tg g) (hb:QSs X body tb)
  (hs :∀x,L4 iter X.env x=d3 x:=by intro _;rfl):QS X (.For tg iter body [] pos) (tFor wi g tb):=⟨ps_for hp hc hi hg hb.run hs⟩
theorem qe_lst {es:List Expr} {t:TA} (h:QA X es t):QE X (.List es pos) (tLst t):=⟨pe_lst h.run⟩
theorem qe_tup {es:List Expr} {t:TA} {x1} (h:QA X es t):QE X (.Tuple es x1 pos) (tTup t):=⟨pe_tup h.run⟩
theorem qa_nil:QA X [] tNil:=⟨pa_nil⟩
theorem z08 {e:Expr} {es:List Expr} {te:TE} {t:TA} (ha:QE X e te) (hr:QA X es t) (hs:A1 (e :: es) X.env=(false,Y2 e X.env) :: A1 es X.env:=by rfl):QA X (e :: es) (tCons te t):=⟨z00 ha.run hr.run hs⟩
theorem zlx (l:List (Str×Nat×Pos)):QA X (l.map cStr) (tStrs (l.map (·.1))):=⟨zmi l⟩
theorem zlt:QPs X pos [] [] []:=⟨zjc⟩
theorem zbr {k v:Expr} {ks:List (Option Expr)} {vs:List Expr} {tk tv:TE} {trs:List (TE×TE)} (hk:QE X k tk) (hv:QE X v tv) (hr:QPs X pos ks vs trs):QPs X pos (some k :: ks) (v :: vs) ((tk,tv) :: trs):=⟨zcf hk.run hv.run hr.run⟩
theorem zmk {keys:List (Option Expr)} {values:List Expr} {trs:List (TE×TE)} (h:QPs X pos keys values trs) (hall:keys.all (·.isSome)=true) (hl:keys.length=values.length) (h0:keys≠[]) (h15:keys.length<=15):QE X (.Dict keys values pos) (tDisp trs):=⟨zkc h.run hall hl h0 h15⟩
theorem qe_op {a b:Expr} {ta tb:TE} {op:Operator} {r:R2} (ho:OpR X (M4 op) r) (ha:QE X a ta) (hb:QE X b tb):QE X (.BinOp a op b pos) (tOp r ta tb):=⟨pe_op ho ha.run hb.run⟩
theorem qe_ix {a b:Expr} {ta tb:TE} {r:R2} (hr:IxR X r) (ha:QE X a ta) (hb:QE X b tb) (hs:zjt b):QE X (.Subscript a b pos) (tOp r ta tb):=⟨pe_ix hr ha.run hb.run hs⟩
end
theorem zg9 {X:Cx} {K:c0} (h:X.K=K):IxR X (rIx K):=h ▸ ix_seq
theorem zjz {f:List V->Hp->VK->Prop} {te:TE} {D:Ends} {σ:St} {H:Hp} (h:te σ H λ x H1=>f [x] H1 D.rt):tRet (tCB f (tCons te tNil)) D σ H:=h
theorem zlv {f:List V->Hp->VK->Prop} {te:TE} {g:TG} {rest:TS} {D:Ends} {σ:St} {H:Hp} (h:te σ H λ x H1=>f [x] H1 λ y H2=>g y σ H2 (rest D)):tSeq (tAsg (tCB f (tCons te tNil)) g) rest D σ H:=h
theorem z0i {α β:Type} {R:α->β->Prop} :∀{xs:List α} {ys:List β} {i:Nat} {y:β},All2 R xs ys->ys[i]? = some y->∃x,xs[i]? = some x/\R x y
 | _,_,i,y,.nil,e=>by simp at e
 | _,_,0,y,.cons a _,e=>by rw [Z2] at e;cases e;exact ⟨_,Z2,a⟩
 | _,_,i + 1,y,.cons _ r,e=>by rw [D2] at e;obtain ⟨x,c,b⟩:=z0i r e;exact ⟨x,by rw [D2];exact c,b⟩
theorem zhc {α:Type} {J:It} {H1:Hp} {rs:List α} {xs:List V} {RA:Hp->α->V->Prop} {m:Nat} {fr:List (Nat×Str)} {g:TG} {tc:TT} {te:TE} {σ:St} {Q:VK} (d:α) (p:α->Bool) (f:α->V) (r:Runs J H1 xs.length (λ i v _=>xs[i]? = some v)) (hm :∀H H' a v,Same H H'->RA H a v->RA H' a v) (al:All2 (RA H1) rs xs) (hn:rs.length<=sizeLine)
  (body :∀a∈rs,∀v H,Same H1 H->RA H a v->∀(KT:VK) (KF:Hp->Prop),(p a=true->∀H',Same H H'->KT (f a) H')->(p a=false->∀H',Same H H'->KF H')->
   g v (cStG σ fr (W1 m none)) H λ σ6 H6=>∃us,us.length=m/\σ6=cStG σ fr us/\tc (cStG σ fr us) H6 λ b H2=>if b=true then te (cStG σ fr us) H2 KT else KF H2)
  (hQ :∀l H',Same H1 H'->H' l=none->Q (.ref l) (upd H' l (.lst ((rs.filter p).map f)))) :
  ∃W:Nat->Nat->List V->Hp->Prop,(∃m,W 0 m [] H1)/\∀i k ys H,W i k ys H->
   (J.stop i H/\ys.length<=sizeLine/\∀p,H p=none->Q (.ref p) (upd H p (.lst ys)))\/
   (J.go i H/\ys.length<=sizeLine/\∀v H',J.yld i H v H'->g v (cStG σ fr (W1 m none)) H' λ σ6 H6=>∃us,us.length=m/\σ6=cStG σ fr us/\tc (cStG σ fr us) H6 λ b H2=>if b=true then te (cStG σ fr us) H2 λ y H3=>∃m',m' < k/\W (i + 1) m' (ys++[y]) H3 else∃m',m' < k/\W (i + 1) m' ys H2):=by
 have o:=z05 al;refine zh4 (λ i=>p (rs[i]?.getD d)) (λ i y _=>y=f (rs[i]?.getD d)) (λ _ _ _ _ _ h=>h) r (by rw [o];exact hn) (λ i A v H s q KT KF c j=>?_) λ l H' ys s u z=>?_
 ·obtain ⟨a,n,w⟩:=z0i al q;rw [n] at c j;exact body a (Q0 n) v H s (hm _ _ _ _ s w) KT KF (λ x H' t=>c x _ H' t rfl) j
 ·have e:=z5d z;rw [o,z6q p f d rs] at e;rw [e];exact hQ l H' s u
theorem zdz {α:Type} {K:c0} {l:Addr} {rs:List α} {xs:List V} {RA:Hp->α->V->Prop} {tl te:TE} {tc:TT} {g:TG} {m:Nat} {fr:List (Nat×Str)} {σ:St} {H H1:Hp} {Q:VK} (d:α) (p:α->Bool) (f:α->V) (htl :∀R:VK,R (.ref l) H1->tl σ H R) (hq:SqL K H1 l xs) (hm :∀H H' a v,Same H H'->RA H a v->RA H' a v) (al:All2 (RA H1) rs xs) (hn:rs.length<=sizeLine)
  (body :∀a∈rs,∀v H,Same H1 H->RA H a v->∀(KT:VK) (KF:Hp->Prop),(p a=true->∀H',Same H H'->KT (f a) H')->(p a=false->∀H',Same H H'->KF H')->
   g v (cStG σ fr (W1 m none)) H λ σ6 H6=>∃us,us.length=m/\σ6=cStG σ fr us/\tc (cStG σ fr us) H6 λ b H2=>if b=true then te (cStG σ fr us) H2 KT else KF H2)
  (hQ :∀l H',Same H1 H'->H' l=none->Q (.ref l) (upd H' l (.lst ((rs.filter p).map f)))):tCompG (iList K tl) m fr g tc te σ H Q:=
 htl _ ⟨l,rfl,⟨xs,hq⟩,zhc d p f (ziz hq) hm al hn body hQ⟩
end L2
set_option maxHeartbeats 4000000
namespace L2
open PySem PySem.Spec PyProof.Rows
section
variable {prog:Program} {w:V0} {A:U1} {E:Value->t0->Prop} {s:t0}
theorem z8c (hh:A.handled=none) (it t:Addr) (ne:t≠it) (items:Array Value):Draws prog w A it [it,t] items.size (λ i v=>items[i]? = some v) (λ i h=>h.IsTupleIter it t i/\h.IsTuple t items) where
 live:=λ i h a=>a.1.elim λ o z=>⟨o,z.1⟩
 frame:=λ i h b a k=>⟨a.1.elim λ o z=>⟨o,k it (by simp) o z.1,z.2⟩,a.2.elim λ o z=>⟨o,k t (by simp) o z.1,z.2⟩⟩
 item:=λ i s Q E c a q=>tupOn a.1 a.2 (E2 c) λ b f d=>q _ b s.toks (E2 c) ⟨f,a.2.elim λ o z=>⟨o,(d.2 t ne).trans z.1,z.2⟩⟩ d
 done:=λ s Q E a q=>tupOff hh a.1 a.2 (by simp) λ b e x y=>q b e x y
theorem zmr (a:Addr) (xs:Array Value):Meets (i6.«enumerate.__new__» ⟨[.type "enumerate",.ref a],[]⟩) (λ _ R s=>s.heap.IsTuple a xs/\R (.ok (.ret (.ref (s.heap.objs.size + 1))))
  { s with heap:=(s.heap.push { cls:=.type "tuple_iterator",data:=.fields #[.ref a,.int 0 0] }).push { cls:=.type "enumerate",data:=.fields #[.none,.bool false,.ref s.heap.objs.size,M9 0,.none,.none] } }):=
 .of_wp λ i w A R s h=>by
  obtain ⟨j,g,d,f,e⟩:=s;obtain ⟨k,h⟩:=h;have l:=sub_enumerate;have b:Heap.IsTuple (j45 ⟨j,g,d,f,e⟩) a xs:=k
  wp_walk using E4 b
  intro Γ p m;show O0 (j1 i w) A.in1 (d3 _) _ _ _;refine D0 ?_;generalize List.drop 1 ((Γ.code,p) :: Γ.below)=L;split
  ·rename_i c _ _ _ _;cases c == M5 "enumerate" with
   | true=>
    wp_walk using E4 b
    refine ⟨_,rfl,?_⟩;simpa [T2,X3] using h
   | false=>
    wp_walk using E4 b
    refine ⟨_,rfl,?_⟩;simpa [T2,X3] using h
  ·wp_walk using E4 b
   refine ⟨_,rfl,?_⟩;simpa [T2,X3] using h
theorem zla {a:Addr} {xs:Array Value} {Q:Value->t0->Prop} (ha:s.heap.IsTuple a xs)
  (q :∀h',IsEnum h' (s.heap.objs.size + 1) s.heap.objs.size 0 .none->h'.IsTupleIter s.heap.objs.size a 0->h'.objs.size=s.heap.objs.size + 2->(∀c o,s.heap.get? c=some o->h'.get? c=some o)->Q (.ref (s.heap.objs.size + 1)) { s with heap:=h' }) :
  O0 (j1 prog w) A (call (.type "enumerate") [.ref a]) Q E s:=by
 refine callType_new F.called_enumerate (by decide) (F.typeCall_enumerate_1 _) (F.newCall_enumerate_1 _) (λ obj=>F.args_object_init_2 obj _) F.entry_enumerate_new (zmr a xs) ⟨ha,?_⟩;generalize hn:s.heap.objs.size=n at q⊢;generalize h0:s.heap.push { cls:=.type "tuple_iterator",data:=.fields #[.ref a,.int 0 0] }=k0;have d:k0.objs.size=n + 1:=by rw [<-h0,T2,hn]
 have f:k0.get? n=some { cls:=.type "tuple_iterator",data:=.fields #[.ref a,.int 0 0] }:=by rw [<-h0,<-hn];exact P0 _ rfl
 have b:(k0.push { cls:=.type "enumerate",data:=.fields #[.none,.bool false,.ref n,M9 0,.none,.none] }).get? (n + 1)=some { cls:=.type "enumerate",data:=.fields #[.none,.bool false,.ref n,M9 0,.none,.none] }:=by rw [<-d];exact P0 _ rfl
 exact ⟨⟨_,b,rfl⟩,q _ b ⟨_,C0 _ f,rfl,rfl⟩ (by rw [T2,d]) λ c o e=>C0 _ (by rw [<-h0];exact C0 _ e)⟩
end
def IteL (K:c0) (a:Addr):It:=
  ⟨λ i H=>∃xs x,SqL K H a xs/\xs[i]? = some x,
   λ i H v H'=>∃p,H p=none/\v=.ref p/\∀xs,SqL K H a xs->∃x,xs[i]? = some x/\H'=upd H p (.tup [.int i,x]),
   λ i H=>∃xs,SqL K H a xs/\xs.length=i⟩
theorem w_0:(0:Nat)<=sizeLine:=by decide
theorem w_1:(1:Nat)<=sizeLine:=by decide
theorem w_2:(2:Nat)<=sizeLine:=by decide
theorem w_3:(3:Nat)<=sizeLine:=by decide
theorem w_4:(4:Nat)<=sizeLine:=by decide
theorem w_5:(5:Nat)<=sizeLine:=by decide
theorem w_7:(7:Nat)<=sizeLine:=by decide
theorem w_8:(8:Nat)<=sizeLine:=by decide
theorem w_10:(10:Nat)<=sizeLine:=by decide
theorem zer {P:Program} {w:V0} {K:c0} {elts:List Expr} {x1:Nat} {pos:Pos} {e it a:Addr} (ne:e≠it) (nae:a≠e) (nai:a≠it):Turn P w K (.Tuple elts x1 pos) (IteL K a) [e,it] e (λ n h=>(∃old,IsEnum h e it (n:Nat) old)/\h.IsListIter it a n) where
 mem:=by simp
 obj:=λ n h g c f=>by
  simp only [Y0,A0,or_false] at f;rcases f with rfl|rfl
  ·obtain ⟨⟨old,z⟩,_⟩:=g;exact ⟨_,z,λ v z=>by cases (show j22 _=V9 v from z)⟩
  ·obtain ⟨_,o,e,_,d⟩:=g;exact ⟨o,e,λ v z=>by rw [d] at z;cases z⟩
 keep:=λ n h R g k=>by obtain ⟨⟨old,z⟩,o,e1,Y⟩:=g;exact ⟨⟨old,k e (by simp) _ z⟩,o,k it (by simp) _ e1,Y⟩
 item:=by
  intro X r J G f n a0 s σ H E I q g B;subst r J G;obtain ⟨O,x,l,V⟩:=B;obtain ⟨i,C,j,_⟩:=I.list l;have j:s.heap.IsList a i.toArray:=j.isList;obtain ⟨u,T,ru⟩:=C.get V;have D:=Draws.list (prog:=X.prog) (w:=X.w) (A:=X.A.in1) (I.ok.hd f) it a nai i.toArray;have a1:n < i.toArray.size:=by have:=(List.getElem?_eq_some_iff.mp T).1;simpa using this
  obtain ⟨⟨old,U⟩,M⟩:=g;refine wpAny_pyNext_enum_itemD D U ⟨M,j⟩ a1 ne (by simp [ne,nae.symm]) λ y R t p a5 a7 tT hz F=>?_;have p:i[n]? = some y:=by simpa using p
  rw [T] at p;cases p;have a6:e < s.heap.objs.size:=M0 U;have a2:it < s.heap.objs.size:=by obtain ⟨o,z,_⟩:=M;exact M0 z
  have Q:s.heap.objs.size≠e:=i4 a6;have nT:s.heap.objs.size∉[e,it]:=by simp only [Y0,A0,or_false,not_or];exact ⟨Q,i4 a2⟩
  refine ⟨_,rfl,j48 a5 λ N a8 L=>?_⟩;have k2 :∀b o,b∉[e,it]->s.heap.get? b=some o->N.get? b=some o:=λ b o m z=>by simp only [Y0,A0,or_false,not_or] at m;exact (L.2 b m.1).trans (F b o m.1 m.2 z)
  have S:=(L.2 _ Q).trans tT;have a3:=a7.1.elim λ o z=>(⟨o,(L.2 it ne.symm).trans z.1,z.2⟩:N.IsListIter it a (n + 1))
  have Z:H s.heap.objs.size=none:=I.hok.fresh (B0 _);refine ⟨.ref s.heap.objs.size,upd H s.heap.objs.size (.tup [.int n,x]),I.turnedLaid (t':=t + 1) k2 q (B0 _) ⟨w_2,[.int n t,u],.cons ⟨t,rfl⟩ (.cons ru .nil),⟨_,S,rfl,_,rfl⟩,_,S,rfl⟩,rfl,⟨_,Z,rfl,λ a9 a4=>⟨x,?_,rfl⟩⟩,⟨⟨_,a8⟩,a3⟩,λ c f=>?_⟩
  ·rw [I.list_inj a4 l];exact V
  ·rw [upd_ne (λ (z:c=s.heap.objs.size)=>nT (z ▸ f))];exact (q c f).1
 done:=by
  intro X r J G f n a0 s σ H E I q g B;subst r J G;obtain ⟨O,l,rfl⟩:=B;obtain ⟨i,C,j,_⟩:=I.list l;have j:s.heap.IsList a i.toArray:=j.isList;have D:=Draws.list (prog:=X.prog) (w:=X.w) (A:=X.A.in1) (I.ok.hd f) it a nai i.toArray;have W:=WalksT.enumerateD D e ne (by simp [ne,nae.symm]) (by simp);have la:i.toArray.size=O.length:=by simpa using C.length.symm
  exact W.done s _ E (by rw [la];exact ⟨g.1,g.2,j⟩) λ R tk F=>⟨rfl,I.turnedL (t':=tk) (λ c o f e=>F c o f e) q⟩
 self:=λ _ _ _ _ _ g h=>g.1.elim λ old z=>G8 z h
def ieL (K:c0) (ta:TA):TI:=λ σ H R=>ta σ H λ vs H1=>∃a xs,vs=[.ref a]/\SqL K H1 a xs/\R (IteL K a) H1
theorem z8w {X:Cx} {elts:List Expr} {x1:Nat} {tpos:Pos} {e:Expr} {ta:TA} {p pos:Pos} (hg:Gl X "enumerate") (hm:X.mg "enumerate" = none) (ha:PA X [e] ta) (hs:A1 [e] X.env=[(false,Y2 e X.env)]:=by rfl) :
  PI X (.Tuple elts x1 tpos) (.Call (.Name "enumerate" p) [e] [] pos) (ieL X.K ta):=by
 intro l s σ H R I h;refine Call_ (ld_blt I hg hm boot_enumerate (E3 (thn (ha pos l s σ H _ I h) λ x d ⟨vs,H1,I1,r1,q1⟩=>?_) (by rw [hs];rfl) rfl));obtain ⟨a,w,r,k,q⟩:=q1;subst r;obtain ⟨u,rfl,v⟩:=vals1 r1;cases (show u=Value.ref a from v);obtain ⟨t,y,b,_⟩:=I1.list k;have b:d.heap.IsList a t.toArray:=b.isList;have i:a < d.heap.objs.size:=by obtain ⟨o,e,_⟩:=id b;exact M0 e
 refine call_enumerate_list b λ z g n _ m=>?_;refine G8 g ?_;refine ⟨_,_,_,_,H1,rfl,I1.kept (t':=d.toks) m,zer (i4 (O2 _)) (Z0 (A2 i)) (Z0 i),⟨⟨_,g⟩,n⟩,λ c j=>?_,q⟩;have f:d.heap.objs.size<=c:=by
  simp only [Y0,A0,or_false] at j;rcases j with rfl|rfl
  ·exact V4 _ _
  ·exact B0 _
 exact I1.fpOk f (I1.hok.fresh f)
theorem z8r {K:c0} {a:Addr} {xs:List V} {g:TG} {tb:TS} {D:Ends} {σ:St} {H:Hp} (Pv:Nat->St->Hp->Prop) (h0:Pv 0 σ H) (hl :∀i σ H,Pv i σ H->SqL K H a xs)
  (hs :∀i x σ H p,xs[i]? = some x->Pv i σ H->H p=none->g (.ref p) σ (upd H p (.tup [.int i,x])) λ σ2 H2=>tb { D with nx:=Pv (i + 1),ct:=Pv (i + 1),bk:=D.nx } σ2 H2) (hd :∀σ H,Pv xs.length σ H->D.nx σ H) :
  ∃W:Nat->Nat->St->Hp->Prop,(∃m,W 0 m σ H)/\∀i m σ H,W i m σ H->
   ((IteL K a).stop i H/\D.nx σ H)\/((IteL K a).go i H/\∃N:St->Hp->Prop,(∀σ' H',N σ' H'->∃m',m' < m/\W (i + 1) m' σ' H')/\∀x H',(IteL K a).yld i H x H'->g x σ H' λ σ2 H2=>tb { D with nx:=N,ct:=N,bk:=D.nx } σ2 H2):=by
 refine ⟨λ i m σ H=>m=xs.length - i/\i<=xs.length/\Pv i σ H,⟨xs.length,by simp,R1 _,h0⟩,?_⟩;rintro i m σ H ⟨rfl,hi,p⟩;have b:=hl i σ H p;by_cases hlt:i < xs.length
 ·refine .inr ⟨⟨xs,xs[i],b,by simp [hlt]⟩,Pv (i + 1),λ σ' H' c=>⟨xs.length - (i + 1),by omega,rfl,hlt,c⟩,λ v H' y=>?_⟩;obtain ⟨t,h,rfl,j⟩:=y;obtain ⟨d,f,rfl⟩:=j xs b;exact hs i d σ H t f p h
 ·have e:i=xs.length:=by omega
  subst e;exact .inl ⟨⟨xs,b,rfl⟩,hd σ H p⟩
def IteT (K:c0) (a:Addr):It:=
  ⟨λ i H=>∃xs x,SqT K H a xs/\xs[i]? = some x,
   λ i H v H'=>∃p,H p=none/\v=.ref p/\∀xs,SqT K H a xs->∃x,xs[i]? = some x/\H'=upd H p (.tup [.int i,x]),
   λ i H=>∃xs,SqT K H a xs/\xs.length=i⟩
theorem zg1 {P:Program} {w:V0} {K:c0} {elts:List Expr} {x1:Nat} {pos:Pos} {e it a:Addr} (ne:e≠it) (nae:a≠e) (nai:a≠it):Turn P w K (.Tuple elts x1 pos) (IteT K a) [e,it] e (λ n h=>(∃old,IsEnum h e it (n:Nat) old)/\h.IsTupleIter it a n) where
 mem:=by simp
 obj:=λ n h g c f=>by
  simp only [Y0,A0,or_false] at f;rcases f with rfl|rfl
  ·obtain ⟨⟨old,z⟩,_⟩:=g;exact ⟨_,z,λ v z=>by cases (show j22 _=V9 v from z)⟩
  ·obtain ⟨_,o,e,_,d⟩:=g;exact ⟨o,e,λ v z=>by rw [d] at z;cases z⟩
 keep:=λ n h R g k=>by obtain ⟨⟨old,z⟩,o,e1,Y⟩:=g;exact ⟨⟨old,k e (by simp) _ z⟩,o,k it (by simp) _ e1,Y⟩
 item:=by
  intro X r J G f n a0 s σ H E I q g B;subst r J G;obtain ⟨O,x,l,V⟩:=B;obtain ⟨i,C,j,_⟩:=I.tuple l;have j:s.heap.IsTuple a i.toArray:=j;obtain ⟨u,T,ru⟩:=C.get V;have D:=z8c (prog:=X.prog) (w:=X.w) (A:=X.A.in1) (I.ok.hd f) it a nai i.toArray;have a1:n < i.toArray.size:=by have:=(List.getElem?_eq_some_iff.mp T).1;simpa using this
  obtain ⟨⟨old,U⟩,M⟩:=g;refine wpAny_pyNext_enum_itemD D U ⟨M,j⟩ a1 ne (by simp [ne,nae.symm]) λ y R t p a5 a7 tT hz F=>?_;have p:i[n]? = some y:=by simpa using p
  rw [T] at p;cases p;have a6:e < s.heap.objs.size:=M0 U;have a2:it < s.heap.objs.size:=by obtain ⟨o,z,_⟩:=M;exact M0 z
  have Q:s.heap.objs.size≠e:=i4 a6;have nT:s.heap.objs.size∉[e,it]:=by simp only [Y0,A0,or_false,not_or];exact ⟨Q,i4 a2⟩
  refine ⟨_,rfl,j48 a5 λ N a8 L=>?_⟩;have k2 :∀b o,b∉[e,it]->s.heap.get? b=some o->N.get? b=some o:=λ b o m z=>by simp only [Y0,A0,or_false,not_or] at m;exact (L.2 b m.1).trans (F b o m.1 m.2 z)
  have S:=(L.2 _ Q).trans tT;have a3:=a7.1.elim λ o z=>(⟨o,(L.2 it ne.symm).trans z.1,z.2⟩:N.IsTupleIter it a (n + 1))
  have Z:H s.heap.objs.size=none:=I.hok.fresh (B0 _);refine ⟨.ref s.heap.objs.size,upd H s.heap.objs.size (.tup [.int n,x]),I.turnedLaid (t':=t + 1) k2 q (B0 _) ⟨w_2,[.int n t,u],.cons ⟨t,rfl⟩ (.cons ru .nil),⟨_,S,rfl,_,rfl⟩,_,S,rfl⟩,rfl,⟨_,Z,rfl,λ a9 a4=>⟨x,?_,rfl⟩⟩,⟨⟨_,a8⟩,a3⟩,λ c f=>?_⟩
  ·rw [I.tuple_inj a4 l];exact V
  ·rw [upd_ne (λ (z:c=s.heap.objs.size)=>nT (z ▸ f))];exact (q c f).1
 done:=by
  intro X r J G f n a0 s σ H E I q g B;subst r J G;obtain ⟨O,l,rfl⟩:=B;obtain ⟨i,C,j,_⟩:=I.tuple l;have j:s.heap.IsTuple a i.toArray:=j;have D:=z8c (prog:=X.prog) (w:=X.w) (A:=X.A.in1) (I.ok.hd f) it a nai i.toArray;have W:=WalksT.enumerateD D e ne (by simp [ne,nae.symm]) (by simp);have la:i.toArray.size=O.length:=by simpa using C.length.symm
  exact W.done s _ E (by rw [la];exact ⟨g.1,g.2,j⟩) λ R tk F=>⟨rfl,I.turnedL (t':=tk) (λ c o f e=>F c o f e) q⟩
 self:=λ _ _ _ _ _ g h=>g.1.elim λ old z=>G8 z h
def ieT (K:c0) (ta:TA):TI:=λ σ H R=>ta σ H λ vs H1=>∃a xs,vs=[.ref a]/\SqT K H1 a xs/\R (IteT K a) H1
theorem zkt {X:Cx} {elts:List Expr} {x1:Nat} {tpos:Pos} {e:Expr} {ta:TA} {p pos:Pos} (hg:Gl X "enumerate") (hm:X.mg "enumerate" = none) (ha:PA X [e] ta) (hs:A1 [e] X.env=[(false,Y2 e X.env)]:=by rfl) :
  PI X (.Tuple elts x1 tpos) (.Call (.Name "enumerate" p) [e] [] pos) (ieT X.K ta):=by
 intro l s σ H R I h;refine Call_ (ld_blt I hg hm boot_enumerate (E3 (thn (ha pos l s σ H _ I h) λ x d ⟨vs,H1,I1,r1,q1⟩=>?_) (by rw [hs];rfl) rfl));obtain ⟨a,w,r,k,q⟩:=q1;subst r;obtain ⟨u,rfl,v⟩:=vals1 r1;cases (show u=Value.ref a from v);obtain ⟨t,y,b,_⟩:=I1.tuple k;have b:d.heap.IsTuple a t.toArray:=b;have i:a < d.heap.objs.size:=by obtain ⟨o,e,_⟩:=id b;exact M0 e
 refine zla b λ z g n _ m=>?_;refine G8 g ?_;refine ⟨_,_,_,_,H1,rfl,I1.kept (t':=d.toks) m,zg1 (i4 (O2 _)) (Z0 (A2 i)) (Z0 i),⟨⟨_,g⟩,n⟩,λ c j=>?_,q⟩;have f:d.heap.objs.size<=c:=by
  simp only [Y0,A0,or_false] at j;rcases j with rfl|rfl
  ·exact V4 _ _
  ·exact B0 _
 exact I1.fpOk f (I1.hok.fresh f)
theorem zio {K:c0} {a:Addr} {xs:List V} {g:TG} {tb:TS} {D:Ends} {σ:St} {H:Hp} (Pv:Nat->St->Hp->Prop) (h0:Pv 0 σ H) (hl :∀i σ H,Pv i σ H->SqT K H a xs)
  (hs :∀i x σ H p,xs[i]? = some x->Pv i σ H->H p=none->g (.ref p) σ (upd H p (.tup [.int i,x])) λ σ2 H2=>tb { D with nx:=Pv (i + 1),ct:=Pv (i + 1),bk:=D.nx } σ2 H2) (hd :∀σ H,Pv xs.length σ H->D.nx σ H) :
  ∃W:Nat->Nat->St->Hp->Prop,(∃m,W 0 m σ H)/\∀i m σ H,W i m σ H->
   ((IteT K a).stop i H/\D.nx σ H)\/((IteT K a).go i H/\∃N:St->Hp->Prop,(∀σ' H',N σ' H'->∃m',m' < m/\W (i + 1) m' σ' H')/\∀x H',(IteT K a).yld i H x H'->g x σ H' λ σ2 H2=>tb { D with nx:=N,ct:=N,bk:=D.nx } σ2 H2):=by
 refine ⟨λ i m σ H=>m=xs.length - i/\i<=xs.length/\Pv i σ H,⟨xs.length,by simp,R1 _,h0⟩,?_⟩;rintro i m σ H ⟨rfl,hi,p⟩;have b:=hl i σ H p;by_cases hlt:i < xs.length
 ·refine .inr ⟨⟨xs,xs[i],b,by simp [hlt]⟩,Pv (i + 1),λ σ' H' c=>⟨xs.length - (i + 1),by omega,rfl,hlt,c⟩,λ v H' y=>?_⟩;obtain ⟨t,h,rfl,j⟩:=y;obtain ⟨d,f,rfl⟩:=j xs b;exact hs i d σ H t f p h
 ·have e:i=xs.length:=by omega
  subst e;exact .inl ⟨⟨xs,b,rfl⟩,hd σ H p⟩
end L2
set_option maxHeartbeats 400000
namespace L2
open PySem PySem.Spec PyProof.Rows
section
variable {X:Cx}
theorem zcl (hc:X.calm=true):CallR X (.builtin "sum") (λ xs H Q=>∃(p:Addr) (ns:List Int),xs=[.ref p]/\SqL X.K H p (ns.map V.int)/\Q (.int ns.sum) H):=by
 intro E s σ H xs F Q I r h;obtain ⟨p,ns,rfl,w,q⟩:=h;obtain ⟨u,rfl,y⟩:=vals1 r;cases y;obtain ⟨d,n,a,G⟩:=I.list w;have B:p≠s.heap.objs.size:=by obtain ⟨o,e,_⟩:=a.isList;exact Z0 (M0 e)
 have m:d.length=ns.length:=by have:=n.length;rw [G0] at this;exact this.symm
 refine call_sum_walkAnyS (S6 a.isList ?_);refine ⟨s.heap.objs.size,_,_,_,_,_,_,λ i=>ns[i]?.getD 0,rfl,(Walks.list (show X.A.in1.handled=none from I.ok.hd hc) s.heap.objs.size p B d.toArray).toS,⟨⟨_,P0 _ rfl,rfl,rfl⟩,a.isList.at λ o e=>C0 _ e⟩,?_,?_,?_⟩
 ·intro b c;simp only [Y0,A0,or_false] at c;rcases c with rfl|rfl
  ·rw [T2];exact O2 _
  ·obtain ⟨o,e,_⟩:=a.isList;exact M0 (C0 _ e)
 ·intro i v f;have f:d[i]? = some v:=by simpa using f
  obtain ⟨D,e⟩:=List.getElem?_eq_some_iff.mp f;have k:i < ns.length:=by rw [<-m];exact D
  obtain ⟨u,l,g⟩:=n.get (i:=i) (x:=.int ns[i]) (by simp [k]);rw [f] at l;cases l;obtain ⟨t,g⟩:=g;exact ⟨t,by show v=t8 (ns[i]?.getD 0) t;rw [N0 k];exact g⟩
 ·intro C t' j;have e:preSum (λ i=>ns[i]?.getD 0) d.toArray.size=ns.sum:=by rw [R0,m,z8a ns _ (B0 _),List.take_length]
  rw [e,j.eq_with];refine ⟨.int _,H,I.kept (t':=C.toks) λ b o z=>j.heap b o ?_ (C0 _ z),⟨_,rfl⟩,q⟩;intro c;rw [List.mem_singleton.mp c] at z;exact absurd (M0 z) (j4 _)
end
mutual
def IsPd (K:c0) (H:Hp):PyData->V->Prop
 | .none,v=>v=.non
 | .bool b,v=>v=.bl b
 | .int i,v=>v=.int i
 | .str z,v=>v=.str z
 | .list ds,v=>∃a xs,v=.ref a/\SqL K H a xs/\IsPds K H ds xs
 | .tuple ds,v=>∃a xs,v=.ref a/\SqT K H a xs/\IsPds K H ds xs
 | .dict _,_=>False
def IsPds (K:c0) (H:Hp):List PyData->List V->Prop
 | [],xs=>xs=[]
 | d :: ds,xs=>∃x r,xs=x :: r/\IsPd K H d x/\IsPds K H ds r
end
mutual
theorem IsPd.mono' {K:c0} {H H':Hp} (s :∀a xs,SqT K H a xs->SqT K H' a xs) (t :∀a xs,SqL K H a xs->SqL K H' a xs) :∀(d:PyData) (v:V),IsPd K H d v->IsPd K H' d v
 | .none,v,h=>h
 | .bool _,v,h=>h
 | .int _,v,h=>h
 | .str _,v,h=>h
 | .list ds,v,h=>by obtain ⟨a,xs,rfl,e,r⟩:=h;exact ⟨a,xs,rfl,t _ _ e,IsPds.mono' s t ds xs r⟩
 | .tuple ds,v,h=>by obtain ⟨a,xs,rfl,e,r⟩:=h;exact ⟨a,xs,rfl,s _ _ e,IsPds.mono' s t ds xs r⟩
 | .dict _,v,h=>h.elim
theorem IsPds.mono' {K:c0} {H H':Hp} (s :∀a xs,SqT K H a xs->SqT K H' a xs) (t :∀a xs,SqL K H a xs->SqL K H' a xs) :∀(ds:List PyData) (xs:List V),IsPds K H ds xs->IsPds K H' ds xs
 | [],xs,h=>h
 | d :: ds,xs,h=>by obtain ⟨x,r,rfl,a,b⟩:=h;exact ⟨x,r,rfl,IsPd.mono' s t d x a,IsPds.mono' s t ds r b⟩
end
theorem IsPd.same {K:c0} {H H':Hp} {d:PyData} {v:V} (h:IsPd K H d v) (s:Same H H'):IsPd K H' d v:=IsPd.mono' (λ _ _ q=>s.seqT q) (λ _ _ q=>s.seq q) d v h
section
variable {X:Cx} {pins:List (Addr×Obj)} {σ:St} {H:Hp} {s:t0}
mutual
theorem z4n (I:Inv X pins σ H s) :∀(d:PyData) (v:V) (u:Value),IsPd X.K H d v->RelV v u->∃as,Reads s.heap u d as
 | .none,v,u,h,r=>by cases (show v=.non from h);cases (show u=.none from r);exact ⟨_,.none⟩
 | .bool b,v,u,h,r=>by cases (show v=.bl b from h);cases (show u=.bool b from r);exact ⟨_,.bool b⟩
 | .int i,v,u,h,r=>by cases (show v=.int i from h);obtain ⟨t,rfl⟩:=r;exact ⟨_,.int i t⟩
 | .str z,v,u,h,r=>by cases (show v=.str z from h);obtain ⟨t,rfl⟩:=r;exact ⟨_,.str z t⟩
 | .list ds,v,u,h,r=>by obtain ⟨a,k,rfl,e,g⟩:=h;cases (show u=.ref a from r);obtain ⟨f,q,c,_⟩:=I.list e;obtain ⟨o,j,m,n,p⟩:=c.isList;obtain ⟨as,l⟩:=z8l I ds k f g q;exact ⟨_,.list j m p l⟩
 | .tuple ds,v,u,h,r=>by obtain ⟨a,k,rfl,e,g⟩:=h;cases (show u=.ref a from r);obtain ⟨f,q,c,_⟩:=I.tuple e;obtain ⟨o,j,m,n,p⟩:=c;obtain ⟨as,l⟩:=z8l I ds k f g q;exact ⟨_,.tuple j m p l⟩
 | .dict _,v,u,h,r=>h.elim
theorem z8l (I:Inv X pins σ H s) :∀(ds:List PyData) (xs:List V) (us:List Value),IsPds X.K H ds xs->Vals xs us->∃as,K7 s.heap us ds as
 | [],xs,us,h,r=>by cases (show xs=[] from h);cases r;exact ⟨_,.nil⟩
 | d :: ds,xs,us,h,r=>by
  obtain ⟨x,t,rfl,a,b⟩:=h;cases r with
  | cons r1 r2=>obtain ⟨as,e⟩:=z4n I d x _ a r1;obtain ⟨bs,c⟩:=z8l I ds t _ b r2;exact ⟨_,.cons e c⟩
end
end
mutual
def plainP:PyData->Bool
 | .none=>true
 | .bool _=>false
 | .int _=>true
 | .str z=>(PyData.str z).canLay0
 | .list ds=>z14 ds
 | .tuple ds=>z14 ds
 | .dict _=>false
def z14:List PyData->Bool
 | []=>true
 | d :: ds=>plainP d && z14 ds
end
mutual
theorem z8h :∀d:PyData,plainP d=true->d.canLay0=true
 | .none,_=>rfl
 | .bool _,h=>by cases h
 | .int _,_=>rfl
 | .str _,h=>h
 | .list ds,h=>z7f ds h
 | .tuple ds,h=>z7f ds h
 | .dict _,h=>by cases h
theorem z7f :∀ds:List PyData,z14 ds=true->y6 ds=true
 | [],_=>rfl
 | d :: ds,h=>by have h:(plainP d && z14 ds)=true:=h;rw [j3] at h;show (d.canLay0 && y6 ds)=true;rw [z8h d h.1,z7f ds h.2];rfl
end
mutual
theorem zjf :∀d e:PyData,plainP d=true->plainP e=true->(d.eqv e=true↔d=e)
 | .none,e,_,he=>by
  cases e with
  | none=>exact ⟨λ _=>rfl,λ _=>rfl⟩
  | bool b=>cases he
  | dict _=>cases he
  | _=>exact ⟨λ z=>(by cases z),λ z=>(by cases z)⟩
 | .bool _,e,hd,_=>by cases hd
 | .int i,e,_,he=>by
  cases e with
  | int j=>exact ⟨λ z=>congrArg _ (eq_of_beq (show (i == j)=true from z)),λ z=>by cases z;exact beq_self_eq_true i⟩
  | bool b=>cases he
  | dict _=>cases he
  | _=>exact ⟨λ z=>(by cases z),λ z=>(by cases z)⟩
 | .str i,e,_,he=>by
  cases e with
  | str j=>exact ⟨λ z=>congrArg _ (eq_of_beq (show (i == j)=true from z)),λ z=>by cases z;exact beq_self_eq_true i⟩
  | bool b=>cases he
  | dict _=>cases he
  | _=>exact ⟨λ z=>(by cases z),λ z=>(by cases z)⟩
 | .list ds,e,hd,he=>by
  cases e with
  | list es=>exact ⟨λ z=>congrArg _ ((z7d ds es hd he).mp z),λ z=>(z7d ds es hd he).mpr (by cases z;rfl)⟩
  | bool b=>cases he
  | dict _=>cases he
  | _=>exact ⟨λ z=>(by cases z),λ z=>(by cases z)⟩
 | .tuple ds,e,hd,he=>by
  cases e with
  | tuple es=>exact ⟨λ z=>congrArg _ ((z7d ds es hd he).mp z),λ z=>(z7d ds es hd he).mpr (by cases z;rfl)⟩
  | bool b=>cases he
  | dict _=>cases he
  | _=>exact ⟨λ z=>(by cases z),λ z=>(by cases z)⟩
 | .dict _,e,hd,_=>by cases hd
theorem z7d :∀ds es:List PyData,z14 ds=true->z14 es=true->(P9 ds es=true↔ds=es)
 | [],[],_,_=>⟨λ _=>rfl,λ _=>rfl⟩
 | [],e :: es,_,_=>⟨λ z=>(by cases z),λ z=>(by cases z)⟩
 | d :: ds,[],_,_=>⟨λ z=>(by cases z),λ z=>(by cases z)⟩
 | d :: ds,e :: es,a,b=>by have a:(plainP d && z14 ds)=true:=a;have b:(plainP e && z14 es)=true:=b;rw [j3] at a b;show (d.eqv e && P9 ds es)=true↔_;rw [j3,zjf d e a.1 b.1,z7d ds es a.2 b.2];exact ⟨λ z=>by rw [z.1,z.2],λ z=>by cases z;exact ⟨rfl,rfl⟩⟩
end
theorem zfp {d e:PyData} (hd:plainP d=true) (he:plainP e=true) {p:Prop} [Decidable p] (h:d=e↔p):d.eqv e=decide p:=by rw [Bool.eq_iff_iff,decide_eq_true_eq,zjf d e hd he,h]
section
variable {X:Cx}
def rEqP (K:c0):R2:=λ x y H Q=>∃d e,IsPd K H d x/\IsPd K H e y/\plainP d=true/\plainP e=true/\d.depth<=60/\Q (.bl (d.eqv e)) H
theorem room60 {A:U1} {k m n:Nat} (hr:Room k A) (h:m<=60):A.units + min m n < cLine:=T1 (Nat.add_le_add_left (F0 (j9 _ _) (F0 h (by decide:60<=64))) _) hr.units
theorem op_eqP {k:Nat} (hr:Room k X.A):OpR X (J2 .Eq) (rEqP X.K):=by intro n s σ H x y v u Q I i j h;obtain ⟨d,e,b,c,l,f,m,q⟩:=h;obtain ⟨o,g⟩:=z4n I d x v b i;obtain ⟨bs,a⟩:=z4n I e y u c j;exact SeqAt.compareEq_reads g a (z8h _ l) (z8h _ f) (room60 hr m) ⟨.bl _,H,I,rfl,q⟩
end
end L2
set_option maxHeartbeats 1000000
namespace L2
open PySem PySem.Spec PyProof.Rows
section
variable {prog:Program} {w:V0} {A:U1} {E:Value->t0->Prop} {s:t0}
theorem zdh:entryFor table "dict.update.loop" = some i6.«dict.update.loop»:=by kernel_rfl
theorem zhs {l:Addr} {items:Array Value} {n:Nat} {sl:Array (Option Value)} {Q:Option Value->t0->Prop} (h:s.heap.get? l=some { cls:=.type "list",data:=.seq items n,slots:=sl }) (hh:A.handled=none)
  (q :∀h' tk,(∀b o,s.heap.get? b=some o->h'.get? b=some o)->Q none { s with heap:=h',toks:=tk }):O0 (j1 prog w) A (j4c (.ref l) (u3 "keys")) Q E s:=by
 unfold j4c;refine j0 (wpAny_mkText ?_);unfold getAttrBy? getAttrBy;have a:Shared.TypeIs { s with toks:=s.toks + 1 } (.ref l) "list":=⟨_,h,rfl⟩
 refine j0 (A6 (A3 (j0 (n5 a ?_))));rw [show typeLookup (M5 "list") (u3 "__getattribute__")=d3 (some (.builtin "list.__getattribute__")) from rfl];refine j0 (D0 ?_);show O0 _ _ (getAttrByItsOwn (.ref l) (.str (u3 "keys") s.toks) (.type "list") (.builtin "list.__getattribute__") false false) _ _ _;unfold getAttrByItsOwn;refine j0 (show O0 _ _ (d3 none) _ _ _ from D0 ?_);refine j0 (A6 (A3 ?_));show O0 _ _ (boundAndCalled (.builtin "list.__getattribute__") (.ref l) (.str (u3 "keys") s.toks)) _ _ _;unfold boundAndCalled;rw [show bindSpecial (.builtin "list.__getattribute__") (.ref l)=d3 (N6 "list.__getattribute__",[Value.ref l]) from rfl];refine j0 (D0 ?_);show O0 _ _ (call (.builtin "list.__getattribute__") [.ref l,.str (u3 "keys") s.toks]) _ _ _;refine j1j F.slot_list_getattribute a am_entry_list_getattribute (F.args_list_getattribute_2 _ _) (meets_getattribute_miss_list l items n sl (u3 "keys") s.toks rfl (by decide +kernel) (by decide +kernel)) ⟨h,hh,λ h' tk e ne=>?_⟩;obtain ⟨t,u,d⟩:=ne.there;have c:Shared.TypeIs { s with heap:=h',toks:=tk } (.ref e) "AttributeError":=⟨_,d,rfl⟩
 show O0 _ _ (getattributeRaised (.ref l) _ (.type "list") (.ref e) none false false) _ _ _;unfold getattributeRaised;refine j0 (X4 c rfl ?_);show O0 _ _ (hookBehind (.type "list") none >>= _) _ _ _;rw [show hookBehind (.type "list") none=d3 none from rfl];refine j0 (D0 ?_);show O0 _ _ (throw (Value.ref e) >>= _) _ _ _;refine j0 (wpAny_throw ?_);show O0 _ _ (o8 (.ref e) (.type "AttributeError") >>= _) _ _ _;refine j0 (X4 c rfl ?_);exact D0 (q h' tk ne.keeps)
theorem zdm (a:Args):(Code.builtin "dict.update.loop" a).quiet=true:=plainId_quiet (by decide +kernel) _
theorem zet {a:Addr} {items:Array Value} {Q:List Value->t0->Prop} (h:s.heap.IsTuple a items) (q:Q items.toList s):O0 (j1 prog w) A (j1g (.ref a)) Q E s:=by obtain ⟨o,b,d,n,c⟩:=h;unfold j1g;refine j0 (n5 (T:="tuple") ⟨o,b,d⟩ ?_);show O0 _ _ (seqItems? (.ref a) >>= _) _ _ _;exact j0 (u4 b c (D0 q))
end
end L2
set_option maxHeartbeats 400000
namespace L2
open PySem PySem.Spec PyProof.Rows
structure RunsR (S:Hp->Hp->Prop) (J:It) (H1:Hp) (n:Nat) (Item:Nat->V->Hp->Prop):Prop where
 go :∀i,i < n->∀H,S H1 H->J.go i H
 stop :∀H,S H1 H->J.stop n H
 item :∀i,i < n->∀H v H',S H1 H->J.yld i H v H'->S H H'/\Item i v H'
theorem z2p {S:Hp->Hp->Prop} {J:It} {H1:Hp} {n m:Nat} {Item:Nat->V->Hp->Prop} {fr:List (Nat×Str)} {g:TG} {tc:TT} {te:TE} {σ:St} {Q:VK} (s0:S H1 H1) (st :∀a b c,S a b->S b c->S a c) (p:Nat->Bool) (R:Nat->V->Hp->Prop) (hR :∀i y H H',S H H'->R i y H->R i y H') (r:RunsR S J H1 n Item) (hn:n<=sizeLine)
  (body :∀i,i < n->∀v H,S H1 H->Item i v H->∀(KT:VK) (KF:Hp->Prop),(p i=true->∀y H',S H H'->R i y H'->KT y H')->(p i=false->∀H',S H H'->KF H')->
   g v (cStG σ fr (W1 m none)) H λ σ6 H6=>∃us,us.length=m/\σ6=cStG σ fr us/\tc (cStG σ fr us) H6 λ b H2=>if b=true then te (cStG σ fr us) H2 KT else KF H2)
  (hQ :∀l H' ys,S H1 H'->H' l=none->All2 (λ i y=>R i y H') ((K1 n).filter p) ys->Q (.ref l) (upd H' l (.lst ys))) :
  ∃W:Nat->Nat->List V->Hp->Prop,(∃m,W 0 m [] H1)/\∀i k ys H,W i k ys H->
   (J.stop i H/\ys.length<=sizeLine/\∀p,H p=none->Q (.ref p) (upd H p (.lst ys)))\/
   (J.go i H/\ys.length<=sizeLine/\∀v H',J.yld i H v H'->g v (cStG σ fr (W1 m none)) H' λ σ6 H6=>∃us,us.length=m/\σ6=cStG σ fr us/\tc (cStG σ fr us) H6 λ b H2=>if b=true then te (cStG σ fr us) H2 λ y H3=>∃m',m' < k/\W (i + 1) m' (ys++[y]) H3 else∃m',m' < k/\W (i + 1) m' ys H2):=by
 refine ⟨λ i k ys H'=>k=n - i/\i<=n/\S H1 H'/\All2 (λ i y=>R i y H') ((K1 i).filter p) ys,⟨n,by simp,R1 _,s0,.nil⟩,?_⟩;rintro i k ys H' ⟨rfl,hi,sm,fa⟩;have j:ys.length<=sizeLine:=by rw [z05 fa];have:=V2 p (K1 i);rw [j2] at this;omega
 by_cases hlt:i < n
 ·refine .inr ⟨r.go i hlt H' sm,j,λ v H2 y=>?_⟩;obtain ⟨d,s⟩:=r.item i hlt H' v H2 sm y;refine body i hlt v H2 (st _ _ _ sm d) s _ _ (λ h y H3 f o=>⟨n - (i + 1),by omega,rfl,hlt,st _ _ _ (st _ _ _ sm d) f,?_⟩) (λ h H3 f=>⟨n - (i + 1),by omega,rfl,hlt,st _ _ _ (st _ _ _ sm d) f,?_⟩)
  ·rw [z10,if_pos h];exact z4i (z03 (λ a b z=>hR a b _ _ (st _ _ _ d f) z) fa) o
  ·rw [z10,if_neg (by rw [h];decide),N2];exact z03 (λ a b z=>hR a b _ _ (st _ _ _ d f) z) fa
 ·have e:i=n:=by omega
  subst e;exact .inl ⟨r.stop H' sm,j,λ l q=>hQ l H' ys sm q fa⟩
theorem z71 {S:Hp->Hp->Prop} {K:c0} {a:Addr} {xs:List V} {H1:Hp} (hs :∀H,S H1 H->S H H) (hq :∀H,S H1 H->SqL K H a xs):RunsR S (Itl K a) H1 xs.length (λ i v _=>xs[i]? = some v):=
 ⟨λ i b H s=>⟨xs,xs[i],hq H s,by simp [b]⟩,λ H s=>⟨xs,hq H s,B0 _⟩,λ i b H v c s y=>by obtain ⟨e,y⟩:=y;subst e;exact ⟨hs _ s,y xs (hq _ s)⟩⟩
theorem zcz {S:Hp->Hp->Prop} {K:c0} {a:Addr} {xs:List V} {H1:Hp} (hs :∀H,S H1 H->S H H) (hq :∀H,S H1 H->SqT K H a xs):RunsR S (Itt K a) H1 xs.length (λ i v _=>xs[i]? = some v):=
 ⟨λ i b H s=>⟨xs,xs[i],hq H s,by simp [b]⟩,λ H s=>⟨xs,hq H s,B0 _⟩,λ i b H v c s y=>by obtain ⟨e,y⟩:=y;subst e;exact ⟨hs _ s,y xs (hq _ s)⟩⟩
theorem zee {S:Hp->Hp->Prop} {K:c0} {a:Addr} {xs:List V} {tl te:TE} {tc:TT} {g:TG} {m:Nat} {fr:List (Nat×Str)} {σ:St} {H H1:Hp} {Q:VK} (R:V->V->Hp->Prop) (s0:S H1 H1) (st :∀a b c,S a b->S b c->S a c) (hs :∀H,S H1 H->S H H) (hR :∀x y H H',S H H'->R x y H->R x y H')
  (htl :∀R:VK,R (.ref a) H1->tl σ H R) (hq :∀H,S H1 H->SqL K H a xs) (hn:xs.length<=sizeLine)
  (body :∀v∈xs,∀H,S H1 H->∀KT:VK,(∀y H',S H H'->R v y H'->KT y H')->∀KF:Hp->Prop,
   g v (cStG σ fr (W1 m none)) H λ σ6 H6=>∃us,us.length=m/\σ6=cStG σ fr us/\tc (cStG σ fr us) H6 λ b H2=>if b=true then te (cStG σ fr us) H2 KT else KF H2)
  (hQ :∀l H' ys,S H1 H'->H' l=none->All2 (λ x y=>R x y H') xs ys->Q (.ref l) (upd H' l (.lst ys))):tCompG (iList K tl) m fr g tc te σ H Q:=by
 refine htl _ ⟨a,rfl,⟨xs,hq _ s0⟩,z2p s0 st (λ _=>true) (λ i y H=>R (xs[i]?.getD .non) y H) (λ i y H H' s z=>hR _ _ _ _ s z) (z71 hs hq) hn (λ i u v H s j KT KF f k=>?_) λ l H' ys s t n=>hQ l H' ys s t ?_⟩
 ·refine body v (Q0 j) H s KT (λ y H' q p=>f rfl y H' q ?_) KF;rw [j];exact p
 ·rw [List.filter_eq_self.mpr (λ _ _=>rfl)] at n;have o :∀(d:List Nat) (ys:List V),All2 (λ i y=>R (xs[i]?.getD .non) y H') d ys->All2 (λ x y=>R x y H') (d.map λ i=>xs[i]?.getD .non) ys:=by
   intro d;induction d with
   | nil=>intro ys h;cases h;exact .nil
   | cons i d ih=>intro ys h;cases h with|cons a r=>exact .cons a (ih _ r)
  have h:=o _ _ n;have e:(K1 xs.length).map (λ i=>xs[i]?.getD V.non)=xs:=by
   apply Q6
   ·simp
   ·intro i f k;simp only [j1d,j08,N0 k,j11]
  rwa [e] at h
theorem zev {R:V->V->Prop} {xs ys:List V} (fa:All2 (λ (i:Nat) y=>R (xs[i]?.getD .non) y) (K1 xs.length) ys):All2 R xs ys:=by
 have c :∀(b:List Nat) (ys:List V),All2 (λ i y=>R (xs[i]?.getD .non) y) b ys->All2 R (b.map λ i=>xs[i]?.getD .non) ys:=by
  intro b;induction b with
  | nil=>intro ys h;cases h;exact .nil
  | cons i b ih=>intro ys h;cases h with|cons a r=>exact .cons a (ih _ r)
 have h:=c _ _ fa;have e:(K1 xs.length).map (λ i=>xs[i]?.getD V.non)=xs:=by
  apply Q6
  ·simp
  ·intro i f d;simp only [j1d,j08,N0 d,j11]
 rwa [e] at h
theorem za0 {S:Hp->Hp->Prop} {K:c0} {a:Addr} {xs:List V} {tl te:TE} {tc:TT} {g:TG} {m:Nat} {fr:List (Nat×Str)} {σ:St} {H H1:Hp} {Q:VK} (R:V->V->Hp->Prop) (s0:S H1 H1) (st :∀a b c,S a b->S b c->S a c) (hs :∀H,S H1 H->S H H) (hR :∀x y H H',S H H'->R x y H->R x y H')
  (htl :∀R:VK,R (.ref a) H1->tl σ H R) (hq :∀H,S H1 H->SqT K H a xs) (hn:xs.length<=sizeLine)
  (body :∀v∈xs,∀H,S H1 H->∀KT:VK,(∀y H',S H H'->R v y H'->KT y H')->∀KF:Hp->Prop,
   g v (cStG σ fr (W1 m none)) H λ σ6 H6=>∃us,us.length=m/\σ6=cStG σ fr us/\tc (cStG σ fr us) H6 λ b H2=>if b=true then te (cStG σ fr us) H2 KT else KF H2)
  (hQ :∀l H' ys,S H1 H'->H' l=none->All2 (λ x y=>R x y H') xs ys->Q (.ref l) (upd H' l (.lst ys))):tCompG (iTup K tl) m fr g tc te σ H Q:=by
 refine htl _ ⟨a,rfl,⟨xs,hq _ s0⟩,z2p s0 st (λ _=>true) (λ i y H=>R (xs[i]?.getD .non) y H) (λ i y H H' s z=>hR _ _ _ _ s z) (zcz hs hq) hn (λ i o v H s d KT KF h n=>?_) λ l H' ys s k e=>hQ l H' ys s k ?_⟩
 ·refine body v (Q0 d) H s KT (λ y H' j f=>h rfl y H' j ?_) KF;rw [d];exact f
 ·rw [List.filter_eq_self.mpr (λ _ _=>rfl)] at e;exact zev (R:=λ x y=>R x y H') e
end L2
set_option maxHeartbeats 1000000
namespace L2
open PySem PySem.Spec PyProof.Rows
section
variable {prog:Program} {w:V0} {A:U1} {E:Value->t0->Prop} {s:t0}
theorem stops {h1:Heap} {Q:Option Value->t0->Prop} (hh:A.handled=none) (q :∀h',(∀b o,h1.get? b=some o->h'.get? b=some o)->Q none { s with heap:=h' }) :
  O0 (j1 prog w) A.in1 (do raiseNew (<-newExc (.type "StopIteration") [])) (λ (fin:E7) s'=>∃v,fin=.done (.ret v)/\O0 (j1 prog w) A (d3 (some v)) Q E s')
   (λ e s'=>O0 (j1 prog w) A (do if <-o8 e (.type "StopIteration") then d3 none else throw e) Q E s') { s with heap:=h1 }:=by
 refine j0 ?_;simp only [newExc,newTuple];refine j0 (F3 (j0 (m:=j0e _ _) (wpAny_of_eq (a:=K2) (by first|rfl|(simp only [j0e];rfl)) (F3 ?_ (by size_fits)))) (by size_fits));simp only [raiseNew];refine j0 (wpAny_handled ?_);rw [show A.in1.handled=none from hh];refine j0 (D0 (wpAny_throw ?_));refine j0 (X4 (T:="StopIteration") (b:=true) ⟨_,P0 _ rfl,rfl⟩ isSubtype_stop ?_);exact D0 (q _ λ b o e=>C0 _ (C0 _ e))
end
end L2
set_option maxHeartbeats 400000
namespace HT
open PySem PySem.Spec PyProof.Rows L2
variable {prog:Program} {w:V0} {A:U1} {E:Value->t0->Prop} {s:t0}
theorem getItem_tuple_all {t sl:Addr} {items:Array Value} {vl vu:Value} {lo hi:Option Int} {Q:Value->t0->Prop} (ht:IsTup s.heap t items) (hs:s.heap.IsSliceOf sl vl vu .none) (pl:S9 vl lo) (pu:S9 vu hi)
  (h0:sIx items.size 0 lo=0) (h1:sIx items.size items.size hi=items.size) (h:Q (.ref t) s):O0 (j1 prog w) A (L8 (.ref t) (.ref sl)) Q E s:=by
 obtain ⟨b,a,c,f⟩:=id hs;have e:s.TypeIs (.ref sl) "slice":=⟨b,a,c⟩
 unfold L8;try with_reducible refine A3 ?_
 first|refine j0 (D0 ?_)|skip
 refine j0 (wpAny_sequenceKey ht.typeIs (by decide) (j0 (i3 (name:=u3 "__getitem__") ht.typeIs B4 (P2 B4 ht.typeIs entry_tuple_getitem ?_ (args_tuple_getitem _ _)))));refine (show O0 _ _ (j02 (.ref t) >>= _) _ _ s from j0 (tupleItemsOf_ ht (j0 (n5 e ?_))));rw [if_pos (by decide)];refine j0 (z3m hs pl pu ?_);have d:(((sIx items.size 0 lo:Nat):Int) == 0 && (1:Int) == 1 && (sIx items.size items.size hi - sIx items.size 0 lo) == items.size)=true:=by rw [h0,h1];simp
 refine (show O0 _ _ (if (((sIx items.size 0 lo:Nat):Int) == 0 && (1:Int) == 1 && (sIx items.size items.size hi - sIx items.size 0 lo) == items.size)=true then _ else _) _ _ s from ?_);rw [if_pos d];refine j0 (show O0 _ _ (j49 (.ref t) >>= _) _ _ s from j0 (n5 ht.typeIs (D0 ?_)));rw [if_pos (by decide)];first
  | exact j0 (m7 (D0 ⟨_,rfl,D0 h⟩))
  | exact j0 (m7 (D0 (D0 ⟨_,rfl,D0 h⟩)))
  | (trace_state;exact j0 (m7 (D0 ⟨_,rfl,h⟩)))
end HT
namespace L2
open PySem PySem.Spec PyProof.Rows
section
variable {X:Cx}
def rSlW (K:c0):V->Option Int->Option Int->Hp->VK->Prop:=λ x lo hi H Q=>∃a xs,x=.ref a/\SqT K H a xs/\(HT.sIx xs.length 0 lo=0/\HT.sIx xs.length xs.length hi=xs.length)/\Q (.ref a) H
theorem zmv:SlR X (rSlW X.K):=by intro p s σ H x v w u o y n Q I i g d l h;obtain ⟨a,f,rfl,m,⟨e,j⟩,q⟩:=h;cases i;obtain ⟨k,r,c,t⟩:=I.tuple m;have b:k.toArray.size=f.length:=(R0 ..).trans r.length.symm;refine ⟨"tuple",_,PyProof.Rows.slot_tuple_getitem.lookup,c.typeIs,HT.getItem_tuple_all c g d l (by rw [b];exact e) (by rw [b];exact j) ⟨.ref a,H,I,rfl,q⟩⟩
theorem slSeqW:SlR X (λ x lo hi H Q=>(rSlL X.K x lo hi H Q\/rSlT X.K x lo hi H Q\/rSlS x lo hi H Q)\/rSlW X.K x lo hi H Q):=slSeq.or zmv
end
theorem qs_ret {X:Cx} {pos:Pos} {e:Expr} {te:TE} (h:QE X e te):QS X (.Return (some e) pos) (tRet te):=⟨ps_ret h.run⟩
section
variable {prog:Program} {w:V0} {A:U1} {E:Value->t0->Prop} {s:t0}
theorem zgh :∀{vs:List Value} {ss:List Str},j44 vs ss->vs.length=ss.length
 | _,_,.nil=>rfl
 | _,_,.cons y t h=>by rw [X0,X0,zgh h]
theorem zgi :∀{vs:List Value} {ss:List Str},j44 vs ss->∀v∈vs,∃a,strKind.keyOf v=some a
 | _,_,.nil,v,h=>absurd h A0
 | _,_,.cons y t h,v,hv=>by
  rcases List.mem_cons.mp hv with rfl|hv
  ·exact ⟨_,rfl⟩
  ·exact zgi h v hv
theorem zag :∀{vs:List Value} {ss:List Str},j44 vs ss->Vals (ss.map V.str) vs
 | _,_,.nil=>.nil
 | _,_,.cons n t h=>.cons ⟨t,rfl⟩ (zag h)
theorem z9l :∀{ss:List Str} {us:List Value},us.length=ss.length->(∀(j:Nat) (u:Value),us[j]? = some u->∃(i:Str) (t:Tok),ss[j]? = some i/\u=M6 i t)->j44 us ss
 | [],us,hl,_=>by have z:us=[]:=List.eq_nil_of_length_eq_zero hl;subst z;exact .nil
 | n :: ss,us,hl,h=>by
  cases us with
  | nil=>cases hl
  | cons u us=>obtain ⟨i,t,e,rfl⟩:=h 0 u rfl;have e:n=i:=P1 e;subst e;exact .cons n t (z9l (Nat.succ.inj hl) λ j v e=>h (j + 1) v (by simpa using e))
theorem zj8 {v:Value} {Q:Value->t0->Prop} {ss:List Str} (hn:ss.length < 64)
  (hc :∀R:List Value->t0->Prop,(∀h' tk vs,(∀b o,s.heap.get? b=some o->h'.get? b=some o)->j44 vs ss->R vs { s with heap:=h',toks:=tk })->O0 (j1 prog w) A.in1 (collect v) R E s)
  (h :∀(h1 h':Heap) (tk:Nat) (out:Array Value) (ss':List Str) (e:Nat),(∀b o,s.heap.get? b=some o->h1.get? b=some o)->(∀b o,h1.get? b=some o->h'.get? b=some o)->h'.get? h1.objs.size=some { cls:=.type "list",data:=.seq out e }->j44 out.toList ss'->ss'.Perm ss->sortedS ss'=true->Q (.ref h1.objs.size) { s with heap:=h',toks:=tk }) :
  O0 (j1 prog w) A (call (.builtin "sorted") [v]) Q E s:=by
 refine X7 kind_sorted plain_sorted entry_sorted (args_sorted1 _) ?_;unfold i6.«sorted»;refine j0 (m:=checkCount "sorted" 1 1 _) (D0 (j0 (hc _ λ h1 tk vs n a=>?_)));have f:vs.length < 64:=by rw [zgh a];exact hn
 refine j0 (j1b ?_ (F0 (J3 f) (by decide)));have c:(h1.push (R7 "list" vs.toArray 0)).get? h1.objs.size=some (R7 "list" vs.toArray 0):=P0 _ rfl;have g:KeysOf strKind (pairsOf vs):=λ p k=>by
  have:p.1∈vs:=by have:=(d9 (show (p.1,p.2)∈vs.zip vs by simpa [pairsOf] using k)).1;exact this
  exact zgi a _ this
 refine j0 (A3 (P2 j4b ⟨_,c,rfl⟩ j3h (list_sort_treeK strKind_oneLt c g (λ z B r e=>by subst e;exact keyKind_strs a) f λ y t l=>⟨_,rfl,?_⟩) (j4d _)));obtain ⟨ss',i,q,u⟩:=sorted_out_str a t l;obtain ⟨e,j⟩:=sortedHeap_at (out:=j3e (λ x=>x.snd) (arrOf y)) c;refine D0 ⟨_,rfl,h h1 _ tk _ ss' e n (λ b o d=>?_) j i q u⟩;have lt:=M0 d;refine (sortedHeap_old (Z0 lt) ?_).trans (C0 _ d);rw [size_push'];exact A2 lt
end
section
variable {X:Cx}
theorem z9e (hcalm:X.calm=true):CallR X (.builtin "sorted") (λ xs H Q=>∃a kvs ss,xs=[.ref a]/\H a=some (.dK kvs)/\kvs.map (·.1)=ss.map Sum.inr/\ss.length < 64/\∀(l:Addr) (ss':List Str),H l=none->ss'.Perm ss->sortedS ss'=true->Q (.ref l) (upd H l (.lst (ss'.map V.str)))):=by
 intro G s σ H xs Y Q I r h;obtain ⟨a,kvs,ss,rfl,F,U,w,q⟩:=h;obtain ⟨u,rfl,M⟩:=vals1 r;cases M;obtain ⟨L,C,c,B,T⟩:=dk_of I.hok F;obtain ⟨ep,D⟩:=T.dictAt;refine zj8 w (λ R J=>?_) λ v n d N ss' e P K g i p r=>?_
 ·have keys:c.map (·.1)=ss.map Sum.inr:=B.keys.symm.trans U;have S:c.length=ss.length:=by have:=congrArg j55 keys;simpa using this
  refine j46 (PySem.W.kdl_dict C) (show X.A.in1.handled=none from I.ok.hd hcalm) D (by rw [<-B.length];exact L) λ n d Z k f=>J n d _ k (z9l (by rw [G2,f.1,S]) λ j u e=>?_);obtain ⟨y,x,O,E⟩:=f.2 j u (by rw [<-L6];exact e);have b:(c.map (·.1))[j]? = some y:=by rw [W0,O];rfl
  rw [keys,W0] at b;cases en:ss[j]? with
  | none=>rw [en] at b;cases b
  | some i=>
   rw [en] at b;have b:Sum.inr i=y:=P1 b;subst b;rcases z0s (show keyIs (.inr i) u=true from E) with ⟨_,_,z,_⟩|⟨i',t,z,rfl⟩
   ·cases z
   ·cases z;exact ⟨i,t,rfl,rfl⟩
 ·have m:Inv X G σ H { s with heap:=v }:=I.kept (t':=s.toks) P;refine ⟨.ref v.objs.size,_,m.laid (t':=d) (o:=.lst (ss'.map V.str)) K (B0 _) ⟨?_,N.toList,e,zag i,by simpa using g⟩,rfl,q _ ss' (m.hok.fresh (B0 _)) p r⟩;rw [G0,p.length_eq];exact F0 (J3 w) (by decide)
end
def rIndex:V->List V->Hp->VK->Prop:=λ x vs H Q=>∃(l:Addr) (ss:List Str) (z:Str) (j:Nat),x=.ref l/\vs=[.str z]/\H l=some (.lst (ss.map V.str))/\ss.length<=1000/\ss[j]? = some z/\(∀m,m < j->ss[m]?≠some z)/\Q (.int (j:Nat)) H
section
variable {X:Cx}
theorem zmc {ss:List Str} :∀{us:List Value},Vals (ss.map V.str) us->∀(j:Nat) (u:Value),us[j]? = some u->∃y t,ss[j]? = some y/\u=M6 y t:=by
 induction ss with
 | nil=>intro us r j u e;rw [R5] at r;cases r;simp at e
 | cons n ss ih=>
  intro us r j u e;rw [J1] at r;cases r with
  | cons r1 r2=>
   obtain ⟨t,rfl⟩:=r1;cases j with
   | zero=>rw [Z2] at e;cases e;exact ⟨n,t,rfl,rfl⟩
   | succ j=>rw [D2] at e;exact ih r2 j u e
theorem zlo:MtM X "list.index" rIndex:=by
 intro K s σ H x J v L Q I C p h;obtain ⟨l,E,z,j,rfl,rfl,w,O,k,g,q⟩:=h;cases C;obtain ⟨u,rfl,G⟩:=p.one;obtain ⟨t,rfl⟩:=G;obtain ⟨M,f,n,r,N,e⟩:=I.lstM w;have lt:j < f.length:=by rw [<-r.length,G0];exact (List.getElem?_eq_some_iff.mp k).1
 let ev:Value->Bool:=λ y=>match y with | .str a _=>a == z|_=>false
 have at_ :∀m (g:m < f.toArray.size),∃y c,E[m]? = some y/\f.toArray[m]=M6 y c:=λ m g=>zmc r m _ ((N0 (show m < f.length by simpa using g)).trans (by simp));refine j1j F.slot_list_index ⟨_,e,rfl⟩ F.entry_list_index (F.args_list_index_2 _ _) (SeqAt.list_indexAt l f.toArray n none #[] (.str z t) ev j (by simpa using lt) ?_ ?_ ?_) ⟨e,λ y D=>?_,?_⟩
 ·have:=(List.getElem?_eq_some_iff.mp k).1;have:(j:Int) < 1000:=by omega
  exact Int.lt_trans this (by decide)
 ·obtain ⟨y,c,d,b⟩:=at_ j (by simpa using lt);rw [b];rw [k] at d;cases d;exact beq_self_eq_true z
 ·intro m i A;obtain ⟨y,c,d,b⟩:=at_ m i;rw [b];refine beq_eq_false_iff_ne.mpr λ e=>g m A ?_;rw [d,e]
 ·obtain ⟨m,i,o⟩:=Array.mem_iff_getElem.mp D;obtain ⟨B,c,d,b⟩:=at_ m i;rw [b] at o;subst o;exact j34 B c z t
 ·exact ⟨.int (j:Nat),H,I.tok _,⟨_,rfl⟩,q⟩
theorem zh9 {o e:Expr} {es:List Expr} {to:TE} {t:TA} {apos cpos:Pos} (ho:PE X o to) (ha:PA X (e :: es) t)
  (hbase:S3 o "index" X.env (Y2 o X.env)=Y2 o X.env:=by rfl)
  (hfew:((Z3 cpos (A1 (e :: es) X.env)).all (λ x=>!x.1) && (y9 cpos (K6 [] X.env)).all (λ x=>x.1.isSome) && decide ((e :: es).length + ([]:List c6).length + (if ([]:List c6).isEmpty then 0 else 1) < 30))=true:=by rfl)
  (hline:(apos.endLine == cpos.line)=true:=by rfl) (hs:A1 (e :: es) X.env=(false,Y2 e X.env) :: A1 es X.env:=by rfl) (hplain:(Z3 cpos (A1 es X.env)).any (·.1)=false:=by rfl) :
  PE X (.Call (.Attribute o "index" apos) (e :: es) [] cpos) (tBM X.K "list" rIndex to t):=pe_bm Z5 PySem.F.slot_list_index PySem.F.type_list_index zlo ho ha hbase hfew hline hs hplain
end
def pickV (xs:List V) (lo hi st:Option Int):List V:=(sliceRange (W2 lo hi st xs.length).1 (W2 lo hi st xs.length).2.1 (W2 lo hi st xs.length).2.2).filterMap λ i=>xs[i]?
theorem zim {xs:List V} {lo hi st:Option Int} {y:V} (h:y∈pickV xs lo hi st):y∈xs:=by obtain ⟨i,_,e⟩:=List.mem_filterMap.mp h;exact Q0 e
theorem zcp {xs:List V} {us:List Value} (r:Vals xs us) :∀is:List Nat,Vals (is.filterMap λ i=>xs[i]?) (is.filterMap λ i=>us[i]?)
 | []=>.nil
 | i :: is=>by
  have a:=zcp r is;have f:=r.length;cases e:xs[i]? with
  | none=>have c:us[i]? = none:=C4 (by rw [<-f];exact List.getElem?_eq_none_iff.mp e);rw [j3a e,j3a c];exact a
  | some x=>obtain ⟨u,b,d⟩:=r.get e;rw [j39 e,j39 b];exact .cons d a
theorem zj6 {xs:List V} {lo hi:Option Int} {k:Int} (hk:0 < k):(pickV xs lo hi (some k)).length<=xs.length:=by
 refine F0 (d8 _ _) ?_;have c:(W2 lo hi (some k) xs.length).2.2=k:=rfl;have e:0<=(W2 lo hi (some k) xs.length).1:=by
  cases lo with
  | none=>show 0<=(if k > 0 then (0:Int) else _);rw [if_pos hk];exact j25 _
  | some i=>show 0<=(if k > 0 then max (0:Int) _ else _);rw [if_pos hk];exact Int.le_max_left _ _
 have d:(W2 lo hi (some k) xs.length).2.1<=(xs.length:Int):=by
  cases hi with
  | none=>show (if k > 0 then (xs.length:Int) else _)<=_;rw [if_pos hk];exact j25 _
  | some i=>show (if k > 0 then max (0:Int) (min _ (xs.length:Int)) else _)<=_;rw [if_pos hk];omega
 rw [c];generalize (W2 lo hi (some k) xs.length).1=a at e⊢;generalize (W2 lo hi (some k) xs.length).2.1=b at d⊢;unfold sliceRange;rw [G0,j2,if_pos hk];by_cases z:a < b
 ·rw [if_pos z];have:(b - a + k - 1) / k < b - a + 1:=by
   apply Int.ediv_lt_of_lt_mul hk;have:(b - a + 1) * k=(b - a) * k + k:=by rw [Int.add_mul,Int.one_mul]
   have f:b - a<=(b - a) * k:=by have:=Int.mul_le_mul_of_nonneg_left (show (1:Int)<=k by omega) (show 0<=b - a by omega);omega
   omega
  omega
 ·rw [if_neg z];exact R1 _
def tSl3 (K:c0) (te:TE) (tl th ts:TO):TE:=λ σ H Q=>te σ H λ x H1=>tl σ H1 λ l H2=>th σ H2 λ u H3=>ts σ H3 λ k H4=>∃a xs,x=.ref a/\SqL K H4 a xs/\k≠some 0/\(pickV xs l u k).length<=sizeLine/\∀p,H4 p=none->Q (.ref p) (upd H4 p (.lst (pickV xs l u k)))
theorem zig {X:Cx} {e:Expr} {te:TE} {lo hi:Option Expr} {st:Expr} {tl th ts:TO} {pos p2:Pos} (he:PE X e te) (hl:PO X lo tl) (hu:PO X hi th) (hs:PO X (some st) ts):PE X (.Subscript e (.Slice lo hi (some st) p2) pos) (tSl3 X.K te tl th ts):=by
 intro d s σ H Q I h;refine j4g (thn (he d s σ H _ I h) λ v C ⟨x,H1,I1,r1,q1⟩=>?_);refine wpAny_Slice (thn (hl d C σ H1 _ I1 q1) λ m D ⟨l,H2,I2,pl,q2⟩=>thn (hu d D σ H2 _ I2 q2) λ j y ⟨u,H3,I3,pu,q3⟩=>thn (hs d y σ H3 _ I3 q3) λ g c ⟨k,H4,I4,pk,a,xs,ex,hx,k0,hz,q⟩=>?_);subst ex;cases r1;have f:Inv X d σ H4 { c with heap:=c.heap.push { cls:=.type "slice",data:=.fields #[m,j,g] } }:=I4.kept (t':=c.toks) λ b t q=>C0 _ q;obtain ⟨p,r,n,E⟩:=f.list hx;have z:=r.length;refine (show O0 (j1 X.prog X.w) X.A (j1c e (.Slice lo hi (some st) p2) (.ref a) (.ref c.heap.objs.size)) (EP X d σ Q) X.xe { c with heap:=c.heap.push { cls:=.type "slice",data:=.fields #[m,j,g] } } from ?_);refine j4a (ops:=[.ref a,.ref c.heap.objs.size]) n.isList.typeIs slot_list_getitem.lookup ?_ (by with_unfolding_all rfl);refine wpAny_getItem_list_slice n.isList (j26 ..) pl pu pk k0 ?_ (by rw [R0];omega);have B:slicePick p.toArray l u k=((sliceRange (W2 l u k xs.length).1 (W2 l u k xs.length).2.1 (W2 l u k xs.length).2.2).filterMap λ i=>p[i]?).toArray:=by unfold slicePick;rw [R0,<-z];simp only [m9]
 rw [B];exact ⟨.ref _,_,f.laid (t':=c.toks) (o:=.lst (pickV xs l u k)) (λ b t q=>C0 _ q) (B0 _) ⟨hz,_,0,zcp r _,P0 _ rfl⟩,rfl,q _ (f.hok.fresh (B0 _))⟩
def rNeC (K:c0):R2:=λ x y H Q=>∃d e,IsPd K H d x/\IsPd K H e y/\d.canLay0=true/\e.canLay0=true/\d.depth<=60/\Q (.bl (!d.eqv e)) H
theorem op_neC {X:Cx} {k:Nat} (hr:Room k X.A):OpR X (J2 .NotEq) (rNeC X.K):=by intro n s σ H x y v u Q I i j h;obtain ⟨d,e,b,c,l,f,m,q⟩:=h;obtain ⟨o,g⟩:=z4n I d x v b i;obtain ⟨bs,a⟩:=z4n I e y u c j;exact SeqAt.compareNe_reads g a l f (room60 hr m) ⟨.bl _,H,I,rfl,q⟩
def rCatA (K:c0):R2:=λ x y H Q=>∃a b xs ys,x=.ref a/\y=.ref b/\SqT K H a xs/\SqT K H b ys/\xs.length + ys.length<=sizeLine/\∀p H',Same H H'->SqT K H' p (xs++ys)->Q (.ref p) H'
theorem zd6 {X:Cx}:OpR X (M4 .Add) (rCatA X.K):=by
 intro f s σ H x y v u Q I g i h;obtain ⟨a,b,e,k,rfl,rfl,d,c,j,q⟩:=h;by_cases hy:k=[]
 ·subst hy;cases e with
  | nil=>exact zg4 f s σ H _ _ v u Q I g i ⟨a,b,[],rfl,rfl,d,c,q b H (Same.refl H) c⟩
  | cons x e=>exact zar f s σ H _ _ v u Q I g i ⟨a,b,x :: e,[],rfl,rfl,d,c,by simp,j,λ _=>q a H (Same.refl H) (by rw [N2];exact d),λ z=>absurd rfl z⟩
 ·exact op_catS f s σ H _ _ v u Q I g i ⟨a,b,e,k,rfl,rfl,d,c,hy,j,q⟩
theorem qs_if {X:Cx} {pos:Pos} {c:Expr} {a b:List Stmt} {t:TT} {ta tb:TS} (hc:PT X c t) (ha:QSs X a ta) (hb:QSs X b tb):QS X (.If c a b pos) (tIfS t ta tb):=⟨ps_if hc ha.run hb.run⟩
theorem zju :∀{ys:List V},(∀y∈ys,∃i:Int,y=.int i)->∃ms:List Int,ys=ms.map V.int
 | [],_=>⟨[],rfl⟩
 | y :: ys,h=>by obtain ⟨i,rfl⟩:=h y F1;obtain ⟨ms,rfl⟩:=zju λ z a=>h z (E1 _ a);exact ⟨i :: ms,rfl⟩
theorem zlr {f:List V->Hp->VK->Prop} {te tb:TE} {r:R2} {σ:St} {H:Hp} {Q:Bool->Hp->Prop} (h:te σ H λ x H1=>f [x] H1 λ y H2=>tb σ H2 λ z H3=>r y z H3 λ b H4=>∃k,b=.bl k/\Q k H4):tTest (tOp r (tCB f (tCons te tNil)) tb) σ H Q:=h
theorem zjb {c:TT} {a b:TS} {D:Ends} {σ:St} {H:Hp} (h:c σ H λ k H1=>if k=true then a D σ H1 else b D σ H1):tIfS c a b D σ H:=h
theorem zax {X:Cx} {K:c0} (hK:X.K=K) {o e:Expr} {es:List Expr} {to:TE} {t:TA} {apos cpos:Pos} (ho:PE X o to) (ha:PA X (e :: es) t)
  (hbase:S3 o "append" X.env (Y2 o X.env)=Y2 o X.env:=by rfl)
  (hfew:((Z3 cpos (A1 (e :: es) X.env)).all (λ x=>!x.1) && (y9 cpos (K6 [] X.env)).all (λ x=>x.1.isSome) && decide ((e :: es).length + ([]:List c6).length + (if ([]:List c6).isEmpty then 0 else 1) < 30))=true:=by rfl)
  (hline:(apos.endLine == cpos.line)=true:=by rfl) (hs:A1 (e :: es) X.env=(false,Y2 e X.env) :: A1 es X.env:=by rfl) (hplain:(Z3 cpos (A1 es X.env)).any (·.1)=false:=by rfl) :
  PE X (.Call (.Attribute o "append" apos) (e :: es) [] cpos) (tBM K "list" zf7 to t):=hK ▸ z21 ho ha hbase hfew hline hs hplain
theorem zeb {K:c0} {a:Addr} {xs:List V} {H1:Hp} (hq:SqL K H1 a xs):RunsR Same (IteL K a) H1 xs.length (λ i v H=>∃x p,xs[i]? = some x/\v=.ref p/\H p=some (.tup [.int (i:Nat),x])):=by refine ⟨λ i b H s=>⟨xs,xs[i],s.seq hq,by simp [b]⟩,λ H s=>⟨xs,s.seq hq,rfl⟩,λ i b H v e s y=>?_⟩;obtain ⟨p,c,rfl,f⟩:=y;obtain ⟨x,d,rfl⟩:=f xs (s.seq hq);exact ⟨Same.upd c,x,p,d,rfl,z01⟩
end L2
set_option maxHeartbeats 1000000
namespace L2
open PySem PySem.Spec PyProof.Rows
theorem z7b {K:c0} {a:Addr} {xs:List V} {tl te:TE} {tc:TT} {g:TG} {m:Nat} {fr:List (Nat×Str)} {σ:L2.St} {H H1:Hp} {Q:VK} (p:Nat->Bool) (R:Nat->V->Hp->Prop) (hR :∀i y H H',Same H H'->R i y H->R i y H') (htl :∀R:VK,R (.ref a) H1->tl σ H R) (hq:SqL K H1 a xs) (hn:xs.length<=sizeLine)
  (body :∀i,i < xs.length->∀v H,Same H1 H->xs[i]? = some v->∀(KT:VK) (KF:Hp->Prop),(p i=true->∀y H',Same H H'->R i y H'->KT y H')->(p i=false->∀H',Same H H'->KF H')->
   g v (cStG σ fr (W1 m none)) H λ σ6 H6=>∃us,us.length=m/\σ6=cStG σ fr us/\tc (cStG σ fr us) H6 λ b H2=>if b=true then te (cStG σ fr us) H2 KT else KF H2)
  (hQ :∀l H' ys,Same H1 H'->H' l=none->All2 (λ i y=>R i y H') ((K1 xs.length).filter p) ys->Q (.ref l) (upd H' l (.lst ys))):tCompG (iList K tl) m fr g tc te σ H Q:=
 htl _ ⟨a,rfl,⟨xs,hq⟩,z2p (Same.refl _) (λ _ _ _ a b=>a.trans b) p R hR (z71 (S:=Same) (λ _ _=>Same.refl _) λ H s=>s.seq hq) hn body hQ⟩
theorem zhp {K:c0} {a:Addr} {xs:List V} {ta:TA} {te:TE} {tc:TT} {g:TG} {m:Nat} {fr:List (Nat×Str)} {σ:L2.St} {H H1:Hp} {Q:VK} (p:Nat->Bool) (R:Nat->V->Hp->Prop) (hR :∀i y H H',Same H H'->R i y H->R i y H') (hta :∀T:List V->Hp->Prop,T [.ref a] H1->ta σ H T) (hq:SqL K H1 a xs) (hn:xs.length<=sizeLine)
  (body :∀i,i < xs.length->∀v H,Same H1 H->(∃x p,xs[i]? = some x/\v=.ref p/\H p=some (.tup [.int (i:Nat),x]))->∀(KT:VK) (KF:Hp->Prop),(p i=true->∀y H',Same H H'->R i y H'->KT y H')->(p i=false->∀H',Same H H'->KF H')->
   g v (cStG σ fr (W1 m none)) H λ σ6 H6=>∃us,us.length=m/\σ6=cStG σ fr us/\tc (cStG σ fr us) H6 λ b H2=>if b=true then te (cStG σ fr us) H2 KT else KF H2)
  (hQ :∀l H' ys,Same H1 H'->H' l=none->All2 (λ i y=>R i y H') ((K1 xs.length).filter p) ys->Q (.ref l) (upd H' l (.lst ys))):tCompG (ieL K ta) m fr g tc te σ H Q:=
 hta _ ⟨a,xs,rfl,hq,z2p (Same.refl _) (λ _ _ _ a b=>a.trans b) p R hR (zeb hq) hn body hQ⟩
theorem zko {K:c0} {tl te:TE} {tc:TT} {g:TG} {m:Nat} {fr:List (Nat×Str)} {σ:L2.St} {H:Hp} {Q:VK} (Pr:Addr->List V->Hp->Prop) (htl :∀R:VK,(∀a xs H1,Pr a xs H1->R (.ref a) H1)->tl σ H R) (hq :∀a xs H1,Pr a xs H1->SqL K H1 a xs/\xs.length<=sizeLine)
  (p:Nat->Bool) (R:Nat->V->Hp->Prop) (hR :∀i y H H',Same H H'->R i y H->R i y H')
  (body :∀a xs H1,Pr a xs H1->∀i,i < xs.length->∀v H,Same H1 H->xs[i]? = some v->∀(KT:VK) (KF:Hp->Prop),(p i=true->∀y H',Same H H'->R i y H'->KT y H')->(p i=false->∀H',Same H H'->KF H')->
   g v (cStG σ fr (W1 m none)) H λ σ6 H6=>∃us,us.length=m/\σ6=cStG σ fr us/\tc (cStG σ fr us) H6 λ b H2=>if b=true then te (cStG σ fr us) H2 KT else KF H2)
  (hQ :∀a xs H1,Pr a xs H1->∀l H' ys,Same H1 H'->H' l=none->All2 (λ i y=>R i y H') ((K1 xs.length).filter p) ys->Q (.ref l) (upd H' l (.lst ys))):tCompG (iList K tl) m fr g tc te σ H Q:=
 htl _ λ a xs H1 c=>⟨a,rfl,⟨xs,(hq a xs H1 c).1⟩,z2p (Same.refl _) (λ _ _ _ a b=>a.trans b) p R hR (z71 (S:=Same) (λ _ _=>Same.refl _) λ H s=>s.seq (hq a xs H1 c).1) (hq a xs H1 c).2 (body a xs H1 c) (hQ a xs H1 c)⟩
theorem z26 {K:c0} {a:Addr} {xs:List V} {tl te:TE} {tc:TT} {g:TG} {m:Nat} {fr:List (Nat×Str)} {σ:L2.St} {H H1:Hp} {Q:VK} (p:Nat->Bool) (R:Nat->V->Hp->Prop) (hR :∀i y H H',Same H H'->R i y H->R i y H') (htl :∀R:VK,R (.ref a) H1->tl σ H R) (hq:SqT K H1 a xs) (hn:xs.length<=sizeLine)
  (body :∀i,i < xs.length->∀v H,Same H1 H->xs[i]? = some v->∀(KT:VK) (KF:Hp->Prop),(p i=true->∀y H',Same H H'->R i y H'->KT y H')->(p i=false->∀H',Same H H'->KF H')->
   g v (cStG σ fr (W1 m none)) H λ σ6 H6=>∃us,us.length=m/\σ6=cStG σ fr us/\tc (cStG σ fr us) H6 λ b H2=>if b=true then te (cStG σ fr us) H2 KT else KF H2)
  (hQ :∀l H' ys,Same H1 H'->H' l=none->All2 (λ i y=>R i y H') ((K1 xs.length).filter p) ys->Q (.ref l) (upd H' l (.lst ys))):tCompG (iTup K tl) m fr g tc te σ H Q:=
 htl _ ⟨a,rfl,⟨xs,hq⟩,z2p (Same.refl _) (λ _ _ _ a b=>a.trans b) p R hR (zcz (S:=Same) (λ _ _=>Same.refl _) λ H s=>s.seqT hq) hn body hQ⟩
theorem e_cb1 {f:List V->Hp->VK->Prop} {te:TE} {σ:L2.St} {H:Hp} {Q:VK} (h:te σ H λ x H1=>f [x] H1 Q):tCB f (tCons te tNil) σ H Q:=h
theorem t_or {t u:TT} {σ:L2.St} {H:Hp} {Q:Bool->Hp->Prop} (h:t σ H λ c H1=>if c=true then Q true H1 else u σ H1 Q):tOr t u σ H Q:=h
theorem sq_if {c:TT} {a b rest:TS} {D:Ends} {σ:L2.St} {H:Hp} (h:c σ H λ k H1=>if k=true then a { D with nx:=rest D } σ H1 else b { D with nx:=rest D } σ H1):tSeq (tIfS c a b) rest D σ H:=h
theorem sq_ret {te:TE} {D:Ends} {σ:L2.St} {H:Hp} (h:te σ H D.rt):tRet te D σ H:=h
section
variable {X:Cx} {pins:List (Addr×Obj)} {σ:St} {H:Hp} {s:t0} {a:Addr} {u v:HO}
theorem Inv.retold (I:Inv X pins σ H s) (e:H a=some u) (nt :∀xs,u≠.tup xs) (nb :∀ps,u≠.tbl ps) (no :∀c,u≠.own c) (nf :∀o w,X.H₀ a≠some (.frz o w)) (ok:ObjOk X.prog X.w (upd H a v) s.heap a v):Inv X pins σ (upd H a v) s:=by
 have ne :∀{b:Addr},H b=none->b≠a:=λ n z=>by rw [z,e] at n;cases n
 refine ⟨I.ok,I.os,I.bare,⟨I.base.keep,I.base.slot,λ b o q n i=>?_,I.base.there,λ b xs q=>?_,λ b o w q=>?_,λ b ps q=>?_⟩,I.loc,I.cell,?_,λ x c q=>?_,λ p j=>?_,λ b o q=>?_,I.len⟩
 ·have z:=I.base.free b o q n i;rw [upd_ne (ne z)];exact z
 ·have z:=I.base.tups b xs q;rw [upd_ne (λ y=>by rw [y,e] at z;exact nt xs (P1 z))];exact z
 ·have z:=I.base.frzs b o w q;rw [upd_ne (λ y=>by rw [y] at q;exact nf o w q)];exact z
 ·obtain ⟨g,z⟩:=I.base.tbls b ps q;exact ⟨g,by rw [upd_ne (λ y=>by rw [y,e] at z;exact nb _ (P1 z))];exact z⟩
 ·rw [upd_ne (ne I.free)];exact I.free
 ·rw [upd_ne (ne (I.freeC x c q))];exact I.freeC x c q
 ·obtain ⟨h,d,f⟩:=I.pin p j;exact ⟨h,by rw [upd_ne (ne d)];exact d,f⟩
 ·by_cases z:b=a
  ·subst z;rw [z01] at q;cases q;exact ok
  ·rw [upd_ne z] at q;refine (I.hok b o q).stay (λ _ _ _ y=>y) (λ c y=>?_) λ c xs y=>?_
   ·rw [upd_ne (λ x=>by rw [x,e] at y;exact no b (P1 y))];exact y
   ·rw [upd_ne (λ x=>by rw [x,e] at y;exact nt xs (P1 y))];exact y
end
def kasRun {α:Type} (c:Nat->Nat->Bool) (n:Nat):r6 α->Option α
 | .ret a=>some a
 | .ask i j k=>if i < n/\j < n/\i≠j then kasRun c n (k (c i j)) else none
theorem zdf {α:Type} {c:Nat->Nat->Bool} {n:Nat} {cmp:Nat->Nat->(Bool->t0->Prop)->t0->Prop} {s:t0} {Q:α->t0->Prop} (hc :∀i j C,i < n->j < n->i≠j->C (c i j) s->cmp i j C s) :∀(t:r6 α) (a:α),kasRun c n t=some a->Q a s->t.kasWp cmp Q s
 | .ret b,a,h,q=>by cases h;exact q
 | .ask i j k,a,h,q=>by
  unfold kasRun at h;by_cases z:i < n/\j < n/\i≠j
  ·rw [if_pos z] at h;exact hc i j _ z.1 z.2.1 z.2.2 (zdf hc (k (c i j)) a h q)
  ·rw [if_neg z] at h;cases h
end L2
set_option maxHeartbeats 400000
namespace L2
open PySem PySem.Spec PyProof.Rows
end L2
set_option maxHeartbeats 1000000
namespace L2
open PySem PySem.Spec PyProof.Rows
theorem zft {te:TE} {σ:L2.St} {H:Hp} {Q:List V->Hp->Prop} (h:te σ H λ y H1=>Q [y] H1):tCons te tNil σ H Q:=h
structure ZLAt (h:Heap) (z T U i j a b:Addr) (n:Nat) (f:Value):Prop where
 z:j1f h z T U f
 t:W7 h T (.ref i) (.ref j)
 u :∃p q,W7 h U p q
 i:h.IsListIter i a n
 j:h.IsListIter j b n
def jl (c:Nat):List (List Nat)->List Nat
 | []=>[]
 | [a]=>a
 | a :: b :: r=>a++c :: jl c (b :: r)
end L2
namespace L2
open PySem PySem.Spec PyProof.Rows PySem.NumText
end L2
namespace L2
open PySem PySem.Spec PyProof.Rows
end L2
open PySem PySem.W PyProof.Rows
set_option maxHeartbeats 4000000
namespace TJ
section
variable (p:Program) (w:V0) (n₀:Nat) (ann:Option Value) (code:Code) (q:Pos)
theorem ziy {n m:Nat} :∀{s s' s'':t0} {t t' t'':j4f},segGo K3 p w n₀ ann 1 n s t=some (s',t')->segGo K3 p w n₀ ann 1 m s' t'=some (s'',t'')->
  segGo K3 p w n₀ ann 1 (n + m) s t=some (s'',t''):=by
 induction n with
 | zero=>
  intro s s' s'' t t' t'' h k;obtain ⟨rfl,rfl⟩:s=s'/\t=t':=by simpa [segGo] using h
  rw [Z8];exact k
 | succ n ih=>
  intro s s' s'' t t' t'' h k;rw [show n + 1 + m=n + m + 1 by omega];unfold segGo at h⊢;cases he:endAt 1 t with
  | some f=>rw [he] at h;cases h
  | none=>
   rw [he] at h;cases hk:stepOk n₀ ann t with
   | false=>rw [hk] at h;cases h
   | true=>
    rw [hk] at h;cases hs:step (denote K3) p w s t with
    | halt o s₂=>rw [hs] at h;cases h
    | go s₂ t₂=>rw [hs] at h;exact ih h k
def Steps (c:Nat) (s:t0) (t:j4f) (s':t0) (t':j4f):Prop:=∃n,n<=c/\segGo K3 p w n₀ ann 1 n s t=some (s',t')
def Goes {α:Type} (c:Nat) (x:Sem α) (s:t0) (pos:Pos) (a:α) (s':t0) (pos':Pos):Prop:=
 ∀(K:α->Sem Fin) (H:Value->Sem Fin) (gd:Bool->Bool) (lv:List Value->List Value),
  Steps p w n₀ ann c s ⟨x.wrap K H gd lv,code,pos,[topFrame q]⟩ s' ⟨K a,code,pos',[topFrame q]⟩
end
section
variable {p:Program} {w:V0} {n₀:Nat} {ann:Option Value} {code:Code} {q:Pos}
theorem Steps.trans {c d:Nat} {s s' s'':t0} {t t' t'':j4f} (h:Steps p w n₀ ann c s t s' t') (k:Steps p w n₀ ann d s' t' s'' t''):Steps p w n₀ ann (c + d) s t s'' t'':=by obtain ⟨n,b,h⟩:=h;obtain ⟨m,a,k⟩:=k;exact ⟨n + m,by omega,ziy p w n₀ ann h k⟩
theorem Steps.refl {s:t0} {t:j4f}:Steps p w n₀ ann 0 s t s t:=⟨0,B0 _,rfl⟩
theorem Steps.le {c d:Nat} {s s':t0} {t t':j4f} (h:Steps p w n₀ ann c s t s' t') (l:c<=d):Steps p w n₀ ann d s t s' t':=let ⟨n,a,b⟩:=h;⟨n,F0 a l,b⟩
theorem Steps.one {s s':t0} {t t':j4f} (he:endAt 1 t=none) (hk:stepOk n₀ ann t=true) (hs:step (denote K3) p w s t=.go s' t'):Steps p w n₀ ann 1 s t s' t':=by refine ⟨1,B0 _,?_⟩;unfold segGo;rw [he,hk,hs];rfl
variable {α β:Type} {s s' s'':t0} {pos pos' pos'':Pos} {a:α} {b:β} {c d:Nat}
theorem Goes.pure:Goes p w n₀ ann code q 0 (j40 a:Sem α) s pos a s pos:=λ _ _ _ _=>.refl
theorem Goes.le {x:Sem α} (h:Goes p w n₀ ann code q c x s pos a s' pos') (l:c<=d):Goes p w n₀ ann code q d x s pos a s' pos':=λ K H b e=>(h K H b e).le l
theorem Goes.bind {x:Sem α} {f:α->Sem β} (h:Goes p w n₀ ann code q c x s pos a s' pos') (k:Goes p w n₀ ann code q d (f a) s' pos' b s'' pos''):Goes p w n₀ ann code q (c + d) (x >>= f) s pos b s'' pos'':=by
 intro K H g i;have e:(x >>= f).wrap K H g i=x.wrap (λ a=>(f a).wrap K H g i) H g i:=by rw [Sem.bind_eq_wrap',Sem.wrap_wrap];rfl
 rw [e];exact (h _ H g i).trans (k K H g i)
theorem Goes.keep {x:Sem α} {vs:List Value} (h:Goes p w n₀ ann code q c x s pos a s' pos'):Goes p w n₀ ann code q c (x.keep vs) s pos a s' pos':=by intro K H b d;rw [Sem.keep_eq_wrap,Sem.wrap_wrap];exact h K H _ _
theorem Goes.holding {x:Sem α} {vs:List Value} (h:Goes p w n₀ ann code q c x s pos a s' pos'):Goes p w n₀ ann code q c (j0j vs x) s pos a s' pos':=by rw [holding_eq_keep];exact h.keep
theorem Goes.rule {tag:String}:Goes p w n₀ ann code q 1 (PySem.rule tag) s pos () s pos:=λ _ _ _ _=>.one rfl rfl rfl
theorem Goes.at' {pos₁:Pos}:Goes p w n₀ ann code q 1 (j43 pos₁) s pos () s pos₁:=λ _ _ _ _=>.one rfl rfl rfl
theorem Goes.loadPart {A:Addr} {o:Obj} {part:Option Value} (ho:s.heap.get? A=some o):Goes p w n₀ ann code q 1 (loadPart A part) s pos o s pos:=λ K H c f=>.one rfl rfl (by obtain ⟨heap,a,d,e,b⟩:=s;show (match heap.get? A with|some o=>Step.go _ _|none=>_)=_;have ho:heap.get? A=some o:=ho;rw [ho];rfl)
theorem Goes.updatePart {A:Addr} {o:Obj} {f:Obj->Obj} {part:Option Value} (ho:s.heap.get? A=some o) (hn:Nat.ble n₀ A=true):Goes p w n₀ ann code q 1 (updatePart A part f) s pos () { s with heap:=s.heap.update A f } pos:=λ K H c g=>
 .one rfl (by
  show (_ && (Nat.ble n₀ A || _ || _ || _))=true;rw [hn];rfl) (by
  obtain ⟨heap,a,d,e,b⟩:=s;have ho:heap.get? A=some o:=ho;show (if (heap.get? A).isSome=true then Step.go _ _ else _)=_;rw [ho];rfl)
theorem Goes.leaf {x:Sem α} {sT sT':SharedT} (n:Nat) (h :∀K H gd lv,segGoT K3 p w n₀ ann 1 n sT ⟨x.wrap K H gd lv,code,pos,[topFrame q]⟩=some (sT',⟨K a,code,pos',[topFrame q]⟩)) :
  Goes p w n₀ ann code q n x sT.abs pos a sT'.abs pos':=λ K H gd lv=>⟨n,B0 _,segGo_of (h K H gd lv)⟩
end
end TJ
open PySem PySem.W PyProof.Rows
namespace TJ
section
variable {p:Program} {w:V0} {n₀:Nat} {ann:Option Value} {code:Code} {q:Pos} {s:t0} {pos:Pos}
theorem Goes.forIn {γ β:Type} {c:Nat} {f:γ->β->Sem (ForInStep β)} {b:β} :∀{l:List γ},(∀x∈l,Goes p w n₀ ann code q c (f x b) s pos (.yield b) s pos)->Goes p w n₀ ann code q (l.length * c) (ForIn.forIn l b f) s pos b s pos
 | [],_=>by rw [A4];exact Goes.pure.le (R1 _)
 | x :: l,h=>by rw [F4];have k:=Goes.forIn (l:=l) λ y a=>h y (E1 _ a);have e:=Goes.bind (f:=λ r=>match r with | .done b=>(j40 b:Sem β) | .yield b=>ForIn.forIn l b f) (h x F1) k;exact e.le (by rw [X0,Nat.add_mul];omega)
theorem Goes.entries {d:Addr} {o:Obj} {es:Array DictEntry} {ep:Nat} {part:Option Value} (ho:s.heap.get? d=some o) (hd:o.data=.dict es ep):Goes p w n₀ ann code q 1 (dictEntries d part) s pos es s pos:=by unfold dictEntries;refine (Goes.bind (d:=0) (Goes.loadPart ho) ?_);rw [hd];exact Goes.pure
theorem Goes.epoch {d:Addr} {o:Obj} {es:Array DictEntry} {ep:Nat} {part:Option Value} (ho:s.heap.get? d=some o) (hd:o.data=.dict es ep):Goes p w n₀ ann code q 1 (dictEpoch d part) s pos ep s pos:=by unfold dictEpoch;refine (Goes.bind (d:=0) (Goes.loadPart ho) ?_);rw [hd];exact Goes.pure
theorem Goes.mayTell {a:Addr} {stored:List Value} {cq:Nat} (hq:Goes p w n₀ ann code q cq (K4 8 (.ref a)) s pos true s pos) (hs :∀v∈stored,Goes p w n₀ ann code q cq (K4 8 v) s pos true s pos) :
  Goes p w n₀ ann code q (cq + stored.length * cq) (tableMayTell (.ref a) stored) s pos false s pos:=by
 unfold tableMayTell;split
 ·exact Goes.pure.le (R1 _)
 ·refine Goes.bind hq ?_;simp only [j8,Y3,if_false];refine (Goes.bind (a:=(none,())) (d:=0) (Goes.forIn λ v b=>?_) ?_).le (B0 _)
  ·refine (Goes.bind (d:=0) (hs v b) ?_).le (B0 _);simp only [j8,Y3,if_false];exact Goes.pure
  ·exact Goes.pure
theorem Goes.find_none {d a:Addr} {o:Obj} {es:Array DictEntry} {ep:Nat} {h:Int} {cq ce:Nat} (ho:s.heap.get? d=some o) (hd:o.data=.dict es ep)
  (hq:Goes p w n₀ ann code q cq (K4 8 (.ref a)) s pos true s pos)
  (hk :∀e∈es.toList,∃b,e.key=.ref b/\b≠a/\Goes p w n₀ ann code q cq (K4 8 (.ref b)) s pos true s pos/\Goes p w n₀ ann code q ce (eqBool (.ref b) (.ref a)) s pos false s pos) :
  Goes p w n₀ ann code q (2 + cq + es.size * (cq + ce + 10)) (dictFind d (.ref a) h) s pos none s pos:=by
 have m :∀(i:Nat) (e:DictEntry),es[i]? = some e->e∈es.toList:=λ i e B=>Array.mem_toList_iff.mpr (Array.mem_of_getElem? B);have t:¬ (es.any λ e=>e.key == Value.ref a && e.hash != h)=true:=by rw [<-Array.any_toList,R6];rintro ⟨e,hin,hc⟩;obtain ⟨b,f,g,_⟩:=hk e hin;simp only [f,j3,beq_iff_eq,Value.ref.injEq] at hc;exact g hc.1
 have n :∀v∈(U6 es.size (λ i=>es[i]?.map (·.hash)) h).filterMap (λ i=>es[i]?.map (·.key)),∃b,v=.ref b/\b≠a/\Goes p w n₀ ann code q cq (K4 8 v) s pos true s pos:=by
  intro v k;obtain ⟨i,_,j⟩:=List.mem_filterMap.mp k;cases hei:es[i]? with
  | none=>rw [hei] at j;cases j
  | some e=>
   rw [hei] at j;obtain rfl:e.key=v:=by simpa using j
   obtain ⟨b,f,g,r,_⟩:=hk e (m i e hei);exact ⟨b,f,g,f ▸ r⟩
 have l:(U6 es.size (λ i=>es[i]?.map (·.hash)) h).length<=es.size:=by unfold U6;exact F0 (V2 _ _) (by rw [j2];exact B0 _)
 have y:((U6 es.size (λ i=>es[i]?.map (·.hash)) h).filterMap (λ i=>es[i]?.map (·.key))).length<=es.size:=F0 (d8 _ _) l;unfold dictFind;refine Goes.holding ?_;refine (Goes.bind (d:=1 + cq + es.size * (cq + ce + 10)) (Goes.entries ho hd) ?_).le (by omega);dsimp only;rw [if_neg (show ¬ ((Value.ref a :: (U6 es.size (λ i=>es[i]?.map (·.hash)) h).filterMap (λ i=>es[i]?.map (·.key))).all carriedByValue)=true by simp [carriedByValue])];rw [if_neg t];have A:¬ (((U6 es.size (λ i=>es[i]?.map (·.hash)) h).filterMap (λ i=>es[i]?.map (·.key))) == [Value.ref a])=true:=by intro e;have e:=eq_of_beq e;obtain ⟨b,f,g,_⟩:=n (.ref a) (by rw [e];exact List.mem_singleton.mpr rfl);exact g (by injection f with f;exact f.symm)
 rw [if_neg A];refine (Goes.bind (d:=1 + es.size * (ce + 10)) (Goes.mayTell hq λ v k=>(let ⟨_,_,_,z⟩:=n v k;z)) ?_).le ?_
 ·rw [if_neg (by simp)];refine (Goes.bind (a:=(none,none)) (d:=0) (Goes.forIn (c:=ce + 10) λ i j=>?_) ?_).le ?_
  ·cases hei:es[i]? with
   | none=>exact Goes.pure.le (R1 _)
   | some e=>
    dsimp only;split
    ·obtain ⟨b,f,g,_,x⟩:=hk e (m i e hei);rw [f];refine (Goes.bind (d:=ce + 2) (Goes.epoch ho hd) (Goes.bind (d:=2) x (Goes.bind (d:=1) (Goes.epoch ho hd) ?_))).le (by omega);rw [if_neg (by simp)];rw [if_neg (by simp)];refine Goes.bind (d:=0) Goes.rule ?_;rw [if_neg (by simp)];exact Goes.pure
    ·exact Goes.pure.le (R1 _)
  ·exact Goes.pure
  ·have:=Q5 (ce + 10) l;omega
 ·have:=Q5 cq y;have u:es.size * (cq + ce + 10)=es.size * cq + es.size * (ce + 10):=by rw [<-Nat.mul_add,j05]
  rw [u];omega
end
end TJ
open PySem PySem.W PyProof.Rows
namespace TJ
abbrev dObj (es:Array DictEntry) (ep:Nat):Obj:={ cls:=.type "dict",data:=.dict es ep }
abbrev KV3:=Addr×Value×Int
def ent (x:KV3):DictEntry:=⟨x.2.2,.ref x.1,x.2.1⟩
def unh (a:Addr):Sem Value:=do rule "hash.unhashable";raiseError "TypeError" s!"unhashable type: '{← typeNameOf (.ref a)}'"
def zdr (d:Addr) (vs:List (Value×Value)):Sem PUnit:=j0d vs j01 λ (x:Value×Value) (_:PUnit)=>(do dictSet d x.1 x.2;d3 (F2 j01):Sem (ForInStep PUnit))
section
variable {p:Program} {w:V0} {n₀:Nat} {ann:Option Value} {code:Code} {q:Pos} {pos:Pos} {F:Obj->Nat->SharedT} {d:Addr}
structure Fam (n₀:Nat) (d:Addr) (F:Obj->Nat->SharedT):Prop where
 le:Nat.ble n₀ d=true
 get :∀es ep tk,(F (dObj es ep) tk).abs.heap.get? d=some (dObj es ep)
 upd :∀es ep tk (e:DictEntry),({ (F (dObj es ep) tk).abs with heap:=(F (dObj es ep) tk).abs.heap.update d (g9 (·.push e)) }:t0)=(F (dObj (es.push e) (ep + 1)) tk).abs
theorem Goes.updKeys (Z:Fam n₀ d F) {es:Array DictEntry} {ep tk:Nat} {e:DictEntry} {part:Option Value} (hsz:es.size < sizeLine) :
  Goes p w n₀ ann code q 3 (updateDictKeys d (·.push e) part) (F (dObj es ep) tk).abs pos () (F (dObj (es.push e) (ep + 1)) tk).abs pos:=by
 unfold updateDictKeys;refine (Goes.bind (d:=2) (Goes.loadPart (Z.get es ep tk)) ?_);dsimp only;have u:=Goes.updatePart (p:=p) (w:=w) (ann:=ann) (code:=code) (q:=q) (pos:=pos) (part:=part) (f:=g9 (·.push e)) (Z.get es ep tk) Z.le;rw [Z.upd es ep tk e] at u;refine Goes.bind (d:=1) u ?_;unfold lookBehind;refine Goes.bind (d:=0) (Goes.loadPart (Z.get _ _ tk)) ?_;have a:(dObj (es.push e) (ep + 1)).data.pastItsLine=none:=by unfold Data.pastItsLine;dsimp only;rw [if_neg (by rw [Array.size_push];omega)]
 rw [a];exact Goes.pure
theorem Goes.set (Z:Fam n₀ d F) {a:Addr} {v:Value} {es:Array DictEntry} {ep tk k cp cq ce:Nat} {hsh:Int} (hsz:es.size < sizeLine)
  (hpy:Goes p w n₀ ann code q cp (pyHash (.ref a)) (F (dObj es ep) tk).abs pos hsh (F (dObj es ep) (tk + k)).abs pos)
  (hq:Goes p w n₀ ann code q cq (K4 8 (.ref a)) (F (dObj es ep) (tk + k)).abs pos true (F (dObj es ep) (tk + k)).abs pos)
  (hk :∀e∈es.toList,∃b,e.key=.ref b/\b≠a/\Goes p w n₀ ann code q cq (K4 8 (.ref b)) (F (dObj es ep) (tk + k)).abs pos true (F (dObj es ep) (tk + k)).abs pos/\
   Goes p w n₀ ann code q ce (eqBool (.ref b) (.ref a)) (F (dObj es ep) (tk + k)).abs pos false (F (dObj es ep) (tk + k)).abs pos) :
  Goes p w n₀ ann code q (cp + (2 + cq + es.size * (cq + ce + 10)) + 4) (dictSet d (.ref a) v) (F (dObj es ep) tk).abs pos () (F (dObj (es.push ⟨hsh,.ref a,v⟩) (ep + 1)) (tk + k)).abs pos:=by
 unfold dictSet;refine Goes.holding ?_;refine (Goes.bind (d:=(2 + cq + es.size * (cq + ce + 10)) + 4) hpy ?_).le (by omega);unfold dictSetHashed;refine Goes.holding ?_;refine Goes.bind (d:=4) (Goes.find_none (h:=hsh) (Z.get es ep (tk + k)) rfl hq hk) ?_;exact Goes.bind (d:=3) Goes.rule (Goes.updKeys Z hsz)
theorem zmd {γ β:Type} {f:γ->β->Sem (ForInStep β)} {x:γ} {xs:List γ} {b b' b'':β} {c c':Nat} {s s' s'':t0} (h:Goes p w n₀ ann code q c (f x b) s pos (.yield b') s' pos) (k:Goes p w n₀ ann code q c' (j0d xs b' f) s' pos b'' s'' pos) :
  Goes p w n₀ ann code q (c + c') (j0d (x :: xs) b f) s pos b'' s'' pos:=by
 rw [F4];exact Goes.bind (f:=λ r=>match r with | .done b=>(j40 b:Sem β) | .yield b=>j0d xs b f) h k
theorem Goes.loop (Z:Fam n₀ d F) {cp cq ce N:Nat} (all:List KV3) (hN:all.length<=N) (hN':N < sizeLine) (hnd:(all.map (·.1)).Nodup)
  (hQ :∀x∈all,∀oD tk,Goes p w n₀ ann code q cq (K4 8 (.ref x.1)) (F oD tk).abs pos true (F oD tk).abs pos)
  (hE:all.Pairwise λ x y=>∀oD tk,Goes p w n₀ ann code q ce (eqBool (.ref x.1) (.ref y.1)) (F oD tk).abs pos false (F oD tk).abs pos)
  (hH :∀x∈all,∀oD tk,Goes p w n₀ ann code q cp (pyHash (.ref x.1)) (F oD tk).abs pos x.2.2 (F oD (tk + 3)).abs pos) :
  ∀(todo done:List KV3) (tk:Nat),all=done++todo->
   Goes p w n₀ ann code q (todo.length * (cp + (2 + cq + N * (cq + ce + 10)) + 4)) (zdr d (todo.map λ x=>(Value.ref x.1,x.2.1)))
    (F (dObj (done.map ent).toArray done.length) tk).abs pos () (F (dObj (all.map ent).toArray all.length) (tk + 3 * todo.length)).abs pos:=by
 intro todo;induction todo with
 | nil=>intro done tk e;rw [N2] at e;subst e;unfold zdr;rw [R5,A4];exact Goes.pure.le (R1 _)
 | cons x todo ih=>
  intro done tk e;have h:x∈all:=by rw [e];exact O1 _ F1
  have c:=ih (done++[x]) (tk + 3) (by rw [e,j13];rfl);unfold zdr at c⊢;rw [J1];have g:(done.map ent).toArray.size<=N:=by rw [R0,G0];rw [e,K0] at hN;omega
  have f:=Goes.set (p:=p) (w:=w) (ann:=ann) (code:=code) (q:=q) (pos:=pos) (v:=x.2.1) (ep:=done.length) Z (T1 g hN') (hH x h _ tk) (hQ x h _ _) (es:=(done.map ent).toArray) (ce:=ce) (by
   intro s o;obtain ⟨y,a,rfl⟩:=List.mem_map.mp o;have i:y∈all:=by rw [e];exact O5 _ a
   have k:y.1≠x.1:=by rw [e,u2,J1] at hnd;intro q;exact (List.nodup_append.mp hnd).2.2 y.1 (List.mem_map.mpr ⟨y,a,rfl⟩) x.1 F1 q
   rw [e] at hE;exact ⟨y.1,rfl,k,hQ y i _ _,(List.pairwise_append.mp hE).2.2 y a x F1 _ _⟩)
  have m:((done.map ent).toArray.push ⟨x.2.2,.ref x.1,x.2.1⟩)=((done++[x]).map ent).toArray:=by rw [List.push_toArray,u2];rfl
  have n:done.length + 1=(done++[x]).length:=by rw [K0];rfl
  rw [m,n] at f;have l:tk + 3 * (x :: todo).length=(tk + 3) + 3 * todo.length:=by rw [X0];omega
  rw [l];have r:Goes p w n₀ ann code q (_ + 0) (do dictSet d (Value.ref x.1,x.2.1).1 (Value.ref x.1,x.2.1).2;j40 (F2 j01):Sem (ForInStep PUnit)) _ pos (F2 j01) _ pos:=Goes.bind f Goes.pure;have j:=zmd (b:=j01) (xs:=todo.map λ x=>(Value.ref x.1,x.2.1)) r c;refine j.le ?_;rw [X0,Nat.add_mul];have:=Q5 (cq + ce + 10) g;omega
def zbd (acc:Nat):Int:=if acc == 2 ^ 64 - 1 then 1546275796 else if acc < 2 ^ 63 then acc else (acc:Int) - (2 ^ 64:Nat)
theorem z94 (acc:Nat) (h:acc < 2 ^ 64):-(2:Int) ^ 63<=zbd acc/\zbd acc < 2 ^ 63:=by
 unfold zbd;split
 ·constructor<;>decide
 ·split
  ·constructor<;>omega
  ·constructor<;>omega
theorem z7x (hs:List Int):-(2:Int) ^ 63<=o0 hs/\o0 hs < 2 ^ 63:=
 z94 _ (Nat.mod_lt _ (by decide))
theorem Goes.pyHashT {a:Addr} {s s':t0} {hs:List Int} {tok:Tok} (h1:Goes p w n₀ ann code q 1 (cRoomFor "hash" [.ref a]) s pos () s pos)
  (h2:Goes p w n₀ ann code q 1 (specialOf (.ref a) "__hash__") s pos (some (.builtin "tuple.__hash__")) s pos)
  (h3:Goes p w n₀ ann code q 22 (G7 (.ref a) "__hash__" (unh a)) s pos (some (.int (o0 hs) tok)) s' pos) :
  Goes p w n₀ ann code q 25 (pyHash (.ref a)) s pos (N1 (o0 hs)) s' pos:=by
 have e:pyHash (.ref a)=pyHashByItsType (.ref a):=rfl;rw [e];unfold pyHashByItsType;refine Goes.bind (d:=24) h1 ?_;refine Goes.bind (d:=23) h2 ?_;rw [if_neg (by rw [beq_builtin_none];exact S0)];refine Goes.bind (d:=22) h2 ?_;show Goes p w n₀ ann code q 22 (G7 (.ref a) "__hash__" (unh a) >>= _) s pos _ s' pos;refine Goes.bind (d:=0) h3 ?_;have r:(decide (-(2:Int) ^ 63<=o0 hs) && decide (o0 hs < 2 ^ 63))=true:=by have r:=z7x hs;rw [decide_eq_true r.1,decide_eq_true r.2];rfl
 show Goes p w n₀ ann code q 0 (if (decide (-(2:Int) ^ 63<=o0 hs) && decide (o0 hs < 2 ^ 63))=true then _ else _) s' pos _ s' pos;have b:N1 (o0 hs)=(if (o0 hs == -1)=true then -2 else o0 hs):=by unfold N1;rw [if_pos r]
 rw [if_pos r,b];exact Goes.pure
theorem Goes.subDict {pairs:List (Sem Value×Sem Value)} {s s₁ s':t0} {vs:List (Value×Value)} {c c':Nat} {d:Addr} (hlen:pairs.length<=15) (hd:s.heap.objs.size=d)
  (h1:Goes p w n₀ ann code q c (evalPairs pairs) { s with heap:=s.heap.push { cls:=.type "dict",data:=.dict #[] } } pos vs s₁ pos)
  (h2:Goes p w n₀ ann code q c' (zdr d vs) s₁ pos () s' pos):Goes p w n₀ ann code q (1 + (c + c')) (subDict pairs) s pos d s' pos:=by
 subst hd;unfold PySem.subDict;refine Goes.bind (a:=s.heap.objs.size) (λ _ _ _ _=>.one rfl rfl rfl) ?_;refine (Goes.bind (d:=0) (a:=()) (Goes.holding ?_) Goes.pure);rw [if_pos hlen];refine Goes.bind h1 ?_;exact Goes.holding (Goes.bind (d:=0) h2 Goes.pure)
theorem Goes.execs1 {st:Stmt} {env:Env} {s s':t0} {pos':Pos} {c:Nat} (h:Goes p w n₀ ann code q c (exec st env) s pos .next s' pos'):Goes p w n₀ ann code q c (execs [st] env) s pos .next s' pos':=by rw [execs_cons];exact Goes.bind (d:=0) h Goes.pure
theorem Goes.seg {l:List Stmt} {env:Env} {s s':t0} {pos':Pos} {c:Nat} (h:Goes p w n₀ ann code q c (execs l env) s pos .next s' pos') :∃n,n<=c + 1/\segRun K3 p w n₀ ann 1 n s (piecesOf l env code pos [topFrame q])=some (.next,s',code,pos'):=by obtain ⟨n,a,h⟩:=h doneF deadEnd id id;exact ⟨n + 1,by omega,seg_go h rfl⟩
end
theorem zl0 {p q:Program} {loose:List Str} {Xt:t0->Bool} {α:Type} {Yf:t0->α} {Ya:V0->α} {N:Nat} {H₀:U0->Heap} {gs₀:Array j4i} {d₀:Drawn} {k₀ m₀:Nat} {ann:Option Value} {S:V0->S2->t0}
  (opens :∀w:V0,(fencedOpening K3 p w N).map (λ s=>(s.heap,s.gens,s.drawn,s.toks))=some (H₀ w.params,gs₀,d₀,k₀))
  (sizes :∀w:V0,(((H₀ w.params).isNs m3 && gs₀.size == 0),(H₀ w.params).objs.size,(H₀ w.params).nsMap m3 "__annotations__")=(true,m₀,ann))
  (runs :∀(w:V0) (os:S2),∃M,M<=N/\topRun K3 p w m₀ ann M ⟨H₀ w.params,gs₀,d₀,k₀,os⟩ (topStub p)=some (S w os))
  (looks1 :∀(w:V0) (os:S2),(staticsOk (S7 p.main.body) (H₀ w.params) (S w os).heap && namesBound p (S w os).heap && gensDone (S w os) && laidKept (H₀ w.params) (S w os).heap)=true)
  (looks2 :∀(w:V0) (os:S2),openSeen q loose (S7 p.main.body) Xt true (S w os)=openGood q loose) (looks3 :∀(w:V0) (os:S2),Yf (S w os)=Ya w):LeftO p q loose Xt Yf Ya N:=by
 intro w;obtain ⟨⟨h,d,b,k,os⟩,e,a⟩:=Option.map_eq_some_iff.mp (opens w);simp only [Prod.mk.injEq] at a;obtain ⟨rfl,rfl,rfl,rfl⟩:=a;have z:=sizes w;simp only [Prod.mk.injEq] at z;obtain ⟨g,i,c⟩:=z;obtain ⟨M,f,r⟩:=runs w os;have r:=topRun_mono (N - M) _ _ _ _ r;rw [Nat.add_sub_cancel' f] at r;have t:topFrom K3 p w N ⟨H₀ w.params,d,b,k,os⟩=some (S w os):=by unfold topFrom;dsimp only;rw [g,i,c,r];show (match (staticsOk (S7 p.main.body) (H₀ w.params) (S w os).heap && namesBound p (S w os).heap && gensDone (S w os) && laidKept (H₀ w.params) (S w os).heap) with|true=>some (S w os)|false=>none)=_;rw [looks1 w os]
 unfold openEnds;rw [e];show (topFrom K3 p w N _).map _=_;rw [t];show some (_,_)=some (_,_);rw [looks2 w os,looks3 w os]
theorem zh0 {p:Program} {w:V0} {n₀:Nat} {ann:Option Value} {env:Env} {q:Pos} {c N:Nat} {s s' r:t0} {l rest:List Stmt} {b:Code} {pos pos':Pos} (h:Goes p w n₀ ann b q c (execs l env) s pos .next s' pos')
  (k:topRun K3 p w n₀ ann N s' (restOf rest env b pos' [topFrame q])=some r) :∃M,M<=c + 1 + N/\topRun K3 p w n₀ ann M s (restOf (l++rest) env b pos [topFrame q])=some r:=by
 obtain ⟨n,a,g⟩:=Goes.seg h;exact ⟨n + N,by omega,piece_app g k⟩
end TJ
open PySem PySem.Spec PyProof.Rows
namespace L2
noncomputable abbrev fnX (x q:Str) (s:Stmt) (m:Str) (k c:Nat):FuncData:=o6 x q (z9g s) (z7k s) (z06 s) .none .none .none (.str m k) none (.ref c) .none
noncomputable abbrev fY (x q:Str) (s:Stmt):=fnX x q s "law_talejudge_k63_no_strictness" 867
noncomputable abbrev fO (x q:Str) (s:Stmt) (m:Str) (k c:Nat):Obj:=⟨.type "function",none,.func (fnX x q s m k c),#[]⟩
noncomputable abbrev fL (x q:Str) (s:Stmt):=fO x q s "law_talejudge_k63_no_strictness" 867
noncomputable abbrev cO (x q:Str) (i l n a j:Nat):Obj:=
 ⟨.type "code",none,.fields #[.str x i,.str q (i + 1),.str "/claim/cut.py" (i + 2),.int l 0,.int n 0,.int 0 0,.int 0 0,.int 3 0,.ref a,.bool true,.int 181 0,.ref (a + 1),.none,.ref (a + 2),.ref (a + 3),.ref (a + 4),.int j 0,.int l 0,.str "/claim/cut.py" (j + 1)],#[]⟩
noncomputable abbrev cP (x q:Str) (i l n a j:Nat):Obj:=
 ⟨.type "code",none,.fields #[.str x i,.str q (i + 1),.str "/claim/cut.py" (i + 2),.int l 0,.int n 0,.int 0 0,.int 0 0,.int 3 0,.ref a,.bool true,.int 181 0,.ref (a + 1),.none,.none,.none,.ref (a + 2),.int j 0,.int l 0,.str "/claim/cut.py" (j + 1)],#[]⟩
abbrev kR (P:U0) (x:Str) (i a:Nat):DictEntry:=⟨d0 P x,.str x i,.ref a⟩
section
variable {P:Program} {w:V0} {K:c0} {mg:Str->Option Value} {base:Heap} {x q:Str} {st:Stmt} {f:Addr} {fd:FuncData} {k:Nat} {ps:List Str} {sp:Sp}
theorem z0e {m:Str} {i c:Nat} (l:K.lookup f=some (fO x q st m i c):=by kernel_rfl) (hc:Y8 K (.ref c) q=true:=by kernel_rfl) (hk:M3 K (.ref f)=true:=by kernel_rfl):Fun K x q st f (fnX x q st m i c):=fun_mk l hc hk
theorem cal_mk (T:TX K mg) (F:Fun K x q st f fd) (g:m6 K m3 x=some (some (.ref f))) (b:Binds K fd ps []) (G:FnOk P w K mg base CX0 k f fd ps sp):Cal P w K mg base x ps k sp:=⟨⟨f,fd,G,T.of g,F.kp,b⟩⟩
theorem zlu (T:TX K mg) (F:Fun K x q st f fd) (g:m6 K m3 x=some (some (.ref f))) (b:Binds K fd ps []) (G:FnOk P w K mg base (CXE P w base) k f fd ps sp):CalE P w K mg base x ps k sp:=⟨⟨f,fd,G,T.of g,F.kp,b⟩⟩
end
section
variable {p:List Value->Prop}
theorem us1 (h :∀a,p [a]) :∀us:List Value,us.length=1->p us | [a],_=>h a
theorem us2 (h :∀a b,p [a,b]) :∀us:List Value,us.length=2->p us | [a,b],_=>h a b
theorem us3 (h :∀a b c,p [a,b,c]) :∀us:List Value,us.length=3->p us | [a,b,c],_=>h a b c
theorem us4 (h :∀a b c d,p [a,b,c,d]) :∀us:List Value,us.length=4->p us | [a,b,c,d],_=>h a b c d
theorem us6 (h :∀a b c d e f,p [a,b,c,d,e,f]) :∀us:List Value,us.length=6->p us | [a,b,c,d,e,f],_=>h a b c d e f
end
end L2
set_option maxHeartbeats 1000000
namespace L2
open PySem PySem.Spec PyProof.Rows
mutual
def keyD:PyData->Bool
 | .int _=>true
 | .str _=>false
 | .tuple xs=>keyDs xs
 | .none=>false
 | .bool _=>false
 | .list _=>false
 | .dict _=>false
def keyDs:List PyData->Bool
 | []=>true
 | x :: xs=>keyD x && keyDs xs
end
mutual
def hashD:PyData->Int
 | .int i=>hashInt i
 | .str _=>0
 | .tuple xs=>N1 (o0 (hashDs xs))
 | .none=>0
 | .bool _=>0
 | .list _=>0
 | .dict _=>0
def hashDs:List PyData->List Int
 | []=>[]
 | x :: xs=>hashD x :: hashDs xs
end
mutual
def drawD:PyData->Nat
 | .tuple xs=>drawDs xs + 1
 | .int _=>1
 | .str _=>1
 | .none=>1
 | .bool _=>1
 | .list _=>1
 | .dict _=>1
def drawDs:List PyData->Nat
 | []=>0
 | x :: xs=>drawD x + drawDs xs
end
mutual
theorem z6w {h h':Heap} (k :∀b o vs n,h.get? b=some o->o.cls=.type "tuple"->o.data=.seq vs n->h'.get? b=some o) :∀(d:PyData) (v:Value) (as:List Addr),keyD d=true->Reads h v d as->Reads h' v d as
 | .int i,v,as,_,r=>by cases r;exact .int _ _
 | .str _,_,_,hk,_=>by cases hk
 | .tuple xs,v,as,hk,r=>by
  cases r with
  | tuple e c d r=>exact .tuple (k _ _ _ _ e c d) c d (zd7 k xs _ _ hk r)
 | .none,_,_,hk,_=>by cases hk
 | .bool _,_,_,hk,_=>by cases hk
 | .list _,_,_,hk,_=>by cases hk
 | .dict _,_,_,hk,_=>by cases hk
theorem zd7 {h h':Heap} (k :∀b o vs n,h.get? b=some o->o.cls=.type "tuple"->o.data=.seq vs n->h'.get? b=some o) :∀(ds:List PyData) (vs:List Value) (as:List Addr),keyDs ds=true->K7 h vs ds as->K7 h' vs ds as
 | [],_,_,_,r=>by cases r;exact .nil
 | d :: ds,_,_,c,r=>by
  have c:=Bool.and_eq_true_iff.mp (show (keyD d && keyDs ds)=true from c);cases r with
  | cons a r=>exact .cons (z6w k d _ _ c.1 a) (zd7 k ds _ _ c.2 r)
end
mutual
theorem z2y :∀d:PyData,keyD d=true->plainP d=true
 | .int _,_=>rfl
 | .str _,hk=>by cases hk
 | .tuple xs,h=>za2 xs h
 | .none,hk=>by cases hk
 | .bool _,hk=>by cases hk
 | .list _,hk=>by cases hk
 | .dict _,hk=>by cases hk
theorem za2 :∀ds:List PyData,keyDs ds=true->z14 ds=true
 | [],_=>rfl
 | d :: ds,a=>by have a:=Bool.and_eq_true_iff.mp (show (keyD d && keyDs ds)=true from a);show (plainP d && z14 ds)=true;rw [z2y d a.1,za2 ds a.2];rfl
end
mutual
theorem z60 :∀d:PyData,keyD d=true->d.canLay0=true
 | .int _,_=>rfl
 | .str _,hk=>by cases hk
 | .tuple xs,h=>zeq xs h
 | .none,hk=>by cases hk
 | .bool _,hk=>by cases hk
 | .list _,hk=>by cases hk
 | .dict _,hk=>by cases hk
theorem zeq :∀ds:List PyData,keyDs ds=true->y6 ds=true
 | [],_=>rfl
 | d :: ds,a=>by have a:=Bool.and_eq_true_iff.mp (show (keyD d && keyDs ds)=true from a);show (d.canLay0 && y6 ds)=true;rw [z60 d a.1,zeq ds a.2];rfl
end
section
variable {prog:Program} {w:V0} {E:Value->t0->Prop}
mutual
theorem zf4 :∀(d:PyData) (v:Value) (as:List Addr) (A:U1) (s:t0) (Q:Int->t0->Prop),keyD d=true->Reads s.heap v d as->A.units + d.depth < cLine->Q (hashD d) { s with toks:=s.toks + drawD d }->O0 (j1 prog w) A (pyHash v) Q E s
 | .int i,v,as,A,s,Q,_,r,_,q=>by cases r;exact wpAny_pyHash_int q
 | .str _,_,_,_,_,_,hk,_,_,_=>by cases hk
 | .tuple xs,v,as,A,s,Q,hk,r,b,q=>by
  cases r with
  | @tuple a o vs n _ _ e c d r=>
   have b:A.units + (Q1 xs + 1) < cLine:=b;have ty:s.TypeIs (.ref a) "tuple":=⟨o,e,c⟩
   refine W.pyHash_slot (v:=.ref a) ty F.slot_tuple_hash F.entry_tuple_hash (F.args_tuple_hash_1 _) rfl (.inr (by omega)) ?_;refine j0 (D0 ?_);refine j0 (j1i e d ?_);refine j0 ?_;rw [<-Array.forIn_toList];refine zac xs vs.toList _ #[] A.in1 s _ hk r (show A.units + 1 + Q1 xs < cLine by omega) ?_;refine j0 (wpAny_mkInt (D0 ⟨_,_,rfl,?_⟩));simpa [hashD,drawD,j05] using q
 | .none,_,_,_,_,_,hk,_,_,_=>by cases hk
 | .bool _,_,_,_,_,_,hk,_,_,_=>by cases hk
 | .list _,_,_,_,_,_,hk,_,_,_=>by cases hk
 | .dict _,_,_,_,_,_,hk,_,_,_=>by cases hk
theorem zac :∀(ds:List PyData) (vs:List Value) (as:List Addr) (hs:Array Int) (A:U1) (s:t0) (Q:Array Int->t0->Prop),keyDs ds=true->K7 s.heap vs ds as->A.units + Q1 ds < cLine->Q (hs++(hashDs ds).toArray) { s with toks:=s.toks + drawDs ds }->
  O0 (j1 prog w) A (j0d vs hs λ x hs=>do let h <-pyHash x;d3 (F2 (hs.push h))) Q E s
 | [],_,_,hs,A,s,Q,_,r,_,q=>by cases r;rw [A4];exact D0 (by simpa [hashDs,drawDs] using q)
 | d :: ds,_,_,hs,A,s,Q,b,r,c,q=>by
  have b:=Bool.and_eq_true_iff.mp (show (keyD d && keyDs ds)=true from b);have c:A.units + max d.depth (Q1 ds) < cLine:=c;cases r with
  | @cons v vs _ _ as bs a r=>rw [F4];refine j0 (j0 (zf4 d v as A s _ b.1 a (by omega) (D0 ?_)));refine zac ds vs bs (hs.push (hashD d)) A { s with toks:=s.toks + drawD d } Q b.2 r (by omega) ?_;simpa [hashDs,drawDs,j05] using q
end
theorem zh3 {a:Addr} {n:Nat} {o:Obj} {vs:Array Value} {m:Nat} {A:U1} {s:t0} {Q:Bool->t0->Prop} (e:s.heap.get? a=some o) (c:o.cls=.type "tuple") (d:o.data=.seq vs m)
  (h:O0 (j1 prog w) A (j0d vs.toList ((none:Option Bool),()) λ y _=>do
    let b <-K4 n y
    if (!b)=true then d3 (E8 (some false,())) else d3 (F2 (none,())))
   (λ r s'=>r.1=none/\Q true s') E s):O0 (j1 prog w) A (K4 (n + 1) (.ref a)) Q E s:=by
 rw [eqIsQuiet.eq_2];have ty:s.TypeIs (.ref a) "tuple":=⟨o,e,c⟩
 refine j0 (j3f (r:=some (.builtin "tuple.__eq__")) ty (by rfl) ?_);refine j0 (X4 (T:="tuple") ty isSubtype_tuple_tuple ?_);simp only [j8,Y3,if_false];refine j0 (u4 e d (j0 ?_));show O0 _ _ (j0d vs _ _) _ _ _;rw [<-Array.forIn_toList];refine X2 h (λ r s' h=>?_) (λ _ _ h=>h);obtain ⟨i,j⟩:=r;obtain ⟨g,f⟩:=h;cases (show i=none from g);exact D0 f
mutual
theorem zdk :∀(d:PyData) (v:Value) (as:List Addr) (n:Nat) (A:U1) (s:t0) (Q:Bool->t0->Prop),keyD d=true->Reads s.heap v d as->d.depth<=n->Q true s->O0 (j1 prog w) A (K4 n v) Q E s
 | .int i,v,as,n,A,s,Q,_,r,_,q=>by cases r;rw [eqIsQuiet.eq_3];exact D0 q;intro a h;cases h
 | .str _,_,_,_,_,_,_,hk,_,_,_=>by cases hk
 | .tuple xs,v,as,n,A,s,Q,hk,r,b,q=>by
  cases r with
  | @tuple a o vs m _ _ e c d r=>
   have b:Q1 xs + 1<=n:=b;obtain ⟨n,rfl⟩ :∃k,n=k + 1:=⟨n - 1,by omega⟩
   exact zh3 e c d (za3 xs vs.toList _ n A s _ hk r (by omega) ⟨rfl,q⟩)
 | .none,_,_,_,_,_,_,hk,_,_,_=>by cases hk
 | .bool _,_,_,_,_,_,_,hk,_,_,_=>by cases hk
 | .list _,_,_,_,_,_,_,hk,_,_,_=>by cases hk
 | .dict _,_,_,_,_,_,_,hk,_,_,_=>by cases hk
theorem za3 :∀(ds:List PyData) (vs:List Value) (as:List Addr) (n:Nat) (A:U1) (s:t0) (Q:Option Bool×Unit->t0->Prop),keyDs ds=true->K7 s.heap vs ds as->Q1 ds<=n->Q (none,()) s->
  O0 (j1 prog w) A (j0d vs ((none:Option Bool),()) λ y _=>do
    let b <-K4 n y
    if (!b)=true then d3 (E8 (some false,())) else d3 (F2 (none,()))) Q E s
 | [],_,_,n,A,s,Q,_,r,_,q=>by cases r;rw [A4];exact D0 q
 | d :: ds,_,_,n,A,s,Q,c,r,e,q=>by
  have c:=Bool.and_eq_true_iff.mp (show (keyD d && keyDs ds)=true from c);have e:max d.depth (Q1 ds)<=n:=e;cases r with
  | @cons v vs _ _ as bs a r=>rw [F4];refine j0 (j0 (zdk d v as n A s _ c.1 a (by omega) ?_));exact D0 (za3 ds vs bs n A s Q c.2 r (by omega) q)
end
end
open Classical in
noncomputable instance:DecidableEq PyData:=λ a b=>Classical.propDecidable (a=b)
noncomputable def z12 (prog:Program) (w:V0):HeapKind prog w PyData where
 is h d a:=keyD d=true/\d.depth<=7/\∃as,Reads h (.ref a) d as
 hash:=hashD
 draws:=drawD
 room A:=A.units + 8 < cLine
 inj:=λ {h a x y} hx hy=>by obtain ⟨kx,_,as,rx⟩:=hx;obtain ⟨_,_,bs,ry⟩:=hy;exact SeqAt.Reads.unique x y _ as bs (z60 x kx) rx ry
 keeps:=λ {h h' k a d o es ep} hk e hd sb=>by
  obtain ⟨k1,k2,as,r⟩:=hk;refine ⟨k1,k2,as,z6w (λ b o' vs n eb _ eo=>?_) k _ as k1 r⟩;have nb:b≠d:=λ z=>by rw [z,e] at eb;cases eb;rw [hd] at eo;cases eo
  rw [sb.2 b nb];exact eb
 pyHash:=λ {A E s k a Q} hr hk q=>by obtain ⟨k1,k2,as,r⟩:=hk;exact zf4 k _ as A s Q k1 r (by omega) q
 eqBool:=λ {A E s x y a b Q} hr hx hy q=>by obtain ⟨x1,x2,as,rx⟩:=hx;obtain ⟨y1,y2,bs,ry⟩:=hy;refine j16 x y A s _ _ as bs rx ry (z60 x x1) (z60 y y1) (by have:=j9 x.depth y.depth;omega) prog w E Q ?_;rw [zfp (p:=x=y) (z2y x x1) (z2y y y1) Iff.rfl];exact q
 quiet:=λ {A E s k a Q} hk q=>by obtain ⟨k1,k2,as,r⟩:=hk;exact zdk k _ as 8 A s Q k1 r (by omega) q
section
variable {prog:Program} {w:V0} {A:U1} {E:Value->t0->Prop} {s:t0}
def DcAt (h:Heap) (d:Addr) (es:Array DictEntry) (ep:Nat):Prop:=∃o,h.get? d=some o/\o.ExactDict/\o.data=.dict es ep
theorem zk3 {d:Addr} {es:Array DictEntry} {ep:Nat} {Q:Value->t0->Prop} (hd:(d == L3)=false) (h:DcAt s.heap d es ep)
  (q:Q (.ref s.heap.objs.size) { s with heap:=s.heap.push { cls:=.type "dict_keyiterator",data:=.fields #[.ref d,.int 0 0,.int es.size 0,.int ep 0] } }):O0 (j1 prog w) A (pyIter (.ref d)) Q E s:=by
 obtain ⟨o,a,⟨i,k,j⟩,c⟩:=h;have b:s.TypeIs (.ref d) "dict":=⟨o,a,i⟩
 refine wpAny_pyIter_slot b F.slot_dict_iter (P2 F.slot_dict_iter b F.entry_dict_iter ?_ (F.args_dict_iter_1 _));unfold i6.«dict.__iter__»;refine j0 (show O0 _ _ (F7 "__iter__" ⟨[.ref d],[]⟩ >>= _) _ _ _ from j0 ?_);have g:O0 (j1 prog w) A.in1 (F7 "__iter__" ⟨[.ref d],[]⟩) (λ _ f=>f=s) E s:=by unfold F7;rw [if_pos (by decide +kernel)];refine j0 (n5 b ?_);rw [if_neg (by decide)];exact D0 rfl
 refine X2 g (λ _ f e=>?_) λ _ _ z=>z;subst e;refine (show O0 _ _ (d3 (Value.ref d)) _ _ _ from D0 ?_);refine (show O0 _ _ (d3 d >>= _) _ _ _ from j0 (D0 ?_));refine j0 ?_;unfold Builtin.Dict.showsAll;rw [if_neg (by rw [hd];decide)];refine D0 (j0 (j28 a c (j0 (j3g a c ?_))));refine j0 (F3 ?_ (by size_fits));refine D0 ⟨_,rfl,"dict_keyiterator",_,⟨_,P0 _ rfl,rfl⟩,F.slot_dict_keyiterator_next.lookup,q⟩
theorem zk4 {it d:Addr} {es:Array DictEntry} {ep i:Nat} {e:DictEntry} {Q:Option Value->t0->Prop} (hi:s.heap.IsKeyIter it d i es.size ep) (h:DcAt s.heap d es ep) (he:es[i]? = some e)
  (q :∀h',h'.IsKeyIter it d (i + 1) es.size ep->S5 it s.heap h'->Q (some e.key) { s with heap:=h' }):O0 (j1 prog w) A (n8 (.ref it)) Q E s:=by
 have a:=hi.typeIs;obtain ⟨x,f,p,g⟩:=hi;obtain ⟨o,m,C,l⟩:=h;obtain ⟨y,B,r,z⟩:=x;cases (show y=_ from p);cases (show r=_ from g);unfold n8;refine j0 (A6 (i3 (name:=u3 "__next__") a A5 (P2 A5 a j2h ?_ (j2b _))));unfold i6.«dict_keyiterator.__next__»;refine (show O0 _ _ (G9 "__next__" ⟨[.ref it],[]⟩ >>= _) _ _ _ from j0 ?_);refine (show O0 _ _ (d3 (Value.ref it)) _ _ _ from D0 ?_);refine j0 ?_;refine (show O0 _ _ ((W9 (.ref it) >>= _) >>= _) _ _ _ from j0 (j0 (c5 a (D0 ?_))));have n:(if R8 "dict_keyiterator" = true then 2 else 0)=0:=if_neg (by decide +kernel);rw [n];refine j0 (wpAny_fieldsOf f g ?_);show O0 _ _ (if (Value.ref d == K2)=true then _ else _) _ _ _;rw [if_neg (by simp)];refine (show O0 _ _ (d3 d >>= _) _ _ _ from j0 (D0 ?_));refine j0 (j28 m l ?_);rw [if_neg (by simp)];refine (show O0 _ _ (d3 d >>= _) _ _ _ from j0 (D0 ?_));refine j0 (j3g m l ?_);rw [if_neg (by simp)];refine D0 ?_;dsimp only;rw [if_neg (by omega),F6,he];dsimp only;refine j0 (show O0 _ _ (W9 (.ref it) >>= _) _ _ _ from j0 (c5 a (D0 ?_)));rw [n];refine j0 (wpAny_isOneOf_keyiter a ?_);refine j0 (j0b f g (by simp) ?_);have k:(s.heap.update it (j41 (·.setIfInBounds 1 (M9 ((i:Int) + 1))))).IsKeyIter it d (i + 1) es.size ep:=by refine ⟨_,o9 _ f rfl,rfl,?_⟩;simp [j41,M9]
 have key :∀b:Bool,b=false->O0 (j1 prog w) A.in1 (j0j [e.key,e.val] (do
   let c <-u9 (.ref it) ["dict_keyiterator","dict_reversekeyiterator"]
   if c=true then d3 e.key else do
    let c <-u9 (.ref it) ["dict_valueiterator","dict_reversevalueiterator"]
    if c=true then d3 e.val else Builtin.Dict_items.pairFromOwner (.ref it) 6 e.key e.val) >>= λ v=>ret v)
   (λ t j=>∃v,t=Fin.done (Flow.ret v)/\O0 (j1 prog w) A (d3 (some v)) Q E j)
   (λ e j=>O0 (j1 prog w) A (do if <-o8 e (.type "StopIteration") then d3 none else throw e) Q E j)
   { s with heap:=s.heap.update it (j41 (·.setIfInBounds 1 (M9 (if b=true then (i:Int) - 1 else (i:Int) + 1)))) }:=λ b u=>by
  subst u;refine j0 (A3 (j0 (wpAny_isOneOf_keyiter k.typeIs ?_)));rw [if_pos (by decide +kernel)];exact D0 (D0 ⟨_,rfl,D0 (q _ k (d5 ..))⟩)
 exact key _ (by decide +kernel)
theorem ki_end {it d:Addr} {es:Array DictEntry} {ep i:Nat} {Q:Option Value->t0->Prop} (hh:A.handled=none) (hi:s.heap.IsKeyIter it d i es.size ep) (h:DcAt s.heap d es ep) (he:es[i]? = none)
  (q :∀h',E9 it s.heap h'->Q none { s with heap:=h' }):O0 (j1 prog w) A (n8 (.ref it)) Q E s:=by
 have a:=hi.typeIs;obtain ⟨p,g,n,c⟩:=hi;obtain ⟨o,f,r,j⟩:=h;unfold n8;refine j0 (A6 (i3 (name:=u3 "__next__") a A5 (P2 A5 a j2h ?_ (j2b _))));unfold i6.«dict_keyiterator.__next__»;refine (show O0 _ _ (G9 "__next__" ⟨[.ref it],[]⟩ >>= _) _ _ _ from j0 ?_);refine (show O0 _ _ (d3 (Value.ref it)) _ _ _ from D0 ?_);refine j0 ?_;refine (show O0 _ _ ((W9 (.ref it) >>= _) >>= _) _ _ _ from j0 (j0 (c5 a (D0 ?_))));have l:(if R8 "dict_keyiterator" = true then 2 else 0)=0:=if_neg (by decide +kernel);rw [l];refine j0 (wpAny_fieldsOf g c ?_);show O0 _ _ (if (Value.ref d == K2)=true then _ else _) _ _ _;rw [if_neg (by simp)];refine (show O0 _ _ (d3 d >>= _) _ _ _ from j0 (D0 ?_));refine j0 (j28 f j ?_);rw [if_neg (by simp)];refine (show O0 _ _ (d3 d >>= _) _ _ _ from j0 (D0 ?_));refine j0 (j3g f j ?_);rw [if_neg (by simp)];refine D0 ?_;dsimp only;rw [if_neg (by omega),F6,he];dsimp only;refine j0 (show O0 _ _ (W9 (.ref it) >>= _) _ _ _ from j0 (c5 a (D0 ?_)));rw [l];refine j0 (j0b g c (by simp) ?_);refine stops hh λ h' k=>q h' ?_;exact λ b o m e=>k b o (((d5 ..).2 b m).trans e)
theorem zkl {A:U1} (hh:A.handled=none) (I d:Addr) (nd:d≠I) (es:Array DictEntry) (ep:Nat):Walks prog w A I [I,d] [I] es.size (λ i v=>∃e,es[i]? = some e/\v=e.key) (λ i h=>h.IsKeyIter I d i es.size ep/\DcAt h d es ep) where
 sub:=λ b n=>by rw [List.mem_singleton.mp n];exact F1
 frame:=λ i h a ⟨h1,o,h2,c⟩ k=>⟨h1.at (k I F1),o,k d (by simp) o h2,c⟩
 item:=λ i s Q E j ⟨h1,h2⟩ q=>by
  refine zk4 h1 h2 (E2 j) λ a g l=>q _ a _ ⟨_,E2 j,rfl⟩ ⟨g,?_⟩ λ b o f e=>?_
  ·obtain ⟨o,c,m⟩:=h2;exact ⟨o,(l.2 d nd).trans c,m⟩
  ·exact (l.2 b (λ z=>f (by rw [z];exact List.mem_singleton.mpr rfl))).trans e
 done:=λ s Q E ⟨h1,h2⟩ q=>ki_end hh h1 h2 (F8 (B0 _)) λ a k=>q a _ λ b o f e=>k b o (λ z=>f (by rw [z];exact List.mem_singleton.mpr rfl)) e
 self:=λ i s Q E ⟨h1,_⟩ q=>wpAny_pyIter_keyiter h1 q
theorem zm9 {r:Addr} {Q:Bool->t0->Prop} (hT:s.TypeIs (.ref r) "dict") (h:Q false s):O0 (j1 prog w) A (j04 (.ref r)) Q E s:=by unfold j04;refine j0 (j3f hT PySem.F.slot_dict_len.lookup ?_);generalize hid:("dict.__len__" : String)=id0;wp_delta;rw [show splitId id0=some ("dict","__len__") from by subst hid;decide +kernel];subst hid;refine j0 (X4 (T:="dict") (b:=true) hT (by rfl) ?_);refine wpAny_ite_split (λ a=>absurd a (by decide)) (λ _=>wpAny_ite_split (λ _=>?_) (λ a=>absurd (by decide +kernel) a));exact j0 (n5 hT (D0 h))
theorem kdl_dc {d:Addr} {es:Array DictEntry} {ep:Nat} (hd:(d == L3)=false):W.KdlSrc prog w "dict" d d es.size (λ i v=>∃e,es[i]? = some e/\v=e.key) (λ h=>DcAt h d es ep) where
 type:=λ s ⟨o,a,b,_⟩=>⟨o,a,b.1⟩
 there:=λ h ⟨o,a,_⟩=>⟨M0 a,M0 a⟩
 keep:=λ h c ⟨o,a,b⟩ k=>⟨o,k d (.inl rfl) o a,b⟩
 notList:=by decide
 notTuple:=by decide
 hint:=λ A E s Q ⟨o,a,b,_⟩ q=>zm9 ⟨o,a,b.1⟩ q
 iter:=λ A s f h=>by
  refine ⟨{ cls:=.type "dict_keyiterator",data:=.fields #[.ref d,.int 0 0,.int es.size 0,.int ep 0] },λ i c=>c.IsKeyIter s.heap.objs.size d i es.size ep/\DcAt c d es ep,λ E Q q=>zk3 hd h q,zkl f _ d ?_ es ep,⟨_,P0 _ rfl,rfl,rfl⟩,?_⟩
  ·obtain ⟨o,a,_⟩:=h;exact Z0 (M0 a)
  ·obtain ⟨o,a,b⟩:=h;exact ⟨o,C0 _ a,b⟩
end
def KasOk {α:Type} (n:Nat):r6 α->(α->Prop)->Prop
 | .ret a,Q=>Q a
 | .ask i j k,Q=>i < n/\j < n/\i≠j/\∀b,KasOk n (k b) Q
theorem KasOk.run {α:Type} {n:Nat} {Q:α->Prop} (c:Nat->Nat->Bool) :∀{t:r6 α},KasOk n t Q->∃a,kasRun c n t=some a/\Q a
 | .ret a,h=>⟨a,rfl,h⟩
 | .ask i j k,⟨h1,h2,h3,h4⟩=>by unfold kasRun;rw [if_pos ⟨h1,h2,h3⟩];exact (h4 (c i j)).run c
theorem KasOk.mono {α:Type} {n:Nat} {Q R:α->Prop} (f :∀a,Q a->R a) :∀{t:r6 α},KasOk n t Q->KasOk n t R
 | .ret a,h=>f a h
 | .ask i j k,⟨h1,h2,h3,h4⟩=>⟨h1,h2,h3,λ b=>(h4 b).mono f⟩
theorem KasOk.bind {α β:Type} {n:Nat} {Q:β->Prop} {f:α->r6 β} :∀{t:r6 α},KasOk n t (λ a=>KasOk n (f a) Q)->KasOk n (t.bind f) Q
 | .ret a,h=>by rw [PySem.W.KasT.bind.eq_def];exact h
 | .ask i j k,⟨h1,h2,h3,h4⟩=>by rw [PySem.W.KasT.bind.eq_def];exact ⟨h1,h2,h3,λ b=>KasOk.bind (h4 b)⟩
def PmA (n:Nat) (p:Array Nat):Prop:=p.toList.Perm (K1 n)
theorem zjd {n i j:Nat} {p:Array Nat} (h:PmA n p):PmA n (p.swapIfInBounds i j):=by
 rw [Array.swapIfInBounds_def];split
 ·split
  ·exact (Array.perm_iff_toList_perm.mp (Array.swap_perm _ _)).trans h
  ·exact h
 ·exact h
theorem zha {n:Nat} {f:Array Nat->Nat->Array Nat} (hf :∀p k,PmA n p->PmA n (f p k)) :∀(l:List Nat) (p:Array Nat),PmA n p->PmA n (l.foldl f p)
 | [],p,h=>h
 | k :: l,p,h=>zha hf l (f p k) (hf p k h)
theorem rev_pm {n i j:Nat} {p:Array Nat} (h:PmA n p):PmA n (j18 p i j):=by unfold j18;rw [mirror.eq_def];exact zha (λ _ _ h=>zjd h) _ _ h
theorem zib {n i j:Nat} {p:Array Nat} (h:PmA n p):PmA n (bubble p i j):=by rw [bubble.eq_def];exact zha (λ _ _ h=>zjd h) _ _ h
theorem PmA.size {n:Nat} {p:Array Nat} (h:PmA n p):p.size=n:=by
 have:=h.length_eq
 rwa [j2,G2] at this
theorem PmA.at {n i:Nat} {p:Array Nat} (h:PmA n p) (hi:i < n):p.getD i 0 < n:=by
 have a:i < p.size:=by rw [h.size];exact hi
 rw [B7,E2 a];exact List.mem_range.mp (h.mem_iff.mp (Array.getElem_mem_toList a))
theorem PmA.ne {n i j:Nat} {p:Array Nat} (h:PmA n p) (hi:i < n) (hj:j < n) (e:i≠j):p.getD i 0≠p.getD j 0:=by
 have b:i < p.size:=by rw [h.size];exact hi
 have a:j < p.size:=by rw [h.size];exact hj
 have c:p.toList.Nodup:=h.nodup_iff.mpr List.nodup_range;rw [B7,E2 b,B7,E2 a];intro z;have z:p[i]=p[j]:=z;exact e ((j1e (h₀:=by simpa using b) (h₁:=by simpa using a) c).mp (by simpa using z))
theorem asc_ok {n:Nat} {p:Array Nat} (h:PmA n p) :∀(f i:Nat),1<=i->i + f<=n->KasOk n (PySem.W.kas_asc p f i) (λ m=>i<=m/\m<=i + f)
 | 0,i,_,_=>by rw [PySem.W.kas_asc.eq_def];exact ⟨B0 _,B0 _⟩
 | f + 1,i,h1,h2=>by
  rw [PySem.W.kas_asc.eq_def];refine ⟨h.at (by omega),h.at (by omega),h.ne (by omega) (by omega) (by omega),λ b=>?_⟩;cases b with
  | true=>exact ⟨B0 _,by omega⟩
  | false=>exact (asc_ok h f (i + 1) (by omega) (by omega)).mono λ m a=>⟨by omega,by omega⟩
theorem zkk {n m:Nat} {p:Array Nat} (h:PmA n p) (h1:1<=m) (h2:m<=n):KasOk n (PySem.W.kas_tail3 m n p) (λ r=>1<=r.1/\r.1<=n/\PmA n r.2):=by rw [PySem.W.kas_tail3.eq_def];exact KasOk.bind ((asc_ok (rev_pm h) (n - m) m h1 (by omega)).mono λ k a=>⟨by omega,by omega,rev_pm h⟩)
theorem zdb {n:Nat} :∀(f:Nat) (p:Array Nat) (i q:Nat),PmA n p->1<=i->i + f<=n->KasOk n (j0g f p i q) (λ r=>PmA n r.1/\1<=r.2.1/\r.2.1<=n)
 | 0,p,i,q,h,h1,h2=>by rw [PySem.W.kas_desc.eq_def];exact ⟨h,h1,show i<=n by omega⟩
 | f + 1,p,i,q,h,h1,h2=>by
  rw [PySem.W.kas_desc.eq_def];refine ⟨h.at (by omega),h.at (by omega),h.ne (by omega) (by omega) (by omega),λ b=>?_⟩;cases b with
  | true=>
   show KasOk n (if q > 0 then j0g f (j18 p (i - (q + 1)) i) (i + 1) 0 else j0g f p (i + 1) 0) _;by_cases z:q > 0
   ·rw [if_pos z];exact zdb f _ _ _ (rev_pm h) (by omega) (by omega)
   ·rw [if_neg z];exact zdb f _ _ _ h (by omega) (by omega)
  | false=>
   refine ⟨h.at (by omega),h.at (by omega),h.ne (by omega) (by omega) (by omega),λ b=>?_⟩;cases b with
   | true=>exact ⟨h,h1,show i<=n by omega⟩
   | false=>exact zdb f _ _ _ h (by omega) (by omega)
theorem z84 {n m:Nat} {p:Array Nat} (h:PmA n p) (h2:m + 1<=n):KasOk n (PySem.W.kas_descPart m n p) (λ r=>1<=r.1/\r.1<=n/\PmA n r.2):=by
 rw [PySem.W.kas_descPart.eq_def];refine KasOk.bind ((zdb (n - (m + 1)) p (m + 1) 0 h (by omega) (by omega)).mono λ r a=>?_);show KasOk n (if r.2.2 > 0 then _ else _) _;by_cases z:r.2.2 > 0
 ·rw [if_pos z];exact zkk (rev_pm a.1) a.2.1 a.2.2
 ·rw [if_neg z];exact zkk a.1 a.2.1 a.2.2
theorem zkq {n:Nat} {p:Array Nat} (h:PmA n p) (h2:2<=n):KasOk n (PySem.W.kas_count n p) (λ r=>1<=r.1/\r.1<=n/\PmA n r.2):=by
 rw [PySem.W.kas_count.eq_def];refine KasOk.bind ((asc_ok h (n - 1) 1 (B0 _) (by omega)).mono λ m a=>?_);show KasOk n (if (m == n)=true then _ else _) _;by_cases z:(m == n)=true
 ·rw [if_pos z];exact ⟨a.1,by omega,h⟩
 ·rw [if_neg z];have c:m≠n:=λ e=>z (by rw [e];exact beq_self_eq_true _);show KasOk n (if m > 1 then _ else _) _;by_cases y:m > 1
  ·rw [if_pos y];refine ⟨h.at (by omega),h.at (by omega),h.ne (by omega) (by omega) (by omega),λ b=>?_⟩;cases b with
   | true=>exact ⟨a.1,by omega,h⟩
   | false=>exact z84 (rev_pm h) (by omega)
  ·rw [if_neg y];exact z84 h (by omega)
theorem zb4 {n k:Nat} {p:Array Nat} (h:PmA n p) (hk:k < n) :∀(f l r:Nat),r<=k->KasOk n (PySem.W.kas_place p k f l r) (λ _=>True)
 | 0,l,r,_=>by rw [PySem.W.kas_place.eq_def];exact trivial
 | f + 1,l,r,hr=>by
  rw [PySem.W.kas_place.eq_def];show KasOk n (if l ≥ r then _ else _) _;by_cases z:l ≥ r
  ·rw [if_pos z];exact trivial
  ·rw [if_neg z];refine ⟨h.at hk,h.at (by omega),h.ne hk (by omega) (by omega),λ b=>?_⟩;cases b with
   | true=>exact zb4 h hk f l _ (by omega)
   | false=>exact zb4 h hk f _ r hr
theorem bin_ok {n:Nat} :∀(f:Nat) (p:Array Nat) (k:Nat),PmA n p->k + f<=n->KasOk n (PySem.W.kas_bin f p k) (PmA n)
 | 0,p,k,h,_=>by rw [PySem.W.kas_bin.eq_def];exact h
 | f + 1,p,k,h,hk=>by rw [PySem.W.kas_bin.eq_def];exact KasOk.bind ((zb4 h (by omega) k 0 k (B0 _)).mono λ l _=>bin_ok f _ (k + 1) (zib h) (by omega))
theorem zjw {n:Nat} (h2:2<=n):KasOk n (E6 n) (PmA n):=by
 unfold E6;have b:PmA n (K1 n).toArray:=List.Perm.refl _;refine KasOk.bind ((zkq b h2).mono λ r a=>?_);show KasOk n (if r.1 < n then _ else _) _;by_cases z:r.1 < n
 ·rw [if_pos z];exact bin_ok _ _ _ a.2.2 (by have:=a.1;omega)
 ·rw [if_neg z];exact a.2.2
mutual
noncomputable def ltD:PyData->PyData->Option Bool
 | .int i,e=>match e with
  | .int j=>some (decide (i < j))
  | _=>none
 | .tuple xs,e=>match e with
  | .tuple ys=>ltDs xs ys
  | _=>none
 | .none,_=>none
 | .bool _,_=>none
 | .str _,_=>none
 | .list _,_=>none
 | .dict _,_=>none
noncomputable def ltDs:List PyData->List PyData->Option Bool
 | [],ys=>some (decide (0 < ys.length))
 | x :: xs,ys=>match ys with
  | []=>some false
  | y :: ys=>if x=y then ltDs xs ys else ltD x y
end
theorem z1q {h:Heap} :∀{vs:List Value} {ds:List PyData} {as:List Addr},K7 h vs ds as->vs.length=ds.length
 | _,_,_,.nil=>rfl
 | _,_,_,.cons _ r=>by rw [X0,X0,z1q r]
section
variable {prog:Program} {w:V0} {E:Value->t0->Prop}
theorem int_lt {i j:Int} {a b:Tok} {A:U1} {s:t0} {R:Value->t0->Prop} (q:R (.bool (decide (i < j))) s):O0 (j1 prog w) A (j0c .Lt (.int i a) (.int j b)) R E s:=(show O0 _ _ (J2 .Lt _ _) _ _ _ from lt_int q)
theorem tup_lt {p p2:Addr} {o o2:Obj} {xs ys:Array Value} {n n2:Nat} {A:U1} {s:t0} {Q:Value->t0->Prop} (ho:s.heap.get? p=some o) (hc:o.cls=.type "tuple") (hd:o.data=.seq xs n) (ho2:s.heap.get? p2=some o2) (hc2:o2.cls=.type "tuple") (hd2:o2.data=.seq ys n2) (hu:A.units + 1 < cLine)
  (h:O0 (j1 prog w) A.in1 (j0d (xs.toList.zip ys.toList) ((none:Option E7),()) λ x _=>do
    let b <-eqBool x.fst x.snd
    if (!b)=true then do
     rule "tuple.compare.by-the-first-pair-that-differs"
     let r <-j0c CmpOp.Lt x.fst x.snd
     let r <-ret r
     d3 (E8 (some r,()))
    else d3 (F2 (none,()))) (λ r s'=>∃b,(r.1=some (Fin.done (Flow.ret (.bool b)))\/r.1=none/\b=decide (xs.size < ys.size))/\Q (.bool b) s') E s):O0 (j1 prog w) A (j0c .Lt (.ref p) (.ref p2)) Q E s:=by
 refine wpAny_richCompare_same_room (op:=.Lt) (T:="tuple") ⟨o,ho,hc⟩ ⟨o2,ho2,hc2⟩ F.slot_tuple_lt (P2 F.slot_tuple_lt ⟨o,ho,hc⟩ F.entry_tuple_lt ?_ (F.args_tuple_lt_2 _ _)) (by omega);refine (show O0 _ _ (o8 (.ref p2) (.type "tuple") >>= _) _ _ s from j0 (X4 (T:="tuple") ⟨o2,ho2,hc2⟩ isSubtype_tuple_tuple ?_));simp only [j8,Y3,if_false];refine j0 (j1i ho hd (j0 (j1i ho2 hd2 (j0 ?_))));refine X2 h (λ r s' c=>?_) λ _ _ z=>z;obtain ⟨r,⟨⟩⟩:=r;obtain ⟨b,a,q⟩:=c;rcases a with a|⟨a,rfl⟩
 ·cases (show r=_ from a);exact D0 ⟨_,rfl,(λ z=>nomatch z),q⟩
 ·cases (show r=_ from a);exact D0 ⟨_,rfl,(λ z=>nomatch z),q⟩
mutual
theorem lt_key :∀(d e:PyData) (v z:Value) (as bs:List Addr) (b:Bool) (A:U1) (s:t0) (Q:Value->t0->Prop),keyD d=true->keyD e=true->Reads s.heap v d as->Reads s.heap z e bs->ltD d e=some b->A.units + d.depth + 1 < cLine->Q (.bool b) s->O0 (j1 prog w) A (j0c .Lt v z) Q E s
 | .int i,e,v,z,as,bs,b,A,s,Q,_,_,r,r2,h,_,q=>by
  cases e with
  | int j=>cases r;cases r2;cases (show some (decide (i < j))=some b from h);exact int_lt q
  | _=>cases (show (none:Option Bool)=some b from h)
 | .tuple xs,e,v,z,as,bs,b,A,s,Q,hd,he,r,r2,h,c,q=>by
  cases e with
  | tuple ys=>
   cases r with
   | @tuple a o vs n _ _ h1 h2 h3 h4=>
    cases r2 with
    | @tuple a' o' vs' n' _ _ g1 g2 g3 g4=>have c:A.units + (Q1 xs + 1) + 1 < cLine:=c;refine tup_lt h1 h2 h3 g1 g2 g3 (by omega) ?_;have g:=z1q h4;have k:=z1q g4;refine zjn xs ys vs.toList vs'.toList _ _ b A.in1 s _ hd he h4 g4 h (show A.units + 1 + Q1 xs + 1 < cLine by omega) (λ r f=>⟨b,f.imp id (λ z=>⟨z.1,?_⟩),q⟩);rw [z.2,<-g,<-k,G2,G2]
  | _=>cases (show (none:Option Bool)=some b from h)
 | .none,_,_,_,_,_,_,_,_,_,hk,_,_,_,_,_,_=>by cases hk
 | .bool _,_,_,_,_,_,_,_,_,_,hk,_,_,_,_,_,_=>by cases hk
 | .str _,_,_,_,_,_,_,_,_,_,hk,_,_,_,_,_,_=>by cases hk
 | .list _,_,_,_,_,_,_,_,_,_,hk,_,_,_,_,_,_=>by cases hk
 | .dict _,_,_,_,_,_,_,_,_,_,hk,_,_,_,_,_,_=>by cases hk
theorem zjn :∀(ds es:List PyData) (vs us:List Value) (as bs:List Addr) (b:Bool) (A:U1) (s:t0) (R:Option E7×Unit->t0->Prop),keyDs ds=true->keyDs es=true->K7 s.heap vs ds as->K7 s.heap us es bs->ltDs ds es=some b->A.units + Q1 ds + 1 < cLine->
  (∀r,(r=some (Fin.done (Flow.ret (.bool b)))\/r=none/\b=decide (ds.length < es.length))->R (r,()) s)->
  O0 (j1 prog w) A (j0d (vs.zip us) ((none:Option E7),()) λ x _=>do
    let b <-eqBool x.fst x.snd
    if (!b)=true then do
     rule "tuple.compare.by-the-first-pair-that-differs"
     let r <-j0c CmpOp.Lt x.fst x.snd
     let r <-ret r
     d3 (E8 (some r,()))
    else d3 (F2 (none,()))) R E s
 | [],es,vs,us,as,bs,b,A,s,R,_,_,r,_,h,_,q=>by cases r;rw [List.zip_nil_left,A4];cases (show some (decide (0 < es.length))=some b from h);exact D0 (q none (.inr ⟨rfl,rfl⟩))
 | d :: ds,es,vs,us,as,bs,b,A,s,R,a,c,r,r2,h,f,q=>by
  cases es with
  | nil=>cases r2;rw [List.zip_nil_right,A4];cases (show some false=some b from h);exact D0 (q none (.inr ⟨rfl,rfl⟩))
  | cons e es=>
   have a:=Bool.and_eq_true_iff.mp (show (keyD d && keyDs ds)=true from a);have c:=Bool.and_eq_true_iff.mp (show (keyD e && keyDs es)=true from c);have f:A.units + max d.depth (Q1 ds) + 1 < cLine:=f;cases r with
   | @cons v vs _ _ as as' a1 a2=>
    cases r2 with
    | @cons u us _ _ bs bs' b1 b2=>
     have h:(if d=e then ltDs ds es else ltD d e)=some b:=h;rw [j06,F4];refine j0 (j0 (j16 d e A s v u as bs a1 b1 (z60 d a.1) (z60 e c.1) (by have:=j9 d.depth e.depth;omega) prog w E _ ?_));rw [zfp (p:=d=e) (z2y d a.1) (z2y e c.1) Iff.rfl];by_cases z:d=e
     ·rw [if_pos z] at h;rw [decide_eq_true z];simp only [j8,Y3,if_false];refine D0 (zjn ds es vs us as' bs' b A s R a.2 c.2 a2 b2 h (by omega) λ r g=>q r (g.imp id λ y=>⟨y.1,y.2.trans (by simp)⟩))
     ·rw [if_neg z] at h;rw [decide_eq_false z];simp only [Bool.not_false,if_true];exact j0 (m7 (j0 (lt_key d e v u as bs b A s _ a.1 c.1 a1 b1 h (by omega) (j0 (D0 (D0 (D0 (q _ (.inl rfl)))))))))
end
end
def nsE (k:PyData×Addr):DictEntry:={ hash:=hashD k.1,key:=.ref k.2,val:=.bool true }
def NsO (a:Addr) (ks:List (PyData×Addr)):HO:=.ext λ h=>(a == L3)=false/\ks.length<=sizeLine/\(ks.map (·.1)).Nodup/\∃ep,DcAt h a (ks.map nsE).toArray ep
def NsAt (K:c0) (H:Hp) (a:Addr) (ks:List (PyData×Addr)):Prop:=Rd H a (NsO a ks)/\∀k∈ks,keyD k.1=true/\k.1.depth<=7/\IsPd K H k.1 (.ref k.2)
noncomputable def putN (ks:List (PyData×Addr)) (d:PyData) (b:Addr):List (PyData×Addr):=if d∈ks.map (·.1) then ks else ks++[(d,b)]
section
variable {X:Cx} {pins:List (Addr×Obj)} {σ:St} {H:Hp} {s:t0} {a b:Addr} {ks:List (PyData×Addr)} {d:PyData} {A:U1} {E:Value->t0->Prop}
theorem ns_is (I:Inv X pins σ H s) (hk:keyD d=true) (hd:d.depth<=7) (h:IsPd X.K H d (.ref b)):(z12 X.prog X.w).is s.heap d b:=by obtain ⟨a,r⟩:=z4n I d (.ref b) (.ref b) h rfl;exact ⟨hk,hd,a,r⟩
theorem zcr (I:Inv X pins σ H s) (h:NsAt X.K H a ks):(a == L3)=false/\ks.length<=sizeLine/\(ks.map (·.1)).Nodup/\(∃ep,DcAt s.heap a (ks.map nsE).toArray ep)/\s.heap.DictOfH (z12 X.prog X.w) a (ks.map λ k=>(k.1,k.2,J4 true)):=by
 obtain ⟨f,j⟩:=h;obtain ⟨⟨e,p,c,ep,b⟩,_⟩:=(show ObjOk X.prog X.w H s.heap a (NsO a ks) from f.ok I.hok)
 refine ⟨e,p,c,⟨ep,b⟩,?_⟩;obtain ⟨o,g,m,d⟩:=b;refine ⟨o,_,ep,g,m,d,?_,λ x r=>?_,?_⟩
 ·rw [G3];rfl
 ·obtain ⟨k,l,rfl⟩:=List.mem_map.mp r;obtain ⟨i,q,n⟩:=j k l;exact ns_is I i q n
 ·rw [G3];exact c
theorem at_ns:(z9 (ks.map λ k=>(k.1,k.2,J4 true)) d).isSome=decide (d∈ks.map (·.1)):=by
 unfold z9;rw [V7,Bool.eq_iff_iff,List.find?_isSome,decide_eq_true_iff];constructor
 ·rintro ⟨x,hx,e⟩;obtain ⟨k,a,rfl⟩:=List.mem_map.mp hx;exact List.mem_map.mpr ⟨k,a,of_decide_eq_true e⟩
 ·intro h;obtain ⟨k,a,e⟩:=List.mem_map.mp h;exact ⟨_,List.mem_map.mpr ⟨k,a,rfl⟩,decide_eq_true e⟩
theorem zdg:storedH (ks.map λ k=>(k.1,k.2,J4 true)) d b (.bool true)=(putN ks d b).map λ k=>(k.1,k.2,J4 true):=by
 unfold storedH putN;rw [at_ns];by_cases z:d∈ks.map (·.1)
 ·rw [if_pos (decide_eq_true z),if_pos z,G3];refine List.map_congr_left λ k a=>?_;show putAt d (.bool true) (k.1,k.2,J4 true)=_;unfold putAt;split<;>rfl
 ·rw [if_neg (by rw [decide_eq_false z];decide),if_neg z,u2];rfl
theorem z6n:(putN ks d b).length<=ks.length + 1:=by
 unfold putN;split
 ·omega
 ·rw [K0];exact B0 _
theorem ns_put {Q:Unit->t0->Prop} (hu:A.units + 9 < cLine) (I:Inv X pins σ H s) (ha:H a=some (NsO a ks)) (h:NsAt X.K H a ks) (hl:ks.length < sizeLine) (hk:keyD d=true) (hd:d.depth<=7) (hb:IsPd X.K H d (.ref b)) (q :∀s',Inv X pins σ (upd H a (NsO a (putN ks d b))) s'->Q () s'):O0 (j1 X.prog X.w) A (setItem (.ref a) (.ref b) (.bool true)) Q E s:=by
 obtain ⟨i,x,M,_,y⟩:=zcr I h;refine wpAny_setItem_heap (knd:=z12 X.prog X.w) (hsz:=by rw [G0];exact x) (show A.units + 1 + 8 < cLine by omega) (ns_is I hk hd hb) y λ J g u=>q _ ?_;rw [zdg] at g;obtain ⟨o,n,C,c,m,D,l,_,f⟩:=g;have t:n=((putN ks d b).map nsE).toArray:=by apply Array.ext';rw [l,G3];rfl
 subst t;refine z9f I (by rw [ha];exact True.intro) u ⟨o,c⟩ ⟨⟨i,by have:=z6n (ks:=ks) (d:=d) (b:=b);omega,?_,C,o,c,m,D⟩,⟨o,c⟩,λ L G p k=>?_⟩
 ·rw [G3] at f;exact f
 ·obtain ⟨r,F,v,z,e,B,j⟩:=p;exact ⟨r,F,v,z,e,k e B,j⟩
end
def tDNewN:TE:=λ _ H Q=>∀p,H p=none->Q (.ref p) (upd H p (NsO p []))
def rInN (K:c0) (neg:Bool):R2:=λ y x H Q=>∃a b ks d,x=.ref a/\y=.ref b/\NsAt K H a ks/\keyD d=true/\d.depth<=7/\IsPd K H d (.ref b)/\Q (.bl (xor neg (decide (d∈ks.map (·.1))))) H
def sNPut (K:c0) (td ty tv:TE):TS:=λ D σ H=>tv σ H λ v H1=>td σ H1 λ x H2=>ty σ H2 λ y H3=>∃a b ks d,v=.bl true/\x=.ref a/\y=.ref b/\H3 a=some (NsO a ks)/\NsAt K H3 a ks/\ks.length < sizeLine/\keyD d=true/\d.depth<=7/\IsPd K H3 d (.ref b)/\D.nx σ (upd H3 a (NsO a (putN ks d b)))
section
variable {X:Cx}
theorem zlq {P:Program} {w:V0} {H:Hp} (h:Heap) (hb:L3 < h.objs.size):ObjOk P w H (h.push { cls:=.type "dict",data:=.dict #[] }) h.objs.size (NsO h.objs.size []):=by refine ⟨⟨beq_eq_false_iff_ne.mpr (R3 (Z0 hb)),R1 _,L7,0,_,P0 _ rfl,⟨rfl,rfl,rfl⟩,rfl⟩,⟨_,P0 _ rfl⟩,λ i j p k=>?_⟩;obtain ⟨c,g,f,b,a,e,d⟩:=p;exact ⟨c,g,f,b,a,k a e,d⟩
theorem zfe {pos:Pos}:PE X (.Dict [] [] pos) tDNewN:=λ b s σ H Q I h=>wpAny_Dict_empty ⟨.ref s.heap.objs.size,_,I.laid (a:=s.heap.objs.size) (o:=NsO s.heap.objs.size []) (t':=s.toks) (λ _ _ q=>C0 _ q) (B0 _) (zlq s.heap I.big),rfl,h _ (I.hok.fresh (B0 _))⟩
theorem op_inN {k:Nat} (hr:Room k X.A):OpR X (J2 .In) (rInN X.K false):=by intro p s σ H y x u v Q I j i h;obtain ⟨a,b,n,d,rfl,rfl,l,f,e,g,q⟩:=h;cases j;cases i;have o:=hr.units;obtain ⟨c,r,t,_,m⟩:=zcr I l;refine wpAny_in_heap (knd:=z12 X.prog X.w) (show X.A.units + 1 + 8 < cLine by omega) (ns_is I f e g) c m ?_;rw [at_ns];rw [Bool.false_xor] at q;exact ⟨.bl _,H,I.tok _,rfl,q⟩
theorem zd4 {k:Nat} (hr:Room k X.A):OpR X (J2 .NotIn) (rInN X.K true):=by intro p s σ H y x u v Q I j i h;obtain ⟨a,b,n,d,rfl,rfl,l,f,e,g,q⟩:=h;cases j;cases i;have o:=hr.units;obtain ⟨c,r,t,_,m⟩:=zcr I l;refine wpAny_notIn_heap (knd:=z12 X.prog X.w) (show X.A.units + 1 + 8 < cLine by omega) (ns_is I f e g) c m ?_;rw [at_ns];rw [Bool.true_xor] at q;exact ⟨.bl _,H,I.tok _,rfl,q⟩
theorem zkj {o i value:Expr} {pos pos':Pos} {td ty tv:TE} {k:Nat} (hr:Room k X.A) (ho:PE X o td) (hi:PE X i ty) (hv:PE X value tv) (hs:o7 value (some (.Subscript o i pos')) pos.line X.env=d3 false) :
  PS X (.Assign [.Subscript o i pos'] value pos) (sNPut X.K td ty tv):=by
 intro c s σ H D I h;refine wpAny_Assign_Subscript (thn (hv c s σ H _ I h) λ r f ⟨v,H1,I1,rv,q1⟩=>thn (ho c f σ H1 _ I1 q1) λ u g ⟨x,H2,I2,rx,q2⟩=>thn (hi c g σ H2 _ I2 q2) λ e n ⟨y,H3,I3,ry,a,b,ks,d,ev,ex,ey,h0,h1,h2,h3,h4,h5,q3⟩=>?_) hs;subst ev ex ey;obtain rfl:u=Value.ref a:=rx;obtain rfl:e=Value.ref b:=ry;obtain rfl:r=J4 true:=rv;have m:=hr.units;exact ns_put (by omega) I3 h0 h1 h2 h3 h4 h5 λ l j=>⟨σ,_,j,q3⟩
end
noncomputable def cmpD (ds:List PyData) (i j:Nat):Bool:=(ltD (ds.getD i .none) (ds.getD j .none)).getD false
noncomputable def srtD (ds:List PyData):List Nat:=if ds.length < 2 then K1 ds.length else ((kasRun (cmpD ds) ds.length (E6 ds.length)).getD #[]).toList
theorem z90 (ds:List PyData):(srtD ds).Perm (K1 ds.length):=by
 unfold srtD;split
 ·exact List.Perm.refl _
 ·obtain ⟨p,a,b⟩:=(zjw (n:=ds.length) (by omega)).run (cmpD ds);rw [a];exact b
def TupD (h:Heap) (v:Value) (d:PyData):Prop:=keyD d=true/\d.depth<=7/\(∃xs ys,d=.tuple (.tuple xs :: ys))/\∃as,Reads h v d as
theorem TupD.kept {h h':Heap} {v:Value} {d:PyData} {c:Addr} {oc:Obj} (q:TupD h v d) (e:h.get? c=some oc) (nc:oc.cls≠.type "tuple") (k :∀b o,b≠c->h.get? b=some o->h'.get? b=some o):TupD h' v d:=by obtain ⟨f,l,j,g,i⟩:=q;exact ⟨f,l,j,g,z6w (λ b o p n a m _=>k b o (λ z=>by rw [z,e] at a;cases a;exact nc m) a) d v g f i⟩
section
variable {prog:Program} {w:V0} {A:U1} {E:Value->t0->Prop} {s:t0}
theorem zjp :∀(ds es:List PyData) (vs us:List Value) (as bs:List Addr) (i:Nat) (b fin:Bool) (Q:Bool->t0->Prop),keyDs ds=true->keyDs es=true->K7 s.heap vs ds as->K7 s.heap us es bs->ltDs ds es=some b->fin=decide (ds.length < es.length)->A.units + Q1 ds + 1 < cLine->Q b s->PySem.W.KatLex prog w A false fin Q (vs.zip us) i s
 | [],es,vs,us,as,bs,i,b,fin,Q,_,_,r,_,h,hf,_,q=>by cases r;rw [List.zip_nil_left];cases (show some (decide (0 < es.length))=some b from h);exact PySem.W.kat_nil (by rw [hf];exact q)
 | d :: ds,es,vs,us,as,bs,i,b,fin,Q,a,c,r,r2,h,hf,f,q=>by
  cases es with
  | nil=>cases r2;rw [List.zip_nil_right];cases (show some false=some b from h);exact PySem.W.kat_nil (by rw [hf];exact q)
  | cons e es=>
   have a:=Bool.and_eq_true_iff.mp (show (keyD d && keyDs ds)=true from a);have c:=Bool.and_eq_true_iff.mp (show (keyD e && keyDs es)=true from c);have f:A.units + max d.depth (Q1 ds) + 1 < cLine:=f;cases r with
   | @cons v vs _ _ as as' a1 a2=>
    cases r2 with
    | @cons u us _ _ bs bs' b1 b2=>
     have h:(if d=e then ltDs ds es else ltD d e)=some b:=h;rw [j06];refine PySem.W.kat_cons (j16 d e A s v u as bs a1 b1 (z60 d a.1) (z60 e c.1) (by have:=j9 d.depth e.depth;omega) prog w _ _ ?_);rw [zfp (p:=d=e) (z2y d a.1) (z2y e c.1) Iff.rfl];by_cases z:d=e
     ·rw [if_pos z] at h;rw [decide_eq_true z];exact PySem.W.kat_yes (zjp ds es vs us as' bs' (i + 1) b fin Q a.2 c.2 a2 b2 h (by rw [hf];simp) (by omega) q)
     ·rw [if_neg z] at h;rw [decide_eq_false z];refine PySem.W.kat_no ?_;rw [oneLt'_eq];simp only [P7,Y3,if_false];exact j0 (lt_key d e v u as bs b A s _ a.1 c.1 a1 b1 h (by omega) (D0 q))
theorem zm6 {v z:Value} {d e:PyData} {b:Bool} {Q:Bool->t0->Prop} (hx:TupD s.heap v d) (hy:TupD s.heap z e) (h:ltD d e=some b) (hu:A.units + 9 < cLine) (q:Q b s):O0 (j1 prog w) A (keyLt' (tuples' false) v z) Q E s:=by
 obtain ⟨k,c,⟨l,f,rfl⟩,r,g⟩:=hx;obtain ⟨i,t,⟨p,m,rfl⟩,bs,j⟩:=hy;cases g with
 | @tuple a o vs n _ _ e1 e2 e3 e4=>
  cases j with
  | @tuple a' o' vs' n' _ _ f1 f2 f3 f4=>have c:Q1 (.tuple l :: f) + 1<=7:=c;refine PySem.W.kat_lt e1 e3 f1 f3 (zjp _ _ _ _ _ _ 0 b _ Q k i e4 f4 h ?_ (by omega) q);rw [<-z1q e4,<-z1q f4,G2,G2]
theorem zey {h:Heap} :∀{vs:List Value} {ds:List PyData},All2 (λ v d=>TupD h v d) vs ds->∃fs,PySem.W.KatTups h vs fs/\fs.length=vs.length/\∀f∈fs,PySem.W.Looks (j1 prog w) h (j49 f) (.type "tuple")
 | _,_,.nil=>⟨[],trivial,rfl,λ _ h=>absurd h A0⟩
 | _,_,.cons a r=>by
  obtain ⟨fs,i,j,c⟩:=zey r;obtain ⟨_,_,⟨t,p,rfl⟩,u,e⟩:=a;cases e with
  | @tuple a o vs n _ _ e1 e2 e3 e4=>
   generalize hl:vs.toList=l at e4;cases e4 with
   | @cons f l _ _ _ _ r1 r2=>
    have m:vs[0]? = some f:=by rw [<-L6,hl];rfl
    refine ⟨f :: fs,PySem.W.KatTups.cons e1 e2 e3 m i,by rw [X0,X0,j],λ g b=>?_⟩;rcases List.mem_cons.mp b with rfl|b
    ·cases r1 with
     | tuple g1 g2 g3 g4=>exact λ A Q E s k q=>n5 (T:="tuple") ⟨_,k _ _ g1,g2⟩ q
    ·exact c g b
theorem zie {a:Addr} {vs:List Value} {ds:List PyData} {n0:Nat} {P:E7->t0->Prop} (ho:s.heap.get? a=some (R7 "list" vs.toArray n0)) (l64:vs.length < 64) (al:All2 (λ v d=>TupD s.heap v d) vs ds) (nd:ds.Nodup) (cm :∀d∈ds,∀e∈ds,d≠e->(ltD d e).isSome=true) (hu:A.units + 9 < cLine)
  (h :∀(h':Heap) (e:Nat),(∀b o,b≠a->s.heap.get? b=some o->h'.get? b=some o)->h'.get? a=some (R7 "list" ((srtD ds).map λ i=>vs.getD i K2).toArray e)->P (.done (.ret .none)) { s with heap:=h' }) :
  O0 (j1 prog w) A (i6.«list.sort» ⟨[.ref a],[]⟩) P E s:=by
 have B:ds.length=vs.length:=z05 al;have la:a < s.heap.objs.size:=M0 ho;have sz:vs.length<=sizeLine:=F0 (J3 l64) (by decide);obtain ⟨G,J⟩ :∃G,(s.heap.update a (P5 λ _=>(#[]:Array Value))).get? a=some (R7 "list" #[] G):=⟨_,get?_update_seq ho λ _=>#[]⟩
 rw [list_sort_plain];refine j0 (listItems_at ho rfl (j0 (listUpdate_at ho rfl (j0 (seqEpoch_at J rfl (j0 (wpAny_newTuple (j0 (j1b (A3 ?_) (R1 _))) (by simpa using sz))))) (by simpa using sz) (R1 _))));dsimp only;generalize hh3:((s.heap.update a (P5 λ _=>(#[]:Array Value))).push (R7 "tuple" vs.toArray 0)).push (R7 "list" #[] 0)=h3;have s1:=d5 s.heap a (P5 λ _=>(#[]:Array Value));have S :∀b o,b≠a->s.heap.get? b=some o->h3.get? b=some o:=λ b o n e=>by rw [<-hh3];exact C0 _ (C0 _ ((s1.2 b n).trans e))
 have m:h3.get? a=some (R7 "list" #[] G):=by rw [<-hh3];exact C0 _ (C0 _ J)
 have I:All2 (λ v k=>TupD h3 v k) vs ds:=z03 (λ _ _ z=>z.kept ho (show M5 "list"≠.type "tuple" by decide) S) al;have K :∀(l:Array Value),l=((srtD ds).map λ i=>vs.getD i K2).toArray->P (.done (.ret .none)) { s with heap:=h3.update a (P5 λ _=>l) }:=λ l g=>by
  obtain ⟨D,U⟩ :∃D,(h3.update a (P5 λ _=>l)).get? a=some (R7 "list" l D):=⟨_,get?_update_seq m λ _=>l⟩
  rw [g] at U⊢;exact h _ D (λ b o n e=>(O8 _ _ (R3 n)).trans (S b o n e)) U
 have R:((srtD ds).map λ i=>vs.getD i K2).toArray.size<=sizeLine + 1:=by rw [R0,G0,(z90 ds).length_eq,j2,B];exact F0 sz (T3 _)
 by_cases f:vs.toArray.size < 2
 ·rw [if_pos f];have H:vs.length < 2:=by simpa using f
  have r:(K1 vs.length).map (λ i=>vs.getD i K2)=vs:=by
   apply Q6
   ·simp
   ·intro i h1 f;simp [C2,N0 f]
  have F:srtD ds=K1 vs.length:=by unfold srtD;rw [if_pos (by omega),B]
  refine j0 (D0 ?_);rw [if_pos f];refine (show O0 _ _ (d3 ((),SortSt.mk' general' (vs.toArray.zip vs.toArray) #[] 7 none) >>= _) _ _ _ from j0 (D0 ?_));dsimp only;have g:j3e (λ x=>x.snd) (arrOf (SortSt.mk' general' (vs.toArray.zip vs.toArray) #[] 7 none))=((srtD ds).map λ i=>vs.getD i K2).toArray:=by
   rw [F,r];show j3e (λ x=>x.snd) (vs.toArray.zip vs.toArray)=vs.toArray;apply Array.ext
   ·simp
   ·intro i h1 f;simp
  refine j0 (seqEpoch_at m rfl (j0 (listUpdate_at m rfl ?_ (R1 _) ?_)))
  ·simp only [bne_self_eq_false,Y3,if_false];exact D0 (K _ g)
  ·rw [g];exact R
 ·rw [if_neg f];have H:2<=vs.length:=by simpa using Nat.not_lt.mp f
  obtain ⟨fs,kt,lf,a0⟩:=zey (prog:=prog) (w:=w) I;refine j0 (PySem.W.kat_kind (T:=.type "tuple") kt (by omega) a0 (by decide) ?_);rw [if_neg f];obtain ⟨p,r,pp⟩:=(zjw (n:=ds.length) (by omega)).run (cmpD ds);have F:srtD ds=p.toList:=by unfold srtD;rw [if_neg (by omega),r];rfl
  rw [B] at r;rw [show (M5 "tuple" != M5 "tuple")=false by decide];have N :∀i,i < vs.length->TupD h3 (vs.getD i K2) (ds.getD i .none):=λ i u=>by have X:ds[i]? = some (ds[i]'(by omega)):=N0 (by omega);obtain ⟨v,hv,z⟩:=z0i I X;rw [C2,C2,hv,X];exact z
  have M :∀i,i < vs.length->ds.getD i .none∈ds:=λ i u=>by rw [C2,N0 (show i < ds.length by omega)];exact P6 _
  have Z:(E6 vs.length).kasWp (PySem.W.kas_ask prog w A (tuples' false) vs) (λ O t=>t={ s with heap:=h3 }/\O=p) { s with heap:=h3 }:=zdf (c:=cmpD ds) (n:=vs.length) (λ i j C u Y ne q=>by
   have a5:ds.getD i .none≠ds.getD j .none:=λ e=>ne (by rw [C2,C2,N0 (show i < ds.length by omega),N0 (show j < ds.length by omega)] at e;exact (j1e nd).mp e);obtain ⟨b,L⟩:=Option.isSome_iff_exists.mp (cm _ (M i u) _ (M j Y) a5);unfold cmpD at q;rw [L] at q;exact zm6 (s:={ s with heap:=h3 }) (N i u) (N j Y) L hu q) (E6 vs.length) p r ⟨rfl,rfl⟩
  refine j0 (X2 (PySem.W.kat_run (κ:=tuples' false) (ks:=vs) (vs:=vs) (Q:=λ y t=>t={ s with heap:=h3 }/\failedOf y=none/\j3e (λ x=>x.snd) (arrOf y)=(p.toList.map λ i=>vs.getD i K2).toArray) rfl H (by omega) (λ O y t a1 a2 a3 V=>⟨V.1,a3,by rw [<-V.2];exact PySem.W.kat_snds rfl a2⟩) Z) ?_ λ _ _ z=>z);rintro ⟨⟨⟩,y⟩ t ⟨rfl,hf,g⟩;rw [<-F] at g;dsimp only at hf g⊢;refine j0 (seqEpoch_at m rfl (j0 (listUpdate_at m rfl ?_ (R1 _) ?_)))
  ·rw [hf];simp only [bne_self_eq_false,Y3,if_false];exact D0 (K _ g)
  ·rw [g];exact R
end
section
variable {X:Cx}
theorem zbt {k:Nat} (hr:Room k X.A):CallR X (.builtin "sorted") (λ xs H Q=>∃a ks,xs=[.ref a]/\NsAt X.K H a ks/\ks.length < 64/\(∀k∈ks,∃xs ys,k.1=.tuple (.tuple xs :: ys))/\(∀k∈ks,∀k'∈ks,k.1≠k'.1->(ltD k.1 k'.1).isSome=true)/\
  ∀l:Addr,H l=none->Q (.ref l) (upd H l (.lst ((srtD (ks.map (·.1))).map λ i=>V.ref (ks.getD i (.none,0)).2)))):=by
 intro a0 s σ H xs us Q I rv h;obtain ⟨a,ks,rfl,S,R,tt,cm,q⟩:=h;obtain ⟨u,rfl,rx⟩:=vals1 rv;cases rx;have a1:=hr.units;obtain ⟨U,N,g3,⟨ep,g4⟩,_⟩:=zcr I S;have C:(ks.map nsE).toArray.size=ks.length:=by rw [R0,G0]
 refine X7 kind_sorted plain_sorted entry_sorted (args_sorted1 _) ?_;unfold i6.«sorted»;refine j0 (m:=checkCount "sorted" 1 1 _) (D0 (j0 (j46 (kdl_dc U) (show X.A.in1.handled=none from hr.hd) g4 (by rw [C];exact N) λ c t J k1 w=>?_)));have ea:J.toList=ks.map λ k=>Value.ref k.2:=by
  apply c8;intro j;by_cases g:j < ks.length
  ·have F:j < J.size:=by rw [w.1,C];exact g
   obtain ⟨e,M,e2⟩:=w.2 j _ (E2 F);rw [L6,E2 F,W0,e2];rw [m9,W0,N0 g] at M;rw [N0 g];cases M;rfl
  ·rw [C4 (by rw [G2,w.1,C];omega),C4 (by rw [G0];omega)]
 rw [ea];have y:Inv X a0 σ H { s with heap:=c,toks:=t }:=I.kept (t':=t) k1;have P:(c.push (R7 "list" (ks.map λ k=>Value.ref k.2).toArray 0)).get? c.objs.size=some (R7 "list" (ks.map λ k=>Value.ref k.2).toArray 0):=P0 _ rfl;have al :∀(h:Heap),(∀b o,c.get? b=some o->h.get? b=some o)->∀l:List (PyData×Addr),(∀k∈l,k∈ks)->All2 (λ v d=>TupD h v d) (l.map λ k=>Value.ref k.2) (l.map (·.1)):=λ h B l=>by
  induction l with
  | nil=>intro _;exact .nil
  | cons k l ih=>intro f;obtain ⟨G,n2,n3⟩:=S.2 k (f k F1);obtain ⟨as,r⟩:=z4n y k.1 (.ref k.2) (.ref k.2) n3 rfl;exact .cons ⟨G,n2,tt k (f k F1),as,z6w (λ b o vs n e _ _=>B b o e) _ _ _ G r⟩ (ih λ x Y=>f x (E1 _ Y))
 have O:(ks.map λ k=>Value.ref k.2).length=ks.length:=G0 ..;refine j0 (j1b (j0 (A3 (P2 j4b ⟨_,P,rfl⟩ j3h (zie (s:={ s with heap:=c.push (R7 "list" (ks.map λ k=>Value.ref k.2).toArray 0),toks:=t }) (ds:=ks.map (·.1)) P (by rw [O];exact R) (al _ (λ b o e=>C0 _ e) ks λ _ h=>h) g3 (λ d T e he ne=>?_) (show X.A.units + 1 + 1 + 9 < cLine by omega) λ h' e B f=>⟨_,rfl,?_⟩) (j4d _)))) (by rw [O];exact F0 (J3 R) (by decide)))
 ·obtain ⟨k,hk,rfl⟩:=List.mem_map.mp T;obtain ⟨k',Z,rfl⟩:=List.mem_map.mp he;exact cm k hk k' Z ne
 have k2 :∀b o,c.get? b=some o->h'.get? b=some o:=λ b o z=>B b o (Z0 (M0 z)) (C0 _ z);have D:=z90 (ks.map (·.1));rw [G0] at D;have W :∀p:List Nat,(∀i∈p,i < ks.length)->Vals (p.map λ i=>V.ref (ks.getD i (.none,0)).2) (p.map λ i=>(ks.map λ k=>Value.ref k.2).getD i K2):=by
  intro p;induction p with
  | nil=>intro _;exact .nil
  | cons i p ih=>intro L;refine .cons ?_ (ih λ j g=>L j (.tail _ g));have E:=L i (.head _);show RelV (V.ref (ks.getD i (.none,0)).2) ((ks.map λ k=>Value.ref k.2).getD i K2);rw [C2,C2,W0,N0 E];rfl
 refine D0 ⟨_,rfl,.ref c.objs.size,_,y.laid (t':=t) (o:=.lst ((srtD (ks.map (·.1))).map λ i=>V.ref (ks.getD i (.none,0)).2)) k2 (B0 _) ⟨?_,_,e,W _ (λ i E=>List.mem_range.mp (D.mem_iff.mp E)),f⟩,rfl,q _ (y.hok.fresh (B0 _))⟩;rw [G0,D.length_eq,j2];exact N
end
section
variable {prog:Program} {w:V0} {A:U1} {E:Value->t0->Prop} {s:t0}
def PairN (prog:Program) (w:V0) (h:Heap) (p:PyData×Addr) (u:Value):Prop:=∃a,u=.ref a/\h.IsTuple a #[.ref p.2,.bool true]/\(z12 prog w).is h p.1 p.2
theorem z8q {h h':Heap} {d:PyData} {b:Addr} (k :∀b o,h.get? b=some o->o.cls=.type "tuple"->h'.get? b=some o) (x:(z12 prog w).is h d b):(z12 prog w).is h' d b:=by obtain ⟨a,i,f,g⟩:=x;exact ⟨a,i,f,z6w (λ b o j n e c _=>k b o e c) d _ f a g⟩
theorem PairN.kept {h h':Heap} {p:PyData×Addr} {u:Value} (k :∀b o,h.get? b=some o->o.cls=.type "tuple"->h'.get? b=some o) (x:PairN prog w h p u):PairN prog w h' p u:=by obtain ⟨a,e,⟨o,f,c,d⟩,i⟩:=x;exact ⟨a,e,⟨o,k a o f c,c,d⟩,z8q k i⟩
noncomputable def foldN (ps ks:List (PyData×Addr)):List (PyData×Addr):=ps.foldl (λ acc p=>putN acc p.1 p.2) ks
abbrev trueN (ks:List (PyData×Addr)):List (PyData×Addr×Value):=ks.map λ k=>(k.1,k.2,J4 true)
theorem zcg {d it l:Addr} {items:Array Value} (ndi:d≠it) (ndl:d≠l) (nil':it≠l) :∀(ps:List (PyData×Addr)) (i:Nat) (ks:List (PyData×Addr)) (A:U1) (R:Result->t0->Prop) (s:t0),A.handled=none->A.units + 60 < cLine->s.heap.IsListIter it l i->s.heap.IsList l items->
  All2 (PairN prog w s.heap) ps (items.toList.drop i)->Q8 (z12 prog w) s.heap d (trueN ks)->ks.length + ps.length<=sizeLine->
  (∀h' tk,Q8 (z12 prog w) h' d (trueN (foldN ps ks))->(∀b o,b≠d->b≠it->s.heap.get? b=some o->h'.get? b=some o)->R (.ok (.ret .none)) { s with heap:=h',toks:=tk })->
  C7 (j1 prog w) A (Code.builtin "dict.update.loop" { pos:=[.ref d,.ref it,.int (i:Nat) 0,.none],kw:=[] }) R s
 | [],i,ks,A,R,s,hh,hu,si,sl,al,dd,hz,q=>by
  have hn:items[i]? = none:=by
   cases hd:items.toList.drop i with
   | nil=>have:=List.drop_eq_nil_iff.mp hd;rw [G2] at this;exact F8 this
   | cons u us=>rw [hd] at al;cases al
  have v :∀o,s.heap.get? it=some o->o.cls≠.type "tuple":=λ o e z=>by obtain ⟨G,g,c,_⟩:=si;rw [e] at g;cases g;rw [z] at c;exact absurd c (by decide)
  refine j3i zdh ?_;show O0 _ _ (n8 (.ref it) >>= _) _ _ s;refine j0 (wpAny_pyNext_list_end (show (A.under _).handled=none from hh) si sl hn λ h' B=>?_);show O0 _ _ ((do Builtin.Dict.addKeywords d [];ret .none):Sem E7) _ _ _;refine j0 (show O0 _ _ (d3 ()) _ _ _ from D0 ?_);have D:Q8 (z12 prog w) h' d (trueN ks):=by obtain ⟨o,m,t,f,h,N,h4,h5,h6⟩:=dd;exact ⟨o,m,t,B d o ndi f,h,N,h4,λ x E=>z8q (λ b o e c=>B b o (λ z=>v o (z ▸ e) c) e) (h5 x E),h6⟩
  exact D0 (q h' s.toks D λ b o _ P e=>B b o P e)
 | p :: ps,i,ks,A,R,s,hh,hu,si,sl,al,dd,hz,q=>by
  cases hd:items.toList.drop i with
  | nil=>rw [hd] at al;cases al
  | cons u us=>
   rw [hd] at al;cases al with
   | cons pu al=>
    have hi:items.toList[i]? = some u:=by have:=congrArg (λ l=>l[0]?) hd;simpa using this
    have a1:items[i]? = some u:=by simpa using hi
    have S:items.toList.drop (i + 1)=us:=by have:=congrArg List.tail hd;simpa using this
    refine j3i zdh ?_;show O0 _ _ (n8 (.ref it) >>= _) _ _ s;refine j0 (wpAny_pyNext_list_item si sl a1 λ f U r=>?_);have v :∀o,s.heap.get? it=some o->o.cls≠.type "tuple":=λ o e z=>by obtain ⟨G,g,c,_⟩:=si;rw [e] at g;cases g;rw [z] at c;exact absurd c (by decide)
    have C :∀b o,s.heap.get? b=some o->o.cls=.type "tuple"->f.get? b=some o:=λ b o e c=>(r.2 b (λ z=>v o (z ▸ e) c)).trans e;obtain ⟨a,rfl,ta,T⟩:=pu.kept C;have Y:All2 (PairN prog w f) ps us:=z03 (λ x y z=>z.kept C) al;have F:Q8 (z12 prog w) f d (trueN ks):=by obtain ⟨o,m,t,M,g2,g3,V,g5,W⟩:=dd;exact ⟨o,m,t,(r.2 d ndi).trans M,g2,g3,V,λ x E=>z8q C (g5 x E),W⟩
    have a0:f.IsList l items:=by obtain ⟨o,k,j⟩:=sl;exact ⟨o,(r.2 l (R3 nil')).trans k,j⟩
    refine j0 (A3 (j0 (wpAny_tryCatch (zet (s:={ s with heap:=f }) ta ?_))));show O0 _ _ (j0j [.ref p.2,.bool true] (dictSet d (.ref p.2) (.bool true))) _ _ _;refine A3 (wpAny_dictSet_heap (knd:=z12 prog w) (show A.units + 1 + 8 < cLine by omega) T F (λ h J n=>?_) (by rw [G0];exact F0 (V4 _ _) hz));rw [zdg] at J;refine D0 ⟨zdm _,?_⟩;have Q :∀o,f.get? d=some o->o.cls≠.type "tuple":=λ o e z=>by obtain ⟨G,m,t,g,c,_⟩:=F;rw [e] at g;cases g;have:=c.1;rw [z] at this;exact absurd this (by decide)
    have k2 :∀b o,f.get? b=some o->o.cls=.type "tuple"->h.get? b=some o:=λ b o e c=>(n.2 b (λ z=>Q o (z ▸ e) c)).trans e;have K:All2 (PairN prog w h) ps us:=z03 (λ x y z=>z.kept k2) Y;have O:h.IsListIter it l (i + 1):=by obtain ⟨o,k,j⟩:=U;exact ⟨o,(n.2 it (R3 ndi)).trans k,j⟩
    have X:h.IsList l items:=by obtain ⟨o,k,j⟩:=a0;exact ⟨o,(n.2 l (R3 ndl)).trans k,j⟩
    have L:(putN ks p.1 p.2).length + ps.length<=sizeLine:=by have:=z6n (ks:=ks) (d:=p.1) (b:=p.2);rw [X0] at hz;omega
    exact zcg ndi ndl nil' ps (i + 1) (putN ks p.1 p.2) A R { s with heap:=h,toks:=_ } hh hu O X (by rw [S];exact K) J L λ h' tk D Z=>q h' tk D λ b o H I e=>Z b o H I ((n.2 b H).trans ((r.2 b I).trans e))
theorem z7s {D l:Addr} {items:Array Value} {n:Nat} {sl:Array (Option Value)} {ps:List (PyData×Addr)} {Q:t0->Prop} {A':U1} (hd:s.heap.get? D=some { cls:=.type "dict",data:=.dict #[] }) (hl:s.heap.get? l=some { cls:=.type "list",data:=.seq items n,slots:=sl }) (hh:A.handled=none) (hh':A'.handled=none) (hu:A'.units + 60 < cLine)
  (al:All2 (PairN prog w s.heap) ps items.toList) (hz:ps.length<=sizeLine)
  (q :∀h' tk,Q8 (z12 prog w) h' D (trueN (foldN ps []))->(∀b o,b≠D->s.heap.get? b=some o->h'.get? b=some o)->Q { s with heap:=h',toks:=tk }) :
  O0 (j1 prog w) A (i6.«dict.__init__» { pos:=[.ref D,.ref l] }) (λ fin s'=>match fin with
   | .done f=>wants (λ r s₂=>r=K2/\Q s₂) E (.ok f) s'
   | .again c'=>c'.quiet=true/\C7 (j1 prog w) A' c' (wants (λ r s₂=>r=K2/\Q s₂) E) s') (λ e s'=>wants (λ r s₂=>r=K2/\Q s₂) E (.error e) s') s:=by
 have m:D≠l:=λ z=>by rw [z,hl] at hd;exact absurd (show M5 "list" = M5 "dict" from congrArg Obj.cls (P1 hd)) (by decide)
 unfold i6.«dict.__init__» Builtin.Dict.selfAndRest;refine j0 (j0 (wpAny_notOrdered_dict ⟨_,hd,rfl⟩ ?_));refine j0 (show O0 _ _ (d3 D) _ _ _ from D0 (D0 ?_));show O0 _ _ (j1a "dict.__init__" D (.ref l) [] .none) _ _ _;unfold j1a;refine j0 (n5 (T:="list") ⟨_,hl,rfl⟩ ?_);show O0 _ _ (j4c (.ref l) (u3 "keys") >>= _) _ _ _;refine j0 (zhs hl hh λ g tk a=>?_);show O0 _ _ (rule _ >>= _) _ _ _;refine j0 (m7 (j0 (S6 (items:=items) ⟨_,a _ _ hl,rfl,_,rfl⟩ ?_)));refine D0 ⟨zdm _,?_⟩;have ltD:=M0 (a _ _ hd);have i:=M0 (a _ _ hl);have c :∀b o,s.heap.get? b=some o->(g.push { cls:=.type "list_iterator",data:=.fields #[.ref l,.int 0 0] }).get? b=some o:=λ b o e=>C0 _ (a b o e);refine zcg (d:=D) (it:=g.objs.size) (l:=l) (items:=items) (Z0 ltD) m (i4 i) ps 0 [] A' _ _ hh' hu ⟨_,P0 _ rfl,rfl,rfl⟩ ⟨_,c _ _ hl,rfl,_,rfl⟩ ?_ ?_ (by simpa using hz) λ h' p h j=>⟨rfl,q h' p h λ b o k e=>j b o k (λ z=>?_) (c b o e)⟩
 ·rw [N7];exact z03 (λ x y z=>z.kept λ b o e _=>c b o e) al
 ·exact ⟨_,#[],0,c _ _ hd,⟨rfl,rfl,rfl⟩,rfl,rfl,(λ x t=>absurd t A0),L7⟩
 ·rw [z] at e;exact absurd (M0 (a _ _ e)) (j4 _)
end
section
variable {X:Cx}
def rDictN (K:c0):List V->Hp->VK->Prop:=λ xs H Q=>∃a ys ks,xs=[.ref a]/\H a=some (.lst ys)/\All2 (λ (p:PyData×Addr) y=>∃b,y=.ref b/\SqT K H b [.ref p.2,.bl true]/\keyD p.1=true/\p.1.depth<=7/\IsPd K H p.1 (.ref p.2)) ks ys/\∀p,H p=none->Q (.ref p) (upd H p (NsO p (foldN ks [])))
theorem zd3 {pins:List (Addr×Obj)} {σ:St} {H:Hp} {s:t0} (I:Inv X pins σ H s) :∀{ks:List (PyData×Addr)} {ys:List V} {its:List Value},All2 (λ (p:PyData×Addr) y=>∃b,y=.ref b/\SqT X.K H b [.ref p.2,.bl true]/\keyD p.1=true/\p.1.depth<=7/\IsPd X.K H p.1 (.ref p.2)) ks ys->Vals ys its->All2 (PairN X.prog X.w s.heap) ks its
 | [],_,_,.nil,r=>by cases r;exact .nil
 | p :: ks,_,_,.cons ⟨b,e,sb,h1,h2,h3⟩ al,r=>by
  cases r with
  | cons r1 r2=>
   subst e;obtain ⟨its,a,c,_⟩:=I.tuple sb;cases a with
   | cons ra a=>
    cases a with
    | cons rb a=>cases a;cases ra;cases rb;exact .cons ⟨b,r1,c,ns_is I h1 h2 h3⟩ (zd3 I al r2)
theorem zdn :∀(ps ks:List (PyData×Addr)),(foldN ps ks).length<=ks.length + ps.length
 | [],ks=>B0 _
 | p :: ps,ks=>by have c:=zdn ps (putN ks p.1 p.2);have a:=z6n (ks:=ks) (d:=p.1) (b:=p.2);show (foldN ps (putN ks p.1 p.2)).length<=_;rw [X0];omega
theorem zfm {k:Nat} (hr:Room k X.A):CallR X (.type "dict") (rDictN X.K):=by
 intro a1 s σ H xs us Q I r h;obtain ⟨a,O,c,rfl,w,i,q⟩:=h;obtain ⟨u,rfl,V⟩:=vals1 r;cases (show u=Value.ref a from V);have f:X.A.handled=none:=hr.hd;have a0:=hr.un;have G:H s.heap.objs.size=none:=I.hok.fresh (B0 _);have big:=I.big;have j:O.length=c.length:=z05 i;obtain ⟨z,a2,n,W,hl,e⟩:=I.lstM w;have D:=zd3 I i W;refine callType_codes F.kt_called_dict (F.kt_typeCall_dict_1 _) F.entry_dict_init (kt_code_dict_new _ (Q₁:=λ obj m=>obj=.ref s.heap.objs.size/\m={ s with heap:=s.heap.push { cls:=.type "dict",data:=.dict #[] } }) ⟨rfl,rfl⟩) ?_;rintro obj m ⟨rfl,rfl⟩;refine ⟨⟨_,P0 _ rfl,rfl⟩,F.args_dict_init_2 _ _,?_⟩;refine z7s (s:={ s with heap:=s.heap.push { cls:=.type "dict",data:=.dict #[] } }) (P0 _ rfl) (C0 _ e) f f (by first|omega|(show X.A.units + _ + 60 < cLine;omega)) (by simpa using z03 (λ x y z=>z.kept λ b o e _=>C0 _ e) D) (by rw [<-j];exact z) λ h' M S J=>?_;obtain ⟨o,v,U,d,N,T,C,g5,l⟩:=S;have E:v=((foldN c []).map nsE).toArray:=by apply Array.ext';rw [C,G3];rfl
 subst E;rw [G3] at l;refine ⟨.ref s.heap.objs.size,_,I.laid (a:=s.heap.objs.size) (o:=NsO s.heap.objs.size (foldN c [])) (h':=h') (t':=M) (λ b o e=>J b o (Z0 (M0 e)) (C0 _ e)) (B0 _) ⟨⟨beq_eq_false_iff_ne.mpr (R3 (Z0 big)),F0 (zdn c []) (by rw [d7,Z8,<-j];exact z),l,U,o,d,N,T⟩,⟨o,d⟩,λ h1 Z p k=>?_⟩,rfl,q _ G⟩;obtain ⟨B,Y,L,P,g,R,t⟩:=p;exact ⟨B,Y,L,P,g,k g R,t⟩
end
def ItN (a:Addr) (ob:Obj) (ks:List (PyData×Addr)):It:=
 ⟨λ i H=>H a=some (.frz ob (NsO a ks))/\i < ks.length,λ i H x H'=>H'=H/\∃k,ks[i]? = some k/\x=.ref k.2,λ i H=>H a=some (.frz ob (NsO a ks))/\ks.length<=i⟩
theorem zjj {X:Cx} {pins:List (Addr×Obj)} {σ:St} {H:Hp} {s:t0} {a:Addr} {ob:Obj} {ks:List (PyData×Addr)} {es:Array DictEntry} {ep:Nat} (I:Inv X pins σ H s) (hob:ob.data=.dict es ep) (e:H a=some (.frz ob (NsO a ks))) :
  DcAt s.heap a (ks.map nsE).toArray ep:=by
 obtain ⟨c,⟨_,_,_,g,o,d,f,b⟩,_⟩:=(show ObjOk X.prog X.w H s.heap a (.frz ob (NsO a ks)) from I.hok a _ e)
 rw [c] at d;cases d;rw [hob] at b;cases b;exact ⟨ob,c,f,hob⟩
theorem z6s (ks:List (PyData×Addr)):(ks.map nsE).toArray.size=ks.length:=by rw [R0,G0]
theorem zgp {P:Program} {w:V0} {K:c0} {tg:Expr} {a it:Addr} {ob:Obj} {ks:List (PyData×Addr)} {es:Array DictEntry} {ep:Nat} (hob:ob.data=.dict es ep):Turn P w K tg (ItN a ob ks) [it] it (λ i h=>h.IsKeyIter it a i ks.length ep) where
 mem:=by simp
 obj:=λ i h f b g=>by
  obtain rfl:b=it:=by simpa using g
  obtain ⟨o,e,c,d⟩:=f;exact ⟨o,e,λ v z=>by rw [d] at z;cases z⟩
 keep:=λ i h j f k=>by obtain ⟨o,e,r⟩:=f;exact ⟨o,k it (by simp) o e,r⟩
 item:=by intro X m B A G i J s σ H E I l f q;subst m B A;obtain ⟨y,D⟩:=q;have p:=zjj I hob y;obtain ⟨C,u,N,n,t,x⟩:=l it (by simp);have L:ks[i]? = some ks[i]:=N0 D;rw [<-z6s ks] at f;refine zk4 (e:=nsE ks[i]) f p (by rw [m9,W0,L];rfl) λ j F Q=>?_;have O:Inv X J σ H { s with heap:=j }:=I.turned (t':=s.toks) (λ b o g e=>(Q.2 b g).trans e) C u n t x;obtain ⟨o,e,c,d⟩:=id F;rw [z6s ks] at F;exact ⟨_,rfl,go_of (s:={ s with heap:=j }) e c d (by decide) ⟨.ref ks[i].2,H,O,rfl,⟨rfl,_,L,rfl⟩,F,λ b g=>(l b g).1⟩⟩
 done:=by intro X m B A G i J s σ H E I l f q;subst m B A;obtain ⟨y,D⟩:=q;have p:=zjj I hob y;obtain ⟨C,u,N,n,t,x⟩:=l it (by simp);rw [<-z6s ks] at f;exact ki_end (I.ok.hd G) f p (F8 (by rw [z6s];exact D)) λ j M=>⟨rfl,I.turned (t':=s.toks) (λ b o g e=>M b o g e) C u n t x⟩
 self:=λ _ _ _ _ _ f h=>wpAny_pyIter_keyiter f h
def iKeysN (td:TE):TI:=λ σ H R=>td σ H λ x H1=>∃a ks,x=.ref a/\H1 a=some (NsO a ks)/\∀ob,R (ItN a ob ks) (upd H1 a (.frz ob (NsO a ks)))
theorem zkp {X:Cx} {tg o:Expr} {to:TE} (ho:PE X o to):PI X tg o (iKeysN to):=by
 intro j s σ H R I h;refine thn (ho j s σ H _ I h) λ v c ⟨x,H1,I1,r1,a,ks,ex,ea,q⟩=>?_;subst ex;cases r1;obtain ⟨⟨g,p,t,u,f⟩,r,m⟩:=(show ObjOk X.prog X.w H1 c.heap a (NsO a ks) from I1.hok a _ ea)
 obtain ⟨i,n,A,y⟩:=id f;have l :∀o w,X.H₀ a≠some (.frz o w):=λ o w q=>by have z:=I1.base.frzs a o w q;rw [ea] at z;cases z
 have d:Inv X j σ (upd H1 a (.frz i (NsO a ks))) c:=I1.retold ea (λ _ z=>by cases z) (λ _ z=>by cases z) (λ _ z=>by cases z) l ⟨n,⟨g,p,t,u,f⟩,r,m⟩;refine zk3 g f ?_;refine ⟨c.heap.objs.size,[c.heap.objs.size],_,_,_,rfl,d.kept (t':=c.toks) λ b o e=>C0 _ e,zgp y,⟨_,P0 _ rfl,rfl,by rw [z6s];rfl⟩,λ b k=>?_,q i⟩;obtain rfl:b=c.heap.objs.size:=by simpa using k
 exact d.fpOk (B0 _) (d.hok.fresh (B0 _))
theorem zhx {a:Addr} {ob:Obj} {ks:List (PyData×Addr)} {g:TG} {tb:TS} {D:Ends} {σ:St} {H:Hp} (Pv:Nat->St->Hp->Prop) (h0:Pv 0 σ H) (fr :∀i σ H,Pv i σ H->H a=some (.frz ob (NsO a ks)))
  (hs :∀i k σ H,ks[i]? = some k->Pv i σ H->g (.ref k.2) σ H λ σ2 H2=>tb { D with nx:=Pv (i + 1),ct:=Pv (i + 1),bk:=D.nx } σ2 H2) (hd :∀σ H,Pv ks.length σ H->D.nx σ H) :
  ∃W:Nat->Nat->St->Hp->Prop,(∃m,W 0 m σ H)/\∀i m σ H,W i m σ H->
   ((ItN a ob ks).stop i H/\D.nx σ H)\/((ItN a ob ks).go i H/\∃N:St->Hp->Prop,(∀σ' H',N σ' H'->∃m',m' < m/\W (i + 1) m' σ' H')/\∀x H',(ItN a ob ks).yld i H x H'->g x σ H' λ σ2 H2=>tb { D with nx:=N,ct:=N,bk:=D.nx } σ2 H2):=by
 refine ⟨λ i m σ H=>m=ks.length - i/\i<=ks.length/\Pv i σ H,⟨ks.length,by simp,R1 _,h0⟩,?_⟩;rintro i m σ H ⟨rfl,hi,p⟩;by_cases hlt:i < ks.length
 ·refine .inr ⟨⟨fr _ _ _ p,hlt⟩,Pv (i + 1),λ σ' H' q=>⟨ks.length - (i + 1),by omega,rfl,hlt,q⟩,λ x H' y=>?_⟩;obtain ⟨rfl,k,b,rfl⟩:=y;exact hs i k σ _ b p
 ·obtain rfl:i=ks.length:=by omega
  exact .inl ⟨⟨fr _ _ _ p,B0 _⟩,hd σ H p⟩
def ItRv (a:Addr) (n:Nat):It:=
 ⟨λ i H=>i < n/\∃xs,H a=some (.lst xs)/\xs.length=n,λ i H x H'=>H'=H/\∀xs,H a=some (.lst xs)->xs[n - 1 - i]? = some x,λ i H=>i=n⟩
theorem zl3 {P:Program} {w:V0} {K:c0} {tg:Expr} (a it:Addr) (n:Nat):Turn P w K tg (ItRv a n) [it] it (λ i h=>h.IsRevIter it a ((n:Int) - 1 - (i:Nat))) where
 mem:=by simp
 obj:=λ i h f b g=>by
  obtain rfl:b=it:=by simpa using g
  obtain ⟨o,e,c,d⟩:=f;exact ⟨o,e,λ v z=>by rw [d] at z;cases z⟩
 keep:=λ i h l f k=>by obtain ⟨o,e,r⟩:=f;exact ⟨o,k it (by simp) o e,r⟩
 item:=by
  intro X q C B G i J s σ H E I m f j;subst q C B;obtain ⟨hi,M,N,hx⟩:=j;obtain ⟨Z,O,p,Y⟩:=I.list (SqL.of N);obtain ⟨D,y,R,t,x,A⟩:=m it (by simp);have hl:=O.length;have lt:n - 1 - i < M.length:=by omega
  obtain ⟨u,T,V⟩:=O.get (N0 lt);rw [show (n:Int) - 1 - (i:Nat)=((n - 1 - i:Nat):Int) by omega] at f;refine wpAny_pyNext_rev_item f p.isList (by simpa using T) λ l F U=>?_;have S:Inv X J σ H { s with heap:=l }:=I.turned (t':=s.toks) (λ b o g e=>(U.2 b g).trans e) D y t x A;obtain ⟨o,e,c,d⟩:=id F;rw [show ((n - 1 - i:Nat):Int) - 1=(n:Int) - 1 - ((i + 1:Nat):Int) by omega] at F;refine ⟨_,rfl,go_of (s:={ s with heap:=l }) e c d (by decide) ⟨M[n - 1 - i],H,S,V,⟨rfl,λ W L=>?_⟩,F,λ b g=>(m b g).1⟩⟩;rw [N] at L;cases L;exact N0 lt
 done:=by intro X q C B G i J s σ H E I m f j;subst q C B;obtain ⟨D,y,R,t,x,A⟩:=m it (by simp);have j:i=n:=j;rw [show (n:Int) - 1 - (i:Nat)=-1 by omega] at f;exact wpAny_pyNext_rev_end (I.ok.hd G) f λ l Q=>⟨rfl,I.turned (t':=s.toks) (λ b o g e=>Q b o g e) D y t x A⟩
 self:=λ _ _ _ _ _ f h=>wpAny_pyIter_revIter f h
def iRevL (tl:TE):TI:=λ σ H R=>tl σ H λ x H1=>∃a xs,x=.ref a/\H1 a=some (.lst xs)/\R (ItRv a xs.length) H1
theorem zly {X:Cx} {tg e:Expr} {te:TE} {p2 c2:Pos} (g2:Gl X "reversed") (m2:X.mg "reversed" = none) (ha:PE X e te) (he:A1 [e] X.env=[(false,Y2 e X.env)]:=by rfl):PI X tg (.Call (.Name "reversed" p2) [e] [] c2) (iRevL te):=by
 intro i s σ H R I h;refine Call_ (ld_blt I g2 m2 boot_reversed (E3 ?_ he rfl));rw [he];refine (show O0 _ _ (spliced ((false,Y2 e X.env) :: [])) _ _ s from d6 (thn (ha i s σ H _ I h) λ u c ⟨x,H1,I1,r1,a,xs,ex,sq,q⟩=>?_));subst ex;cases r1;refine Y7 ?_;obtain ⟨d,l,g,m⟩:=I1.list (SqL.of sq);have j:=l.length;refine call_reversed_list g.isList ?_;have f:(c.heap.push (revObj a ((d.toArray.size:Int) - 1))).IsRevIter c.heap.objs.size a ((d.toArray.size:Int) - 1):=⟨_,P0 _ rfl,rfl,rfl⟩
 refine wpAny_pyIter_revIter f ?_;refine ⟨c.heap.objs.size,[c.heap.objs.size],_,_,H1,rfl,I1.kept (t':=c.toks) λ b o e=>C0 _ e,zl3 a _ _,?_,λ b k=>?_,q⟩
 ·rw [show (xs.length:Int) - 1 - ((0:Nat):Int)=(d.toArray.size:Int) - 1 by rw [R0,<-j];omega];exact f
 obtain rfl:b=c.heap.objs.size:=by simpa using k
 exact I1.fpOk (B0 _) (I1.hok.fresh (B0 _))
theorem zm1 {a:Addr} {xs:List V} {g:TG} {tb:TS} {D:Ends} {σ:St} {H:Hp} (Pv:Nat->St->Hp->Prop) (h0:Pv 0 σ H) (hl :∀i σ H,Pv i σ H->H a=some (.lst xs))
  (hs :∀i x σ H,xs.reverse[i]? = some x->Pv i σ H->g x σ H λ σ2 H2=>tb { D with nx:=Pv (i + 1),ct:=Pv (i + 1),bk:=D.nx } σ2 H2) (hd :∀σ H,Pv xs.length σ H->D.nx σ H) :
  ∃W:Nat->Nat->St->Hp->Prop,(∃m,W 0 m σ H)/\∀i m σ H,W i m σ H->
   ((ItRv a xs.length).stop i H/\D.nx σ H)\/((ItRv a xs.length).go i H/\∃N:St->Hp->Prop,(∀σ' H',N σ' H'->∃m',m' < m/\W (i + 1) m' σ' H')/\∀x H',(ItRv a xs.length).yld i H x H'->g x σ H' λ σ2 H2=>tb { D with nx:=N,ct:=N,bk:=D.nx } σ2 H2):=by
 refine ⟨λ i m σ H=>m=xs.length - i/\i<=xs.length/\Pv i σ H,⟨xs.length,by simp,R1 _,h0⟩,?_⟩;rintro i m σ H ⟨rfl,hi,p⟩;have q:=hl i σ H p;by_cases hlt:i < xs.length
 ·refine .inr ⟨⟨hlt,xs,q,rfl⟩,Pv (i + 1),λ σ' H' b=>⟨xs.length - (i + 1),by omega,rfl,hlt,b⟩,λ x H' y=>?_⟩;obtain ⟨rfl,y⟩:=y;refine hs i x σ _ ?_ p;rw [List.getElem?_reverse hlt];exact y xs q
 ·obtain rfl:i=xs.length:=by omega
  exact .inl ⟨rfl,hd σ H p⟩
end L2
set_option maxHeartbeats 400000
namespace L2
open PySem PySem.Spec PyProof.Rows
section
variable {X:Cx}
theorem zma {o:Expr} {to:TE} {apos cpos:Pos} (ho:PE X o to) (hbase:S3 o "pop" X.env (Y2 o X.env)=Y2 o X.env:=by rfl) (hline:(apos.endLine == cpos.line)=true:=by rfl):PE X (.Call (.Attribute o "pop" apos) [] [] cpos) (tBM0 X.K "list" rPop to):=
 pe_bm0 Z5 PySem.F.slot_list_pop PySem.F.type_list_pop mt_pop ho hbase hline
theorem zf8 {o e:Expr} {es:List Expr} {to:TE} {t:TA} {apos cpos:Pos} (ho:PE X o to) (ha:PA X (e :: es) t)
  (hbase:S3 o "extend" X.env (Y2 o X.env)=Y2 o X.env:=by rfl)
  (hfew:((Z3 cpos (A1 (e :: es) X.env)).all (λ x=>!x.1) && (y9 cpos (K6 [] X.env)).all (λ x=>x.1.isSome) && decide ((e :: es).length + ([]:List c6).length + (if ([]:List c6).isEmpty then 0 else 1) < 30))=true:=by rfl)
  (hline:(apos.endLine == cpos.line)=true:=by rfl) (hs:A1 (e :: es) X.env=(false,Y2 e X.env) :: A1 es X.env:=by rfl) (hplain:(Z3 cpos (A1 es X.env)).any (·.1)=false:=by rfl) :
  PE X (.Call (.Attribute o "extend" apos) (e :: es) [] cpos) (tBM X.K "list" zk0 to t):=pe_bm Z5 PySem.F.slot_list_extend PySem.F.type_list_extend zir ho ha hbase hfew hline hs hplain
end
end L2
set_option maxHeartbeats 4000000
namespace L2
open PySem PySem.Spec PyProof.Rows
def IsSq:Bool->Heap->Addr->Array Value->Prop
 | true,h,a,xs=>h.IsTuple a xs
 | false,h,a,xs=>h.IsList a xs
def IsSqI:Bool->Heap->Addr->Addr->Nat->Prop
 | true,h,i,a,n=>h.IsTupleIter i a n
 | false,h,i,a,n=>h.IsListIter i a n
def sqIt:Bool->Addr->Obj
 | true,a=>{ cls:=.type "tuple_iterator",data:=.fields #[.ref a,.int 0 0] }
 | false,a=>{ cls:=.type "list_iterator",data:=.fields #[.ref a,.int 0 0] }
theorem zm4 {h:Heap} {i a:Addr} :∀{k:Bool},h.get? i=some (sqIt k a)->IsSqI k h i a 0
 | true,e=>⟨_,e,rfl,rfl⟩
 | false,e=>⟨_,e,rfl,rfl⟩
theorem IsSqI.at_ {h h':Heap} {i a:Addr} {n:Nat} :∀{k:Bool},IsSqI k h i a n->(∀o,h.get? i=some o->h'.get? i=some o)->IsSqI k h' i a n
 | true,⟨o,h1,h2⟩,f=>⟨o,f _ h1,h2⟩
 | false,⟨o,h1,h2⟩,f=>⟨o,f _ h1,h2⟩
theorem IsSqI.obj {h:Heap} {i a:Addr} {n:Nat} :∀{k:Bool},IsSqI k h i a n->∃o,h.get? i=some o/\∃fs,o.data=.fields fs
 | true,⟨o,h1,_,h2⟩=>⟨o,h1,_,h2⟩
 | false,⟨o,h1,_,h2⟩=>⟨o,h1,_,h2⟩
theorem IsSq.lt {h:Heap} {a:Addr} {xs:Array Value} :∀{k:Bool},IsSq k h a xs->a < h.objs.size
 | true,⟨_,e,_⟩=>M0 e
 | false,⟨_,e,_⟩=>M0 e
theorem IsSqI.extBut {c:Addr} {h h':Heap} {i a:Addr} {n:Nat} {k:Bool} (z:IsSqI k h i a n) (e:E9 c h h') (x:i≠c):IsSqI k h' i a n:=z.at_ λ o q=>e _ _ x q
theorem IsSq.extBut {c:Addr} {h h':Heap} {a:Addr} {xs:Array Value} :∀{k:Bool},IsSq k h a xs->E9 c h h'->a≠c->IsSq k h' a xs
 | true,z,e,x=>Heap.IsTuple.extBut z e x
 | false,z,e,x=>Heap.IsList.extBut z e x
section
variable {prog:Program} {w:V0} {A:U1} {E:Value->t0->Prop} {s:t0}
theorem sqOn {it t:Addr} {i:Nat} {its:Array Value} {x:Value} {Q:Value->t0->Prop} :∀{k:Bool},IsSqI k s.heap it t i->IsSq k s.heap t its->its[i]? = some x->(∀h',IsSqI k h' it t (i + 1)->S5 it s.heap h'->Q x { s with heap:=h' })->O0 (j1 prog w) A (V1 (.ref it)) Q E s
 | true,a,b,c,q=>tupOn a b c q
 | false,a,b,c,q=>wpAny_nextOf_list_item a b c q
theorem sqOff {it t:Addr} {i:Nat} {its:Array Value} {Q:Value->t0->Prop} (hh:A.handled=none) :∀{k:Bool},IsSqI k s.heap it t i->IsSq k s.heap t its->its[i]? = none->(∀h' e,E9 it s.heap h'->(∃o,h'.get? e=some o/\o.cls=.type "StopIteration")->E (.ref e) { s with heap:=h' })->O0 (j1 prog w) A (V1 (.ref it)) Q E s
 | true,a,b,c,q=>tupOff hh a b c q
 | false,a,b,c,q=>wpAny_nextOf_list_end hh a b c q
theorem zmw {t:Addr} {its:Array Value} {Q:Value->t0->Prop} :∀{k:Bool},IsSq k s.heap t its->Q (.ref s.heap.objs.size) { s with heap:=s.heap.push (sqIt k t) }->O0 (j1 prog w) A (pyIter (.ref t)) Q E s
 | true,a,q=>E4 a q
 | false,a,q=>S6 a q
structure ZMAt (k:Bool) (h:Heap) (z T U i j a b:Addr) (n:Nat) (f:Value):Prop where
 z:j1f h z T U f
 t:W7 h T (.ref i) (.ref j)
 u :∃p q,W7 h U p q
 i:IsSqI k h i a n
 j:h.IsTupleIter j b n
theorem zipOnM {k:Bool} {z T U i j a b:Addr} {n:Nat} {xs ys:Array Value} {x y:Value} {Q:Option Value->t0->Prop} (D:ZApart z T U i j a b) (Z:ZMAt k s.heap z T U i j a b n .none) (ha:IsSq k s.heap a xs) (hb:s.heap.IsTuple b ys) (hx:xs[n]? = some x) (hy:ys[n]? = some y)
  (q :∀h',ZMAt k h' z T U i j a b (n + 1) (M9 s.heap.objs.size)->W7 h' s.heap.objs.size x y->(∀c o,c≠z->c≠U->c≠i->c≠j->s.heap.get? c=some o->h'.get? c=some o)->Q (some (.ref s.heap.objs.size)) { s with heap:=h' }) :
  O0 (j1 prog w) A (n8 (.ref z)) Q E s:=by
 obtain ⟨⟨V,G,O,M⟩,⟨TU,Ti,Tj⟩,⟨R,K⟩,ij⟩:=D.ne;obtain ⟨az,aT,aU,ai,aj⟩:=D.ofA;obtain ⟨bz,bT,bU,bi,bj⟩:=D.ofB;obtain ⟨p,N,hU⟩:=Z.u;have ty:s.TypeIs (.ref z) "zip":=⟨_,Z.z,rfl⟩
 unfold n8;refine j0 (A6 (i3 (name:=u3 "__next__") ty F9 (P2 F9 ty F.entry_zip_next ?_ (F.args_zip_next_1 _))));show O0 _ _ (field (.ref z) 2 >>= λ _=>field (.ref z) 3 >>= _) _ _ _;refine j0 (O3 Z.z rfl (x:=.bool false) rfl (j0 (O3 Z.z rfl (x:=.ref T) rfl (j0 (u4 Z.t rfl ?_)))));show O0 _ _ (W3 (.ref z) >>= _) _ _ _;unfold W3;refine j0 (j0 (O3 Z.z rfl (x:=.none) rfl (D0 ?_)));simp only [if_true];refine j0 (m7 (j0 (O3 Z.z rfl (x:=.ref U) rfl (j0 (o5 Z.z (by simp) λ k1 I s1=>j0 ?_)))));have I:j1f k1 z T U .ellipsis:=I;have f:=s1.extBut;simp only [List.zipIdx_cons,List.zipIdx_nil,F4,A4];refine j0 (j0 (U8 (show O0 _ _ (V1 (.ref i) >>= _) _ _ _ from j0 (sqOn (Z.i.extBut f O.symm) (ha.extBut f az) hx λ k2 g2 s2=>D0 ?_))));have l:=s2.extBut;have U2:W7 k2 U p N:=l _ _ R (f _ _ G.symm hU);refine j0 (u4 U2 rfl (j0 (j0a U2 λ k3 g3 X=>j0 (wpAny_letGo (D0 ?_)))));have U3:W7 k3 U x N:=g3;have m:=X.extBut;refine j0 (j0 (U8 (show O0 _ _ (V1 (.ref j) >>= _) _ _ _ from j0 (tupOn (((Z.j.extBut f M.symm).extBut l ij.symm).extBut m K.symm) (((hb.extBut f bz).extBut l bi).extBut m bU) hy λ k4 g4 s4=>D0 ?_))));have B:=s4.extBut;have U4:W7 k4 U x N:=B _ _ K U3;refine j0 (u4 U4 rfl (j0 (j0a U4 λ d g5 Y=>j0 (wpAny_letGo (D0 (D0 ?_))))));have U5:W7 d U x y:=g5;have H:=Y.extBut;refine j0 (u4 U5 rfl (j0 (wpAny_newTuple ?_)));have sz:d.objs.size=s.heap.objs.size:=by rw [Y.1,s4.1,X.1,s2.1,s1.1]
 have z5:j1f d z T U .ellipsis:=H _ _ G (B _ _ M (m _ _ G (l _ _ O I)));have W :∀c o,c≠z->c≠U->c≠i->c≠j->s.heap.get? c=some o->d.get? c=some o:=λ c o e C L P h=>H _ _ C (B _ _ P (m _ _ C (l _ _ L (f _ _ e h))));have i5:IsSqI k d i a (n + 1):=((g2.extBut m R.symm).extBut B ij).extBut H R.symm;have j5:d.IsTupleIter j b (n + 1):=g4.extBut H K.symm;have zl:z≠d.objs.size:=Z0 (M0 z5);show O0 _ _ (O7 (.ref z) (.ref d.objs.size) >>= _) _ _ _;unfold O7;have z6:j1f (d.push { cls:=.type "tuple",data:=.seq #[x,y] }) z T U .ellipsis:=C0 _ z5;refine j0 (j0 (o5 z6 (by simp) λ k7 J S=>?_));have J:j1f k7 z T U (M9 d.objs.size):=J;refine o5 J (by simp) λ r v s8=>?_;have v:j1f r z T U (M9 d.objs.size):=v;have g :∀c o,c≠z->d.get? c=some o->r.get? c=some o:=λ c o e h=>s8.extBut _ _ e (S.extBut _ _ e (C0 _ h));have P8:W7 r d.objs.size x y:=s8.extBut _ _ zl.symm (S.extBut _ _ zl.symm (P0 _ rfl));rw [sz] at v P8;refine D0 ⟨_,rfl,?_⟩;show O0 _ _ (d3 (some (Value.ref d.objs.size))) _ _ _;rw [sz];refine D0 (q r ⟨v,g _ _ V.symm (W _ _ V.symm TU Ti Tj Z.t),⟨_,_,g _ _ G.symm U5⟩,?_,?_⟩ P8 λ c o e C L P h=>g c o e (W c o e C L P h))
 ·exact i5.at_ λ o h=>g _ _ O.symm h
 ·obtain ⟨o,h1,h2⟩:=j5;exact ⟨o,g _ _ M.symm h1,h2⟩
theorem zmu {k:Bool} {z T U i j a b:Addr} {n:Nat} {xs ys:Array Value} {Q:Option Value->t0->Prop} (hh:A.handled=none) (D:ZApart z T U i j a b) (Z:ZMAt k s.heap z T U i j a b n .none) (ha:IsSq k s.heap a xs) (hb:s.heap.IsTuple b ys) (hx:xs[n]? = none\/ys[n]? = none)
  (q :∀h',(∀c o,c≠z->c≠U->c≠i->c≠j->s.heap.get? c=some o->h'.get? c=some o)->Q none { s with heap:=h' }):O0 (j1 prog w) A (n8 (.ref z)) Q E s:=by
 obtain ⟨⟨zT,N,B,O⟩,⟨TU,Ti,Tj⟩,⟨Ui,W⟩,ij⟩:=D.ne;obtain ⟨I,aT,aU,ai,aj⟩:=D.ofA;obtain ⟨bz,bT,bU,bi,bj⟩:=D.ofB;obtain ⟨p,p',hU⟩:=Z.u;have ty:s.TypeIs (.ref z) "zip":=⟨_,Z.z,rfl⟩
 have K :∀h' e,(∀c o,c≠z->c≠U->c≠i->c≠j->s.heap.get? c=some o->h'.get? c=some o)->(∃o,h'.get? e=some o/\o.cls=.type "StopIteration")->
   O0 (j1 prog w) A (do if <-o8 (.ref e) (.type "StopIteration") then d3 none else throw (.ref e)) Q E { s with heap:=h' }:=λ h' e k ⟨o,g,l⟩=>
  j0 (X4 (T:="StopIteration") (b:=true) ⟨o,g,l⟩ isSubtype_stop (D0 (q _ k)))
 unfold n8;refine j0 (A6 (i3 (name:=u3 "__next__") ty F9 (P2 F9 ty F.entry_zip_next ?_ (F.args_zip_next_1 _))));show O0 _ _ (field (.ref z) 2 >>= λ _=>field (.ref z) 3 >>= _) _ _ _;refine j0 (O3 Z.z rfl (x:=.bool false) rfl (j0 (O3 Z.z rfl (x:=.ref T) rfl (j0 (u4 Z.t rfl ?_)))));show O0 _ _ (W3 (.ref z) >>= _) _ _ _;unfold W3;refine j0 (j0 (O3 Z.z rfl (x:=.none) rfl (D0 ?_)));simp only [if_true];refine j0 (m7 (j0 (O3 Z.z rfl (x:=.ref U) rfl (j0 (o5 Z.z (by simp) λ k1 v s1=>j0 ?_)))));have v:j1f k1 z T U .ellipsis:=v;have d:=s1.extBut;simp only [List.zipIdx_cons,List.zipIdx_nil,F4,A4];have R :∀{h:Heap} {e:Addr},j1f h z T U .ellipsis->(∃o,h.get? e=some o/\o.cls=.type "StopIteration")->e≠z:=λ {h e} hz ⟨o,g,l⟩ x=>by subst x;rw [hz] at g;cases g;simp at l
 cases cx:xs[n]? with
 | none=>refine j0 (j0 (U8 (show O0 _ _ (V1 (.ref i) >>= _) _ _ _ from j0 (sqOff hh (Z.i.extBut d B.symm) (ha.extBut d I) cx λ H e f r=>?_))));have P:j1f H z T U .ellipsis:=f _ _ B v;obtain ⟨o,g,l⟩:=id r;exact o5 P (by simp) λ S _ y=>K S e (λ c o m _ G _ h=>y.extBut _ _ m (f _ _ G (d _ _ m h))) ⟨o,y.extBut _ _ (R P r) g,l⟩
 | some x=>
  have X:ys[n]? = none:=by
   rcases hx with h|h
   ·rw [cx] at h;cases h
   ·exact h
  refine j0 (j0 (U8 (show O0 _ _ (V1 (.ref i) >>= _) _ _ _ from j0 (sqOn (Z.i.extBut d B.symm) (ha.extBut d I) cx λ H g2 s2=>D0 ?_))));have f:=s2.extBut;have V:W7 H U p p':=f _ _ Ui (d _ _ N.symm hU);refine j0 (u4 V rfl (j0 (j0a V λ S g3 y=>j0 (wpAny_letGo (D0 ?_)))));have C:=y.extBut;refine j0 (j0 (U8 (show O0 _ _ (V1 (.ref j) >>= _) _ _ _ from j0 (tupOff hh (((Z.j.extBut d O.symm).extBut f ij.symm).extBut C W.symm) (((hb.extBut d bz).extBut f bi).extBut C bU) X λ k4 e J r=>?_))));have L:j1f k4 z T U .ellipsis:=J _ _ O (C _ _ N (f _ _ B v));obtain ⟨o,g,l⟩:=id r;exact o5 L (by simp) λ k5 _ M=>K k5 e (λ c o m Y G c4 h=>M.extBut _ _ m (J _ _ c4 (C _ _ Y (f _ _ G (d _ _ m h))))) ⟨o,M.extBut _ _ (R L r) g,l⟩
def zObsM (k:Bool) (n a b:Addr):List Obj:=[(sqIt k a),{ cls:=.type "tuple_iterator",data:=.fields #[.ref b,.int 0 0] },{ cls:=.type "tuple",data:=.seq #[.ref n,.ref (n + 1)] },
 { cls:=.type "tuple",data:=.seq #[.none,.none] },{ cls:=.type "zip",data:=.fields #[.none,.bool false,.bool false,.ref (n + 2),.ref (n + 3)] }]
def zHeapM (k:Bool) (h:Heap) (a b:Addr):Heap:=(zObsM k h.objs.size a b).foldl Heap.push h
theorem zn4 (k:Bool) (a b:Addr) (xs ys:Array Value):Meets (i6.«zip.__new__» ⟨[.type "zip",.ref a,.ref b],[]⟩) (λ _ R s=>IsSq k s.heap a xs/\s.heap.IsTuple b ys/\R (.ok (.ret (.ref (s.heap.objs.size + 4)))) { s with heap:=zHeapM k s.heap a b }):=
 .of_wp λ o w A R s h=>by
  obtain ⟨f,g,d,e,c⟩:=s;obtain ⟨m,l,h⟩:=h;have n:=sub_zip;have i:IsSq k (j45 ⟨f,g,d,e,c⟩) a xs:=m;have j:Heap.IsTuple (j45 ⟨f.push (sqIt k a),g,d,e,c⟩) b ys:=Heap.IsTuple.push l _
  wp_walk using zmw i,E4 j
  refine ⟨_,rfl,?_⟩;simpa [zHeapM,zObsM,T2,X3,j05] using h
theorem zln {k:Bool} {a b:Addr} {xs ys:Array Value} {Q:Value->t0->Prop} (ha:IsSq k s.heap a xs) (hb:s.heap.IsTuple b ys)
  (q :∀h',ZMAt k h' (s.heap.objs.size + 4) (s.heap.objs.size + 2) (s.heap.objs.size + 3) s.heap.objs.size (s.heap.objs.size + 1) a b 0 .none->(∀c o,s.heap.get? c=some o->h'.get? c=some o)->Q (.ref (s.heap.objs.size + 4)) { s with heap:=h' }) :
  O0 (j1 prog w) A (call (.type "zip") [.ref a,.ref b]) Q E s:=by
 refine callType_new F.called_zip (by decide) (F.typeCall_zip_2 _ _) (F.newCall_zip_2 _ _) (λ obj=>F.args_object_init_3 obj _ _) F.entry_zip_new (zn4 k a b xs ys) ⟨ha,hb,?_⟩;have keep :∀(o:Obj) {h:Heap} {c:Addr} {u:Obj},h.get? c=some u->(h.push o).get? c=some u:=λ o _ _ _ e=>C0 _ e;generalize hn:s.heap.objs.size=n at q⊢;have r:zHeapM k s.heap a b=((((s.heap.push (sqIt k a)).push { cls:=.type "tuple_iterator",data:=.fields #[.ref b,.int 0 0] }).push { cls:=.type "tuple",data:=.seq #[.ref n,.ref (n + 1)] }).push
   { cls:=.type "tuple",data:=.seq #[.none,.none] }).push { cls:=.type "zip",data:=.fields #[.none,.bool false,.bool false,.ref (n + 2),.ref (n + 3)] }:=by subst hn;rfl
 rw [r];generalize h0:s.heap.push (sqIt k a)=k0;generalize h1:k0.push { cls:=.type "tuple_iterator",data:=.fields #[.ref b,.int 0 0] }=k1;generalize h2:k1.push { cls:=.type "tuple",data:=.seq #[.ref n,.ref (n + 1)] }=k2;generalize h3:k2.push { cls:=.type "tuple",data:=.seq #[.none,.none] }=k3;have g:k0.objs.size=n + 1:=by rw [<-h0,T2,hn]
 have d:k1.objs.size=n + 2:=by rw [<-h1,T2,g]
 have j:k2.objs.size=n + 3:=by rw [<-h2,T2,d]
 have x:k3.objs.size=n + 4:=by rw [<-h3,T2,j]
 have m:k0.get? n=some (sqIt k a):=by rw [<-h0,<-hn];exact P0 _ (by cases k<;>rfl)
 have l:k1.get? (n + 1)=some { cls:=.type "tuple_iterator",data:=.fields #[.ref b,.int 0 0] }:=by rw [<-h1,<-g];exact P0 _ rfl
 have y:k2.get? (n + 2)=some { cls:=.type "tuple",data:=.seq #[.ref n,.ref (n + 1)] }:=by rw [<-h2,<-d];exact P0 _ rfl
 have t:k3.get? (n + 3)=some { cls:=.type "tuple",data:=.seq #[.none,.none] }:=by rw [<-h3,<-j];exact P0 _ rfl
 have i :∀{c o},k0.get? c=some o->k3.get? c=some o:=λ e=>by rw [<-h3,<-h2,<-h1];exact keep _ (keep _ (keep _ e))
 have p :∀{c o},k1.get? c=some o->k3.get? c=some o:=λ e=>by rw [<-h3,<-h2];exact keep _ (keep _ e)
 have v :∀{c o},k2.get? c=some o->k3.get? c=some o:=λ e=>by rw [<-h3];exact keep _ e
 have f:(k3.push { cls:=.type "zip",data:=.fields #[.none,.bool false,.bool false,.ref (n + 2),.ref (n + 3)] }).get? (n + 4)=some { cls:=.type "zip",data:=.fields #[.none,.bool false,.bool false,.ref (n + 2),.ref (n + 3)] }:=by rw [<-x];exact P0 _ rfl
 exact ⟨⟨_,f,rfl⟩,q _ ⟨f,keep _ (v y),⟨_,_,keep _ t⟩,zm4 (keep _ (i m)),⟨_,keep _ (p l),rfl,rfl⟩⟩ λ c o e=>keep _ (i (by rw [<-h0];exact keep _ e))⟩
end
def SqM:Bool->c0->Hp->Addr->List V->Prop
 | true=>SqT
 | false=>SqL
theorem SqM.same {K:c0} {H H':Hp} {a:Addr} {xs:List V} (s:Same H H') :∀{k:Bool},SqM k K H a xs->SqM k K H' a xs
 | true,z=>s.seqT z
 | false,z=>s.seq z
theorem sqM_at {X:Cx} {pins:List (Addr×Obj)} {σ:St} {H:Hp} {s:t0} {a:Addr} {xs:List V} (I:Inv X pins σ H s) :∀{k:Bool},SqM k X.K H a xs->∃its:List Value,Vals xs its/\IsSq k s.heap a its.toArray
 | true,z=>let ⟨its,r,p,_⟩:=I.tuple z;⟨its,r,p⟩
 | false,z=>let ⟨its,r,p,_⟩:=I.list z;⟨its,r,p.isList⟩
theorem zmx {X:Cx} {pins:List (Addr×Obj)} {σ:St} {H:Hp} {s:t0} {a:Addr} {xs ys:List V} (I:Inv X pins σ H s) :∀{k:Bool},SqM k X.K H a xs->SqM k X.K H a ys->xs=ys
 | true,z,y=>I.tuple_inj z y
 | false,z,y=>I.list_inj z y
def ItzM (k:Bool) (K:c0) (a b:Addr):It:=
  ⟨λ i H=>∃xs ys x y,SqM k K H a xs/\SqT K H b ys/\xs[i]? = some x/\ys[i]? = some y,
   λ i H v H'=>∃p,H p=none/\v=.ref p/\∀xs ys,SqM k K H a xs->SqT K H b ys->∃x y,xs[i]? = some x/\ys[i]? = some y/\H'=upd H p (.tup [x,y]),
   λ i H=>∃xs ys,SqM k K H a xs/\SqT K H b ys/\(xs.length<=i\/ys.length<=i)⟩
theorem zhu {k:Bool} {P:Program} {w:V0} {K:c0} {elts:List Expr} {x1:Nat} {pos:Pos} {z T U i j a b:Addr} (D:ZApart z T U i j a b):Turn P w K (.Tuple elts x1 pos) (ItzM k K a b) [z,T,U,i,j] z (λ n h=>ZMAt k h z T U i j a b n .none) where
 mem:=by simp
 obj:=λ n h f c g=>by
  simp only [Y0,A0,or_false] at g;rcases g with rfl|rfl|rfl|rfl|rfl
  ·exact ⟨_,f.z,λ v z=>by cases (show j22 _=V9 v from z)⟩
  ·exact ⟨_,f.t,λ v z=>by cases (show Data.seq _ _=V9 v from z)⟩
  ·obtain ⟨p,q,e⟩:=f.u;exact ⟨_,e,λ v z=>by cases (show Data.seq _ _=V9 v from z)⟩
  ·obtain ⟨o,e,_,d⟩:=f.i.obj;exact ⟨o,e,λ v z=>by rw [d] at z;cases z⟩
  ·obtain ⟨o,e,_,d⟩:=f.j;exact ⟨o,e,λ v z=>by rw [d] at z;cases z⟩
 keep:=λ n h h' f l=>by obtain ⟨p,q,e⟩:=f.u;obtain ⟨M,G,J⟩:=f.j;exact ⟨l z (by simp) _ f.z,l T (by simp) _ f.t,⟨p,q,l U (by simp) _ e⟩,f.i.at_ λ o h=>l i (by simp) _ h,⟨M,l j (by simp) _ G,J⟩⟩
 item:=by
  intro X L W S g n a1 s σ H E I B f N;subst L W S;obtain ⟨xs,ys,x,y,A,C,hx,hy⟩:=N;obtain ⟨ia,Q,O⟩:=sqM_at I A;obtain ⟨R,F,Y,_⟩:=I.tuple C;obtain ⟨u,hu,ru⟩:=Q.get hx;obtain ⟨v,hv,rv⟩:=F.get hy;refine zipOnM D f O (show s.heap.IsTuple b R.toArray from Y) (x:=u) (y:=v) (by simpa using hu) (by simpa using hv) λ h' r pr l=>?_;refine ⟨_,rfl,wpAny_letOwnedTupleGo_zip r.z λ h2 z2 m=>?_⟩;have nz:s.heap.objs.size≠z:=i4 (M0 f.z);have k2 :∀c o,c∉[z,T,U,i,j]->s.heap.get? c=some o->h2.get? c=some o:=λ c o g e=>by simp only [Y0,A0,or_false,not_or] at g;exact m.extBut _ _ g.1 (l c o g.1 g.2.2.1 g.2.2.2.1 g.2.2.2.2 e)
  have a0:W7 h2 s.heap.objs.size u v:=m.extBut _ _ nz pr;have fr:H s.heap.objs.size=none:=I.hok.fresh (B0 _);refine ⟨.ref s.heap.objs.size,upd H s.heap.objs.size (.tup [x,y]),I.turnedLaid (t':=s.toks) k2 B (B0 _) ⟨w_2,[u,v],.cons ru (.cons rv .nil),⟨_,a0,rfl,_,rfl⟩,_,a0,rfl⟩,rfl,⟨_,fr,rfl,λ a5 a6 a4 a2=>⟨x,y,?_,?_,rfl⟩⟩,?_,λ c g=>?_⟩
  ·rw [zmx I a4 A];exact hx
  ·rw [I.tuple_inj a2 C];exact hy
  ·obtain ⟨⟨zT,zU,zi,zj⟩,_⟩:=D.ne;obtain ⟨p,q,e⟩:=r.u;obtain ⟨M,G,J⟩:=r.j;exact ⟨z2,m.extBut _ _ zT.symm r.t,⟨p,q,m.extBut _ _ zU.symm e⟩,r.i.at_ λ o h=>m.extBut _ _ zi.symm h,⟨M,m.extBut _ _ zj.symm G,J⟩⟩
  ·have a3:c < s.heap.objs.size:=by
    simp only [Y0,A0,or_false] at g;rcases g with rfl|rfl|rfl|rfl|rfl
    ·exact M0 f.z
    ·exact M0 f.t
    ·obtain ⟨p,q,e⟩:=f.u;exact M0 e
    ·obtain ⟨o,V,_⟩:=f.i.obj;exact M0 V
    ·obtain ⟨o,V,e2⟩:=f.j;exact M0 V
   rw [upd_ne (Z0 a3)];exact (B c g).1
 done:=by
  intro X L W S g n a1 s σ H E I B f N;subst L W S;obtain ⟨xs,ys,A,C,Z⟩:=N;obtain ⟨ia,Q,O⟩:=sqM_at I A;obtain ⟨R,F,Y,_⟩:=I.tuple C;have la:=Q.length;have lb:=F.length;refine zmu (I.ok.hd g) D f O (show s.heap.IsTuple b R.toArray from Y) ?_ λ h' l=>⟨rfl,I.turnedL (t':=s.toks) (λ c o g e=>?_) B⟩
  ·rcases Z with Z|Z
   ·left;simp;omega
   ·right;simp;omega
  ·simp only [Y0,A0,or_false,not_or] at g;exact l c o g.1 g.2.2.1 g.2.2.2.1 g.2.2.2.2 e
 self:=λ _ _ _ _ _ f h=>wpAny_pyIter_zip f.z h
section
variable {X:Cx}
def iZipM (k:Bool) (K:c0) (ta:TA):TI:=λ σ H R=>ta σ H λ vs H1=>∃a b xs ys,vs=[.ref a,.ref b]/\SqM k K H1 a xs/\SqT K H1 b ys/\R (ItzM k K a b) H1
theorem zjs (k:Bool) {elts:List Expr} {x1:Nat} {tpos:Pos} {e f:Expr} {ta:TA} {p pos:Pos} (hg:Gl X "zip") (hm:X.mg "zip" = none) (ha:PA X [e,f] ta) (hs:A1 [e,f] X.env=[(false,Y2 e X.env),(false,Y2 f X.env)]:=by rfl) (hs2:A1 [f] X.env=[(false,Y2 f X.env)]:=by rfl) :
  PI X (.Tuple elts x1 tpos) (.Call (.Name "zip" p) [e,f] [] pos) (iZipM k X.K ta):=by
 intro r s σ H R I h;refine Call_ (ld_blt I hg hm boot_zip (E3 (thn (ha pos r s σ H _ I h) λ G d ⟨vs,H1,I1,r1,q1⟩=>?_) (by rw [hs,hs2]) (by rw [hs2];rfl)));obtain ⟨a,b,F,N,y,n,C,q⟩:=q1;subst y;obtain ⟨u,v,rfl,B,D⟩:=vals2 r1;cases (show u=Value.ref a from B);cases (show v=Value.ref b from D);obtain ⟨M,J,i⟩:=sqM_at I1 n;obtain ⟨t,E,j,_⟩:=I1.tuple C;have A:a < d.heap.objs.size:=by exact i.lt
 have w:b < d.heap.objs.size:=by obtain ⟨o,e,_⟩:=id j;exact M0 e
 refine zln i (show d.heap.IsTuple b t.toArray from j) λ L l x=>?_;refine wpAny_pyIter_zip l.z ?_;refine ⟨_,_,_,_,H1,rfl,I1.kept (t':=d.toks) x,zhu (zApart A w),l,λ c m=>?_,q⟩;have g:d.heap.objs.size<=c:=by
  simp only [Y0,A0,or_false] at m;rcases m with rfl|rfl|rfl|rfl|rfl
  ·exact V4 _ _
  ·exact V4 _ _
  ·exact V4 _ _
  ·exact B0 _
  ·exact V4 _ _
 exact I1.fpOk g (I1.hok.fresh g)
end
theorem zfq {k:Bool} {K:c0} {a b:Addr} {xs ys:List V} {H1:Hp} {n:Nat} (ha:SqM k K H1 a xs) (hb:SqT K H1 b ys) (h1:n=xs.length) (h2:n=ys.length):RunsR Same (ItzM k K a b) H1 n (λ i v H=>∃x y p,xs[i]? = some x/\ys[i]? = some y/\v=.ref p/\H p=some (.tup [x,y])):=by refine ⟨λ i c H s=>⟨xs,ys,xs[i],ys[i],ha.same s,s.seqT hb,by simp [h1 ▸ c],by simp [h2 ▸ c]⟩,λ H s=>⟨xs,ys,ha.same s,s.seqT hb,.inl (by omega)⟩,λ i c H v h s y=>?_⟩;obtain ⟨p,e,rfl,f⟩:=y;obtain ⟨x,y,g,d,rfl⟩:=f xs ys (ha.same s) (s.seqT hb);exact ⟨Same.upd e,x,y,p,g,d,rfl,z01⟩
theorem zh8 {k:Bool} {K:c0} {a b:Addr} {xs ys:List V} {ta:TA} {te:TE} {tc:TT} {g:TG} {m n:Nat} {fr:List (Nat×Str)} {σ:St} {H H1:Hp} {Q:VK} (p:Nat->Bool) (R:Nat->V->Hp->Prop) (hR :∀i y H H',Same H H'->R i y H->R i y H') (hta :∀T:List V->Hp->Prop,T [.ref a,.ref b] H1->ta σ H T) (ha:SqM k K H1 a xs) (hb:SqT K H1 b ys) (h1:n=xs.length) (h2:n=ys.length) (hn:n<=sizeLine)
  (body :∀i,i < n->∀v H,Same H1 H->(∃x y p,xs[i]? = some x/\ys[i]? = some y/\v=.ref p/\H p=some (.tup [x,y]))->∀(KT:VK) (KF:Hp->Prop),(p i=true->∀y H',Same H H'->R i y H'->KT y H')->(p i=false->∀H',Same H H'->KF H')->
   g v (cStG σ fr (W1 m none)) H λ σ6 H6=>∃us,us.length=m/\σ6=cStG σ fr us/\tc (cStG σ fr us) H6 λ b H2=>if b=true then te (cStG σ fr us) H2 KT else KF H2)
  (hQ :∀l H' ys,Same H1 H'->H' l=none->All2 (λ i y=>R i y H') ((K1 n).filter p) ys->Q (.ref l) (upd H' l (.lst ys))):tCompG (iZipM k K ta) m fr g tc te σ H Q:=
 hta _ ⟨a,b,xs,ys,rfl,ha,hb,z2p (Same.refl _) (λ _ _ _ a b=>a.trans b) p R hR (zfq ha hb h1 h2) hn body hQ⟩
end L2
set_option maxHeartbeats 0
namespace K63
open PySem PySem.W PyProof.Rows TJ L2
abbrev PX:Program:=PySem.Challenge.pw_talejudge_k63_no_strictness
noncomputable abbrev annX:Option Value:=some (.ref 6)
def tp (a b:Str) (t:Nat):Obj:={ cls:=.type "tuple",data:=.seq #[.str a t,.str b (t + 1)] 0 }
def tups:List Obj:=[tp "register" "read" 524,tp "register" "write" 526,tp "counter" "read" 528,tp "counter" "add" 530,tp "queue" "put" 532,tp "queue" "take" 534,tp "set" "put" 536,tp "set" "cut" 538,tp "set" "has" 540,tp "cell" "read" 542,tp "cell" "write" 544,tp "cell" "swap" 546]
def insAll:List Obj->Nat->BT->BT
 | [],_,t=>t
 | x :: r,n,t=>insAll r (n + 1) (t.ins n x)
noncomputable def treeD (P:U0) (oD:Obj):BT:=insAll tups 252 ((K63.pre.tree_324 P).ins 251 oD)
noncomputable def FX (w:V0) (os:S2) (oD:Obj) (tk:Nat):SharedT:=⟨treeD w.params oD,264,{},⟨[]⟩,{},tk,os⟩
noncomputable abbrev cdX:Code:=.body (behindTheImports PX) K63.pre.env_1
noncomputable abbrev qX:Pos:=⟨0,0,0,0⟩
noncomputable abbrev BX:List Frame:=[topFrame qX]
noncomputable abbrev GX {α:Type} (w:V0) (c:Nat) (x:Sem α) (s:t0) (pos:Pos) (a:α) (s':t0) (pos':Pos):Prop:=Goes PX w 11 annX cdX qX c x s pos a s' pos'
def LX (n:Nat) {α:Type} (x:Sem α) (w:V0) (pos:Pos) (s:S2->Obj->Nat->SharedT) (a:Nat->α) (s':S2->Obj->Nat->SharedT) (pos':Pos):Prop:=
 ∀(os:S2) (oD:Obj) (tk:Nat) (K:α->Sem E7) (H:Value->Sem E7) (gd:Bool->Bool) (lv:List Value->List Value),
  PySem.W.Fast.tw10295753902157049106 A8 PX w 11 annX 1 n (s os oD tk) ⟨x.wrap K H gd lv,cdX,pos,BX⟩=some (s' os oD tk,⟨K (a tk),cdX,pos',BX⟩)
theorem LX.goes {n:Nat} {α:Type} {x:Sem α} {w:V0} {pos pos':Pos} {s s':S2->Obj->Nat->SharedT} {a:Nat->α} (h:LX n x w pos s a s' pos') (os:S2) (oD:Obj) (tk:Nat):GX w n x (s os oD tk).abs pos (a tk) (s' os oD tk).abs pos':=by refine Goes.leaf n λ K H b c=>?_;have e:=h os oD tk K H b c;rw [<-PySem.W.Fast.te10295753902157049106,<-G5] at e;exact e
noncomputable abbrev stay (w:V0):S2->Obj->Nat->SharedT:=FX w
noncomputable abbrev plus3 (w:V0):S2->Obj->Nat->SharedT:=λ os oD tk=>FX w os oD (tk + 3)
theorem qtH (a:Addr) (h :∀(w:V0) (pos:Pos),LX 3 (PySem.W.Fast.tw13066428366354244818 8 (.ref a)) w pos (stay w) (λ _=>true) (stay w) pos:=by intro w pos os oD tk K H gd lv;kernel_rfl) (w:V0) (pos:Pos):LX 3 (K4 8 (.ref a)) w pos (stay w) (λ _=>true) (stay w) pos:=by rw [PySem.W.Fast.te13066428366354244818];exact h w pos
def qt0:=qtH 252
def qt1:=qtH 253
def qt2:=qtH 254
def qt3:=qtH 255
def qt4:=qtH 256
def qt5:=qtH 257
def qt6:=qtH 258
def qt7:=qtH 259
def qt8:=qtH 260
def qt9:=qtH 261
def qt10:=qtH 262
def qt11:=qtH 263
theorem eqH (n:Nat) (a b:Addr) (hf :∀(w:V0) (pos:Pos),LX n (E5 (.ref a) (.ref b)) (w.withFollow "special-get-raises" false) pos (stay (w.withFollow "special-get-raises" false)) (λ _=>false) (stay (w.withFollow "special-get-raises" false)) pos:=by intro w pos os oD tk K H gd lv;kernel_rfl) (ht :∀(w:V0) (pos:Pos),LX n (E5 (.ref a) (.ref b)) (w.withFollow "special-get-raises" true) pos (stay (w.withFollow "special-get-raises" true)) (λ _=>false) (stay (w.withFollow "special-get-raises" true)) pos:=by intro w pos os oD tk K H gd lv;kernel_rfl) (w:V0) (pos:Pos):LX n (eqBool (.ref a) (.ref b)) w pos (stay w) (λ _=>false) (stay w) pos:=by rw [PySem.W.Fast.te13926502685295537346];exact byRow2 "special-get-raises" (P:=λ w=>LX n (E5 (.ref a) (.ref b)) w pos (stay w) (λ _=>false) (stay w) pos) (λ w=>hf w pos) (λ w=>ht w pos) w
def eq0_1:=eqH 20 252 253
def eq0_2:=eqH 16 252 254
def eq0_3:=eqH 16 252 255
def eq0_4:=eqH 16 252 256
def eq0_5:=eqH 16 252 257
def eq0_6:=eqH 16 252 258
def eq0_7:=eqH 16 252 259
def eq0_8:=eqH 16 252 260
def eq0_9:=eqH 16 252 261
def eq0_10:=eqH 16 252 262
def eq0_11:=eqH 16 252 263
def eq1_2:=eqH 16 253 254
def eq1_3:=eqH 16 253 255
def eq1_4:=eqH 16 253 256
def eq1_5:=eqH 16 253 257
def eq1_6:=eqH 16 253 258
def eq1_7:=eqH 16 253 259
def eq1_8:=eqH 16 253 260
def eq1_9:=eqH 16 253 261
def eq1_10:=eqH 16 253 262
def eq1_11:=eqH 16 253 263
def eq2_3:=eqH 20 254 255
def eq2_4:=eqH 16 254 256
def eq2_5:=eqH 16 254 257
def eq2_6:=eqH 16 254 258
def eq2_7:=eqH 16 254 259
def eq2_8:=eqH 16 254 260
def eq2_9:=eqH 16 254 261
def eq2_10:=eqH 16 254 262
def eq2_11:=eqH 16 254 263
def eq3_4:=eqH 16 255 256
def eq3_5:=eqH 16 255 257
def eq3_6:=eqH 16 255 258
def eq3_7:=eqH 16 255 259
def eq3_8:=eqH 16 255 260
def eq3_9:=eqH 16 255 261
def eq3_10:=eqH 16 255 262
def eq3_11:=eqH 16 255 263
def eq4_5:=eqH 20 256 257
def eq4_6:=eqH 16 256 258
def eq4_7:=eqH 16 256 259
def eq4_8:=eqH 16 256 260
def eq4_9:=eqH 16 256 261
def eq4_10:=eqH 16 256 262
def eq4_11:=eqH 16 256 263
def eq5_6:=eqH 16 257 258
def eq5_7:=eqH 16 257 259
def eq5_8:=eqH 16 257 260
def eq5_9:=eqH 16 257 261
def eq5_10:=eqH 16 257 262
def eq5_11:=eqH 16 257 263
def eq6_7:=eqH 20 258 259
def eq6_8:=eqH 20 258 260
def eq6_9:=eqH 16 258 261
def eq6_10:=eqH 16 258 262
def eq6_11:=eqH 16 258 263
def eq7_8:=eqH 20 259 260
def eq7_9:=eqH 16 259 261
def eq7_10:=eqH 16 259 262
def eq7_11:=eqH 16 259 263
def eq8_9:=eqH 16 260 261
def eq8_10:=eqH 16 260 262
def eq8_11:=eqH 16 260 263
def eq9_10:=eqH 20 261 262
def eq9_11:=eqH 20 261 263
def zn3:=eqH 20 262 263
theorem crH (a:Addr) (hf :∀(w:V0) (pos:Pos),LX 1 (F5 "hash" [.ref a]) (w.withFollow "special-get-raises" false) pos (stay (w.withFollow "special-get-raises" false)) (λ _=>()) (stay (w.withFollow "special-get-raises" false)) pos:=by intro w pos os oD tk K H gd lv;kernel_rfl) (ht :∀(w:V0) (pos:Pos),LX 1 (F5 "hash" [.ref a]) (w.withFollow "special-get-raises" true) pos (stay (w.withFollow "special-get-raises" true)) (λ _=>()) (stay (w.withFollow "special-get-raises" true)) pos:=by intro w pos os oD tk K H gd lv;kernel_rfl) (w:V0) (pos:Pos):LX 1 (cRoomFor "hash" [.ref a]) w pos (stay w) (λ _=>()) (stay w) pos:=by rw [PySem.W.Fast.te13383273872528276517];exact byRow2 "special-get-raises" (P:=λ w=>LX 1 (F5 "hash" [.ref a]) w pos (stay w) (λ _=>()) (stay w) pos) (λ w=>hf w pos) (λ w=>ht w pos) w
theorem soH (a:Addr) (hf :∀(w:V0) (pos:Pos),LX 1 (N5 (.ref a) "__hash__") (w.withFollow "special-get-raises" false) pos (stay (w.withFollow "special-get-raises" false)) (λ _=>some (.builtin "tuple.__hash__")) (stay (w.withFollow "special-get-raises" false)) pos:=by intro w pos os oD tk K H gd lv;kernel_rfl) (ht :∀(w:V0) (pos:Pos),LX 1 (N5 (.ref a) "__hash__") (w.withFollow "special-get-raises" true) pos (stay (w.withFollow "special-get-raises" true)) (λ _=>some (.builtin "tuple.__hash__")) (stay (w.withFollow "special-get-raises" true)) pos:=by intro w pos os oD tk K H gd lv;kernel_rfl) (w:V0) (pos:Pos):LX 1 (specialOf (.ref a) "__hash__") w pos (stay w) (λ _=>some (.builtin "tuple.__hash__")) (stay w) pos:=by rw [PySem.W.Fast.te4214721358667687652];exact byRow2 "special-get-raises" (P:=λ w=>LX 1 (N5 (.ref a) "__hash__") w pos (stay w) (λ _=>some (.builtin "tuple.__hash__")) (stay w) pos) (λ w=>hf w pos) (λ w=>ht w pos) w
theorem csH (a:Addr) (k l:Str) (hf :∀(w:V0) (pos:Pos),LX 22 (C5 (.ref a) "__hash__" (unh a)) (w.withFollow "special-get-raises" false) pos (stay (w.withFollow "special-get-raises" false)) (λ tk=>some (.int (o0 [d0 (w.withFollow "special-get-raises" false).params k,d0 (w.withFollow "special-get-raises" false).params l]) (tk + 2))) (plus3 (w.withFollow "special-get-raises" false)) pos:=by intro w pos os oD tk K H gd lv;kernel_rfl) (ht :∀(w:V0) (pos:Pos),LX 22 (C5 (.ref a) "__hash__" (unh a)) (w.withFollow "special-get-raises" true) pos (stay (w.withFollow "special-get-raises" true)) (λ tk=>some (.int (o0 [d0 (w.withFollow "special-get-raises" true).params k,d0 (w.withFollow "special-get-raises" true).params l]) (tk + 2))) (plus3 (w.withFollow "special-get-raises" true)) pos:=by intro w pos os oD tk K H gd lv;kernel_rfl) (w:V0) (pos:Pos):LX 22 (G7 (.ref a) "__hash__" (unh a)) w pos (stay w) (λ tk=>some (.int (o0 [d0 w.params k,d0 w.params l]) (tk + 2))) (plus3 w) pos:=by rw [PySem.W.Fast.te16697807410369149715];exact byRow2 "special-get-raises" (P:=λ w=>LX 22 (C5 (.ref a) "__hash__" (unh a)) w pos (stay w) (λ tk=>some (.int (o0 [d0 w.params k,d0 w.params l]) (tk + 2))) (plus3 w) pos) (λ w=>hf w pos) (λ w=>ht w pos) w
def cr0:=crH 252
def so0:=soH 252
def cs0:=csH 252 "register" "read"
def cr1:=crH 253
def so1:=soH 253
def cs1:=csH 253 "register" "write"
def cr2:=crH 254
def so2:=soH 254
def cs2:=csH 254 "counter" "read"
def cr3:=crH 255
def so3:=soH 255
def cs3:=csH 255 "counter" "add"
def cr4:=crH 256
def so4:=soH 256
def cs4:=csH 256 "queue" "put"
def cr5:=crH 257
def so5:=soH 257
def cs5:=csH 257 "queue" "take"
def cr6:=crH 258
def so6:=soH 258
def cs6:=csH 258 "set" "put"
def cr7:=crH 259
def so7:=soH 259
def cs7:=csH 259 "set" "cut"
def cr8:=crH 260
def so8:=soH 260
def cs8:=csH 260 "set" "has"
def cr9:=crH 261
def so9:=soH 261
def cs9:=csH 261 "cell" "read"
def cr10:=crH 262
def so10:=soH 262
def cs10:=csH 262 "cell" "write"
def cr11:=crH 263
def so11:=soH 263
def cs11:=csH 263 "cell" "swap"
noncomputable def allX (P:U0):List KV3:=[(252,(.ref 196),(N1 (o0 [d0 P "register",d0 P "read"]))),(253,(.ref 203),(N1 (o0 [d0 P "register",d0 P "write"]))),(254,(.ref 196),(N1 (o0 [d0 P "counter",d0 P "read"]))),(255,(.ref 210),(N1 (o0 [d0 P "counter",d0 P "add"]))),(256,(.ref 217),(N1 (o0 [d0 P "queue",d0 P "put"]))),(257,(.ref 224),(N1 (o0 [d0 P "queue",d0 P "take"]))),(258,(.ref 231),(N1 (o0 [d0 P "set",d0 P "put"]))),(259,(.ref 236),(N1 (o0 [d0 P "set",d0 P "cut"]))),(260,(.ref 243),(N1 (o0 [d0 P "set",d0 P "has"]))),(261,(.ref 196),(N1 (o0 [d0 P "cell",d0 P "read"]))),(262,(.ref 203),(N1 (o0 [d0 P "cell",d0 P "write"]))),(263,(.ref 250),(N1 (o0 [d0 P "cell",d0 P "swap"])))]
theorem zms (w:V0) (os:S2) (pos:Pos):(allX w.params).Pairwise λ x y=>∀oD tk,GX w 20 (eqBool (.ref x.1) (.ref y.1)) (FX w os oD tk).abs pos false (FX w os oD tk).abs pos:=by
 unfold allX;refine
 .cons (λ y a oD tk=>(by
  revert y;simp only [Y1,A0,false_implies,implies_true,and_true];exact ⟨(eq0_1 w pos).goes os oD tk |>.le (by decide),(eq0_2 w pos).goes os oD tk |>.le (by decide),(eq0_3 w pos).goes os oD tk |>.le (by decide),(eq0_4 w pos).goes os oD tk |>.le (by decide),(eq0_5 w pos).goes os oD tk |>.le (by decide),(eq0_6 w pos).goes os oD tk |>.le (by decide),(eq0_7 w pos).goes os oD tk |>.le (by decide),(eq0_8 w pos).goes os oD tk |>.le (by decide),(eq0_9 w pos).goes os oD tk |>.le (by decide),(eq0_10 w pos).goes os oD tk |>.le (by decide),(eq0_11 w pos).goes os oD tk |>.le (by decide)⟩))
  (.cons (λ y a oD tk=>(by
  revert y;simp only [Y1,A0,false_implies,implies_true,and_true];exact ⟨(eq1_2 w pos).goes os oD tk |>.le (by decide),(eq1_3 w pos).goes os oD tk |>.le (by decide),(eq1_4 w pos).goes os oD tk |>.le (by decide),(eq1_5 w pos).goes os oD tk |>.le (by decide),(eq1_6 w pos).goes os oD tk |>.le (by decide),(eq1_7 w pos).goes os oD tk |>.le (by decide),(eq1_8 w pos).goes os oD tk |>.le (by decide),(eq1_9 w pos).goes os oD tk |>.le (by decide),(eq1_10 w pos).goes os oD tk |>.le (by decide),(eq1_11 w pos).goes os oD tk |>.le (by decide)⟩))
  (.cons (λ y a oD tk=>(by
  revert y;simp only [Y1,A0,false_implies,implies_true,and_true];exact ⟨(eq2_3 w pos).goes os oD tk |>.le (by decide),(eq2_4 w pos).goes os oD tk |>.le (by decide),(eq2_5 w pos).goes os oD tk |>.le (by decide),(eq2_6 w pos).goes os oD tk |>.le (by decide),(eq2_7 w pos).goes os oD tk |>.le (by decide),(eq2_8 w pos).goes os oD tk |>.le (by decide),(eq2_9 w pos).goes os oD tk |>.le (by decide),(eq2_10 w pos).goes os oD tk |>.le (by decide),(eq2_11 w pos).goes os oD tk |>.le (by decide)⟩))
  (.cons (λ y a oD tk=>(by
  revert y;simp only [Y1,A0,false_implies,implies_true,and_true];exact ⟨(eq3_4 w pos).goes os oD tk |>.le (by decide),(eq3_5 w pos).goes os oD tk |>.le (by decide),(eq3_6 w pos).goes os oD tk |>.le (by decide),(eq3_7 w pos).goes os oD tk |>.le (by decide),(eq3_8 w pos).goes os oD tk |>.le (by decide),(eq3_9 w pos).goes os oD tk |>.le (by decide),(eq3_10 w pos).goes os oD tk |>.le (by decide),(eq3_11 w pos).goes os oD tk |>.le (by decide)⟩))
  (.cons (λ y a oD tk=>(by
  revert y;simp only [Y1,A0,false_implies,implies_true,and_true];exact ⟨(eq4_5 w pos).goes os oD tk |>.le (by decide),(eq4_6 w pos).goes os oD tk |>.le (by decide),(eq4_7 w pos).goes os oD tk |>.le (by decide),(eq4_8 w pos).goes os oD tk |>.le (by decide),(eq4_9 w pos).goes os oD tk |>.le (by decide),(eq4_10 w pos).goes os oD tk |>.le (by decide),(eq4_11 w pos).goes os oD tk |>.le (by decide)⟩))
  (.cons (λ y a oD tk=>(by
  revert y;simp only [Y1,A0,false_implies,implies_true,and_true];exact ⟨(eq5_6 w pos).goes os oD tk |>.le (by decide),(eq5_7 w pos).goes os oD tk |>.le (by decide),(eq5_8 w pos).goes os oD tk |>.le (by decide),(eq5_9 w pos).goes os oD tk |>.le (by decide),(eq5_10 w pos).goes os oD tk |>.le (by decide),(eq5_11 w pos).goes os oD tk |>.le (by decide)⟩))
  (.cons (λ y a oD tk=>(by
  revert y;simp only [Y1,A0,false_implies,implies_true,and_true];exact ⟨(eq6_7 w pos).goes os oD tk |>.le (by decide),(eq6_8 w pos).goes os oD tk |>.le (by decide),(eq6_9 w pos).goes os oD tk |>.le (by decide),(eq6_10 w pos).goes os oD tk |>.le (by decide),(eq6_11 w pos).goes os oD tk |>.le (by decide)⟩))
  (.cons (λ y a oD tk=>(by
  revert y;simp only [Y1,A0,false_implies,implies_true,and_true];exact ⟨(eq7_8 w pos).goes os oD tk |>.le (by decide),(eq7_9 w pos).goes os oD tk |>.le (by decide),(eq7_10 w pos).goes os oD tk |>.le (by decide),(eq7_11 w pos).goes os oD tk |>.le (by decide)⟩))
  (.cons (λ y a oD tk=>(by
  revert y;simp only [Y1,A0,false_implies,implies_true,and_true];exact ⟨(eq8_9 w pos).goes os oD tk |>.le (by decide),(eq8_10 w pos).goes os oD tk |>.le (by decide),(eq8_11 w pos).goes os oD tk |>.le (by decide)⟩))
  (.cons (λ y a oD tk=>(by
  revert y;simp only [Y1,A0,false_implies,implies_true,and_true];exact ⟨(eq9_10 w pos).goes os oD tk |>.le (by decide),(eq9_11 w pos).goes os oD tk |>.le (by decide)⟩))
  (.cons (λ y a oD tk=>(by
  revert y;simp only [Y1,A0,false_implies,implies_true,and_true];exact (zn3 w pos).goes os oD tk |>.le (by decide)))
  (.cons (λ y a=>nomatch a)
  (j2g))))))))))))
theorem allX_q (w:V0) (os:S2) (pos:Pos) :∀x∈allX w.params,∀oD tk,GX w 3 (K4 8 (.ref x.1)) (FX w os oD tk).abs pos true (FX w os oD tk).abs pos:=by unfold allX;simp only [Y1,A0,false_implies,implies_true,and_true];exact ⟨λ oD tk=>(qt0 w pos).goes os oD tk,λ oD tk=>(qt1 w pos).goes os oD tk,λ oD tk=>(qt2 w pos).goes os oD tk,λ oD tk=>(qt3 w pos).goes os oD tk,λ oD tk=>(qt4 w pos).goes os oD tk,λ oD tk=>(qt5 w pos).goes os oD tk,λ oD tk=>(qt6 w pos).goes os oD tk,λ oD tk=>(qt7 w pos).goes os oD tk,λ oD tk=>(qt8 w pos).goes os oD tk,λ oD tk=>(qt9 w pos).goes os oD tk,λ oD tk=>(qt10 w pos).goes os oD tk,λ oD tk=>(qt11 w pos).goes os oD tk⟩
theorem allX_h (w:V0) (os:S2) (pos:Pos) :∀x∈allX w.params,∀oD tk,GX w 25 (pyHash (.ref x.1)) (FX w os oD tk).abs pos x.2.2 (FX w os oD (tk + 3)).abs pos:=by unfold allX;simp only [Y1,A0,false_implies,implies_true,and_true];exact ⟨λ oD tk=>Goes.pyHashT ((cr0 w pos).goes os oD tk) ((so0 w pos).goes os oD tk) ((cs0 w pos).goes os oD tk),λ oD tk=>Goes.pyHashT ((cr1 w pos).goes os oD tk) ((so1 w pos).goes os oD tk) ((cs1 w pos).goes os oD tk),λ oD tk=>Goes.pyHashT ((cr2 w pos).goes os oD tk) ((so2 w pos).goes os oD tk) ((cs2 w pos).goes os oD tk),λ oD tk=>Goes.pyHashT ((cr3 w pos).goes os oD tk) ((so3 w pos).goes os oD tk) ((cs3 w pos).goes os oD tk),λ oD tk=>Goes.pyHashT ((cr4 w pos).goes os oD tk) ((so4 w pos).goes os oD tk) ((cs4 w pos).goes os oD tk),λ oD tk=>Goes.pyHashT ((cr5 w pos).goes os oD tk) ((so5 w pos).goes os oD tk) ((cs5 w pos).goes os oD tk),λ oD tk=>Goes.pyHashT ((cr6 w pos).goes os oD tk) ((so6 w pos).goes os oD tk) ((cs6 w pos).goes os oD tk),λ oD tk=>Goes.pyHashT ((cr7 w pos).goes os oD tk) ((so7 w pos).goes os oD tk) ((cs7 w pos).goes os oD tk),λ oD tk=>Goes.pyHashT ((cr8 w pos).goes os oD tk) ((so8 w pos).goes os oD tk) ((cs8 w pos).goes os oD tk),λ oD tk=>Goes.pyHashT ((cr9 w pos).goes os oD tk) ((so9 w pos).goes os oD tk) ((cs9 w pos).goes os oD tk),λ oD tk=>Goes.pyHashT ((cr10 w pos).goes os oD tk) ((so10 w pos).goes os oD tk) ((cs10 w pos).goes os oD tk),λ oD tk=>Goes.pyHashT ((cr11 w pos).goes os oD tk) ((so11 w pos).goes os oD tk) ((cs11 w pos).goes os oD tk)⟩
theorem famX (w:V0) (os:S2):Fam 11 251 (FX w os):=by
 have g :∀c,(treeD w.params c).get 251=some c:=λ c=>by kernel_rfl
 refine ⟨by decide,λ b a d=>abs_get (show 251 < 264 by decide) (g _),λ b a d e=>?_⟩;have u:(absHeap (treeD w.params (dObj b a)) 264 {}).update 251 (g9 (·.push e))=absHeap (treeD w.params (dObj (b.push e) (a + 1))) 264 {}:=by
  rw [<-absHeap_set (g _)];have v:(treeD w.params (dObj b a)).set 251 (g9 (·.push e))=treeD w.params (dObj (b.push e) (a + 1)):=by kernel_rfl
  rw [v]
 exact congrArg (λ h=>(⟨h,⟨[]⟩,{},d,os⟩:t0)) u
noncomputable def stD:Stmt:=(behindTheImports PX).getD 32 (.Pass ⟨0,0,0,0⟩)
noncomputable def sufX:List Stmt:=(behindTheImports PX).drop 33
theorem bodyX:behindTheImports PX=K63.pre.sts_7++(K63.pre.sts_64++(K63.pre.sts_83++(K63.pre.sts_102++(K63.pre.sts_121++(K63.pre.sts_140++(K63.pre.sts_159++(K63.pre.sts_178++(K63.pre.sts_197++(K63.pre.sts_216++(K63.pre.sts_235++(K63.pre.sts_259++([stD]++sufX)))))))))))):=by kernel_rfl
def dKeys:Stmt->List (Option Expr)
 | .Assign _ (.Dict ks _ _) _=>ks
 | _=>[]
def dVals:Stmt->List Expr
 | .Assign _ (.Dict _ vs _) _=>vs
 | _=>[]
def dPos:Stmt->Pos
 | .Assign _ (.Dict _ _ p) _=>p
 | _=>⟨0,0,0,0⟩
def sPos:Stmt->Pos
 | .Assign _ _ p=>p
 | _=>⟨0,0,0,0⟩
noncomputable abbrev p1X:Pos:=sPos stD
noncomputable abbrev p2X:Pos:=dPos stD
noncomputable abbrev p3X:Pos:=⟨67,0,67,5⟩
noncomputable def runX:List (Sem Value×Sem Value):=(((evalEachOpt (dKeys stD) K63.pre.env_1).zip ((evalEach (dVals stD) K63.pre.env_1).map λ v=>do let x <-v;j43 p2X;d3 x))).filterMap λ x=>x.1.map (·,x.2)
theorem stD_eq:stD=.Assign [.Name "DOERS" p3X] (.Dict (dKeys stD) (dVals stD) p2X) p1X:=by kernel_rfl
theorem evD:Y2 (.Dict (dKeys stD) (dVals stD) p2X) K63.pre.env_1=(do j43 p2X;let r <-(do let x <-subDict runX;d3 (some x));match r with|some x=>d3 (Value.ref x)|none=>newDict):=by kernel_rfl
theorem swD:o7 (.Dict (dKeys stD) (dVals stD) p2X) (some (.Name "DOERS" p3X)) p1X.line K63.pre.env_1=d3 false:=by kernel_rfl
noncomputable def F0X (w:V0) (os:S2):SharedT:=⟨K63.pre.tree_324 w.params,251,{},⟨[]⟩,{},524,os⟩
noncomputable def F1X (w:V0) (os:S2):SharedT:=⟨(K63.pre.tree_324 w.params).ins 251 (dObj #[] 0),252,{},⟨[]⟩,{},524,os⟩
noncomputable def vsX:List (Value×Value):=[(.ref 252,(.ref 196)),(.ref 253,(.ref 203)),(.ref 254,(.ref 196)),(.ref 255,(.ref 210)),(.ref 256,(.ref 217)),(.ref 257,(.ref 224)),(.ref 258,(.ref 231)),(.ref 259,(.ref 236)),(.ref 260,(.ref 243)),(.ref 261,(.ref 196)),(.ref 262,(.ref 203)),(.ref 263,(.ref 250))]
theorem zg8 (w:V0):LX 84 (evalPairs runX) w p2X (λ os _ _=>F1X w os) (λ _=>vsX) (λ os _ _=>FX w os (dObj #[] 0) 548) p2X:=by rw [PySem.W.Fast.te1788576489739465902];exact λ os c b K H a d=>by kernel_rfl
noncomputable def F2X (w:V0) (os:S2) (oD:Obj) (tk:Nat):SharedT:=⟨(treeD w.params oD).set 3 (Obj.putName "DOERS" (d0 w.params "DOERS") (.str "DOERS" tk) (.ref 251)),264,{},⟨[]⟩,{},tk + 1,os⟩
theorem zj2 (w:V0) (pos:Pos):LX 6 (bindName K63.pre.env_1 "DOERS" (.ref 251)) w pos (stay w) (λ _=>()) (λ os oD tk=>F2X w os oD tk) pos:=by
 rw [PySem.W.Fast.te7536695828754713326];exact byRow2 "special-get-raises" (P:=λ w=>LX 6 (PySem.W.Fast.tw7536695828754713326 K63.pre.env_1 "DOERS" (.ref 251)) w pos (stay w) (λ _=>()) (λ os oD tk=>F2X w os oD tk) pos)
  (λ w os oD tk K H b a=>by kernel_rfl) (λ w os oD tk K H b a=>by kernel_rfl) w
noncomputable abbrev oDX (P:U0):Obj:=dObj ((allX P).map ent).toArray 12
noncomputable abbrev S2X (w:V0) (os:S2):SharedT:=F2X w os (oDX w.params) 584
theorem stD_go (w:V0) (os:S2) (pos:Pos):GX w 100000 (exec stD K63.pre.env_1) (F0X w os).abs pos .next (S2X w os).abs p3X:=by
 rw [stD_eq,exec_Assign_Name _ _ _ _ _ swD];have l:=Goes.loop (p:=PX) (w:=w) (ann:=annX) (code:=cdX) (q:=qX) (pos:=p2X) (famX w os) (N:=12) (allX w.params) (show 12<=12 by decide) (by decide) (show ([252,253,254,255,256,257,258,259,260,261,262,263]:List Nat).Nodup by decide) (allX_q w os p2X) (zms w os p2X) (allX_h w os p2X) (allX w.params) [] 548 rfl;have d:=(zg8 w).goes os (dObj #[] 0) 0;have b:GX w _ (subDict runX) (F0X w os).abs p2X 251 (FX w os (oDX w.params) 584).abs p2X:=
  Goes.subDict (by decide +kernel) (absHeap_size _ _ _) (show GX w _ (evalPairs runX) _ p2X vsX _ p2X from by
   have e:({ (F0X w os).abs with heap:=(F0X w os).abs.heap.push { cls:=.type "dict",data:=.dict #[] } }:t0)=(F1X w os).abs:=by have i:=absHeap_ins (t:=K63.pre.tree_324 w.params) (n:=251) (life:={}) (o:=dObj #[] 0) (by kernel_rfl);exact congrArg (λ h=>(⟨h,⟨[]⟩,{},524,os⟩:t0)) i.symm
   rw [e];exact d) l
 refine (Goes.bind Goes.at' (Goes.bind (a:=Value.ref 251) (pos':=p2X) ?_ (Goes.bind Goes.at' (Goes.bind (f:=λ _=>d3 Flow.next) ((zj2 w p3X).goes os (oDX w.params) 584) Goes.pure)))).le (c:=1 + (((1 + ((1 + (84 + 12 * (25 + (2 + 3 + 12 * (3 + 20 + 10)) + 4))) + 0 + 0)) + (1 + (6 + 0))))) (by decide);rw [evD];exact Goes.bind Goes.at' (Goes.bind (Goes.bind b Goes.pure) Goes.pure)
noncomputable abbrev pLX:Pos:=⟨402,0,420,15⟩
noncomputable def R3X (w:V0) (os:S2):Option (Flow×SharedT×Code×Pos):=PySem.W.Fast.tw10110043849684766642 A8 PX w 11 annX 1 1819 (S2X w os) ⟨(PySem.W.Fast.tw12563942051412417395 sufX K63.pre.env_1).wrap doneF deadEnd id id,cdX,p3X,BX⟩
noncomputable def S3X (w:V0) (os:S2):SharedT:=match R3X w os with|some r=>r.2.1|none=>S2X w os
theorem R3X_eq (w:V0) (os:S2):R3X w os=some (.next,S3X w os,cdX,pLX):=by kernel_rfl
theorem zml (w:V0) (os:S2):segRun K3 PX w 11 annX 1 1819 (S2X w os).abs (piecesOf sufX K63.pre.env_1 cdX p3X BX)=some (.next,(S3X w os).abs,cdX,pLX):=by have e:=R3X_eq w os;unfold R3X at e;rw [<-PySem.W.Fast.te10110043849684766642,<-G5,<-PySem.W.Fast.te12563942051412417395] at e;exact segRun_of e
noncomputable def S0X (w:V0) (os:S2):SharedT:=⟨K63.pre.tree_6 w.params,15,{},⟨[]⟩,{},187,os⟩
theorem pre_go (w:V0) (os:S2):topGo K3 PX w 11 annX 12 ⟨boot_heap w.params,Array.mk [],boot_drawn,boot_toks,os⟩ (topStub PX)=some ((S0X w os).abs,⟨denote K3 cdX,cdX,qX,BX⟩):=by rw [PySem.W.Fast.te15667345088766844465,G5,PySem.W.Fast.te11892475500146522536];kernel_rfl
theorem zkw (w:V0) (os:S2) :∃M,M<=200000/\topRun K3 PX w 11 annX M ⟨boot_heap w.params,Array.mk [],boot_drawn,boot_toks,os⟩ (topStub PX)=some (S3X w os).abs:=by have e:topRun K3 PX w 11 annX 2 (S3X w os).abs (restOf [] K63.pre.env_1 cdX pLX BX)=some (S3X w os).abs:=rfl;have b:=piece_app (zml w os) e;rw [N2] at b;obtain ⟨M,h,d⟩:=zh0 (Goes.execs1 (stD_go w os ⟨63,0,66,21⟩)) b;have a:=K63.pre.chain PX (behindTheImports PX) w os _ M _ d;rw [<-bodyX] at a;have f:segRun K3 PX w 11 annX 1 1 (S0X w os).abs (blockOf (behindTheImports PX) K63.pre.env_1 cdX qX BX)=some (.next,(S0X w os).abs,cdX,qX):=rfl;have g:=piece_block f a;have c:=go_top (pre_go w os) g;refine ⟨_,?_,c⟩;simp only [Nat.add_eq];omega
noncomputable def looseX:List Str:=[("GREATEST_WORTH" : Str),("is_whole" : Str),("is_within" : Str),("is_worth" : Str),("is_tuple_of" : Str),("are_whole" : Str),("is_rising" : Str),("TaleError" : Str),("NoDeed" : Str),("NoTale" : Str),("NoStrictness" : Str),("NoThing" : Str),("NoOrder" : Str),("NoHand" : Str),("NotPlain" : Str),("NoPlan" : Str),("NoDealings" : Str),("NoRow" : Str),("FIRST_STATES" : Str),("WORTHS_OF_VERBS" : Str),("read_state" : Str),("write_state" : Str),("add_to_number" : Str),("put_behind" : Str),("take_first" : Str),("put_into_set" : Str),("cut_from_set" : Str),("has_in_set" : Str),("swap_state" : Str),("DOERS" : Str),("is_kind" : Str),("first_state" : Str),("is_state" : Str),("is_deed" : Str),("do" : Str),("deeds" : Str),("STRICTNESSES" : Str),("has_to" : Str),("check_strictness" : Str),("goes_ahead" : Str),("Candidate" : Str),("Board" : Str),("step_of" : Str),("ended_numbers" : Str),("holds_all" : Str),("first_place" : Str),("all_places" : Str),("next_layer" : Str),("judged" : Str),("stuck_paper" : Str),("is_stuck" : Str),("goes_on_within" : Str),("_law_cell_at" : Str),("_law_take" : Str),("_law_do" : Str),("_law_first" : Str),("_law_worth" : Str),("_law_verb" : Str),("_law_things" : Str),("_law_applied" : Str),("_law_tale" : Str),("_law_deeds" : Str),("_law_is_ahead" : Str),("_law_may_be_next" : Str),("_law_nexts" : Str),("_law_is_full" : Str),("_law_places" : Str),("_law_is_good" : Str),("_law_word" : Str),("_law_caught" : Str)]
noncomputable def viewX:Program:={ PX with main:={ PX.main with body:=(PX.main.body[79]?).toList } }
noncomputable def top (i:Nat):Stmt:=PX.main.body.getD i (.Pass ⟨0,0,0,0⟩)
def subS (s:Stmt) (j:Nat):Stmt:=match s with
 | .ClassDef _ _ _ b _ _ _ _ _ _ _=>b.getD j s
 | _=>s
noncomputable def asX:List Addr:=[3,20,21,27,28,34,35,41,42,46,47,51,52,53,55,60,61,62,66,68,73,74,75,78,80,85,86,87,90,92,97,98,99,102,104,109,110,111,114,116,121,122,123,126,128,133,134,135,138,140,145,146,147,150,152,157,158,159,162,164,169,170,171,174,176,181,182,183,186,187,188,189,195,196,202,203,209,210,216,217,223,224,230,231,235,236,242,243,249,250,251,252,253,254,255,256,257,258,259,260,261,262,263,269,270,276,277,283,284,288,289,295,296,302,303,304,310,311,317,318,324,325,326,328,336,337,343,344,345,346,347,352,354,362,363,369,370,376,377,381,382,383,384,385,395,396,400,401,405,406,410,411,417,418,424,425,431,432,438,439,443,444,448,449,455,456,462,463,467,468,472,473,479,480,486,487,491,492,496,497,501,502,553,554,560,561,567,568]
noncomputable def KX (P:U0):Frag:=[
 (3,⟨(.type "dict"),none,(.dict #[⟨(d0 P "__name__"),(.str "__name__" 165),(.str "law_talejudge_k63_no_strictness" 867)⟩,⟨(d0 P "__doc__"),(.str "__doc__" 166),.none⟩,⟨(d0 P "__package__"),(.str "__package__" 167),.none⟩,⟨(d0 P "__loader__"),(.str "__loader__" 168),(.builtin "__main__.__loader__#opaque")⟩,⟨(d0 P "__spec__"),(.str "__spec__" 169),.none⟩,kR P "__annotations__" 170 6,kR P "__builtins__" 171 4,⟨(d0 P "__file__"),(.str "__file__" 173),(.str "/claim/cut.py" 172)⟩,⟨(d0 P "__cached__"),(.str "__cached__" 174),.none⟩,⟨(d0 P "GREATEST_WORTH"),(.str "GREATEST_WORTH" 190),(.int (1000000000) 189)⟩,kR P "is_whole" 197 21,kR P "is_within" 205 28,kR P "is_worth" 212 35,kR P "is_tuple_of" 220 42,kR P "are_whole" 226 47,kR P "is_rising" 232 52,kR P "TaleError" 252 62,kR P "NoDeed" 268 75,kR P "NoTale" 284 87,kR P "NoStrictness" 300 99,kR P "NoThing" 316 111,kR P "NoOrder" 332 123,kR P "NoHand" 348 135,kR P "NotPlain" 364 147,kR P "NoPlan" 380 159,kR P "NoDealings" 396 171,kR P "NoRow" 412 183,kR P "FIRST_STATES" 428 186,kR P "WORTHS_OF_VERBS" 453 189,kR P "read_state" 461 196,kR P "write_state" 469 203,kR P "add_to_number" 477 210,kR P "put_behind" 485 217,kR P "take_first" 493 224,kR P "put_into_set" 501 231,kR P "cut_from_set" 507 236,kR P "has_in_set" 515 243,kR P "swap_state" 523 250,kR P "DOERS" 584 251,kR P "is_kind" 591 270,kR P "first_state" 598 277,kR P "is_state" 606 284,kR P "is_deed" 612 289,kR P "do" 623 296,kR P "deeds" 638 303,kR P "STRICTNESSES" 644 304,kR P "has_to" 658 311,kR P "check_strictness" 665 318,kR P "goes_ahead" 674 325,kR P "Candidate" 720 347,kR P "Board" 775 385,kR P "step_of" 787 396,kR P "ended_numbers" 793 401,kR P "holds_all" 799 406,kR P "first_place" 805 411,kR P "all_places" 816 418,kR P "next_layer" 827 425,kR P "judged" 844 432,kR P "stuck_paper" 854 439,kR P "is_stuck" 860 444,kR P "goes_on_within" 866 449,kR P "_law_cell_at" 876 456,kR P "_law_take" 886 463,kR P "_law_do" 892 468,kR P "_law_first" 898 473,kR P "_law_worth" 905 480,kR P "_law_verb" 915 487,kR P "_law_things" 921 492,kR P "_law_applied" 927 497,kR P "_law_tale" 933 502,kR P "_law_deeds" 944 509,kR P "_law_is_ahead" 953 516,kR P "_law_may_be_next" 964 523,kR P "_law_nexts" 980 530,kR P "_law_is_full" 986 535,kR P "_law_places" 1001 542,kR P "_law_is_good" 1007 547,kR P "_law_word" 1018 554,kR P "_law_caught" 1031 561,kR P "law" 1046 568] 80),#[]⟩),
 (20,cO "is_whole" "is_whole" 191 3 1 15 195),
 (21,fO "is_whole" "is_whole" (top 2) "talejudge.basics" 187 20),
 (27,cO "is_within" "is_within" 198 5 2 22 203),
 (28,fO "is_within" "is_within" (top 3) "talejudge.basics" 187 27),
 (34,cO "is_worth" "is_worth" 206 7 1 29 210),
 (35,fO "is_worth" "is_worth" (top 4) "talejudge.basics" 187 34),
 (41,cO "is_tuple_of" "is_tuple_of" 213 9 2 36 218),
 (42,fO "is_tuple_of" "is_tuple_of" (top 5) "talejudge.basics" 187 41),
 (46,cP "are_whole" "are_whole" 221 11 1 43 224),
 (47,fO "are_whole" "are_whole" (top 6) "talejudge.basics" 187 46),
 (51,cP "is_rising" "is_rising" 227 13 1 48 230),
 (52,fO "is_rising" "is_rising" (top 7) "talejudge.basics" 187 51),
 (53,⟨(.type "tuple"),none,(.seq #[(.type "ValueError")] 0),#[]⟩),
 (55,⟨(.type "dict"),none,(.dict #[⟨(d0 P "__module__"),(.str "__module__" 242),(.str "talejudge.errors" 233)⟩,⟨(d0 P "__qualname__"),(.str "__qualname__" 244),(.str "TaleError" 243)⟩,⟨(d0 P "__firstlineno__"),(.str "__firstlineno__" 246),(.int (16) 245)⟩,kR P "__static_attributes__" 247 60] 4),#[]⟩),
 (60,⟨(.type "tuple"),none,(.seq #[] 0),#[]⟩),
 (61,⟨(.type "dict"),none,(.dict #[⟨(d0 P "__module__"),(.str "__module__" 242),(.str "talejudge.errors" 233)⟩,⟨(d0 P "__firstlineno__"),(.str "__firstlineno__" 246),(.int (16) 245)⟩,kR P "__static_attributes__" 247 60,kR P "__weakref__" 249 63,⟨(d0 P "__doc__"),(.str "__doc__" 250),.none⟩] 3),#[]⟩),
 (62,⟨(.type "type"),none,(.cls ⟨"TaleError",[(.type "ValueError")],[(.ref 62),(.type "ValueError"),(.type "Exception"),(.type "BaseException"),(.type "object")],61,"TaleError",true,[],[(.ref 75),(.ref 87),(.ref 99),(.ref 111),(.ref 123),(.ref 135),(.ref 147),(.ref 159),(.ref 171),(.ref 183)],false,none,false⟩),#[some (.ref 53),none,some (.str "TaleError" 235),some (.str "TaleError" 243),some (.builtin "ValueError.__new__"),some (.bool true)]⟩),
 (66,⟨(.type "tuple"),none,(.seq #[(.ref 62)] 0),#[]⟩),
 (68,⟨(.type "dict"),none,(.dict #[⟨(d0 P "__module__"),(.str "__module__" 260),(.str "talejudge.errors" 233)⟩,⟨(d0 P "__qualname__"),(.str "__qualname__" 262),(.str "NoDeed" 261)⟩,⟨(d0 P "__firstlineno__"),(.str "__firstlineno__" 264),(.int (18) 263)⟩,kR P "__static_attributes__" 265 73] 4),#[]⟩),
 (73,⟨(.type "tuple"),none,(.seq #[] 0),#[]⟩),
 (74,⟨(.type "dict"),none,(.dict #[⟨(d0 P "__module__"),(.str "__module__" 260),(.str "talejudge.errors" 233)⟩,⟨(d0 P "__firstlineno__"),(.str "__firstlineno__" 264),(.int (18) 263)⟩,kR P "__static_attributes__" 265 73,⟨(d0 P "__doc__"),(.str "__doc__" 266),.none⟩] 2),#[]⟩),
 (75,⟨(.type "type"),none,(.cls ⟨"NoDeed",[(.ref 62)],[(.ref 75),(.ref 62),(.type "ValueError"),(.type "Exception"),(.type "BaseException"),(.type "object")],74,"NoDeed",true,[],[],false,none,false⟩),#[some (.ref 66),none,some (.str "NoDeed" 253),some (.str "NoDeed" 261),some (.builtin "ValueError.__new__"),some (.bool true)]⟩),
 (78,⟨(.type "tuple"),none,(.seq #[(.ref 62)] 0),#[]⟩),
 (80,⟨(.type "dict"),none,(.dict #[⟨(d0 P "__module__"),(.str "__module__" 276),(.str "talejudge.errors" 233)⟩,⟨(d0 P "__qualname__"),(.str "__qualname__" 278),(.str "NoTale" 277)⟩,⟨(d0 P "__firstlineno__"),(.str "__firstlineno__" 280),(.int (20) 279)⟩,kR P "__static_attributes__" 281 85] 4),#[]⟩),
 (85,⟨(.type "tuple"),none,(.seq #[] 0),#[]⟩),
 (86,⟨(.type "dict"),none,(.dict #[⟨(d0 P "__module__"),(.str "__module__" 276),(.str "talejudge.errors" 233)⟩,⟨(d0 P "__firstlineno__"),(.str "__firstlineno__" 280),(.int (20) 279)⟩,kR P "__static_attributes__" 281 85,⟨(d0 P "__doc__"),(.str "__doc__" 282),.none⟩] 2),#[]⟩),
 (87,⟨(.type "type"),none,(.cls ⟨"NoTale",[(.ref 62)],[(.ref 87),(.ref 62),(.type "ValueError"),(.type "Exception"),(.type "BaseException"),(.type "object")],86,"NoTale",true,[],[],false,none,false⟩),#[some (.ref 78),none,some (.str "NoTale" 269),some (.str "NoTale" 277),some (.builtin "ValueError.__new__"),some (.bool true)]⟩),
 (90,⟨(.type "tuple"),none,(.seq #[(.ref 62)] 0),#[]⟩),
 (92,⟨(.type "dict"),none,(.dict #[⟨(d0 P "__module__"),(.str "__module__" 292),(.str "talejudge.errors" 233)⟩,⟨(d0 P "__qualname__"),(.str "__qualname__" 294),(.str "NoStrictness" 293)⟩,⟨(d0 P "__firstlineno__"),(.str "__firstlineno__" 296),(.int (22) 295)⟩,kR P "__static_attributes__" 297 97] 4),#[]⟩),
 (97,⟨(.type "tuple"),none,(.seq #[] 0),#[]⟩),
 (98,⟨(.type "dict"),none,(.dict #[⟨(d0 P "__module__"),(.str "__module__" 292),(.str "talejudge.errors" 233)⟩,⟨(d0 P "__firstlineno__"),(.str "__firstlineno__" 296),(.int (22) 295)⟩,kR P "__static_attributes__" 297 97,⟨(d0 P "__doc__"),(.str "__doc__" 298),.none⟩] 2),#[]⟩),
 (99,⟨(.type "type"),none,(.cls ⟨"NoStrictness",[(.ref 62)],[(.ref 99),(.ref 62),(.type "ValueError"),(.type "Exception"),(.type "BaseException"),(.type "object")],98,"NoStrictness",true,[],[],false,none,false⟩),#[some (.ref 90),none,some (.str "NoStrictness" 285),some (.str "NoStrictness" 293),some (.builtin "ValueError.__new__"),some (.bool true)]⟩),
 (102,⟨(.type "tuple"),none,(.seq #[(.ref 62)] 0),#[]⟩),
 (104,⟨(.type "dict"),none,(.dict #[⟨(d0 P "__module__"),(.str "__module__" 308),(.str "talejudge.errors" 233)⟩,⟨(d0 P "__qualname__"),(.str "__qualname__" 310),(.str "NoThing" 309)⟩,⟨(d0 P "__firstlineno__"),(.str "__firstlineno__" 312),(.int (24) 311)⟩,kR P "__static_attributes__" 313 109] 4),#[]⟩),
 (109,⟨(.type "tuple"),none,(.seq #[] 0),#[]⟩),
 (110,⟨(.type "dict"),none,(.dict #[⟨(d0 P "__module__"),(.str "__module__" 308),(.str "talejudge.errors" 233)⟩,⟨(d0 P "__firstlineno__"),(.str "__firstlineno__" 312),(.int (24) 311)⟩,kR P "__static_attributes__" 313 109,⟨(d0 P "__doc__"),(.str "__doc__" 314),.none⟩] 2),#[]⟩),
 (111,⟨(.type "type"),none,(.cls ⟨"NoThing",[(.ref 62)],[(.ref 111),(.ref 62),(.type "ValueError"),(.type "Exception"),(.type "BaseException"),(.type "object")],110,"NoThing",true,[],[],false,none,false⟩),#[some (.ref 102),none,some (.str "NoThing" 301),some (.str "NoThing" 309),some (.builtin "ValueError.__new__"),some (.bool true)]⟩),
 (114,⟨(.type "tuple"),none,(.seq #[(.ref 62)] 0),#[]⟩),
 (116,⟨(.type "dict"),none,(.dict #[⟨(d0 P "__module__"),(.str "__module__" 324),(.str "talejudge.errors" 233)⟩,⟨(d0 P "__qualname__"),(.str "__qualname__" 326),(.str "NoOrder" 325)⟩,⟨(d0 P "__firstlineno__"),(.str "__firstlineno__" 328),(.int (26) 327)⟩,kR P "__static_attributes__" 329 121] 4),#[]⟩),
 (121,⟨(.type "tuple"),none,(.seq #[] 0),#[]⟩),
 (122,⟨(.type "dict"),none,(.dict #[⟨(d0 P "__module__"),(.str "__module__" 324),(.str "talejudge.errors" 233)⟩,⟨(d0 P "__firstlineno__"),(.str "__firstlineno__" 328),(.int (26) 327)⟩,kR P "__static_attributes__" 329 121,⟨(d0 P "__doc__"),(.str "__doc__" 330),.none⟩] 2),#[]⟩),
 (123,⟨(.type "type"),none,(.cls ⟨"NoOrder",[(.ref 62)],[(.ref 123),(.ref 62),(.type "ValueError"),(.type "Exception"),(.type "BaseException"),(.type "object")],122,"NoOrder",true,[],[],false,none,false⟩),#[some (.ref 114),none,some (.str "NoOrder" 317),some (.str "NoOrder" 325),some (.builtin "ValueError.__new__"),some (.bool true)]⟩),
 (126,⟨(.type "tuple"),none,(.seq #[(.ref 62)] 0),#[]⟩),
 (128,⟨(.type "dict"),none,(.dict #[⟨(d0 P "__module__"),(.str "__module__" 340),(.str "talejudge.errors" 233)⟩,⟨(d0 P "__qualname__"),(.str "__qualname__" 342),(.str "NoHand" 341)⟩,⟨(d0 P "__firstlineno__"),(.str "__firstlineno__" 344),(.int (28) 343)⟩,kR P "__static_attributes__" 345 133] 4),#[]⟩),
 (133,⟨(.type "tuple"),none,(.seq #[] 0),#[]⟩),
 (134,⟨(.type "dict"),none,(.dict #[⟨(d0 P "__module__"),(.str "__module__" 340),(.str "talejudge.errors" 233)⟩,⟨(d0 P "__firstlineno__"),(.str "__firstlineno__" 344),(.int (28) 343)⟩,kR P "__static_attributes__" 345 133,⟨(d0 P "__doc__"),(.str "__doc__" 346),.none⟩] 2),#[]⟩),
 (135,⟨(.type "type"),none,(.cls ⟨"NoHand",[(.ref 62)],[(.ref 135),(.ref 62),(.type "ValueError"),(.type "Exception"),(.type "BaseException"),(.type "object")],134,"NoHand",true,[],[],false,none,false⟩),#[some (.ref 126),none,some (.str "NoHand" 333),some (.str "NoHand" 341),some (.builtin "ValueError.__new__"),some (.bool true)]⟩),
 (138,⟨(.type "tuple"),none,(.seq #[(.ref 62)] 0),#[]⟩),
 (140,⟨(.type "dict"),none,(.dict #[⟨(d0 P "__module__"),(.str "__module__" 356),(.str "talejudge.errors" 233)⟩,⟨(d0 P "__qualname__"),(.str "__qualname__" 358),(.str "NotPlain" 357)⟩,⟨(d0 P "__firstlineno__"),(.str "__firstlineno__" 360),(.int (30) 359)⟩,kR P "__static_attributes__" 361 145] 4),#[]⟩),
 (145,⟨(.type "tuple"),none,(.seq #[] 0),#[]⟩),
 (146,⟨(.type "dict"),none,(.dict #[⟨(d0 P "__module__"),(.str "__module__" 356),(.str "talejudge.errors" 233)⟩,⟨(d0 P "__firstlineno__"),(.str "__firstlineno__" 360),(.int (30) 359)⟩,kR P "__static_attributes__" 361 145,⟨(d0 P "__doc__"),(.str "__doc__" 362),.none⟩] 2),#[]⟩),
 (147,⟨(.type "type"),none,(.cls ⟨"NotPlain",[(.ref 62)],[(.ref 147),(.ref 62),(.type "ValueError"),(.type "Exception"),(.type "BaseException"),(.type "object")],146,"NotPlain",true,[],[],false,none,false⟩),#[some (.ref 138),none,some (.str "NotPlain" 349),some (.str "NotPlain" 357),some (.builtin "ValueError.__new__"),some (.bool true)]⟩),
 (150,⟨(.type "tuple"),none,(.seq #[(.ref 62)] 0),#[]⟩),
 (152,⟨(.type "dict"),none,(.dict #[⟨(d0 P "__module__"),(.str "__module__" 372),(.str "talejudge.errors" 233)⟩,⟨(d0 P "__qualname__"),(.str "__qualname__" 374),(.str "NoPlan" 373)⟩,⟨(d0 P "__firstlineno__"),(.str "__firstlineno__" 376),(.int (32) 375)⟩,kR P "__static_attributes__" 377 157] 4),#[]⟩),
 (157,⟨(.type "tuple"),none,(.seq #[] 0),#[]⟩),
 (158,⟨(.type "dict"),none,(.dict #[⟨(d0 P "__module__"),(.str "__module__" 372),(.str "talejudge.errors" 233)⟩,⟨(d0 P "__firstlineno__"),(.str "__firstlineno__" 376),(.int (32) 375)⟩,kR P "__static_attributes__" 377 157,⟨(d0 P "__doc__"),(.str "__doc__" 378),.none⟩] 2),#[]⟩),
 (159,⟨(.type "type"),none,(.cls ⟨"NoPlan",[(.ref 62)],[(.ref 159),(.ref 62),(.type "ValueError"),(.type "Exception"),(.type "BaseException"),(.type "object")],158,"NoPlan",true,[],[],false,none,false⟩),#[some (.ref 150),none,some (.str "NoPlan" 365),some (.str "NoPlan" 373),some (.builtin "ValueError.__new__"),some (.bool true)]⟩),
 (162,⟨(.type "tuple"),none,(.seq #[(.ref 62)] 0),#[]⟩),
 (164,⟨(.type "dict"),none,(.dict #[⟨(d0 P "__module__"),(.str "__module__" 388),(.str "talejudge.errors" 233)⟩,⟨(d0 P "__qualname__"),(.str "__qualname__" 390),(.str "NoDealings" 389)⟩,⟨(d0 P "__firstlineno__"),(.str "__firstlineno__" 392),(.int (34) 391)⟩,kR P "__static_attributes__" 393 169] 4),#[]⟩),
 (169,⟨(.type "tuple"),none,(.seq #[] 0),#[]⟩),
 (170,⟨(.type "dict"),none,(.dict #[⟨(d0 P "__module__"),(.str "__module__" 388),(.str "talejudge.errors" 233)⟩,⟨(d0 P "__firstlineno__"),(.str "__firstlineno__" 392),(.int (34) 391)⟩,kR P "__static_attributes__" 393 169,⟨(d0 P "__doc__"),(.str "__doc__" 394),.none⟩] 2),#[]⟩),
 (171,⟨(.type "type"),none,(.cls ⟨"NoDealings",[(.ref 62)],[(.ref 171),(.ref 62),(.type "ValueError"),(.type "Exception"),(.type "BaseException"),(.type "object")],170,"NoDealings",true,[],[],false,none,false⟩),#[some (.ref 162),none,some (.str "NoDealings" 381),some (.str "NoDealings" 389),some (.builtin "ValueError.__new__"),some (.bool true)]⟩),
 (174,⟨(.type "tuple"),none,(.seq #[(.ref 62)] 0),#[]⟩),
 (176,⟨(.type "dict"),none,(.dict #[⟨(d0 P "__module__"),(.str "__module__" 404),(.str "talejudge.errors" 233)⟩,⟨(d0 P "__qualname__"),(.str "__qualname__" 406),(.str "NoRow" 405)⟩,⟨(d0 P "__firstlineno__"),(.str "__firstlineno__" 408),(.int (36) 407)⟩,kR P "__static_attributes__" 409 181] 4),#[]⟩),
 (181,⟨(.type "tuple"),none,(.seq #[] 0),#[]⟩),
 (182,⟨(.type "dict"),none,(.dict #[⟨(d0 P "__module__"),(.str "__module__" 404),(.str "talejudge.errors" 233)⟩,⟨(d0 P "__firstlineno__"),(.str "__firstlineno__" 408),(.int (36) 407)⟩,kR P "__static_attributes__" 409 181,⟨(d0 P "__doc__"),(.str "__doc__" 410),.none⟩] 2),#[]⟩),
 (183,⟨(.type "type"),none,(.cls ⟨"NoRow",[(.ref 62)],[(.ref 183),(.ref 62),(.type "ValueError"),(.type "Exception"),(.type "BaseException"),(.type "object")],182,"NoRow",true,[],[],false,none,false⟩),#[some (.ref 174),none,some (.str "NoRow" 397),some (.str "NoRow" 405),some (.builtin "ValueError.__new__"),some (.bool true)]⟩),
 (186,⟨(.type "dict"),none,(.dict #[⟨(d0 P "register"),(.str "register" 415),(.int (0) 416)⟩,⟨(d0 P "counter"),(.str "counter" 417),(.int (0) 418)⟩,kR P "queue" 419 187,kR P "set" 420 188,⟨(d0 P "cell"),(.str "cell" 421),(.int (0) 422)⟩] 5),#[]⟩),
 (187,⟨(.type "tuple"),none,(.seq #[] 0),#[]⟩),
 (188,⟨(.type "tuple"),none,(.seq #[] 0),#[]⟩),
 (189,⟨(.type "dict"),none,(.dict #[⟨(d0 P "read"),(.str "read" 429),(.int (0) 430)⟩,⟨(d0 P "take"),(.str "take" 431),(.int (0) 432)⟩,⟨(d0 P "write"),(.str "write" 433),(.int (1) 434)⟩,⟨(d0 P "add"),(.str "add" 435),(.int (1) 436)⟩,⟨(d0 P "put"),(.str "put" 437),(.int (1) 438)⟩,⟨(d0 P "cut"),(.str "cut" 439),(.int (1) 440)⟩,⟨(d0 P "has"),(.str "has" 441),(.int (1) 442)⟩,⟨(d0 P "swap"),(.str "swap" 443),(.int (2) 444)⟩] 8),#[]⟩),
 (195,cO "read_state" "read_state" 454 41 2 190 459),
 (196,fO "read_state" "read_state" (top 23) "talejudge.store" 413 195),
 (202,cO "write_state" "write_state" 462 43 2 197 467),
 (203,fO "write_state" "write_state" (top 24) "talejudge.store" 413 202),
 (209,cO "add_to_number" "add_to_number" 470 45 2 204 475),
 (210,fO "add_to_number" "add_to_number" (top 25) "talejudge.store" 413 209),
 (216,cO "put_behind" "put_behind" 478 47 2 211 483),
 (217,fO "put_behind" "put_behind" (top 26) "talejudge.store" 413 216),
 (223,cO "take_first" "take_first" 486 49 2 218 491),
 (224,fO "take_first" "take_first" (top 27) "talejudge.store" 413 223),
 (230,cO "put_into_set" "put_into_set" 494 53 2 225 499),
 (231,fO "put_into_set" "put_into_set" (top 28) "talejudge.store" 413 230),
 (235,cP "cut_from_set" "cut_from_set" 502 57 2 232 505),
 (236,fO "cut_from_set" "cut_from_set" (top 29) "talejudge.store" 413 235),
 (242,cO "has_in_set" "has_in_set" 508 61 2 237 513),
 (243,fO "has_in_set" "has_in_set" (top 30) "talejudge.store" 413 242),
 (249,cO "swap_state" "swap_state" 516 63 2 244 521),
 (250,fO "swap_state" "swap_state" (top 31) "talejudge.store" 413 249),
 (251,⟨(.type "dict"),none,(.dict #[⟨(N1 (o0 [d0 P "register",d0 P "read"])),(.ref 252),(.ref 196)⟩,⟨(N1 (o0 [d0 P "register",d0 P "write"])),(.ref 253),(.ref 203)⟩,⟨(N1 (o0 [d0 P "counter",d0 P "read"])),(.ref 254),(.ref 196)⟩,⟨(N1 (o0 [d0 P "counter",d0 P "add"])),(.ref 255),(.ref 210)⟩,⟨(N1 (o0 [d0 P "queue",d0 P "put"])),(.ref 256),(.ref 217)⟩,⟨(N1 (o0 [d0 P "queue",d0 P "take"])),(.ref 257),(.ref 224)⟩,⟨(N1 (o0 [d0 P "set",d0 P "put"])),(.ref 258),(.ref 231)⟩,⟨(N1 (o0 [d0 P "set",d0 P "cut"])),(.ref 259),(.ref 236)⟩,⟨(N1 (o0 [d0 P "set",d0 P "has"])),(.ref 260),(.ref 243)⟩,⟨(N1 (o0 [d0 P "cell",d0 P "read"])),(.ref 261),(.ref 196)⟩,⟨(N1 (o0 [d0 P "cell",d0 P "write"])),(.ref 262),(.ref 203)⟩,⟨(N1 (o0 [d0 P "cell",d0 P "swap"])),(.ref 263),(.ref 250)⟩] 12),#[]⟩),
 (252,⟨(.type "tuple"),none,(.seq #[(.str "register" 524),(.str "read" 525)] 0),#[]⟩),
 (253,⟨(.type "tuple"),none,(.seq #[(.str "register" 526),(.str "write" 527)] 0),#[]⟩),
 (254,⟨(.type "tuple"),none,(.seq #[(.str "counter" 528),(.str "read" 529)] 0),#[]⟩),
 (255,⟨(.type "tuple"),none,(.seq #[(.str "counter" 530),(.str "add" 531)] 0),#[]⟩),
 (256,⟨(.type "tuple"),none,(.seq #[(.str "queue" 532),(.str "put" 533)] 0),#[]⟩),
 (257,⟨(.type "tuple"),none,(.seq #[(.str "queue" 534),(.str "take" 535)] 0),#[]⟩),
 (258,⟨(.type "tuple"),none,(.seq #[(.str "set" 536),(.str "put" 537)] 0),#[]⟩),
 (259,⟨(.type "tuple"),none,(.seq #[(.str "set" 538),(.str "cut" 539)] 0),#[]⟩),
 (260,⟨(.type "tuple"),none,(.seq #[(.str "set" 540),(.str "has" 541)] 0),#[]⟩),
 (261,⟨(.type "tuple"),none,(.seq #[(.str "cell" 542),(.str "read" 543)] 0),#[]⟩),
 (262,⟨(.type "tuple"),none,(.seq #[(.str "cell" 544),(.str "write" 545)] 0),#[]⟩),
 (263,⟨(.type "tuple"),none,(.seq #[(.str "cell" 546),(.str "swap" 547)] 0),#[]⟩),
 (269,cO "is_kind" "is_kind" 585 68 1 264 589),
 (270,fO "is_kind" "is_kind" (top 33) "talejudge.store" 413 269),
 (276,cO "first_state" "first_state" 592 70 1 271 596),
 (277,fO "first_state" "first_state" (top 34) "talejudge.store" 413 276),
 (283,cO "is_state" "is_state" 599 74 2 278 604),
 (284,fO "is_state" "is_state" (top 35) "talejudge.store" 413 283),
 (288,cP "is_deed" "is_deed" 607 80 3 285 610),
 (289,fO "is_deed" "is_deed" (top 36) "talejudge.store" 413 288),
 (295,cO "do" "do" 613 89 4 290 621),
 (296,fO "do" "do" (top 37) "talejudge.store" 413 295),
 (302,cO "deeds" "deeds" 626 95 1 297 636),
 (303,fO "deeds" "deeds" (top 39) "talejudge.tales" 624 302),
 (304,⟨(.type "tuple"),none,(.seq #[(.str "strict" 641),(.str "hands" 642),(.str "bare" 643)] 0),#[]⟩),
 (310,cO "has_to" "has_to" 645 109 2 305 656),
 (311,fO "has_to" "has_to" (top 42) "talejudge.orders" 639 310),
 (317,cO "check_strictness" "check_strictness" 659 118 1 312 663),
 (318,fO "check_strictness" "check_strictness" (top 43) "talejudge.orders" 639 317),
 (324,cO "goes_ahead" "goes_ahead" 666 121 3 319 672),
 (325,fO "goes_ahead" "goes_ahead" (top 44) "talejudge.orders" 639 324),
 (326,⟨(.type "tuple"),none,(.seq #[] 0),#[]⟩),
 (328,⟨(.type "dict"),none,(.dict #[⟨(d0 P "__module__"),(.str "__module__" 684),(.str "talejudge.places" 675)⟩,⟨(d0 P "__qualname__"),(.str "__qualname__" 686),(.str "Candidate" 685)⟩,⟨(d0 P "__firstlineno__"),(.str "__firstlineno__" 688),(.int (128) 687)⟩,kR P "__init__" 694 337,kR P "may_stand" 704 344,kR P "__static_attributes__" 713 345] 6),#[]⟩),
 (336,cP "__init__" "Candidate.__init__" 689 130 6 333 692),
 (337,fO "__init__" "Candidate.__init__" (subS (top 46) 0) "talejudge.places" 675 336),
 (343,cO "may_stand" "Candidate.may_stand" 695 140 2 338 702),
 (344,fO "may_stand" "Candidate.may_stand" (subS (top 46) 1) "talejudge.places" 675 343),
 (345,⟨(.type "tuple"),none,(.seq #[(.str "aheads" 705),(.str "answer" 706),(.str "behinds" 707),(.str "kind" 708),(.str "number" 709),(.str "thing" 710),(.str "verb" 711),(.str "worth" 712)] 0),#[]⟩),
 (346,⟨(.type "dict"),none,(.dict #[⟨(d0 P "__module__"),(.str "__module__" 684),(.str "talejudge.places" 675)⟩,⟨(d0 P "__firstlineno__"),(.str "__firstlineno__" 688),(.int (128) 687)⟩,kR P "__init__" 694 337,kR P "may_stand" 704 344,kR P "__static_attributes__" 713 345,kR P "__dict__" 715 348,kR P "__weakref__" 717 349,⟨(d0 P "__doc__"),(.str "__doc__" 718),.none⟩] 4),#[]⟩),
 (347,⟨(.type "type"),none,(.cls ⟨"Candidate",[(.type "object")],[(.ref 347),(.type "object")],346,"Candidate",true,[],[],false,none,false⟩),#[none,none,some (.str "Candidate" 677),some (.str "Candidate" 685),some (.builtin "object.__new__"),some (.bool true)]⟩),
 (352,⟨(.type "tuple"),none,(.seq #[] 0),#[]⟩),
 (354,⟨(.type "dict"),none,(.dict #[⟨(d0 P "__module__"),(.str "__module__" 728),(.str "talejudge.places" 675)⟩,⟨(d0 P "__qualname__"),(.str "__qualname__" 730),(.str "Board" 729)⟩,⟨(d0 P "__firstlineno__"),(.str "__firstlineno__" 732),(.int (150) 731)⟩,kR P "__init__" 738 363,kR P "steps_from" 749 370,kR P "ends_at" 757 377,kR P "has_place" 763 382,kR P "__static_attributes__" 768 383] 8),#[]⟩),
 (362,cP "__init__" "Board.__init__" 733 152 3 359 736),
 (363,fO "__init__" "Board.__init__" (subS (top 47) 0) "talejudge.places" 675 362),
 (369,cO "steps_from" "Board.steps_from" 739 164 2 364 747),
 (370,fO "steps_from" "Board.steps_from" (subS (top 47) 1) "talejudge.places" 675 369),
 (376,cO "ends_at" "Board.ends_at" 750 173 2 371 755),
 (377,fO "ends_at" "Board.ends_at" (subS (top 47) 2) "talejudge.places" 675 376),
 (381,cP "has_place" "Board.has_place" 758 176 2 378 761),
 (382,fO "has_place" "Board.has_place" (subS (top 47) 3) "talejudge.places" 675 381),
 (383,⟨(.type "tuple"),none,(.seq #[(.str "candidates" 764),(.str "ended" 765),(.str "first" 766),(.str "kinds" 767)] 0),#[]⟩),
 (384,⟨(.type "dict"),none,(.dict #[⟨(d0 P "__module__"),(.str "__module__" 728),(.str "talejudge.places" 675)⟩,⟨(d0 P "__firstlineno__"),(.str "__firstlineno__" 732),(.int (150) 731)⟩,kR P "__init__" 738 363,kR P "steps_from" 749 370,kR P "ends_at" 757 377,kR P "has_place" 763 382,kR P "__static_attributes__" 768 383,kR P "__dict__" 770 386,kR P "__weakref__" 772 387,⟨(d0 P "__doc__"),(.str "__doc__" 773),.none⟩] 4),#[]⟩),
 (385,⟨(.type "type"),none,(.cls ⟨"Board",[(.type "object")],[(.ref 385),(.type "object")],384,"Board",true,[],[],false,none,false⟩),#[none,none,some (.str "Board" 721),some (.str "Board" 729),some (.builtin "object.__new__"),some (.bool true)]⟩),
 (395,cO "step_of" "step_of" 776 182 2 390 785),
 (396,fO "step_of" "step_of" (top 48) "talejudge.places" 675 395),
 (400,cP "ended_numbers" "ended_numbers" 788 188 1 397 791),
 (401,fO "ended_numbers" "ended_numbers" (top 49) "talejudge.places" 675 400),
 (405,cP "holds_all" "holds_all" 794 190 2 402 797),
 (406,fO "holds_all" "holds_all" (top 50) "talejudge.places" 675 405),
 (410,cP "first_place" "first_place" 800 192 1 407 803),
 (411,fO "first_place" "first_place" (top 51) "talejudge.places" 675 410),
 (417,cO "all_places" "all_places" 806 194 2 412 814),
 (418,fO "all_places" "all_places" (top 52) "talejudge.places" 675 417),
 (424,cO "next_layer" "next_layer" 817 202 2 419 825),
 (425,fO "next_layer" "next_layer" (top 53) "talejudge.places" 675 424),
 (431,cO "judged" "judged" 830 209 2 426 842),
 (432,fO "judged" "judged" (top 55) "talejudge.judge" 828 431),
 (438,cO "stuck_paper" "stuck_paper" 847 223 2 433 852),
 (439,fO "stuck_paper" "stuck_paper" (top 57) "talejudge.stuck" 845 438),
 (443,cP "is_stuck" "is_stuck" 855 227 3 440 858),
 (444,fO "is_stuck" "is_stuck" (top 58) "talejudge.stuck" 845 443),
 (448,cP "goes_on_within" "goes_on_within" 861 238 3 445 864),
 (449,fO "goes_on_within" "goes_on_within" (top 59) "talejudge.stuck" 845 448),
 (455,cO "_law_cell_at" "_law_cell_at" 869 241 2 450 874),
 (456,fL "_law_cell_at" "_law_cell_at" (top 61) 455),
 (462,cO "_law_take" "_law_take" 877 245 2 457 884),
 (463,fL "_law_take" "_law_take" (top 62) 462),
 (467,cP "_law_do" "_law_do" 887 254 4 464 890),
 (468,fL "_law_do" "_law_do" (top 63) 467),
 (472,cP "_law_first" "_law_first" 893 277 1 469 896),
 (473,fL "_law_first" "_law_first" (top 64) 472),
 (479,cO "_law_worth" "_law_worth" 899 279 1 474 903),
 (480,fL "_law_worth" "_law_worth" (top 65) 479),
 (486,cO "_law_verb" "_law_verb" 906 281 2 481 913),
 (487,fL "_law_verb" "_law_verb" (top 66) 486),
 (491,cP "_law_things" "_law_things" 916 291 1 488 919),
 (492,fL "_law_things" "_law_things" (top 67) 491),
 (496,cP "_law_applied" "_law_applied" 922 297 3 493 925),
 (497,fL "_law_applied" "_law_applied" (top 68) 496),
 (501,cP "_law_tale" "_law_tale" 928 302 2 498 931),
 (502,fL "_law_tale" "_law_tale" (top 69) 501),
 (553,cO "_law_word" "_law_word" 1008 379 1 548 1016),
 (554,fL "_law_word" "_law_word" (top 77) 553),
 (560,cO "_law_caught" "_law_caught" 1019 388 4 555 1029),
 (561,fL "_law_caught" "_law_caught" (top 78) 560),
 (567,cO "law" "law" 1032 402 1 562 1044),
 (568,fL "law" "law" (top 79) 567)]
noncomputable def HX:Hook:=kHook KX asX (λ _=>by kernel_rfl)
noncomputable abbrev XtX:t0->Bool:=λ s=>xlAt viewX [] s && recOk (RowW.records (OpenRow.toRowW PySem.Challenge.rw_talejudge_k63_no_strictness.row)) s
theorem look1 (w:V0) (os:S2):(staticsOk (S7 PX.main.body) (boot_heap w.params) (S3X w os).abs.heap && namesBound PX (S3X w os).abs.heap && gensDone (S3X w os).abs && laidKept (boot_heap w.params) (S3X w os).abs.heap)=true:=by kernel_rfl
theorem look2 (w:V0) (os:S2):openSeen viewX looseX (S7 PX.main.body) XtX true (S3X w os).abs=openGood viewX looseX:=by rw [PySem.W.Fast.te4187177175401517315];kernel_rfl
theorem look3 (w:V0) (os:S2):Hook.obs HX (S3X w os).abs=Hook.val HX w:=by kernel_rfl
theorem leftX:LeftO PX viewX looseX XtX (Hook.obs HX) (Hook.val HX) 200000:=
 zl0 (H₀:=boot_heap) (gs₀:=Array.mk []) (boot_open (by kernel_rfl) (by decide) (λ s=>rfl)) (λ w=>by kernel_rfl) zkw look1 look2 look3
end K63
set_option maxHeartbeats 4000000
namespace L2
open PySem PySem.Spec PyProof.Rows
theorem FnScope.k {N P:List Str} {sc:Scope} (a:sc.kind=.function:=by exact rfl) (b:sc.isCoroutine=false:=by exact rfl) (c:sc.isGenerator=false:=by exact rfl) (d:N.Nodup:=by decide +kernel) (e:N.take P.length=P:=by exact rfl) (f :∀x∈P,sc.names.lookup x=some .local\/sc.names.lookup x=some .cell:=by decide +kernel) (g :∀y∈sc.names,y.2≠.free:=by decide +kernel):FnScope N P sc:=⟨a,b,c,d,e,f,g⟩
theorem newA {H:Hp} {p:Addr} (o:HO) (h:H p=none) :∃H',H'=upd H p o/\Same H H'/\H' p=some o:=⟨_,rfl,Same.upd h,z01⟩
theorem iteK {c A B:Prop} [Decidable c] (h:B) (hc:¬ c:=by decide +kernel):if c then A else B:=iteN hc h
theorem pg_cn {X:Cx} {scope:Scope} {cl:List (Str×Addr)} {N:List Str} {C:Addr} {s₂:t0} {H₂:Hp} {fp:List Addr} {x:Str} {px:Pos} (i:Nat) (hN:N.Nodup:=by decide +kernel) (hi:N[i]? = some x:=by exact rfl) (hx:scope.names.lookup x=some .local:=by exact rfl):PG (cxComp X scope cl N C s₂ H₂ fp) (.Name x px) (gName i):=zl7 i hN hi hx
theorem pe_cg {X:Cx} {xs:List Str} {tg:Expr} {g:TG} {pos:Pos} {elt iter:Expr} {ifs:List Expr} {scope:Scope} {fr:List (Nat×Str)} {wi:TI} {tc:TT} {te:TE} (hi:PI X tg iter wi)
  (hg :∀cl C s₂ H₂ fp,PG (cxComp X scope cl (xs++fr.map (·.2)) C s₂ H₂ fp) tg g)
  (ht :∀cl C s₂ H₂ fp,PF (cxComp X scope cl (xs++fr.map (·.2)) C s₂ H₂ fp) ifs tc) (he :∀cl C s₂ H₂ fp,PE (cxComp X scope cl (xs++fr.map (·.2)) C s₂ H₂ fp) elt te) (hcalm:X.calm=true:=by exact rfl)
  (hfr :∀p∈fr,X.N[p.1]? = some p.2/\(X.env.kindOf p.2=some .cell\/X.env.kindOf p.2=some .free):=by first|exact λ _ z=>absurd z A0|(intro p hp;obtain rfl:=List.mem_singleton.mp hp;first|exact ⟨rfl,.inl rfl⟩|exact ⟨rfl,.inr rfl⟩))
  (hin:(scope.names.all λ y=>y.2 != Z1 || fr.any λ p=>p.2 == y.1)=true:=by decide +kernel)
  (hfs :∀p∈fr,(p.2,Z1)∈scope.names/\((K8 scope X.env).names.lookup p.2=some .cell\/(K8 scope X.env).names.lookup p.2=some .free):=by first|exact λ _ z=>absurd z A0|(intro p hp;obtain rfl:=List.mem_singleton.mp hp;exact ⟨by decide +kernel,by first|exact .inl rfl|exact .inr rfl⟩))
  (hcell :∀y∈scope.names,y.2≠NameKind.cell:=by decide +kernel) (hkind:scope.kind=.function:=by exact rfl) (hnames :∀y∈scope.names,y.2=NameKind.local->scope.names.lookup y.1=some .local:=by decide +kernel)
  (hs :∀x,L4 iter X.env x=d3 x:=by intro _;rfl):PE X (.ListComp elt [⟨tg,iter,ifs,0⟩] scope pos) (tCompG wi xs.length fr g tc te):=
 zl8 hcalm hi hfr (λ y a e=>by
  have h:=List.all_eq_true.mp hin y a;rw [e] at h;obtain ⟨p,hp,z⟩:=List.any_eq_true.mp (show fr.any (λ p=>p.2 == y.1)=true from h);have:=(hfr p hp).2
  rwa [eq_of_beq z] at this) hfs hcell hkind hnames hg ht he hs
end L2
namespace K63
open PySem PySem.Spec PyProof.Rows TJ L2
abbrev Gg (n:Str) (a:Addr):Prop:=∀P,m6 (KX P) m3 n=some (some (.ref a))
abbrev Gn (n:Str):Prop:=∀P,m6 (KX P) m3 n=some none
noncomputable abbrev kx (w:V0):=KX w.params
abbrev Ca (P:Program) (w:V0) (mg:Str->Option Value) (base:Heap):=Cal P w (KX w.params) mg base
abbrev CaE (P:Program) (w:V0) (mg:Str->Option Value) (base:Heap):=CalE P w (KX w.params) mg base
abbrev Fo (P:Program) (w:V0) (mg:Str->Option Value) (base:Heap):=FnOk P w (KX w.params) mg base
theorem z0g:Gn "isinstance":=λ _=>by kernel_rfl
theorem n_len:Gn "len":=λ _=>by kernel_rfl
theorem n_all:Gn "all":=λ _=>by kernel_rfl
theorem n_max:Gn "max":=λ _=>by kernel_rfl
theorem n_min:Gn "min":=λ _=>by kernel_rfl
theorem n_int:Gn "int":=λ _=>by kernel_rfl
theorem n_str:Gn "str":=λ _=>by kernel_rfl
theorem n_bool:Gn "bool":=λ _=>by kernel_rfl
theorem z30:Gn "tuple":=λ _=>by kernel_rfl
theorem n_list:Gn "list":=λ _=>by kernel_rfl
theorem zck:Gn "range":=λ _=>by kernel_rfl
theorem z6p:Gn "sorted":=λ _=>by kernel_rfl
theorem n_zip:Gn "zip":=λ _=>by kernel_rfl
theorem n_sum:Gn "sum":=λ _=>by kernel_rfl
theorem n_dict:Gn "dict":=λ _=>by kernel_rfl
theorem z2f:Gn "enumerate":=λ _=>by kernel_rfl
theorem zgt:Gn "reversed":=λ _=>by kernel_rfl
theorem z7e (P:U0):m6 (KX P) m3 "GREATEST_WORTH" = some (some (.int (1000000000) 189)):=by kernel_rfl
theorem zgs:Gg "is_whole" 21:=λ _=>by kernel_rfl
theorem zef:Gg "is_within" 28:=λ _=>by kernel_rfl
theorem zgd:Gg "is_worth" 35:=λ _=>by kernel_rfl
theorem zat:Gg "is_tuple_of" 42:=λ _=>by kernel_rfl
theorem zeh:Gg "are_whole" 47:=λ _=>by kernel_rfl
theorem zeo:Gg "is_rising" 52:=λ _=>by kernel_rfl
theorem z8e:Gg "TaleError" 62:=λ _=>by kernel_rfl
theorem zgg:Gg "NoDeed" 75:=λ _=>by kernel_rfl
theorem zf6:Gg "NoTale" 87:=λ _=>by kernel_rfl
theorem z2w:Gg "NoStrictness" 99:=λ _=>by kernel_rfl
theorem zd2:Gg "NoThing" 111:=λ _=>by kernel_rfl
theorem zd9:Gg "NoOrder" 123:=λ _=>by kernel_rfl
theorem zge:Gg "NoHand" 135:=λ _=>by kernel_rfl
theorem za7:Gg "NotPlain" 147:=λ _=>by kernel_rfl
theorem zfy:Gg "NoPlan" 159:=λ _=>by kernel_rfl
theorem z72:Gg "NoDealings" 171:=λ _=>by kernel_rfl
theorem zk9:Gg "NoRow" 183:=λ _=>by kernel_rfl
theorem z4t:Gg "FIRST_STATES" 186:=λ _=>by kernel_rfl
theorem z65:Gg "WORTHS_OF_VERBS" 189:=λ _=>by kernel_rfl
theorem z77:Gg "read_state" 196:=λ _=>by kernel_rfl
theorem z61:Gg "write_state" 203:=λ _=>by kernel_rfl
theorem z46:Gg "add_to_number" 210:=λ _=>by kernel_rfl
theorem z7c:Gg "put_behind" 217:=λ _=>by kernel_rfl
theorem z6x:Gg "take_first" 224:=λ _=>by kernel_rfl
theorem z54:Gg "put_into_set" 231:=λ _=>by kernel_rfl
theorem z4x:Gg "cut_from_set" 236:=λ _=>by kernel_rfl
theorem z73:Gg "has_in_set" 243:=λ _=>by kernel_rfl
theorem z79:Gg "swap_state" 250:=λ _=>by kernel_rfl
theorem zjg:Gg "DOERS" 251:=λ _=>by kernel_rfl
theorem zik:Gg "is_kind" 270:=λ _=>by kernel_rfl
theorem zaw:Gg "first_state" 277:=λ _=>by kernel_rfl
theorem zga:Gg "is_state" 284:=λ _=>by kernel_rfl
theorem zix:Gg "is_deed" 289:=λ _=>by kernel_rfl
theorem g_do:Gg "do" 296:=λ _=>by kernel_rfl
theorem zmm:Gg "deeds" 303:=λ _=>by kernel_rfl
theorem z53:Gg "STRICTNESSES" 304:=λ _=>by kernel_rfl
theorem zff:Gg "has_to" 311:=λ _=>by kernel_rfl
theorem z2k:Gg "check_strictness" 318:=λ _=>by kernel_rfl
theorem zc0:Gg "goes_ahead" 325:=λ _=>by kernel_rfl
theorem zed:Gg "Candidate" 347:=λ _=>by kernel_rfl
theorem zal:Gg "Board" 385:=λ _=>by kernel_rfl
theorem ziu:Gg "step_of" 396:=λ _=>by kernel_rfl
theorem z7n:Gg "ended_numbers" 401:=λ _=>by kernel_rfl
theorem zdx:Gg "holds_all" 406:=λ _=>by kernel_rfl
theorem z9m:Gg "first_place" 411:=λ _=>by kernel_rfl
theorem zce:Gg "all_places" 418:=λ _=>by kernel_rfl
theorem zb9:Gg "next_layer" 425:=λ _=>by kernel_rfl
theorem zgo:Gg "judged" 432:=λ _=>by kernel_rfl
theorem z5s:Gg "stuck_paper" 439:=λ _=>by kernel_rfl
theorem za6:Gg "is_stuck" 444:=λ _=>by kernel_rfl
theorem z6m:Gg "goes_on_within" 449:=λ _=>by kernel_rfl
theorem z55:Gg "_law_cell_at" 456:=λ _=>by kernel_rfl
theorem zep:Gg "_law_take" 463:=λ _=>by kernel_rfl
theorem zj9:Gg "_law_do" 468:=λ _=>by kernel_rfl
theorem zb6:Gg "_law_first" 473:=λ _=>by kernel_rfl
theorem zca:Gg "_law_worth" 480:=λ _=>by kernel_rfl
theorem zdv:Gg "_law_verb" 487:=λ _=>by kernel_rfl
theorem z9q:Gg "_law_things" 492:=λ _=>by kernel_rfl
theorem z98:Gg "_law_applied" 497:=λ _=>by kernel_rfl
theorem zei:Gg "_law_tale" 502:=λ _=>by kernel_rfl
theorem ze7:Gg "_law_word" 554:=λ _=>by kernel_rfl
theorem zab:Gg "_law_caught" 561:=λ _=>by kernel_rfl
theorem g_law:Gg "law" 568:=λ _=>by kernel_rfl
theorem z9a (P:U0):B9 (KX P) 99 [.type "ValueError",.type "Exception",.type "BaseException",.type "object"] "ValueError.__new__" = true:=by kernel_rfl
theorem z1e (P:U0):excCls (KX P) 99=true:=by kernel_rfl
def kl_FIRST_STATES:List (Str×V):=[("register",.int (0)),("counter",.int (0)),("queue",.ref 187),("set",.ref 188),("cell",.int (0))]
theorem z45 (P:U0):KDict (KX P) P 186 kl_FIRST_STATES:=⟨⟨#[⟨(d0 P "register"),(.str "register" 415),(.int (0) 416)⟩,⟨(d0 P "counter"),(.str "counter" 417),(.int (0) 418)⟩,⟨(d0 P "queue"),(.str "queue" 419),(.ref 187)⟩,⟨(d0 P "set"),(.str "set" 420),(.ref 188)⟩,⟨(d0 P "cell"),(.str "cell" 421),(.int (0) 422)⟩],5,by kernel_rfl,(.cons ⟨⟨_,rfl⟩,rfl,⟨_,rfl⟩⟩ (.cons ⟨⟨_,rfl⟩,rfl,⟨_,rfl⟩⟩ (.cons ⟨⟨_,rfl⟩,rfl,rfl⟩ (.cons ⟨⟨_,rfl⟩,rfl,rfl⟩ (.cons ⟨⟨_,rfl⟩,rfl,⟨_,rfl⟩⟩ .nil)))))⟩,by decide⟩
def kl_WORTHS_OF_VERBS:List (Str×V):=[("read",.int (0)),("take",.int (0)),("write",.int (1)),("add",.int (1)),("put",.int (1)),("cut",.int (1)),("has",.int (1)),("swap",.int (2))]
theorem z5j (P:U0):KDict (KX P) P 189 kl_WORTHS_OF_VERBS:=⟨⟨#[⟨(d0 P "read"),(.str "read" 429),(.int (0) 430)⟩,⟨(d0 P "take"),(.str "take" 431),(.int (0) 432)⟩,⟨(d0 P "write"),(.str "write" 433),(.int (1) 434)⟩,⟨(d0 P "add"),(.str "add" 435),(.int (1) 436)⟩,⟨(d0 P "put"),(.str "put" 437),(.int (1) 438)⟩,⟨(d0 P "cut"),(.str "cut" 439),(.int (1) 440)⟩,⟨(d0 P "has"),(.str "has" 441),(.int (1) 442)⟩,⟨(d0 P "swap"),(.str "swap" 443),(.int (2) 444)⟩],8,by kernel_rfl,(.cons ⟨⟨_,rfl⟩,rfl,⟨_,rfl⟩⟩ (.cons ⟨⟨_,rfl⟩,rfl,⟨_,rfl⟩⟩ (.cons ⟨⟨_,rfl⟩,rfl,⟨_,rfl⟩⟩ (.cons ⟨⟨_,rfl⟩,rfl,⟨_,rfl⟩⟩ (.cons ⟨⟨_,rfl⟩,rfl,⟨_,rfl⟩⟩ (.cons ⟨⟨_,rfl⟩,rfl,⟨_,rfl⟩⟩ (.cons ⟨⟨_,rfl⟩,rfl,⟨_,rfl⟩⟩ (.cons ⟨⟨_,rfl⟩,rfl,⟨_,rfl⟩⟩ .nil))))))))⟩,by decide⟩
def kl_DOERS:List ((Str×Str)×V):=[(("register","read"),.ref 196),(("register","write"),.ref 203),(("counter","read"),.ref 196),(("counter","add"),.ref 210),(("queue","put"),.ref 217),(("queue","take"),.ref 224),(("set","put"),.ref 231),(("set","cut"),.ref 236),(("set","has"),.ref 243),(("cell","read"),.ref 196),(("cell","write"),.ref 203),(("cell","swap"),.ref 250)]
theorem zh2 (P:U0):KDictT (KX P) P 251 kl_DOERS:=⟨⟨#[⟨(N1 (o0 [d0 P "register",d0 P "read"])),(.ref 252),(.ref 196)⟩,⟨(N1 (o0 [d0 P "register",d0 P "write"])),(.ref 253),(.ref 203)⟩,⟨(N1 (o0 [d0 P "counter",d0 P "read"])),(.ref 254),(.ref 196)⟩,⟨(N1 (o0 [d0 P "counter",d0 P "add"])),(.ref 255),(.ref 210)⟩,⟨(N1 (o0 [d0 P "queue",d0 P "put"])),(.ref 256),(.ref 217)⟩,⟨(N1 (o0 [d0 P "queue",d0 P "take"])),(.ref 257),(.ref 224)⟩,⟨(N1 (o0 [d0 P "set",d0 P "put"])),(.ref 258),(.ref 231)⟩,⟨(N1 (o0 [d0 P "set",d0 P "cut"])),(.ref 259),(.ref 236)⟩,⟨(N1 (o0 [d0 P "set",d0 P "has"])),(.ref 260),(.ref 243)⟩,⟨(N1 (o0 [d0 P "cell",d0 P "read"])),(.ref 261),(.ref 196)⟩,⟨(N1 (o0 [d0 P "cell",d0 P "write"])),(.ref 262),(.ref 203)⟩,⟨(N1 (o0 [d0 P "cell",d0 P "swap"])),(.ref 263),(.ref 250)⟩],12,by kernel_rfl,(.cons ⟨⟨252,524,525,0,rfl,by kernel_rfl⟩,rfl,rfl⟩ (.cons ⟨⟨253,526,527,0,rfl,by kernel_rfl⟩,rfl,rfl⟩ (.cons ⟨⟨254,528,529,0,rfl,by kernel_rfl⟩,rfl,rfl⟩ (.cons ⟨⟨255,530,531,0,rfl,by kernel_rfl⟩,rfl,rfl⟩ (.cons ⟨⟨256,532,533,0,rfl,by kernel_rfl⟩,rfl,rfl⟩ (.cons ⟨⟨257,534,535,0,rfl,by kernel_rfl⟩,rfl,rfl⟩ (.cons ⟨⟨258,536,537,0,rfl,by kernel_rfl⟩,rfl,rfl⟩ (.cons ⟨⟨259,538,539,0,rfl,by kernel_rfl⟩,rfl,rfl⟩ (.cons ⟨⟨260,540,541,0,rfl,by kernel_rfl⟩,rfl,rfl⟩ (.cons ⟨⟨261,542,543,0,rfl,by kernel_rfl⟩,rfl,rfl⟩ (.cons ⟨⟨262,544,545,0,rfl,by kernel_rfl⟩,rfl,rfl⟩ (.cons ⟨⟨263,546,547,0,rfl,by kernel_rfl⟩,rfl,rfl⟩ .nil))))))))))))⟩,by decide +kernel,by decide⟩
noncomputable abbrev y2g:Stmt:=top 2
noncomputable abbrev y1k:FuncData:=fnX "is_whole" "is_whole" (top 2) "talejudge.basics" 187 20
theorem z6j (P:U0):Fun (KX P) "is_whole" "is_whole" y2g 21 y1k:=z0e
theorem zfd (P:U0):Binds (KX P) y1k ["value"] []:=(z6j P).binds λ _ _ _ _ _ _=>us1 λ _=>rfl
theorem zel:FnScope ["value"] ["value"] (z06 y2g):=.k
noncomputable abbrev y28:Stmt:=top 3
noncomputable abbrev y13:FuncData:=fnX "is_within" "is_within" (top 3) "talejudge.basics" 187 27
theorem z5b (P:U0):Fun (KX P) "is_within" "is_within" y28 28 y13:=z0e
theorem ze8 (P:U0):Binds (KX P) y13 ["value","greatest"] []:=(z5b P).binds λ _ _ _ _ _ _=>us2 λ _ _=>rfl
theorem zbm:FnScope ["value","greatest"] ["value","greatest"] (z06 y28):=.k
noncomputable abbrev y2h:Stmt:=top 4
noncomputable abbrev y1l:FuncData:=fnX "is_worth" "is_worth" (top 4) "talejudge.basics" 187 34
theorem z7j (P:U0):Fun (KX P) "is_worth" "is_worth" y2h 35 y1l:=z0e
theorem zg3 (P:U0):Binds (KX P) y1l ["value"] []:=(z7j P).binds λ _ _ _ _ _ _=>us1 λ _=>rfl
theorem ze1:FnScope ["value"] ["value"] (z06 y2h):=.k
noncomputable abbrev y1n:Stmt:=top 5
noncomputable abbrev y0j:FuncData:=fnX "is_tuple_of" "is_tuple_of" (top 5) "talejudge.basics" 187 41
theorem z3o (P:U0):Fun (KX P) "is_tuple_of" "is_tuple_of" y1n 42 y0j:=z0e
theorem z9x (P:U0):Binds (KX P) y0j ["value","many"] []:=(z3o P).binds λ _ _ _ _ _ _=>us2 λ _ _=>rfl
theorem z8g:FnScope ["value","many"] ["value","many"] (z06 y1n):=.k
noncomputable abbrev y29:Stmt:=top 6
noncomputable abbrev y14:FuncData:=fnX "are_whole" "are_whole" (top 6) "talejudge.basics" 187 46
theorem z59 (P:U0):Fun (KX P) "are_whole" "are_whole" y29 47 y14:=z0e
theorem zea (P:U0):Binds (KX P) y14 ["values"] []:=(z59 P).binds λ _ _ _ _ _ _=>us1 λ _=>rfl
theorem zbp:FnScope ["values"] ["values"] (z06 y29):=.k
noncomputable abbrev y2a:Stmt:=top 7
noncomputable abbrev y15:FuncData:=fnX "is_rising" "is_rising" (top 7) "talejudge.basics" 187 51
theorem z5a (P:U0):Fun (KX P) "is_rising" "is_rising" y2a 52 y15:=z0e
theorem ze9 (P:U0):Binds (KX P) y15 ["values"] []:=(z5a P).binds λ _ _ _ _ _ _=>us1 λ _=>rfl
theorem zbs:FnScope ["values"] ["values"] (z06 y2a):=.k
noncomputable abbrev y1y:Stmt:=top 23
noncomputable abbrev y0r:FuncData:=fnX "read_state" "read_state" (top 23) "talejudge.store" 413 195
theorem z4g (P:U0):Fun (KX P) "read_state" "read_state" y1y 196 y0r:=z0e
theorem zbh (P:U0):Binds (KX P) y0r ["state","worth"] []:=(z4g P).binds λ _ _ _ _ _ _=>us2 λ _ _=>rfl
theorem zb3:FnScope ["state","worth"] ["state","worth"] (z06 y1y):=.k
noncomputable abbrev y1o:Stmt:=top 24
noncomputable abbrev y0k:FuncData:=fnX "write_state" "write_state" (top 24) "talejudge.store" 413 202
theorem z3l (P:U0):Fun (KX P) "write_state" "write_state" y1o 203 y0k:=z0e
theorem zau (P:U0):Binds (KX P) y0k ["state","worth"] []:=(z3l P).binds λ _ _ _ _ _ _=>us2 λ _ _=>rfl
theorem z8p:FnScope ["state","worth"] ["state","worth"] (z06 y1o):=.k
noncomputable abbrev y16:Stmt:=top 25
noncomputable abbrev y0b:FuncData:=fnX "add_to_number" "add_to_number" (top 25) "talejudge.store" 413 209
theorem z2b (P:U0):Fun (KX P) "add_to_number" "add_to_number" y16 210 y0b:=z0e
theorem z7z (P:U0):Binds (KX P) y0b ["state","worth"] []:=(z2b P).binds λ _ _ _ _ _ _=>us2 λ _ _=>rfl
theorem z6v:FnScope ["state","worth"] ["state","worth"] (z06 y16):=.k
noncomputable abbrev y1z:Stmt:=top 26
noncomputable abbrev y0s:FuncData:=fnX "put_behind" "put_behind" (top 26) "talejudge.store" 413 216
theorem z4h (P:U0):Fun (KX P) "put_behind" "put_behind" y1z 217 y0s:=z0e
theorem zb8 (P:U0):Binds (KX P) y0s ["state","worth"] []:=(z4h P).binds λ _ _ _ _ _ _=>us2 λ _ _=>rfl
theorem z9z:FnScope ["state","worth"] ["state","worth"] (z06 y1z):=.k
noncomputable abbrev y20:Stmt:=top 27
noncomputable abbrev y0t:FuncData:=fnX "take_first" "take_first" (top 27) "talejudge.store" 413 223
theorem z4q (P:U0):Fun (KX P) "take_first" "take_first" y20 224 y0t:=z0e
theorem zc9 (P:U0):Binds (KX P) y0t ["state","worth"] []:=(z4q P).binds λ _ _ _ _ _ _=>us2 λ _ _=>rfl
theorem zb1:FnScope ["state","worth"] ["state","worth"] (z06 y20):=.k
noncomputable abbrev y1e:Stmt:=top 28
noncomputable abbrev y0e:FuncData:=fnX "put_into_set" "put_into_set" (top 28) "talejudge.store" 413 230
theorem z2x (P:U0):Fun (KX P) "put_into_set" "put_into_set" y1e 231 y0e:=z0e
theorem z99 (P:U0):Binds (KX P) y0e ["state","worth"] []:=(z2x P).binds λ _ _ _ _ _ _=>us2 λ _ _=>rfl
theorem z7w:FnScope ["state","worth"] ["state","worth"] (z06 y1e):=.k
noncomputable abbrev y1f:Stmt:=top 29
noncomputable abbrev y0f:FuncData:=fnX "cut_from_set" "cut_from_set" (top 29) "talejudge.store" 413 235
theorem z2q (P:U0):Fun (KX P) "cut_from_set" "cut_from_set" y1f 236 y0f:=z0e
theorem z96 (P:U0):Binds (KX P) y0f ["state","worth"] []:=(z2q P).binds λ _ _ _ _ _ _=>us2 λ _ _=>rfl
theorem z7v:FnScope ["state","worth"] ["state","worth"] (z06 y1f):=.k
noncomputable abbrev y21:Stmt:=top 30
noncomputable abbrev y0u:FuncData:=fnX "has_in_set" "has_in_set" (top 30) "talejudge.store" 413 242
theorem z49 (P:U0):Fun (KX P) "has_in_set" "has_in_set" y21 243 y0u:=z0e
theorem zbw (P:U0):Binds (KX P) y0u ["state","worth"] []:=(z49 P).binds λ _ _ _ _ _ _=>us2 λ _ _=>rfl
theorem zaj:FnScope ["state","worth"] ["state","worth"] (z06 y21):=.k
noncomputable abbrev y22:Stmt:=top 31
noncomputable abbrev y0v:FuncData:=fnX "swap_state" "swap_state" (top 31) "talejudge.store" 413 249
theorem z4b (P:U0):Fun (KX P) "swap_state" "swap_state" y22 250 y0v:=z0e
theorem zbq (P:U0):Binds (KX P) y0v ["state","worth"] []:=(z4b P).binds λ _ _ _ _ _ _=>us2 λ _ _=>rfl
theorem z9y:FnScope ["state","worth"] ["state","worth"] (z06 y22):=.k
noncomputable abbrev y2l:Stmt:=top 33
noncomputable abbrev y1u:FuncData:=fnX "is_kind" "is_kind" (top 33) "talejudge.store" 413 269
theorem z97 (P:U0):Fun (KX P) "is_kind" "is_kind" y2l 270 y1u:=z0e
theorem zi8 (P:U0):Binds (KX P) y1u ["kind"] []:=(z97 P).binds λ _ _ _ _ _ _=>us1 λ _=>rfl
theorem zgk:FnScope ["kind"] ["kind"] (z06 y2l):=.k
noncomputable abbrev y1p:Stmt:=top 34
noncomputable abbrev y0l:FuncData:=fnX "first_state" "first_state" (top 34) "talejudge.store" 413 276
theorem z39 (P:U0):Fun (KX P) "first_state" "first_state" y1p 277 y0l:=z0e
theorem zaz (P:U0):Binds (KX P) y0l ["kind"] []:=(z39 P).binds λ _ _ _ _ _ _=>us1 λ _=>rfl
theorem z8o:FnScope ["kind"] ["kind"] (z06 y1p):=.k
noncomputable abbrev y2i:Stmt:=top 35
noncomputable abbrev y1m:FuncData:=fnX "is_state" "is_state" (top 35) "talejudge.store" 413 283
theorem z76 (P:U0):Fun (KX P) "is_state" "is_state" y2i 284 y1m:=z0e
theorem zgb (P:U0):Binds (KX P) y1m ["kind","state"] []:=(z76 P).binds λ _ _ _ _ _ _=>us2 λ _ _=>rfl
theorem zdy:FnScope ["kind","state"] ["kind","state"] (z06 y2i):=.k
noncomputable abbrev y2m:Stmt:=top 36
noncomputable abbrev y1v:FuncData:=fnX "is_deed" "is_deed" (top 36) "talejudge.store" 413 288
theorem z92 (P:U0):Fun (KX P) "is_deed" "is_deed" y2m 289 y1v:=z0e
theorem zit (P:U0):Binds (KX P) y1v ["kind","verb","worth"] []:=(z92 P).binds λ _ _ _ _ _ _=>us3 λ _ _ _=>rfl
theorem sc_is_deed:FnScope ["kind","verb","worth","many"] ["kind","verb","worth"] (z06 y2m):=.k
noncomputable abbrev y2s:Stmt:=top 37
noncomputable abbrev y2t:FuncData:=fnX "do" "do" (top 37) "talejudge.store" 413 295
theorem F_do (P:U0):Fun (KX P) "do" "do" y2s 296 y2t:=z0e
theorem b_do (P:U0):Binds (KX P) y2t ["kind","state","verb","worth"] []:=(F_do P).binds λ _ _ _ _ _ _=>us4 λ _ _ _ _=>rfl
theorem sc_do:FnScope ["kind","state","verb","worth","doer"] ["kind","state","verb","worth"] (z06 y2s):=.k
noncomputable abbrev y2r:Stmt:=top 39
noncomputable abbrev y2k:FuncData:=fnX "deeds" "deeds" (top 39) "talejudge.tales" 624 302
theorem zfg (P:U0):Fun (KX P) "deeds" "deeds" y2r 303 y2k:=z0e
theorem zn8 (P:U0):Binds (KX P) y2k ["tale"] []:=(zfg P).binds λ _ _ _ _ _ _=>us1 λ _=>rfl
theorem sc_deeds:FnScope ["tale","told","numbers","place","event","number","begun"] ["tale"] (z06 y2r):=.k
noncomputable abbrev y2p:Stmt:=top 42
noncomputable abbrev y1g:FuncData:=fnX "has_to" "has_to" (top 42) "talejudge.orders" 639 310
theorem z7a (P:U0):Fun (KX P) "has_to" "has_to" y2p 311 y1g:=z0e
theorem zgm (P:U0):Binds (KX P) y1g ["tale","strictness"] []:=(z7a P).binds λ _ _ _ _ _ _=>us2 λ _ _=>rfl
theorem sc_has_to:FnScope ["tale","strictness","told","pairs","ahead","one","behind","other"] ["tale","strictness"] (z06 y2p):=.k
noncomputable abbrev y0h:Stmt:=top 43
noncomputable abbrev y05:FuncData:=fnX "check_strictness" "check_strictness" (top 43) "talejudge.orders" 639 317
theorem z0n (P:U0):Fun (KX P) "check_strictness" "check_strictness" y0h 318 y05:=z0e
theorem z2j (P:U0):Binds (KX P) y05 ["strictness"] []:=(z0n P).binds λ _ _ _ _ _ _=>us1 λ _=>rfl
theorem z20:FnScope ["strictness"] ["strictness"] (z06 y0h):=.k
noncomputable abbrev y23:Stmt:=top 44
noncomputable abbrev y0w:FuncData:=fnX "goes_ahead" "goes_ahead" (top 44) "talejudge.orders" 639 324
theorem z4m (P:U0):Fun (KX P) "goes_ahead" "goes_ahead" y23 325 y0w:=z0e
theorem zbg (P:U0):Binds (KX P) y0w ["one","other","strictness"] []:=(z4m P).binds λ _ _ _ _ _ _=>us3 λ _ _ _=>rfl
theorem z9r:FnScope ["one","other","strictness"] ["one","other","strictness"] (z06 y23):=.k
noncomputable abbrev y2n:Stmt:=top 48
noncomputable abbrev y1w:FuncData:=fnX "step_of" "step_of" (top 48) "talejudge.places" 675 395
theorem z8m (P:U0):Fun (KX P) "step_of" "step_of" y2n 396 y1w:=z0e
theorem zhk (P:U0):Binds (KX P) y1w ["candidate","place"] []:=(z8m P).binds λ _ _ _ _ _ _=>us2 λ _ _=>rfl
theorem sc_step_of:FnScope ["candidate","place","thing","states","done","numbers"] ["candidate","place"] (z06 y2n):=.k
noncomputable abbrev y17:Stmt:=top 49
noncomputable abbrev y0c:FuncData:=fnX "ended_numbers" "ended_numbers" (top 49) "talejudge.places" 675 400
theorem z29 (P:U0):Fun (KX P) "ended_numbers" "ended_numbers" y17 401 y0c:=z0e
theorem z7t (P:U0):Binds (KX P) y0c ["told"] []:=(z29 P).binds λ _ _ _ _ _ _=>us1 λ _=>rfl
theorem z7g:FnScope ["told"] ["told"] (z06 y17):=.k
noncomputable abbrev y2b:Stmt:=top 50
noncomputable abbrev y18:FuncData:=fnX "holds_all" "holds_all" (top 50) "talejudge.places" 675 405
theorem z5g (P:U0):Fun (KX P) "holds_all" "holds_all" y2b 406 y18:=z0e
theorem zej (P:U0):Binds (KX P) y18 ["done","numbers"] []:=(z5g P).binds λ _ _ _ _ _ _=>us2 λ _ _=>rfl
theorem zcb:FnScope ["done","numbers"] ["done","numbers"] (z06 y2b):=.k
noncomputable abbrev y1q:Stmt:=top 51
noncomputable abbrev y0m:FuncData:=fnX "first_place" "first_place" (top 51) "talejudge.places" 675 410
theorem z3i (P:U0):Fun (KX P) "first_place" "first_place" y1q 411 y0m:=z0e
theorem z9p (P:U0):Binds (KX P) y0m ["tale"] []:=(z3i P).binds λ _ _ _ _ _ _=>us1 λ _=>rfl
theorem z8k:FnScope ["tale"] ["tale"] (z06 y1q):=.k
noncomputable abbrev y24:Stmt:=top 52
noncomputable abbrev y0x:FuncData:=fnX "all_places" "all_places" (top 52) "talejudge.places" 675 417
theorem z4l (P:U0):Fun (KX P) "all_places" "all_places" y24 418 y0x:=z0e
theorem zb7 (P:U0):Binds (KX P) y0x ["tale","strictness"] []:=(z4l P).binds λ _ _ _ _ _ _=>us2 λ _ _=>rfl
theorem sc_all_places:FnScope ["tale","strictness","board","found","layer"] ["tale","strictness"] (z06 y24):=.k
noncomputable abbrev y25:Stmt:=top 53
noncomputable abbrev y0y:FuncData:=fnX "next_layer" "next_layer" (top 53) "talejudge.places" 675 424
theorem z4k (P:U0):Fun (KX P) "next_layer" "next_layer" y25 425 y0y:=z0e
theorem zbu (P:U0):Binds (KX P) y0y ["board","layer"] []:=(z4k P).binds λ _ _ _ _ _ _=>us2 λ _ _=>rfl
theorem sc_next_layer:FnScope ["board","layer","reached","place","step"] ["board","layer"] (z06 y25):=.k
noncomputable abbrev y2q:Stmt:=top 55
noncomputable abbrev y1h:FuncData:=fnX "judged" "judged" (top 55) "talejudge.judge" 828 431
theorem z6r (P:U0):Fun (KX P) "judged" "judged" y2q 432 y1h:=z0e
theorem zfl (P:U0):Binds (KX P) y1h ["tale","strictness"] []:=(z6r P).binds λ _ _ _ _ _ _=>us2 λ _ _=>rfl
theorem sc_judged:FnScope ["tale","strictness","board","seen","waiting","reached","number","answer","place"] ["tale","strictness"] (z06 y2q):=.k
noncomputable abbrev y1r:Stmt:=top 57
noncomputable abbrev y08:FuncData:=fnX "stuck_paper" "stuck_paper" (top 57) "talejudge.stuck" 845 438
theorem z1h (P:U0):Fun (KX P) "stuck_paper" "stuck_paper" y1r 439 y08:=z0e
theorem z5y (P:U0):Binds (KX P) y08 ["tale","strictness"] []:=(z1h P).binds λ _ _ _ _ _ _=>us2 λ _ _=>rfl
theorem z4s:FnScope ["tale","strictness"] ["tale","strictness"] (z06 y1r):=.k
noncomputable abbrev y2j:Stmt:=top 58
noncomputable abbrev y0p:FuncData:=fnX "is_stuck" "is_stuck" (top 58) "talejudge.stuck" 845 443
theorem z3r (P:U0):Fun (KX P) "is_stuck" "is_stuck" y2j 444 y0p:=z0e
theorem z9i (P:U0):Binds (KX P) y0p ["tale","strictness","paper"] []:=(z3r P).binds λ _ _ _ _ _ _=>us3 λ _ _ _=>rfl
theorem sc_is_stuck:FnScope ["tale","strictness","paper","board","held","place"] ["tale","strictness","paper"] (z06 y2j):=.k
noncomputable abbrev y11:Stmt:=top 59
noncomputable abbrev y09:FuncData:=fnX "goes_on_within" "goes_on_within" (top 59) "talejudge.stuck" 845 448
theorem z1x (P:U0):Fun (KX P) "goes_on_within" "goes_on_within" y11 449 y09:=z0e
theorem z70 (P:U0):Binds (KX P) y09 ["board","place","held"] []:=(z1x P).binds λ _ _ _ _ _ _=>us3 λ _ _ _=>rfl
theorem z63:FnScope ["board","place","held"] ["board","place","held"] (z06 y11):=.k
noncomputable abbrev y1i:Stmt:=top 61
noncomputable abbrev y07:FuncData:=fY "_law_cell_at" "_law_cell_at" (top 61) 455
theorem z15 (P:U0):Fun (KX P) "_law_cell_at" "_law_cell_at" y1i 456 y07:=z0e
theorem z57 (P:U0):Binds (KX P) y07 ["script","k"] []:=(z15 P).binds λ _ _ _ _ _ _=>us2 λ _ _=>rfl
theorem z43:FnScope ["script","k"] ["script","k"] (z06 y1i):=.k
noncomputable abbrev y2c:Stmt:=top 62
noncomputable abbrev y19:FuncData:=fY "_law_take" "_law_take" (top 62) 462
theorem z5k (P:U0):Fun (KX P) "_law_take" "_law_take" y2c 463 y19:=z0e
theorem zen (P:U0):Binds (KX P) y19 ["deck","many"] []:=(z5k P).binds λ _ _ _ _ _ _=>us2 λ _ _=>rfl
theorem sc__law_take:FnScope ["deck","many","told","number"] ["deck","many"] (z06 y2c):=.k
noncomputable abbrev y2o:Stmt:=top 63
noncomputable abbrev y1x:FuncData:=fY "_law_do" "_law_do" (top 63) 467
theorem z9c (P:U0):Fun (KX P) "_law_do" "_law_do" y2o 468 y1x:=z0e
theorem zid (P:U0):Binds (KX P) y1x ["kind","state","verb","worth"] []:=(z9c P).binds λ _ _ _ _ _ _=>us4 λ _ _ _ _=>rfl
theorem sc__law_do:FnScope ["kind","state","verb","worth","there"] ["kind","state","verb","worth"] (z06 y2o):=.k
noncomputable abbrev y26:Stmt:=top 64
noncomputable abbrev y0z:FuncData:=fY "_law_first" "_law_first" (top 64) 472
theorem z4e (P:U0):Fun (KX P) "_law_first" "_law_first" y26 473 y0z:=z0e
theorem zbc (P:U0):Binds (KX P) y0z ["things"] []:=(z4e P).binds λ _ _ _ _ _ _=>us1 λ _=>rfl
theorem z9w:FnScope ["things"] ["things"] (z06 y26):=.k
noncomputable abbrev y27:Stmt:=top 65
noncomputable abbrev y10:FuncData:=fY "_law_worth" "_law_worth" (top 65) 479
theorem z4p (P:U0):Fun (KX P) "_law_worth" "_law_worth" y27 480 y10:=z0e
theorem zbl (P:U0):Binds (KX P) y10 ["deck"] []:=(z4p P).binds λ _ _ _ _ _ _=>us1 λ _=>rfl
theorem zas:FnScope ["deck"] ["deck"] (z06 y27):=.k
noncomputable abbrev y2d:Stmt:=top 66
noncomputable abbrev y1a:FuncData:=fY "_law_verb" "_law_verb" (top 66) 486
theorem z5o (P:U0):Fun (KX P) "_law_verb" "_law_verb" y2d 487 y1a:=z0e
theorem ze4 (P:U0):Binds (KX P) y1a ["deck","kind"] []:=(z5o P).binds λ _ _ _ _ _ _=>us2 λ _ _=>rfl
theorem sc__law_verb:FnScope ["deck","kind","some","verb"] ["deck","kind"] (z06 y2d):=.k
noncomputable abbrev y1s:Stmt:=top 67
noncomputable abbrev y0n:FuncData:=fY "_law_things" "_law_things" (top 67) 491
theorem z3a (P:U0):Fun (KX P) "_law_things" "_law_things" y1s 492 y0n:=z0e
theorem zaa (P:U0):Binds (KX P) y0n ["deck"] []:=(z3a P).binds λ _ _ _ _ _ _=>us1 λ _=>rfl
theorem sc__law_things:FnScope ["deck","words","told","k"] ["deck"] (z06 y1s):=.k
noncomputable abbrev y1j:Stmt:=top 68
noncomputable abbrev y0g:FuncData:=fY "_law_applied" "_law_applied" (top 68) 496
theorem z2s (P:U0):Fun (KX P) "_law_applied" "_law_applied" y1j 497 y0g:=z0e
theorem z8y (P:U0):Binds (KX P) y0g ["things","states","own"] []:=(z2s P).binds λ _ _ _ _ _ _=>us3 λ _ _ _=>rfl
theorem sc__law_applied:FnScope ["things","states","own","at","state","answer"] ["things","states","own"] (z06 y1j):=.k
noncomputable abbrev y2e:Stmt:=top 69
noncomputable abbrev y1b:FuncData:=fY "_law_tale" "_law_tale" (top 69) 501
theorem z5i (P:U0):Fun (KX P) "_law_tale" "_law_tale" y2e 502 y1b:=z0e
theorem ze5 (P:U0):Binds (KX P) y1b ["script","most"] []:=(z5i P).binds λ _ _ _ _ _ _=>us2 λ _ _=>rfl
theorem sc__law_tale:FnScope ["script","most","way","deck","things","hands","spoil","states","events","under_way","k","hand","own","answer","name","kind","verb","worth"] ["script","most"] (z06 y2e):=.k
noncomputable abbrev y2f:Stmt:=top 77
noncomputable abbrev y1c:FuncData:=fY "_law_word" "_law_word" (top 77) 553
theorem z5e (P:U0):Fun (KX P) "_law_word" "_law_word" y2f 554 y1c:=z0e
theorem zdw (P:U0):Binds (KX P) y1c ["cell"] []:=(z5e P).binds λ _ _ _ _ _ _=>us1 λ _=>rfl
theorem sc__law_word:FnScope ["cell","some","word","at","letter"] ["cell"] (z06 y2f):=.k
noncomputable abbrev y1t:Stmt:=top 78
noncomputable abbrev y0o:FuncData:=fY "_law_caught" "_law_caught" (top 78) 560
theorem z3c (P:U0):Fun (KX P) "_law_caught" "_law_caught" y1t 561 y0o:=z0e
theorem zao (P:U0):Binds (KX P) y0o ["turn","tale","word","paper"] []:=(z3c P).binds λ _ _ _ _ _ _=>us4 λ _ _ _ _=>rfl
theorem sc__law_caught:FnScope ["turn","tale","word","paper","kinds","e","others"] ["turn","tale","word","paper"] (z06 y1t):=.k
noncomputable abbrev y2u:Stmt:=top 79
noncomputable abbrev fd_law:FuncData:=fY "law" "law" (top 79) 567
theorem F_law (P:U0):Fun (KX P) "law" "law" y2u 568 fd_law:=z0e
theorem sc_law:FnScope ["script","tale","cell","word","turn","paper","due","strange","strictness"] ["script"] (z06 y2u):=.k
noncomputable abbrev y0d:Stmt:=subS (top 46) 0
noncomputable abbrev y03:FuncData:=fnX "__init__" "Candidate.__init__" (subS (top 46) 0) "talejudge.places" 675 336
theorem z1w (P:U0):Fun (KX P) "__init__" "Candidate.__init__" y0d 337 y03:=z0e
theorem z4a (P:U0):Binds (KX P) y03 ["self","number","deed","thing","kind","pairs"] []:=(z1w P).binds λ _ _ _ _ _ _=>us6 λ _ _ _ _ _ _=>rfl
theorem z3z:FnScope ["self","number","deed","thing","kind","pairs"] ["self","number","deed","thing","kind","pairs"] (z06 y0d):=.k
theorem zc4 (P:U0):Mk (KX P) 347 337:=⟨by kernel_rfl,by kernel_rfl,by kernel_rfl,by kernel_rfl⟩
theorem z0d (P:U0):Cls (KX P) 347:=⟨by kernel_rfl,by kernel_rfl,by kernel_rfl,by kernel_rfl⟩
theorem z0v (P:U0):NoAttr (KX P) 347 "number":=by unfold NoAttr;kernel_rfl
theorem z2g (P:U0):NoAttr (KX P) 347 "thing":=by unfold NoAttr;kernel_rfl
theorem z32 (P:U0):NoAttr (KX P) 347 "kind":=by unfold NoAttr;kernel_rfl
theorem z36 (P:U0):NoAttr (KX P) 347 "verb":=by unfold NoAttr;kernel_rfl
theorem z2d (P:U0):NoAttr (KX P) 347 "worth":=by unfold NoAttr;kernel_rfl
theorem z16 (P:U0):NoAttr (KX P) 347 "answer":=by unfold NoAttr;kernel_rfl
theorem z24 (P:U0):NoAttr (KX P) 347 "aheads":=by unfold NoAttr;kernel_rfl
theorem z1t (P:U0):NoAttr (KX P) 347 "behinds":=by unfold NoAttr;kernel_rfl
noncomputable abbrev y0a:Stmt:=subS (top 46) 1
noncomputable abbrev y02:FuncData:=fnX "may_stand" "Candidate.may_stand" (subS (top 46) 1) "talejudge.places" 675 343
theorem z1n (P:U0):Fun (KX P) "may_stand" "Candidate.may_stand" y0a 344 y02:=z0e
theorem z3y (P:U0):Binds (KX P) y02 ["self","done"] []:=(z1n P).binds λ _ _ _ _ _ _=>us2 λ _ _=>rfl
theorem sc_Candidate_may_stand:FnScope ["self","done","ahead","behind"] ["self","done"] (z06 y0a):=.k
theorem z3t (P:U0):Meth (KX P) 347 "may_stand" 344:=⟨by kernel_rfl,by kernel_rfl,by kernel_rfl⟩
noncomputable abbrev y12:Stmt:=subS (top 47) 0
noncomputable abbrev y00:FuncData:=fnX "__init__" "Board.__init__" (subS (top 47) 0) "talejudge.places" 675 362
theorem z1r (P:U0):Fun (KX P) "__init__" "Board.__init__" y12 363 y00:=z0e
theorem z0y (P:U0):Binds (KX P) y00 ["self","tale","strictness"] []:=(z1r P).binds λ _ _ _ _ _ _=>us3 λ _ _ _=>rfl
theorem sc_Board___init__:FnScope ["self","tale","strictness","pairs","told","names","number","deed","thing"] ["self","tale","strictness"] (z06 y12):=.k
theorem z6o (P:U0):Mk (KX P) 385 363:=⟨by kernel_rfl,by kernel_rfl,by kernel_rfl,by kernel_rfl⟩
theorem z0p (P:U0):Cls (KX P) 385:=⟨by kernel_rfl,by kernel_rfl,by kernel_rfl,by kernel_rfl⟩
theorem z1o (P:U0):NoAttr (KX P) 385 "kinds":=by unfold NoAttr;kernel_rfl
theorem z1p (P:U0):NoAttr (KX P) 385 "first":=by unfold NoAttr;kernel_rfl
theorem z50 (P:U0):NoAttr (KX P) 385 "ended":=by unfold NoAttr;kernel_rfl
theorem z17 (P:U0):NoAttr (KX P) 385 "candidates":=by unfold NoAttr;kernel_rfl
noncomputable abbrev y0i:Stmt:=subS (top 47) 1
noncomputable abbrev y01:FuncData:=fnX "steps_from" "Board.steps_from" (subS (top 47) 1) "talejudge.places" 675 369
theorem z2h (P:U0):Fun (KX P) "steps_from" "Board.steps_from" y0i 370 y01:=z0e
theorem z1c (P:U0):Binds (KX P) y01 ["self","place"] []:=(z2h P).binds λ _ _ _ _ _ _=>us2 λ _ _=>rfl
theorem sc_Board_steps_from:FnScope ["self","place","steps","candidate","step"] ["self","place"] (z06 y0i):=.k
theorem z13 (P:U0):Meth (KX P) 385 "steps_from" 370:=⟨by kernel_rfl,by kernel_rfl,by kernel_rfl⟩
noncomputable abbrev y1d:Stmt:=subS (top 47) 2
noncomputable abbrev y04:FuncData:=fnX "ends_at" "Board.ends_at" (subS (top 47) 2) "talejudge.places" 675 376
theorem z40 (P:U0):Fun (KX P) "ends_at" "Board.ends_at" y1d 377 y04:=z0e
theorem z47 (P:U0):Binds (KX P) y04 ["self","place"] []:=(z40 P).binds λ _ _ _ _ _ _=>us2 λ _ _=>rfl
theorem z6l:FnScope ["self","place"] ["self","place"] (z06 y1d):=.k
theorem z3q (P:U0):Meth (KX P) 385 "ends_at" 377:=⟨by kernel_rfl,by kernel_rfl,by kernel_rfl⟩
noncomputable abbrev y0q:Stmt:=subS (top 47) 3
noncomputable abbrev y06:FuncData:=fnX "has_place" "Board.has_place" (subS (top 47) 3) "talejudge.places" 675 381
theorem z33 (P:U0):Fun (KX P) "has_place" "Board.has_place" y0q 382 y06:=z0e
theorem z62 (P:U0):Binds (KX P) y06 ["self","value"] []:=(z33 P).binds λ _ _ _ _ _ _=>us2 λ _ _=>rfl
theorem z5n:FnScope ["self","value"] ["self","value"] (z06 y0q):=.k
theorem z5l (P:U0):Meth (KX P) 385 "has_place" 382:=⟨by kernel_rfl,by kernel_rfl,by kernel_rfl⟩
section
variable {P:Program} {w:V0} {mg:Str->Option Value} {base:Heap}
def z3w:Sp:=λ vs H Q _=>∃x T,vs=[x]/\TagOf H x T/\Q (.bl (decide (T = "int"))) H
theorem zeg (T:TX (kx w) mg):Fo P w mg base CX0 1 21 y1k ["value"] z3w:=by
 refine (z6j w.params).ok zel (λ b H Q E h=>?_) (λ d A e s H b Q E c h=>?_)
 ·obtain ⟨x,t,rfl,_⟩:=h;rfl
 ·obtain ⟨x,t,rfl,a,q⟩:=h;refine ⟨_,(z04 (ps_ret (pe_and (z09 z0t rfl (T.no (z0g _)) X1 (z00 (pv 0) (z00 (z37 (v:=.ty "int") rfl (T.no (n_int _)) boot_int rfl) pa_nil))) (pe_one (pe_not (z09 z0t rfl (T.no (z0g _)) X1 (z00 (pv 0) (z00 (z37 (v:=.ty "bool") rfl (T.no (n_bool _)) boot_bool rfl) pa_nil)))))))),?_⟩;refine ⟨_,rfl,_,_,_,rfl,a,by decide,_,rfl,?_⟩;by_cases h1:instB t "int" = true
  ·rw [if_pos h1];refine ⟨_,rfl,_,_,_,rfl,a,by decide,_,rfl,?_⟩;rw [z6u a (by decide)];have:(!decide (t = "bool"))=decide (t = "int"):=by rcases a.one with rfl|rfl|rfl|rfl|rfl|rfl|rfl<;>revert h1<;>decide
   rw [this];exact q
  ·rw [if_neg h1];have:decide (t = "int")=false:=by rcases a.one with rfl|rfl|rfl|rfl|rfl|rfl|rfl<;>revert h1<;>decide
   rw [this] at q;exact q
def z6c:Sp:=λ vs H Q _=>∃x T g,vs=[x,.int g]/\TagOf H x T/\Q (.bl (z11 x g)) H
theorem zbo (T:TX (kx w) mg) (c0:Ca P w mg base "is_whole" ["value"] 1 z3w):Fo P w mg base CX0 2 28 y13 ["value","greatest"] z6c:=by
 refine (z5b w.params).ok zbm (λ c H Q E h=>?_) (λ d A e s H c Q E b h=>?_)
 ·obtain ⟨x,t,g,rfl,_⟩:=h;rfl
 ·obtain ⟨x,t,g,rfl,a,q⟩:=h;refine ⟨_,(z04 (ps_ret (pe_and (pe_cal c0 (b.mono (by decide)) rfl (z00 (pv 0) pa_nil)) (pe_one (zf3 op_le op_le (pe_un un_neg (pv 1)) (pv 0) (pv 1)))))),?_⟩;refine ⟨_,rfl,x,t,rfl,a,_,rfl,?_⟩;by_cases h1:t = "int"
  ·subst h1;obtain ⟨i,rfl⟩:=a.int;refine iteT ?_;refine ⟨_,rfl,_,rfl,_,rfl,_,_,rfl,rfl,_,rfl,?_⟩;unfold z11 at q;dsimp only at q;by_cases h2:-g<=i
   ·rw [decide_eq_true h2] at q⊢;refine iteT ⟨_,rfl,_,_,rfl,rfl,?_⟩;rw [j3c] at q;exact q
   ·rw [decide_eq_false h2] at q⊢;refine iteF ?_;rw [P7] at q;exact q
  ·rw [decide_eq_false h1];refine iteF ?_;rw [noInt a h1] at q;exact q
def z86:Sp:=λ vs H Q _=>∃x T,vs=[x]/\TagOf H x T/\Q (.bl (z11 x 1000000000)) H
theorem ze0 (T:TX (kx w) mg) (c0:Ca P w mg base "is_within" ["value","greatest"] 2 z6c):Fo P w mg base CX0 3 35 y1l ["value"] z86:=by
 refine (z7j w.params).ok ze1 (λ c H Q E h=>?_) (λ d A e s H c Q E a h=>?_)
 ·obtain ⟨x,t,rfl,_⟩:=h;rfl
 ·obtain ⟨x,t,rfl,b,q⟩:=h;refine ⟨_,(z04 (ps_ret (pe_cal c0 (a.mono (by decide)) rfl (z00 (pv 0) (z00 (z0m (v:=.int (1000000000)) rfl (T.of (z7e _)) ⟨_,rfl⟩) pa_nil))))),?_⟩;exact ⟨_,rfl,x,t,1000000000,rfl,b,q⟩
def z2r:Sp:=λ vs H Q _=>∃x T m,vs=[x,.int m]/\TagOf H x T/\Q (.bl (match tupOf H x with|some xs=>decide ((xs.length:Int)=m)|none=>false)) H
theorem z8s (T:TX (kx w) mg):Fo P w mg base CX0 1 42 y0j ["value","many"] z2r:=by
 refine (z3o w.params).ok z8g (λ f H Q E h=>?_) (λ l A j s H f Q E k h=>?_)
 ·obtain ⟨x,t,g,rfl,_⟩:=h;rfl
 ·obtain ⟨x,t,g,rfl,c,q⟩:=h;refine ⟨_,(z04 (ps_ret (pe_and (z09 z0t rfl (T.no (z0g _)) X1 (z00 (pv 0) (z00 (z37 (v:=.ty "tuple") rfl (T.no (z30 _)) S4 rfl) pa_nil))) (pe_one (z31 opEq (z09 z2m rfl (T.no (n_len _)) L5 (z00 (pv 0) pa_nil)) (pv 1) (nomark _)))))),?_⟩;refine ⟨_,rfl,_,_,_,rfl,c,by decide,_,rfl,?_⟩;rw [z6u c (by decide)];by_cases h1:t = "tuple"
  ·subst h1;obtain ⟨a,b,rfl,d⟩:=c.tuple;refine iteT ⟨_,rfl,.inl ⟨a,b,rfl,.inr (SqT.of d),_,rfl,rfl,?_⟩⟩;have e:tupOf H (.ref a)=some b:=by unfold tupOf;dsimp only;rw [d]
   rw [e] at q;have i:decide (V.int (b.length:Int)=V.int g)=decide ((b.length:Int)=g):=by simp
   rw [i];exact q
  ·rw [decide_eq_false h1];refine iteF ?_;rw [noTup c h1] at q;exact q
def kindB (x:V):Bool:=match x with
 | .str z=>(kl_FIRST_STATES.lookup z).isSome
 | _=>false
def z6h:Sp:=λ vs H Q _=>∃x T,vs=[x]/\TagOf H x T/\Q (.bl (kindB x)) H
theorem zgj (T:TX (kx w) mg):Fo P w mg base CX0 1 270 y1u ["kind"] z6h:=by
 refine (z97 w.params).ok zgk (λ b H Q E h=>?_) (λ d A e s H b Q E c h=>?_)
 ·obtain ⟨x,t,rfl,_⟩:=h;rfl
 ·obtain ⟨x,t,rfl,a,q⟩:=h;refine ⟨_,(z04 (ps_ret (pe_and (z09 z0t rfl (T.no (z0g _)) X1 (z00 (pv 0) (z00 (z37 (v:=.ty "str") rfl (T.no (n_str _)) boot_str rfl) pa_nil))) (pe_one (z31 (zli (z45 _)) (pv 0) (z0m (v:=.ref 186) rfl (T.of (z4t _)) rfl) (by with_unfolding_all rfl)))))),?_⟩;refine ⟨_,rfl,_,_,_,rfl,a,by decide,_,rfl,?_⟩;rw [z6u a (by decide)];by_cases h1:t = "str"
  ·subst h1;obtain ⟨z,rfl⟩:=a.str;exact iteT ⟨_,rfl,z,rfl,rfl,q⟩
  ·rw [decide_eq_false h1];refine iteF ?_;cases x with
   | str z=>exact absurd a h1
   | _=>exact q
def formOf (k v:Str):Int:=match kl_DOERS.lookup (k,v) with
 | none=>-1
 | some _=>(match kl_WORTHS_OF_VERBS.lookup v with|some (.int i)=>i|_=>-1)
def deedB (H:Hp) (k v x:V):Bool:=match k,v with
 | .str a,.str b=>if formOf a b=0 then decide (x=.non) else if formOf a b=1 then z11 x 1000000000 else if formOf a b=2 then
   (match tupOf H x with|some xs=>decide (xs.length=2) && xs.all λ y=>z11 y 1000000000|none=>false) else false
 | _,_=>false
theorem zam {a b:Str} {v:V} (h:kl_DOERS.lookup (a,b)=some v):(kl_FIRST_STATES.lookup a).isSome=true/\∃i,kl_WORTHS_OF_VERBS.lookup b=some (.int i)/\(i=0\/i=1\/i=2):=by
 have m:=zc7 h;have all :∀p∈kl_DOERS,(kl_FIRST_STATES.lookup p.1.1).isSome=true/\(kl_WORTHS_OF_VERBS.lookup p.1.2=some (.int 0)\/kl_WORTHS_OF_VERBS.lookup p.1.2=some (.int 1)\/kl_WORTHS_OF_VERBS.lookup p.1.2=some (.int 2)):=by decide +kernel
 obtain ⟨d,c⟩:=all _ m;refine ⟨d,?_⟩;rcases c with c|c|c
 ·exact ⟨0,c,.inl rfl⟩
 ·exact ⟨1,c,.inr (.inl rfl)⟩
 ·exact ⟨2,c,.inr (.inr rfl)⟩
def za9:Sp:=λ vs H Q _=>∃k v x Tk Tv Tx,vs=[k,v,x]/\TagOf H k Tk/\TagOf H v Tv/\TagOf H x Tx/\Flat H x/\∀H',Same H H'->Q (.bl (deedB H k v x)) H'
theorem zhe (T:TX (kx w) mg) (c0:Ca P w mg base "is_kind" ["kind"] 1 z6h) (c1:Ca P w mg base "is_worth" ["value"] 3 z86) (c2:Ca P w mg base "is_tuple_of" ["value","many"] 1 z2r):Fo P w mg base CX0 4 289 y1v ["kind","verb","worth"] za9:=by
 refine (z92 w.params).ok sc_is_deed (λ U H Q E h=>?_) (λ a2 A a1 s H U Q E m h=>?_)
 ·obtain ⟨k,v,x,S,I,C,rfl,_⟩:=h;rfl
 ·obtain ⟨k,v,x,S,I,C,rfl,hk,r,F,hf,q⟩:=h;refine ⟨_,(z02 (ps_if (PW.pt (pw_or (pt_not (pt_val (pe_cal c0 (m.mono (by decide)) rfl (z00 (pv 0) pa_nil)) (λ _=>rfl))) (pw_or (pt_not (pt_val (z09 z0t rfl (T.no (z0g _)) X1 (z00 (pv 1) (z00 (z37 (v:=.ty "str") rfl (T.no (n_str _)) boot_str rfl) pa_nil))) (λ _=>rfl))) (pw_or1 (z0a (zby (hu_of m) (zh2 _)) (pe_tup (z00 (pv 0) (z00 (pv 1) pa_nil))) (z0m (v:=.ref 251) rfl (T.of (zjg _)) rfl) (by with_unfolding_all rfl))))))
   (z04 (ps_ret pe_bl))
   z0b)
   (z02 (ps_set (i:=3) sc_is_deed.nd rfl (C1 rfl) (pe_ix (ix_kd (z5j _)) (z0m (v:=.ref 189) rfl (T.of (z65 _)) rfl) (pv 1) (λ _ _=>rfl)))
   (z02 (ps_if (z0a opEq (pv 3) pe_int (nomark _))
   (z04 (ps_ret (z31 op_isN (pv 2) pe_non (nomark _))))
   z0b)
   (z02 (ps_if (z0a opEq (pv 3) pe_int (nomark _))
   (z04 (ps_ret (pe_cal c1 (m.mono (by decide)) rfl (z00 (pv 2) pa_nil))))
   z0b)
   (z04 (ps_ret (pe_and (pe_cal c2 (m.mono (by decide)) rfl (z00 (pv 2) (z00 (pv 3) pa_nil))) (pe_one (z09 (z23 rfl) rfl (T.no (n_all _)) x9 (z00 (pe_cg (xs:=["part"]) (g:=gName 0) (fr:=[]) (pi_tup (pv 2)) (λ _ _ _ _ _=>(pg_cn (N:=["part"]) 0)) (λ _ _ _ _ _=>pf_nil) (λ _ _ _ _ _=>(pe_cal c1 (m.mono (by decide)) rfl (z00 (pv 0) pa_nil)))) pa_nil)))))))))),?_⟩
  refine ⟨_,rfl,k,S,rfl,hk,_,rfl,?_⟩;have L:deedB H k v x=false->Q (.bl false) H:=λ e=>by have:=q H (Same.refl H);rw [e] at this;exact this
  by_cases j :∃a,k=.str a/\(kl_FIRST_STATES.lookup a).isSome=true
  ·obtain ⟨a,rfl,j⟩:=j;have W:kindB (.str a)=true:=j;rw [W];refine iteF ?_;refine ⟨_,rfl,_,_,_,rfl,r,by decide,_,rfl,?_⟩;rw [z6u r (by decide)];by_cases o:I = "str"
   ·subst o;obtain ⟨b,rfl⟩:=r.str;refine iteF ?_;refine ⟨_,rfl,_,rfl,?_⟩;refine ⟨w_2,λ p X=>⟨p,a,b,rfl,z01,rfl,_,rfl,?_⟩⟩;have d:Same H (upd H p (.tup [.str a,.str b])):=Same.upd X;cases h3:kl_DOERS.lookup (a,b) with
    | none=>
     refine iteT ?_;have:=q _ d;have e:deedB H (.str a) (.str b) x=false:=by unfold deedB formOf;dsimp only;rw [h3];rfl
     rw [e] at this;exact this
    | some z=>
     refine iteF ?_;obtain ⟨_,i,J,Z⟩:=zam h3;have D:formOf a b=i:=by unfold formOf;rw [h3];dsimp only;rw [J]
     refine ⟨_,rfl,b,.int i,rfl,rfl,J,?_⟩;refine ⟨_,rfl,rfl,_,rfl,?_⟩;rcases Z with rfl|rfl|rfl
     ·refine iteT ⟨_,rfl,rfl,?_⟩;have:=q _ d;have e:deedB H (.str a) (.str b) x=decide (x=.non):=by unfold deedB;dsimp only;rw [D];rfl
      rw [e] at this;exact this
     ·refine iteF ⟨_,rfl,rfl,_,rfl,?_⟩;refine iteT ⟨_,rfl,x,C,rfl,F.same d,?_⟩;have:=q _ d;have e:deedB H (.str a) (.str b) x=z11 x 1000000000:=by unfold deedB;dsimp only;rw [D];rfl
      rw [e] at this;exact this
     ·refine iteF ⟨_,rfl,rfl,_,rfl,?_⟩;refine iteF ⟨_,rfl,_,rfl,x,C,2,rfl,F.same d,_,rfl,?_⟩;rw [zg6 F d];have e:deedB H (.str a) (.str b) x=(match tupOf H x with|some xs=>decide (xs.length=2) && xs.all λ y=>z11 y 1000000000|none=>false):=by unfold deedB;dsimp only;rw [D];rfl
      rw [e] at q;cases ht:tupOf H x with
      | none=>rw [ht] at q;exact iteF (q _ d)
      | some xs=>
       rw [ht] at q;dsimp only at q⊢;by_cases n:xs.length=2
       ·have t:((xs.length:Nat):Int)=2:=by omega
        rw [if_pos (decide_eq_true t)];rw [decide_eq_true n,j3c] at q;obtain ⟨c,rfl,hc⟩:=zh5 ht;have a0:xs.length<=sizeLine:=by rw [n];decide
        refine e_cb1 ?_;refine z26 (K:=KX w.params) (a:=c) (xs:=xs) (H1:=upd H p (.tup [.str a,.str b])) (λ _=>true) (λ i y _=>y=.bl (z11 (xs[i]?.getD .non) 1000000000)) (λ _ _ _ _ _ z=>z) (λ R h=>⟨_,rfl,h⟩) (SqT.of (d _ _ hc)) a0 ?_ ?_
        ·intro i O u Y B M KT KF k1 k2;obtain ⟨Ty,ty⟩:=(hf xs ht).2 u (Q0 M);refine ⟨[some u],rfl,rfl,iteT ?_⟩;exact ⟨_,rfl,u,Ty,rfl,(ty.same d).same B,k1 rfl _ _ (Same.refl _) (by rw [M];rfl)⟩
        ·intro l Y ys B n G;rw [List.filter_eq_self.mpr (λ _ _=>rfl)] at G;have ey:ys=xs.map λ y=>V.bl (z11 y 1000000000):=by
          rw [z5d (f:=λ i=>V.bl (z11 (xs[i]?.getD .non) 1000000000)) G];apply Q6
          ·simp
          ·intro i j o;have O:i < xs.length:=by simpa using j
           simp [N0 O]
         subst ey;refine ⟨l,_,rfl,SqL.of z01,λ y hy=>?_,?_⟩
         ·obtain ⟨z,_,rfl⟩:=List.mem_map.mp hy;exact ⟨_,rfl⟩
         ·have e9:((xs.map λ y=>V.bl (z11 y 1000000000)).all λ y=>decide (y=V.bl true))=xs.all λ y=>z11 y 1000000000:=by rw [List.all_map];congr 1;funext y;simp
          rw [e9];exact q _ ((d.trans B).trans (Same.upd n))
       ·have t:¬ ((xs.length:Nat):Int)=2:=by omega
        rw [if_neg (by rw [decide_eq_false t];exact S0)];rw [decide_eq_false n,P7] at q;exact q _ d
   ·rw [decide_eq_false o];refine iteT ?_;exact L (by unfold deedB;cases v with|str z=>exact absurd r o|_=>rfl)
  ·have e1:kindB k=false:=by
    cases k with
    | str z=>exact Bool.eq_false_iff.mpr λ e=>j ⟨z,rfl,e⟩
    | _=>rfl
   rw [e1];refine iteT ?_;refine L ?_;cases k with
   | str a=>
    cases v with
    | str b=>
     unfold deedB formOf;dsimp only;cases h3:kl_DOERS.lookup (a,b) with
     | none=>rfl
     | some z=>exact absurd ⟨a,rfl,(zam h3).1⟩ j
    | _=>rfl
   | _=>rfl
theorem deedB0 {H:Hp} {a b:Str} {x:V} (h:formOf a b=0):deedB H (.str a) (.str b) x=decide (x=.non):=by unfold deedB;dsimp only;rw [h];rfl
theorem deedB1 {H:Hp} {a b:Str} {x:V} (h:formOf a b=1):deedB H (.str a) (.str b) x=z11 x 1000000000:=by unfold deedB;dsimp only;rw [h];rfl
theorem deedB2 {H:Hp} {a b:Str} {x:V} {xs:List V} (h:formOf a b=2) (e:tupOf H x=some xs):deedB H (.str a) (.str b) x=(decide (xs.length=2) && xs.all λ y=>z11 y 1000000000):=by unfold deedB;dsimp only;rw [h,e];rfl
def z3b:Sp:=λ vs H Q _=>∃st x,vs=[st,x]/\∀p,H p=none->Q (.ref p) (upd H p (.tup [st,st]))
theorem z9n (T:TX (kx w) mg):Fo P w mg base CX0 1 196 y0r ["state","worth"] z3b:=by
 refine (z4g w.params).ok zb3 (λ b H Q E h=>?_) (λ d A e s H b Q E c h=>?_)
 ·obtain ⟨a,x,rfl,_⟩:=h;rfl
 ·obtain ⟨a,x,rfl,q⟩:=h;refine ⟨_,(z04 (ps_ret (pe_tup (z00 (pv 0) (z00 (pv 0) pa_nil))))),?_⟩;exact ⟨_,rfl,_,rfl,w_2,q⟩
def z2n:Sp:=λ vs H Q _=>∃st x,vs=[st,x]/\∀p,H p=none->Q (.ref p) (upd H p (.tup [x,.str "ok"]))
theorem z8v (T:TX (kx w) mg):Fo P w mg base CX0 1 203 y0k ["state","worth"] z2n:=by
 refine (z3l w.params).ok z8p (λ b H Q E h=>?_) (λ d A e s H b Q E c h=>?_)
 ·obtain ⟨a,x,rfl,_⟩:=h;rfl
 ·obtain ⟨a,x,rfl,q⟩:=h;refine ⟨_,(z04 (ps_ret (pe_tup (z00 (pv 1) (z00 pe_str pa_nil))))),?_⟩;exact ⟨_,rfl,w_2,q⟩
def z1s:Sp:=λ vs H Q _=>∃i j:Int,vs=[.int i,.int j]/\∀p,H p=none->Q (.ref p) (upd H p (.tup [.int (i + j),.int i]))
theorem z7l (T:TX (kx w) mg):Fo P w mg base CX0 1 210 y0b ["state","worth"] z1s:=by
 refine (z2b w.params).ok z6v (λ a H Q E h=>?_) (λ d A e s H a Q E b h=>?_)
 ·obtain ⟨c,x,rfl,_⟩:=h;rfl
 ·obtain ⟨i,j,rfl,q⟩:=h;refine ⟨_,(z04 (ps_ret (pe_tup (z00 (pe_op opAdd (pv 0) (pv 1)) (z00 (pv 0) pa_nil))))),?_⟩;exact ⟨_,rfl,_,rfl,.inl ⟨_,_,rfl,rfl,_,rfl,w_2,q⟩⟩
def z3n (K:c0):Sp:=λ vs H Q _=>∃(i a b:Int) (t:Addr),vs=[.int i,.ref t]/\SqT K H t [.int a,.int b]/\∀p,H p=none->Q (.ref p) (upd H p (.tup (if i=a then [.int b,.int 1] else [.int i,.int 0])))
theorem zaf (T:TX (kx w) mg):Fo P w mg base CX0 1 250 y0v ["state","worth"] (z3n (kx w)):=by
 refine (z4b w.params).ok z9y (λ d H Q E h=>?_) (λ g A j s H d Q E f h=>?_)
 ·obtain ⟨i,a,b,t,rfl,_⟩:=h;rfl
 ·obtain ⟨i,a,b,t,rfl,c,q⟩:=h;refine ⟨_,(z02 (ps_if (z0a opEq (pv 0) (pe_ix ix_seq (pv 1) pe_int (λ _ _=>rfl)) (nomark _))
   (z04 (ps_ret (pe_tup (z00 (pe_ix ix_seq (pv 1) pe_int (λ _ _=>rfl)) (z00 pe_int pa_nil)))))
   z0b)
   (z04 (ps_ret (pe_tup (z00 (pv 0) (z00 pe_int pa_nil)))))),?_⟩
  refine ⟨_,rfl,_,rfl,.inr (.inl ⟨t,_,0,.int a,rfl,rfl,c,rfl,rfl,_,rfl,?_⟩)⟩;by_cases e:i=a
  ·subst e;rw [decide_eq_true rfl];simp only [if_true] at q;exact iteT ⟨_,rfl,.inr (.inl ⟨t,_,1,.int b,rfl,rfl,c,rfl,w_2,q⟩)⟩
  ·rw [decide_eq_false (λ z=>e (by cases z;rfl))];simp only [if_neg e] at q;exact iteF ⟨_,rfl,w_2,q⟩
def z3j (K:c0):Sp:=λ vs H Q _=>∃(t:Addr) (ns:List V) (x:V),vs=[.ref t,x]/\SqT K H t ns/\ns.length < 1000/\∀p p' H',Same H H'->H' p=some (.tup [.ref p',.str "ok"])->SqT K H' p' (ns++[x])->Q (.ref p) H'
theorem zb0 (T:TX (kx w) mg):Fo P w mg base CX0 1 217 y0s ["state","worth"] (z3j (kx w)):=by
 refine (z4h w.params).ok z9z (λ d H Q E h=>?_) (λ u A p s H d Q E r h=>?_)
 ·obtain ⟨t,c,x,rfl,_⟩:=h;rfl
 ·obtain ⟨t,c,x,rfl,i,k,q⟩:=h;refine ⟨_,(z04 (ps_ret (pe_tup (z00 (pe_op op_catS (pv 0) (pe_tup (z00 (pv 1) pa_nil))) (z00 pe_str pa_nil))))),?_⟩;refine ⟨_,rfl,_,rfl,w_1,λ e f=>?_⟩;have b:=Same.upd (o:=.tup [x]) f;refine ⟨t,e,c,[x],rfl,rfl,b.seqT i,SqT.of z01,by simp,F0 (Nat.add_le_add_right (J3 k) _) (show 1000 + 1<=sizeLine by decide),λ m n l j=>?_⟩;refine ⟨w_2,λ g a=>?_⟩;exact q g m _ ((b.trans l).trans (Same.upd a)) z01 ((Same.upd a).seqT j)
def z3f (K:c0):Sp:=λ vs H Q _=>∃(t:Addr) (ns:List V) (x:V),vs=[.ref t,x]/\SqT K H t ns/\
 (ns=[]->∀p H',Same H H'->H' p=some (.tup [.ref t,.str "none"])->Q (.ref p) H')/\(∀n r,ns=n :: r->∀p p' H',Same H H'->H' p=some (.tup [.ref p',n])->SqT K H' p' r->Q (.ref p) H')
theorem z9o (T:TX (kx w) mg):Fo P w mg base CX0 1 224 y0t ["state","worth"] (z3f (kx w)):=by
 refine (z4q w.params).ok zb1 (λ g H Q E h=>?_) (λ y A u s H g Q E v h=>?_)
 ·obtain ⟨t,b,x,rfl,_⟩:=h;rfl
 ·obtain ⟨t,b,x,rfl,a,e,f⟩:=h;refine ⟨_,(z02 (ps_if (z0a opEq (z09 z2m rfl (T.no (n_len _)) L5 (z00 (pv 0) pa_nil)) pe_int (nomark _))
   (z04 (ps_ret (pe_tup (z00 (pv 0) (z00 pe_str pa_nil)))))
   z0b)
   (z04 (ps_ret (pe_tup (z00 (z1b slSeq (pv 0) (z1m pe_int) z2e) (z00 (pe_ix ix_seq (pv 0) pe_int (λ _ _=>rfl)) pa_nil)))))),?_⟩
  refine ⟨_,rfl,.inl ⟨t,b,rfl,.inr a,rfl,_,rfl,?_⟩⟩;cases b with
  | nil=>exact iteT ⟨_,rfl,w_2,λ p m=>e rfl p _ (Same.upd m) z01⟩
  | cons n r=>
   rw [decide_eq_false (show ¬ V.int (((n :: r).length:Nat):Int)=V.int 0 from λ z=>by injection z with z;rw [X0] at z;omega)];refine iteF ⟨_,rfl,_,rfl,.inr (.inl ⟨t,_,rfl,a,?_,λ i k=>?_⟩)⟩
   ·intro z;have:HT.sIx (n :: r).length 0 (some 1)=1:=by rw [X0];simp [HT.sIx]
    omega
   ·have d:=Same.upd (o:=.tup (cutV (n :: r) (some 1) none)) k;have l:cutV (n :: r) (some 1) none=r:=by unfold cutV;simp [HT.sIx]
    refine ⟨_,rfl,.inr (.inl ⟨t,_,0,n,rfl,rfl,d.seqT a,z0c (j:=0) rfl,w_2,λ q c=>?_⟩)⟩;refine f n r rfl q i _ (d.trans (Same.upd c)) z01 ((Same.upd c).seqT (SqT.of ?_));rw [z01,l]
theorem dec_i0 (i j:Int):decide (V.int i=V.int j)=decide (i=j):=by simp
theorem zcv {q:Int->Bool} :∀(ns:List Int) (ys:List V),All2 (λ (i:Nat) y=>ns[i]?.map V.int=some y) ((K1 ns.length).filter λ i=>(ns[i]?.map q).getD false) ys->ys=(ns.filter q).map V.int
 | [],ys,h=>by cases h;rfl
 | n :: ns,ys,h=>by
  have un :∀{is:List Nat} {ys:List V},All2 (λ (i:Nat) y=>(n :: ns)[i]?.map V.int=some y) (is.map Nat.succ) ys->All2 (λ (i:Nat) y=>ns[i]?.map V.int=some y) is ys:=λ {is}=>by
   induction is with
   | nil=>intro ys h;cases h;exact .nil
   | cons i is ih=>intro ys h;cases h with|cons a r=>exact .cons a (ih r)
  rw [X0,List.range_succ_eq_map,R4,List.filter_map] at h;rw [R4];by_cases z:q n=true
  ·rw [if_pos (show (j54 q (n :: ns)[0]?).getD false=true from z)] at h;rw [if_pos z,J1];cases h with
   | cons a r=>rw [<-zcv ns _ (un r),<-P1 a]
  ·rw [if_neg (show ¬ (j54 q (n :: ns)[0]?).getD false=true from z)] at h;rw [if_neg z];exact zcv ns _ (un h)
def z2a (K:c0):Sp:=λ vs H Q _=>∃(t:Addr) (ns:List Int) (i:Int),vs=[.ref t,.int i]/\SqT K H t (ns.map V.int)/\ns.length < 63/\
 (i∈ns->∀p H',Same H H'->H' p=some (.tup [.ref t,.int 0])->Q (.ref p) H')/\(i∉ns->∀(p p':Addr) (ns':List Int) (H':Hp),Same H H'->H' p=some (.tup [.ref p',.int 1])->SqT K H' p' (ns'.map V.int)->ns'.Perm (ns++[i])->ns'.Pairwise (·<=·)->Q (.ref p) H')
theorem z7r (T:TX (kx w) mg):Fo P w mg base CX0 1 231 y0e ["state","worth"] (z2a (kx w)):=by
 refine (z2x w.params).ok z7w (λ q H Q E h=>?_) (λ K A I s H q Q E J h=>?_)
 ·obtain ⟨t,a,i,rfl,_⟩:=h;rfl
 ·obtain ⟨t,a,i,rfl,d,f,k,n⟩:=h;refine ⟨_,(z02 (ps_if (z0a z28 (pv 1) (pv 0) (by with_unfolding_all rfl))
   (z04 (ps_ret (pe_tup (z00 (pv 0) (z00 pe_int pa_nil)))))
   z0b)
   (z04 (ps_ret (pe_tup (z00 (z0z z0l rfl (T.no (z30 _)) S4 (z00 (z09 z4f rfl (T.no (z6p _)) j0f (z00 (pe_op op_catS (pv 0) (pe_tup (z00 (pv 1) pa_nil))) pa_nil)) pa_nil)) (z00 pe_int pa_nil)))))),?_⟩
  refine ⟨_,rfl,_,rfl,t,_,rfl,.inr d,rfl,z3v a,_,rfl,?_⟩;rw [if_neg S0,z5r];by_cases hi:i∈a
  ·rw [decide_eq_true hi];exact iteT ⟨_,rfl,w_2,λ p z=>k hi p _ (Same.upd z) z01⟩
  ·rw [decide_eq_false hi];refine iteF ⟨_,rfl,_,rfl,w_1,λ u v=>?_⟩;have g:=Same.upd (o:=.tup [.int i]) v;refine ⟨t,u,a.map V.int,[.int i],rfl,rfl,g.seqT d,SqT.of z01,by simp,?_,λ F G C e=>?_⟩
   ·rw [G0];exact F0 (Nat.succ_le_of_lt (A2 f)) (by decide)
   rw [show a.map V.int++[V.int i]=(a++[i]).map V.int by rw [u2];rfl] at e;refine ⟨F,a++[i],rfl,.inr e,by rw [K0];exact Nat.succ_lt_succ f,λ l c j B x=>?_⟩;have r:=Same.upd (o:=.lst (c.map V.int)) j;refine ⟨l,_,rfl,.inl ⟨SqL.of z01,λ y m=>⟨w_2,λ D b=>?_⟩⟩⟩;exact n hi D y c _ ((((g.trans C).trans r).trans (Same.upd m)).trans (Same.upd b)) z01 (SqT.of ((Same.upd b) _ _ z01)) B x
def z2c (K:c0):Sp:=λ vs H Q _=>∃(t:Addr) (ns:List Int) (i:Int),vs=[.ref t,.int i]/\SqT K H t (ns.map V.int)/\ns.length < 64/\
 (i∉ns->∀p H',Same H H'->H' p=some (.tup [.ref t,.int 0])->Q (.ref p) H')/\(i∈ns->∀p p' H',Same H H'->H' p=some (.tup [.ref p',.int 1])->SqT K H' p' ((ns.filter λ j=>!decide (j=i)).map V.int)->Q (.ref p) H')
theorem z7y (T:TX (kx w) mg):Fo P w mg base CX0 1 236 y0f ["state","worth"] (z2c (kx w)):=by
 refine (z2q w.params).ok z7v (λ C H Q E h=>?_) (λ Z A W s H C Q E Y h=>?_)
 ·obtain ⟨t,b,i,rfl,_⟩:=h;rfl
 ·obtain ⟨t,b,i,rfl,m,L,u,B⟩:=h;refine ⟨_,(z02 (ps_if (z0a z2u (pv 1) (pv 0) (by with_unfolding_all rfl))
   (z04 (ps_ret (pe_tup (z00 (pv 0) (z00 pe_int pa_nil)))))
   z0b)
   (z04 (ps_ret (pe_tup (z00 (z0z z0l rfl (T.no (z30 _)) S4 (z00 (pe_cg (xs:=["held"]) (g:=gName 0) (fr:=[(1,"worth")]) (pi_tup (pv 0)) (λ _ _ _ _ _=>(pg_cn (N:=["held","worth"]) 0)) (λ _ _ _ _ _=>(pf_one (z0a opNe (pv 0) (pv 1) (nomark _)))) (λ _ _ _ _ _=>(pv 0))) pa_nil)) (z00 pe_int pa_nil)))))),?_⟩
  refine ⟨_,rfl,_,rfl,t,_,rfl,.inr m,rfl,z3v b,_,rfl,?_⟩;rw [if_pos rfl,z5r];by_cases hi:i∈b
  ·rw [decide_eq_true hi];refine iteF ?_;have M:(b.map V.int).length<=sizeLine:=by rw [G0];exact F0 (J3 L) (by decide)
   refine t_next ?_;simp only [tRet,tTup,tCB,tCons,tNil];refine z26 (K:=KX w.params) (a:=t) (xs:=b.map V.int) (H1:=H) (λ j=>(b[j]?.map λ n=>!decide (n=i)).getD false) (λ j y _=>b[j]?.map V.int=some y) (λ _ _ _ _ _ z=>z) (λ R h=>⟨_,rfl,h⟩) m M (λ j X v I f q KT U k e=>?_) λ l I J f r d=>?_
   ·rw [W0] at q;obtain ⟨n,O,rfl⟩:=Option.map_eq_some_iff.mp q;rw [O] at k e;refine ⟨[some (.int n)],rfl,rfl,_,rfl,_,rfl,rfl,_,rfl,?_⟩;rw [dec_i0];exact ite2 (λ z=>⟨_,rfl,k z _ _ (Same.refl _) rfl⟩) λ z=>e (Bool.eq_false_iff.mpr z) _ (Same.refl _)
   ·rw [G0] at d;rw [zcv b J d];have D:=Same.upd (o:=.lst ((b.filter λ j=>!decide (j=i)).map V.int)) r;refine ⟨l,_,rfl,.inl ⟨SqL.of z01,λ F x=>⟨w_2,λ S c=>?_⟩⟩⟩;exact B hi S F _ (((f.trans D).trans (Same.upd x)).trans (Same.upd c)) z01 (SqT.of ((Same.upd c) _ _ z01))
  ·rw [decide_eq_false hi];exact iteT ⟨_,rfl,w_2,λ p G=>u hi p _ (Same.upd G) z01⟩
def z3p (K:c0):Sp:=λ vs H Q _=>∃(t:Addr) (ns:List Int) (i:Int),vs=[.ref t,.int i]/\SqT K H t (ns.map V.int)/\∀p H',Same H H'->H' p=some (.tup [.ref t,.int (if i∈ns then 1 else 0)])->Q (.ref p) H'
theorem zak (T:TX (kx w) mg):Fo P w mg base CX0 1 243 y0u ["state","worth"] (z3p (kx w)):=by
 refine (z49 w.params).ok zaj (λ d H Q E h=>?_) (λ f A g s H d Q E e h=>?_)
 ·obtain ⟨t,b,i,rfl,_⟩:=h;rfl
 ·obtain ⟨t,b,i,rfl,c,q⟩:=h;refine ⟨_,(z04 (ps_ret (pe_tup (z00 (pv 0) (z00 (zl6 (z0a z28 (pv 1) (pv 0) (by with_unfolding_all rfl)) pe_int pe_int) pa_nil))))),?_⟩;refine ⟨_,rfl,_,rfl,_,rfl,t,_,rfl,.inr c,rfl,z3v b,_,rfl,?_⟩;rw [if_neg S0,z5r];by_cases hi:i∈b
  ·rw [if_pos hi] at q;rw [decide_eq_true hi];exact iteT ⟨w_2,λ p a=>q p _ (Same.upd a) z01⟩
  ·rw [if_neg hi] at q;rw [decide_eq_false hi];exact iteF ⟨w_2,λ p a=>q p _ (Same.upd a) z01⟩
def doTb (K:c0) (f:Addr) (sp:Sp):Prop:=(f=196/\sp=z3b)\/(f=203/\sp=z2n)\/(f=210/\sp=z1s)\/(f=217/\sp=z3j K)\/(f=224/\sp=z3f K)\/(f=231/\sp=z2a K)\/(f=236/\sp=z2c K)\/(f=243/\sp=z3p K)\/(f=250/\sp=z3n K)
theorem cal_fn {x:Str} {ps:List Str} {k f:Nat} {sp:Sp} {K:c0} (c:Cal P w K mg base x ps k sp) (e:mg x=some (.ref f)) :∃fd ps,FnOk P w K mg base CX0 k f fd ps sp/\M3 K (.ref f)=true/\Binds K fd ps []:=by obtain ⟨h,fd,g,a,d,b⟩:=c.ex;rw [e] at a;cases a;exact ⟨fd,ps,g,d,b⟩
def sp_do (K:c0):Sp:=λ vs H Q _=>∃(k v:Str) (st x:V) (f:Addr) (sp:Sp) (Tx:String),vs=[.str k,st,.str v,x]/\TagOf H x Tx/\Flat H x/\deedB H (.str k) (.str v) x=true/\kl_DOERS.lookup (k,v)=some (.ref f)/\doTb K f sp/\∀H',Same H H'->sp [st,x] H' Q E0
theorem ok_do (T:TX (kx w) mg) (c0:Ca P w mg base "is_deed" ["kind","verb","worth"] 4 za9) (c1:Ca P w mg base "read_state" ["state","worth"] 1 z3b) (c2:Ca P w mg base "write_state" ["state","worth"] 1 z2n) (c3:Ca P w mg base "add_to_number" ["state","worth"] 1 z1s) (c4:Ca P w mg base "put_behind" ["state","worth"] 1 (z3j (kx w))) (c5:Ca P w mg base "take_first" ["state","worth"] 1 (z3f (kx w))) (c6:Ca P w mg base "put_into_set" ["state","worth"] 1 (z2a (kx w))) (c7:Ca P w mg base "cut_from_set" ["state","worth"] 1 (z2c (kx w))) (c8:Ca P w mg base "has_in_set" ["state","worth"] 1 (z3p (kx w))) (c9:Ca P w mg base "swap_state" ["state","worth"] 1 (z3n (kx w))):Fo P w mg base CX0 5 296 y2t ["kind","state","verb","worth"] (sp_do (kx w)):=by
 refine (F_do w.params).ok sc_do (λ n H Q E h=>?_) (λ D A I s H n Q E g h=>?_)
 ·obtain ⟨k,v,B,x,f,j,l,rfl,_⟩:=h;rfl
 ·obtain ⟨k,v,B,x,f,j,l,rfl,u,r,m,y,t,q⟩:=h;have G :∀f j,doTb (kx w) f j->∃k a b,Fo P w mg base CX0 k f a b j/\Room k (A.deeper (o4 "do" (z06 y2s) s.heap.objs.size 296 D))/\M3 (kx w) (.ref f)=true/\Binds (kx w) a b []:=λ f j z=>by
   rcases z with ⟨rfl,rfl⟩|⟨rfl,rfl⟩|⟨rfl,rfl⟩|⟨rfl,rfl⟩|⟨rfl,rfl⟩|⟨rfl,rfl⟩|⟨rfl,rfl⟩|⟨rfl,rfl⟩|⟨rfl,rfl⟩
   ·obtain ⟨a,b,e,d,c⟩:=cal_fn c1 (T.of (z77 _));exact ⟨1,a,b,e,g.mono (by decide),d,c⟩
   ·obtain ⟨a,b,e,d,c⟩:=cal_fn c2 (T.of (z61 _));exact ⟨1,a,b,e,g.mono (by decide),d,c⟩
   ·obtain ⟨a,b,e,d,c⟩:=cal_fn c3 (T.of (z46 _));exact ⟨1,a,b,e,g.mono (by decide),d,c⟩
   ·obtain ⟨a,b,e,d,c⟩:=cal_fn c4 (T.of (z7c _));exact ⟨1,a,b,e,g.mono (by decide),d,c⟩
   ·obtain ⟨a,b,e,d,c⟩:=cal_fn c5 (T.of (z6x _));exact ⟨1,a,b,e,g.mono (by decide),d,c⟩
   ·obtain ⟨a,b,e,d,c⟩:=cal_fn c6 (T.of (z54 _));exact ⟨1,a,b,e,g.mono (by decide),d,c⟩
   ·obtain ⟨a,b,e,d,c⟩:=cal_fn c7 (T.of (z4x _));exact ⟨1,a,b,e,g.mono (by decide),d,c⟩
   ·obtain ⟨a,b,e,d,c⟩:=cal_fn c8 (T.of (z73 _));exact ⟨1,a,b,e,g.mono (by decide),d,c⟩
   ·obtain ⟨a,b,e,d,c⟩:=cal_fn c9 (T.of (z79 _));exact ⟨1,a,b,e,g.mono (by decide),d,c⟩
  refine ⟨_,(z02 (ps_if (pt_not (pt_val (pe_cal c0 (g.mono (by decide)) rfl (z00 (pv 0) (z00 (pv 2) (z00 (pv 3) pa_nil)))) (λ _=>rfl)))
   (z04 z0k)
   z0b)
   (z02 (ps_set (i:=4) sc_do.nd rfl (C1 rfl) (pe_ix (ix_kdt (hu_of g) (zh2 _)) (z0m (v:=.ref 251) rfl (T.of (zjg _)) rfl) (pe_tup (z00 (pv 0) (z00 (pv 2) pa_nil))) (λ _ _=>rfl)))
   (z04 (ps_ret (zn7 (doTb (kx w)) (i:=4) rfl (by first|exact C1 rfl|exact B1 (C1 rfl)) G (z00 (pv 1) (z00 (pv 3) pa_nil))))))),?_⟩
  refine ⟨_,rfl,_,rfl,_,rfl,.str k,.str v,x,"str","str",l,rfl,rfl,rfl,u,r,λ F C=>⟨_,rfl,?_⟩⟩;rw [m];refine iteF ?_;refine ⟨_,rfl,_,rfl,w_2,λ p o=>⟨p,k,v,.ref f,rfl,rfl,z01,y,?_⟩⟩;exact ⟨f,j,rfl,t,_,rfl,_,rfl,q _ (C.trans (Same.upd o))⟩
def z56:Sp:=λ vs H Q _=>∃(k:Str) (v:V),vs=[.str k]/\kl_FIRST_STATES.lookup k=some v/\Q v H
theorem z8j (T:TX (kx w) mg) (c0:Ca P w mg base "is_kind" ["kind"] 1 z6h):Fo P w mg base CX0 2 277 y0l ["kind"] z56:=by
 refine (z39 w.params).ok z8o (λ c H Q E h=>?_) (λ d A f s H c Q E b h=>?_)
 ·obtain ⟨k,v,rfl,_⟩:=h;rfl
 ·obtain ⟨k,v,rfl,a,q⟩:=h;refine ⟨_,(z02 (ps_if (pt_not (pt_val (pe_cal c0 (b.mono (by decide)) rfl (z00 (pv 0) pa_nil)) (λ _=>rfl)))
   (z04 z0k)
   z0b)
   (z04 (ps_ret (pe_ix (ix_kd (z45 _)) (z0m (v:=.ref 186) rfl (T.of (z4t _)) rfl) (pv 0) (λ _ _=>rfl))))),?_⟩
  refine ⟨_,rfl,.str k,"str",rfl,rfl,_,rfl,?_⟩;have e:kindB (.str k)=true:=by unfold kindB;dsimp only;rw [a];rfl
  rw [e];exact iteF ⟨_,rfl,k,v,rfl,rfl,a,q⟩
inductive Ev
 | beg (h:Int) (n v x:V)
 | fin (h:Int) (a:V)
def EvAt (K:c0) (H:Hp):Ev->V->Prop
 | .beg h n v x,y=>∃p,y=.ref p/\SqT K H p [.str "begin",.int h,n,v,x]
 | .fin h a,y=>∃p,y=.ref p/\SqT K H p [.str "end",.int h,a]
structure Rc where
 h:Int
 n:V
 v:V
 x:V
 a:V
 b:Nat
 e:Option Nat
def endV:Option Nat->V
 | none=>.non
 | some i=>.int i
def RcAt (K:c0) (H:Hp) (r:Rc) (y:V):Prop:=∃p,y=.ref p/\SqT K H p [.int r.h,r.n,r.v,r.x,r.a,.int r.b,endV r.e]
def Tups (K:c0) (H H':Hp):Prop:=∀a xs,SqT K H a xs->SqT K H' a xs
theorem Tups.of {K:c0} {H H':Hp} (s:Same H H'):Tups K H H':=λ _ _ q=>s.seqT q
theorem Tups.trans {K:c0} {H H1 H2:Hp} (a:Tups K H H1) (b:Tups K H1 H2):Tups K H H2:=λ _ _ q=>b _ _ (a _ _ q)
theorem Tups.lst {K:c0} {H:Hp} {l:Addr} {o:HO} {zs:List V} (e:H l=some (.lst zs)):Tups K H (upd H l o):=λ _ _ q=>q.wrote e
theorem Tups.dict {K:c0} {H:Hp} {l:Addr} {o:HO} {kvs:List (Key×V)} (e:H l=some (.dK kvs)):Tups K H (upd H l o):=λ a b h=>by
 rcases h with (h|⟨ob,h⟩)|h
 ·exact .inl (.inl (by rw [upd_ne (ne_of h e (by intro z;cases z))];exact h))
 ·exact .inl (.inr ⟨ob,by rw [upd_ne (ne_of h e (by intro z;cases z))];exact h⟩)
 ·exact .inr h
theorem zn9 {n j:Nat} (h:j < n):ixN n (j:Nat)=some j:=by unfold ixN;rw [if_pos (by omega),if_pos (by omega)];rfl
theorem Same.keep {H H':Hp} {l:Addr} {o:HO} (s:Same H H') (n:H l=none):Same H (upd H' l o):=λ a x e=>by rw [upd_ne (z07 e n)];exact s a x e
theorem z2v {α β:Type} {R:α->β->Prop} {x:α} {y:β} :∀{xs:List α} {ys:List β},All2 R xs ys->R x y->All2 R (xs++[x]) (ys++[y])
 | _,_,.nil,h=>.cons h .nil
 | _,_,.cons a r,h=>.cons a (z2v r h)
theorem zl2 {κ:Type} [DecidableEq κ] {kvs:List (κ×V)} {k:κ} {v:V}:(putK kvs k v).length<=kvs.length + 1:=by
 unfold putK;by_cases z:(kvs.any λ a=>decide (a.1=k))=true
 ·rw [if_pos z,G0];omega
 ·rw [if_neg z,K0];exact B0 _
def lastI (h:Int) (hs:List Int):Option Nat:=(hs.foldl (λ (acc:Nat×Option Nat) k=>(acc.1 + 1,if k=h then some acc.1 else acc.2)) (0,none)).2
theorem lastF (h:Int) :∀hs:List Int,(hs.foldl (λ (acc:Nat×Option Nat) k=>(acc.1 + 1,if k=h then some acc.1 else acc.2)) (0,none)).1=hs.length:=by
 have b :∀(hs:List Int) (a:Nat×Option Nat),(hs.foldl (λ (acc:Nat×Option Nat) k=>(acc.1 + 1,if k=h then some acc.1 else acc.2)) a).1=a.1 + hs.length:=by
  intro hs;induction hs with
  | nil=>intro a;rfl
  | cons k hs ih=>intro a;rw [List.foldl_cons,ih,X0];show a.1 + 1 + hs.length=_;omega
 intro hs;rw [b hs (0,none)];simp
theorem z7i (h k:Int) (hs:List Int):lastI h (hs++[k])=if k=h then some hs.length else lastI h hs:=by unfold lastI;rw [j12];show (if k=h then some _ else _)=_;rw [lastF]
theorem zc8 {h:Int} {hs:List Int} {j:Nat} (e:lastI h hs=some j):j < hs.length:=by
 have c :∀(hs:List Int) (a:Nat×Option Nat),(∀j,a.2=some j->j < a.1)->∀j,(hs.foldl (λ (acc:Nat×Option Nat) k=>(acc.1 + 1,if k=h then some acc.1 else acc.2)) a).2=some j->j < a.1 + hs.length:=by
  intro hs;induction hs with
  | nil=>intro a b j e;exact b j e
  | cons k hs ih=>
   intro a b j e;rw [List.foldl_cons] at e;have:=ih (a.1 + 1,if k=h then some a.1 else a.2) (λ j e=>by
    dsimp only at e⊢;by_cases z:k=h
    ·rw [if_pos z] at e;cases e;omega
    ·rw [if_neg z] at e;have:=b j e;omega) j e
   rw [X0];dsimp only at this;omega
 have:=c hs (0,none) (λ j e=>by cases e) j e;simpa using this
def dstep (i:Nat) (rs:List Rc):Ev->List Rc
 | .beg h n v x=>rs++[⟨h,n,v,x,.non,i,none⟩]
 | .fin h a=>match lastI h (rs.map Rc.h) with|some j=>rs.modify j (λ r=>{ r with a:=a,e:=some i })|none=>rs
def dAll:Nat->List Rc->List Ev->List Rc
 | _,rs,[]=>rs
 | i,rs,e :: es=>dAll (i + 1) (dstep i rs e) es
def dWf:Nat->List Rc->List Ev->Prop
 | _,_,[]=>True
 | i,rs,e :: es=>(∀h a,e=.fin h a->(lastI h (rs.map Rc.h)).isSome=true)/\dWf (i + 1) (dstep i rs e) es
theorem RcAt.tups {K:c0} {H H':Hp} {r:Rc} {y:V} (t:Tups K H H') (h:RcAt K H r y):RcAt K H' r y:=h.elim λ p z=>⟨p,z.1,t _ _ z.2⟩
theorem EvAt.tups {K:c0} {H H':Hp} (t:Tups K H H') :∀{e:Ev} {y:V},EvAt K H e y->EvAt K H' e y
 | .beg h n v x,_,z=>z.elim λ p z=>⟨p,z.1,t _ _ z.2⟩
 | .fin h a,_,z=>z.elim λ p z=>⟨p,z.1,t _ _ z.2⟩
theorem z83 {α β:Type} {R:α->β->Prop} {f:α->α} {y:β} :∀{xs:List α} {ys:List β} {j:Nat} {x:α},All2 R xs ys->xs[j]? = some x->R (f x) y->All2 R (xs.modify j f) (ys.set j y)
 | _,_,_,_,.nil,e,_=>by simp at e
 | _,_,0,x,.cons a r,e,h=>by rw [Z2] at e;cases e;exact .cons h r
 | _,_,j + 1,x,.cons a r,e,h=>by rw [D2] at e;exact .cons a (z83 r e h)
theorem z34 {α β:Type} {R:α->β->Prop} :∀{xs:List α} {ys:List β} {i:Nat} {x:α},All2 R xs ys->xs[i]? = some x->∃y,ys[i]? = some y/\R x y
 | _,_,i,x,.nil,e=>by simp at e
 | _,_,0,x,.cons a _,e=>by rw [Z2] at e;cases e;exact ⟨_,Z2,a⟩
 | _,_,i + 1,x,.cons _ r,e=>by rw [D2] at e;obtain ⟨y,c,b⟩:=z34 r e;exact ⟨y,by rw [D2];exact c,b⟩
def zcc (K:c0):Sp:=λ vs H Q _=>∃(t te:Addr) (th:V) (ys:List V) (es:List Ev),vs=[.ref t]/\SqT K H t [th,.ref te]/\SqT K H te ys/\All2 (EvAt K H) es ys/\es.length<=100/\dWf 0 [] es/\
 ∀l zs H',Same H H'->H l=none->H' l=some (.lst zs)->All2 (RcAt K H') (dAll 0 [] es) zs->Q (.ref l) H'
theorem zlp (T:TX (kx w) mg):Fo P w mg base CX0 1 303 y2k ["tale"] (zcc (kx w)):=by
 refine (zfg w.params).ok sc_deeds (λ vs H Q E h=>?_) (λ c3 A c2 s H vs Q E hr h=>?_)
 ·obtain ⟨t,te,th,ys,C,rfl,_⟩:=h;rfl
 ·obtain ⟨t,te,th,ys,C,rfl,st,se,al,hl,wf,q⟩:=h;refine ⟨_,(z02 (ps_set (i:=1) sc_deeds.nd rfl (C1 rfl) (pe_lst pa_nil))
   (z02 (ps_set (i:=2) sc_deeds.nd rfl (C1 rfl) z8z)
   (z02 (ps_for S1 rfl (zkt rfl (T.no (z2f _)) (z00 (pe_ix ix_seq (pv 0) pe_int (λ _ _=>rfl)) pa_nil)) (pg_tup rfl (z0h (z0j (i:=3) sc_deeds.nd rfl (C1 rfl)) (z0h (z0j (i:=4) sc_deeds.nd rfl (C1 rfl)) z19)))
   (z04 (ps_if (z0a opEq (pe_ix ix_seq (pv 4) pe_int (λ _ _=>rfl)) pe_str (nomark _))
   (z02 (zfv (hu_of hr) (pv 2) (pe_ix ix_seq (pv 4) pe_int (λ _ _=>rfl)) (z09 z2m rfl (T.no (n_len _)) L5 (z00 (pv 1) pa_nil)) rfl)
   (z04 (z1a (z21 (pv 1) (z00 (pe_op opAdd (z1b slSeq (pv 4) (z1m pe_int) z2e) (pe_tup (z00 pe_non (z00 (pv 3) (z00 pe_non pa_nil))))) pa_nil)))))
   (z02 (ps_set (i:=5) sc_deeds.nd rfl (C1 rfl) (zb2 (hu_of hr) (pv 2) (pe_ix ix_seq (pv 4) pe_int (λ _ _=>rfl)) (λ _ _=>rfl)))
   (z02 (ps_set (i:=6) sc_deeds.nd rfl (C1 rfl) (pe_ix ix_seq (pv 1) (pv 5) (λ _ _=>rfl)))
   (z04 (ps_asg (pe_op opAdd (z1b slSeq (pv 6) z2e (z1m pe_int)) (pe_tup (z00 (pe_ix ix_seq (pv 4) pe_int (λ _ _=>rfl)) (z00 (pe_ix ix_seq (pv 6) pe_int (λ _ _=>rfl)) (z00 (pv 3) pa_nil))))) (pg_sub (pv 1) (pv 5) z8n))))))))
   (z04 (ps_ret (pv 1)))))),?_⟩
  refine ⟨w_0,λ l Z=>?_⟩;intro d a0;have N:l≠d:=z07 z01 a0;have s0:upd H l (.lst []) d=none->H d=none:=λ z=>by rwa [upd_ne N.symm] at z
  have s2:Same H (upd (upd H l (.lst [])) d (.dK [])):=(Same.upd Z).trans (Same.upd a0);have e1:upd (upd H l (.lst [])) d (.dK []) l=some (.lst []):=by rw [upd_ne N];exact z01
  have e2:upd (upd H l (.lst [])) d (.dK []) d=some (.dK []):=z01;generalize upd (upd H l (.lst [])) d (.dK [])=H2 at s2 e1 e2⊢;have c0:=z05 al;refine ⟨_,rfl,.inr (.inl ⟨t,_,1,.ref te,rfl,rfl,s2.seqT st,z0c (j:=1) rfl,te,ys,rfl,s2.seqT se,?_⟩)⟩;refine zio (K:=KX w.params) (a:=te) (xs:=ys) (λ i σ U=>∃c f g,U l=some (.lst f)/\All2 (RcAt (kx w) U) c f/\U d=some (.dK g)/\g.length<=i/\c.length<=i/\(∀h,valV g (.inl h)=(lastI h (c.map Rc.h)).map λ j=>V.int (j:Nat))/\dAll i c (C.drop i)=dAll 0 [] C/\dWf i c (C.drop i)/\Same H U/\∃x3 x4 x5 x6,σ=[some (.ref t),some (.ref l),some (.ref d),x3,x4,x5,x6])
   ⟨[],[],[],e1,.nil,e2,B0 _,B0 _,λ h=>rfl,by rw [N7],by rw [N7];exact wf,s2,_,_,_,_,rfl⟩ (λ i σ U h=>?_) ?_ ?_
  ·obtain ⟨c,f,g,_,_,_,_,_,_,_,_,s',_⟩:=h;exact s'.seqT se
  ·rintro i y σ H3 p hy ⟨c,f,g,el,ar,ed,hk,hr',hv,D,dw,s3,x3,x4,x5,x6,rfl⟩ hp;obtain ⟨e,he,ev⟩:=z0i al hy;obtain ⟨hi,ee⟩:=List.getElem?_eq_some_iff.mp he;have dr:C.drop i=e :: C.drop (i + 1):=by rw [List.drop_eq_getElem_cons hi,ee]
   rw [dr] at D dw;have s4:=s3.trans (Same.upd (o:=.tup [.int i,y]) hp);have Y:=(Same.upd (o:=.tup [.int i,y]) hp) _ _ el;have S:=(Same.upd (o:=.tup [.int i,y]) hp) _ _ ed;have L:=z03 (λ a b z=>RcAt.tups (.of (Same.upd (o:=.tup [.int i,y]) hp)) z) ar;have a7:upd H3 p (.tup [.int i,y]) p=some (.tup [.int i,y]):=z01;generalize upd H3 p (.tup [.int i,y])=H4 at s4 Y S L a7⊢;have a5:=EvAt.tups (.of s4) ev;refine ⟨p,_,rfl,SqT.of a7,rfl,.int i,_,rfl,y,_,rfl,rfl,?_⟩;have lz:f.length=c.length:=z05 L;have b3:100<=sizeLine:=by decide
   have b0:i < 100:=G1 hi hl;cases e with
   | beg h n v x=>
    obtain ⟨I,rfl,J⟩:=a5;refine ⟨_,rfl,.inr (.inl ⟨I,_,0,.str "begin",rfl,rfl,J,z0c (j:=0) rfl,rfl,_,rfl,iteP (decide_eq_true rfl) ?_⟩)⟩;refine ⟨_,rfl,.inl ⟨l,f,rfl,.inl (SqL.of Y),⟨_,rfl,⟨_,rfl,.inr (.inl ⟨I,_,1,.int h,rfl,rfl,J,z0c (j:=1) rfl,d,_,rfl,DPut.k (k:=.inl h) S (T1 hk (G1 b0 b3)),?_⟩)⟩⟩⟩⟩;have b7:H d=none:=s0 a0;have t5:Tups (kx w) H4 (upd H4 d (.dK (putK g (.inl h) (.int (f.length:Nat))))):=Tups.dict S;have s5:=Same.keep (o:=.dK (putK g (.inl h) (.int (f.length:Nat)))) s4 b7;have a2:upd H4 d (.dK (putK g (.inl h) (.int (f.length:Nat)))) l=some (.lst f):=by rw [upd_ne N];exact Y
    have b1:upd H4 d (.dK (putK g (.inl h) (.int (f.length:Nat)))) d=some (.dK (putK g (.inl h) (.int (f.length:Nat)))):=z01;generalize upd H4 d (.dK (putK g (.inl h) (.int (f.length:Nat))))=H5 at t5 s5 a2 b1⊢;have b6:=t5 _ _ J;have b9:=z03 (λ a b z=>RcAt.tups t5 z) L;refine ⟨_,rfl,.inl ⟨rfl,f,SqL.of a2⟩,⟨_,rfl,1,rfl,.inr (.inl ⟨I,_,rfl,b6,λ z=>absurd z.1 (show ¬ HT.sIx 5 0 (some 1)=0 by decide),λ F O=>?_⟩)⟩⟩;have c1:cutV [V.str "begin",.int h,n,v,x] (some 1) none=[.int h,n,v,x]:=rfl;rw [c1];refine ⟨_,rfl,w_3,λ G X=>.inr (.inr (.inr ⟨F,G,_,_,rfl,rfl,(Same.upd X).seqT (SqT.of z01),SqT.of z01,by simp,w_7,λ z=>(by cases z),λ _ u a3=>?_⟩))⟩;have B:Same H5 (upd (upd (upd H5 F (.tup [.int h,n,v,x])) G (.tup [.non,.int i,.non])) u (.tup ([.int h,n,v,x]++[.non,.int i,.non]))):=((Same.upd O).trans (Same.upd X)).trans (Same.upd a3);have R:upd (upd (upd H5 F (.tup [.int h,n,v,x])) G (.tup [.non,.int i,.non])) u (.tup ([.int h,n,v,x]++[.non,.int i,.non])) u=some (.tup ([.int h,n,v,x]++[.non,.int i,.non])):=z01;generalize upd (upd (upd H5 F (.tup [.int h,n,v,x])) G (.tup [.non,.int i,.non])) u (.tup ([.int h,n,v,x]++[.non,.int i,.non]))=H6 at B R⊢;have W:=B _ _ a2;have a4:=B _ _ b1;have a1:=z03 (λ a b z=>RcAt.tups (.of B) z) b9;have M:Tups (kx w) H6 (upd H6 l (.lst (f++[.ref u]))):=Tups.lst W;refine ⟨l,f,_,rfl,rfl,W,T1 (F0 (V5 lz) hr') (G1 b0 b3),?_⟩;refine ⟨c++[⟨h,n,v,x,.non,i,none⟩],f++[.ref u],putK g (.inl h) (.int (f.length:Nat)),z01,?_,?_,?_,?_,?_,(show dAll (i + 1) (dstep i c (.beg h n v x)) _=_ from D),dw.2,Same.keep (s5.trans B) Z,_,_,_,_,rfl⟩
    ·exact z2v (z03 (λ a b z=>RcAt.tups M z) a1) ⟨u,rfl,M _ _ (SqT.of R)⟩
    ·rw [upd_ne N.symm];exact a4
    ·exact F0 zl2 (by omega)
    ·rw [K0];show c.length + 1<=i + 1;omega
    ·intro k;rw [z5m,u2];show _=j54 _ (lastI k (c.map Rc.h++[h]));rw [z7i,hv k,G0,lz];by_cases z:h=k
     ·rw [if_pos z,if_pos (by rw [z])];rfl
     ·rw [if_neg z,if_neg (λ y=>z (j10 y).symm)]
   | fin h a=>
    obtain ⟨I,rfl,J⟩:=a5;obtain ⟨j,hj⟩:=Option.isSome_iff_exists.mp (dw.1 h a rfl);have b5:valV g (.inl h)=some (.int (j:Nat)):=by rw [hv h,hj];rfl
    have a6:j < c.length:=by have:=zc8 hj;rwa [G0] at this
    have a9:c[j]? = some c[j]:=N0 a6;obtain ⟨yj,b4,pj,rfl,sj⟩:=z34 L a9;have b8:DGet H4 d (.int h) (some (.int (j:Nat))):=b5 ▸ DGet.k (k:=.inl h) S;refine ⟨_,rfl,.inr (.inl ⟨I,_,0,.str "end",rfl,rfl,J,z0c (j:=0) rfl,rfl,_,rfl,iteK ?_⟩)⟩;refine ⟨_,rfl,⟨_,rfl,.inr (.inl ⟨I,_,1,.int h,rfl,rfl,J,z0c (j:=1) rfl,d,_,rfl,b8,?_⟩)⟩⟩;refine ⟨_,rfl,_,rfl,.inl ⟨l,f,j,.ref pj,rfl,rfl,SqL.of Y,z0c b4,?_⟩⟩;refine ⟨_,rfl,4,rfl,.inr (.inl ⟨pj,_,rfl,sj,λ z=>absurd z.2 (show ¬ HT.sIx 7 7 (some 4)=7 by decide),λ F O=>?_⟩)⟩;have c1:cutV [.int c[j].h,c[j].n,c[j].v,c[j].x,c[j].a,.int c[j].b,endV c[j].e] none (some 4)=[.int c[j].h,c[j].n,c[j].v,c[j].x]:=rfl;rw [c1];refine ⟨_,rfl,.inr (.inl ⟨I,_,2,a,rfl,rfl,(Same.upd O).seqT J,z0c (j:=2) rfl,?_⟩)⟩;refine ⟨_,rfl,.inr (.inl ⟨pj,_,5,.int c[j].b,rfl,rfl,(Same.upd O).seqT sj,z0c (j:=5) rfl,?_⟩)⟩;refine ⟨_,rfl,w_3,λ G X=>.inr (.inr (.inr ⟨F,G,_,_,rfl,rfl,(Same.upd X).seqT (SqT.of z01),SqT.of z01,by simp,w_7,λ z=>(by cases z),λ _ u a3=>?_⟩))⟩;have B:Same H4 _:=((Same.upd O).trans (Same.upd X)).trans (Same.upd (o:=.tup ([.int c[j].h,c[j].n,c[j].v,c[j].x]++[a,.int c[j].b,.int (i:Nat)])) a3);have R:upd (upd (upd H4 F (.tup [.int c[j].h,c[j].n,c[j].v,c[j].x])) G (.tup [a,.int c[j].b,.int (i:Nat)])) u (.tup ([.int c[j].h,c[j].n,c[j].v,c[j].x]++[a,.int c[j].b,.int (i:Nat)])) u=some (.tup ([.int c[j].h,c[j].n,c[j].v,c[j].x]++[a,.int c[j].b,.int (i:Nat)])):=z01;generalize upd (upd (upd H4 F (.tup [.int c[j].h,c[j].n,c[j].v,c[j].x])) G (.tup [a,.int c[j].b,.int (i:Nat)])) u (.tup ([.int c[j].h,c[j].n,c[j].v,c[j].x]++[a,.int c[j].b,.int (i:Nat)]))=H6 at B R⊢;have W:=B _ _ Y;have a4:=B _ _ S;have a1:=z03 (λ a b z=>RcAt.tups (.of B) z) L;have M:Tups (kx w) H6 (upd H6 l (.lst (f.set j (.ref u)))):=Tups.lst W;refine ⟨_,rfl,_,rfl,l,f,j,j,rfl,rfl,W,zn9 (show j < f.length by rw [lz];exact a6),?_⟩;have dd:dstep i c (.fin h a)=c.modify j (λ r=>{ r with a:=a,e:=some i }):=by unfold dstep;dsimp only;rw [hj]
    have b2:dAll (i + 1) (dstep i c (.fin h a)) (List.drop (i + 1) C)=_:=D;have a8:=dw.2;rw [dd] at b2 a8;have mh:(c.modify j (λ r=>{ r with a:=a,e:=some i })).map Rc.h=c.map Rc.h:=by
     apply c8;intro m;rw [W0,W0,D9];cases c[m]? with
     | none=>rfl
     | some r=>
      show some (if j=m then _ else r).h=some r.h;by_cases z:j=m
      ·rw [if_pos z]
      ·rw [if_neg z]
    refine ⟨_,f.set j (.ref u),g,z01,?_,?_,?_,?_,?_,b2,a8,Same.keep (s4.trans B) Z,_,_,_,_,rfl⟩
    ·exact z83 (z03 (λ a b z=>RcAt.tups M z) a1) a9 ⟨u,rfl,M _ _ (SqT.of R)⟩
    ·rw [upd_ne N.symm];exact a4
    ·omega
    ·rw [j07];omega
    ·intro k;rw [mh];exact hv k
  ·rintro σ H3 ⟨c,f,g,el,ar,ed,hk,hr',hv,D,dw,s3,x3,x4,x5,x6,rfl⟩;have:C.drop ys.length=[]:=by rw [c0];exact List.drop_length
   rw [this] at D;have D:c=dAll 0 [] C:=D;rw [<-D] at q;exact ⟨_,rfl,q l f H3 s3 Z el ar⟩
def z0x:Nat->Str
 | 0=>"strict"
 | 1=>"hands"
 | _=>"bare"
def ltO:Option Nat->Nat->Bool
 | some a,b=>decide (a < b)
 | none,_=>false
def aheadB:Nat->Rc->Rc->Bool
 | 0,r,q=>ltO r.e q.b
 | 1,r,q=>decide (r.h=q.h) && decide (r.b < q.b)
 | _,_,_=>false
theorem dec_lt (a b:Nat):decide ((a:Int) < (b:Int))=decide (a < b):=decide_eq_decide.mpr (by omega)
def z5w (K:c0):Sp:=λ vs H Q _=>∃(x y:V) (r q:Rc) (m:Nat),vs=[x,y,.str (z0x m)]/\RcAt K H r x/\RcAt K H q y/\Q (.bl (aheadB m r q)) H
theorem za5 (T:TX (kx w) mg):Fo P w mg base CX0 1 325 y0w ["one","other","strictness"] (z5w (kx w)):=by
 refine (z4m w.params).ok z9r (λ g H Q E h=>?_) (λ l A i s H g Q E k h=>?_)
 ·obtain ⟨x,y,r,q,m,rfl,_⟩:=h;rfl
 ·obtain ⟨x,y,r,q,m,rfl,⟨c,rfl,a⟩,⟨d,rfl,f⟩,h⟩:=h;refine ⟨_,(z02 (ps_if (z0a opEq (pv 2) pe_str (nomark _))
   (z04 (ps_ret (pe_and (z31 zdc (pe_ix ix_seq (pv 0) pe_int (λ _ _=>rfl)) pe_non (nomark _)) (pe_one (z31 op_lt (pe_ix ix_seq (pv 0) pe_int (λ _ _=>rfl)) (pe_ix ix_seq (pv 1) pe_int (λ _ _=>rfl)) (nomark _))))))
   z0b)
   (z02 (ps_if (z0a opEq (pv 2) pe_str (nomark _))
   (z04 (ps_ret (pe_and (z31 opEq (pe_ix ix_seq (pv 0) pe_int (λ _ _=>rfl)) (pe_ix ix_seq (pv 1) pe_int (λ _ _=>rfl)) (nomark _)) (pe_one (z31 op_lt (pe_ix ix_seq (pv 0) pe_int (λ _ _=>rfl)) (pe_ix ix_seq (pv 1) pe_int (λ _ _=>rfl)) (nomark _))))))
   z0b)
   (z04 (ps_ret pe_bl)))),?_⟩
  match m,h with
  | 0,h=>
   refine ⟨_,rfl,rfl,_,rfl,iteP (decide_eq_true rfl) ?_⟩;refine ⟨_,rfl,.inr (.inl ⟨c,_,6,endV r.e,rfl,rfl,a,z0c (j:=6) rfl,rfl,_,rfl,?_⟩)⟩;cases re:r.e with
   | none=>
    refine iteN (by show ¬ (!decide (V.non=V.non))=true;decide) ?_;have:aheadB 0 r q=false:=by show ltO r.e q.b=_;rw [re];rfl
    rw [this] at h;exact h
   | some b=>
    refine iteP rfl ?_;refine ⟨_,rfl,.inr (.inl ⟨c,_,6,.int (b:Nat),rfl,rfl,a,z0c (j:=6) (by rw [re];rfl),?_⟩)⟩;refine ⟨_,rfl,.inr (.inl ⟨d,_,5,.int (q.b:Nat),rfl,rfl,f,z0c (j:=5) rfl,b,q.b,rfl,rfl,?_⟩)⟩;have:aheadB 0 r q=decide (b < q.b):=by show ltO r.e q.b=_;rw [re];rfl
    rw [this,<-dec_lt] at h;exact h
  | 1,h=>
   refine ⟨_,rfl,rfl,_,rfl,iteK ?_⟩;refine ⟨_,rfl,rfl,_,rfl,iteP (decide_eq_true rfl) ?_⟩;refine ⟨_,rfl,.inr (.inl ⟨c,_,0,.int r.h,rfl,rfl,a,z0c (j:=0) rfl,?_⟩)⟩;refine ⟨_,rfl,.inr (.inl ⟨d,_,0,.int q.h,rfl,rfl,f,z0c (j:=0) rfl,rfl,_,rfl,?_⟩)⟩;by_cases z:r.h=q.h
   ·refine iteP (decide_eq_true (by rw [z])) ?_;refine ⟨_,rfl,.inr (.inl ⟨c,_,5,.int (r.b:Nat),rfl,rfl,a,z0c (j:=5) rfl,?_⟩)⟩;refine ⟨_,rfl,.inr (.inl ⟨d,_,5,.int (q.b:Nat),rfl,rfl,f,z0c (j:=5) rfl,r.b,q.b,rfl,rfl,?_⟩)⟩;have:aheadB 1 r q=decide (r.b < q.b):=by show (decide (r.h=q.h) && _)=_;rw [decide_eq_true z];rfl
    rw [this,<-dec_lt] at h;exact h
   ·refine iteN (λ e=>z (V.int.inj (of_decide_eq_true e))) ?_;have:aheadB 1 r q=false:=by show (decide (r.h=q.h) && _)=_;rw [decide_eq_false z];rfl
    rw [this] at h;exact h
  | m + 2,h=>refine ⟨_,rfl,rfl,_,rfl,iteN (show ¬ decide (V.str "bare" = V.str "strict")=true by decide +kernel) ?_⟩;refine ⟨_,rfl,rfl,_,rfl,iteN (show ¬ decide (V.str "bare" = V.str "hands")=true by decide +kernel) ?_⟩;exact h
def z25:Sp:=λ vs H Q _=>∃(m:Nat),vs=[.str (z0x m)]/\Q .non H
theorem zcu {H:Hp}:SqT (kx w) H 304 [.str "strict",.str "hands",.str "bare"]:=
 .inr ⟨⟨(.type "tuple"),none,(.seq #[(.str "strict" 641),(.str "hands" 642),(.str "bare" 643)] 0),#[]⟩,#[(.str "strict" 641),(.str "hands" 642),(.str "bare" 643)],0,by kernel_rfl,rfl,rfl,w_3,.cons ⟨_,rfl⟩ (.cons ⟨_,rfl⟩ (.cons ⟨_,rfl⟩ .nil))⟩
theorem z4w (T:TX (kx w) mg):Fo P w mg base CX0 1 318 y05 ["strictness"] z25:=by
 refine (z0n w.params).ok z20 (λ a H Q E h=>?_) (λ c A d s H a Q E b h=>?_)
 ·obtain ⟨m,rfl,_⟩:=h;rfl
 ·obtain ⟨m,rfl,h⟩:=h;refine ⟨_,(z04 (ps_if (PW.pt (pw_or (pt_not (pt_val (z09 z0t rfl (T.no (z0g _)) X1 (z00 (pv 0) (z00 (z37 (v:=.ty "str") rfl (T.no (n_str _)) boot_str rfl) pa_nil))) (λ _=>rfl))) (pw_or1 (z0a z2u (pv 0) (z0m (v:=.ref 304) rfl (T.of (z53 _)) rfl) (by with_unfolding_all rfl)))))
   (z04 z0k)
   z0b)),?_⟩
  refine ⟨_,rfl,_,_,"str",rfl,rfl,by decide +kernel,_,rfl,iteN (by decide) ?_⟩;refine ⟨_,rfl,304,_,rfl,.inr zcu,rfl,rfl,_,rfl,iteN ?_ h⟩
  match m with
  | 0=>decide +kernel
  | 1=>decide +kernel
  | m + 2=>exact (by decide +kernel:¬ (if true=true then !inV (.str "bare") [V.str "strict",.str "hands",.str "bare"] else inV (.str "bare") [V.str "strict",.str "hands",.str "bare"])=true)
def z1z (m:Nat) (rs:List Rc) (a b:Nat):Bool:=match rs[a]?,rs[b]? with|some r,some q=>aheadB m r q|_,_=>false
def rowTo (m:Nat) (rs:List Rc) (a j:Nat):List (Nat×Nat):=((K1 j).filter λ b=>z1z m rs a b).map λ b=>(a,b)
def z35 (m:Nat) (rs:List Rc) (i:Nat):List (Nat×Nat):=(K1 i).flatMap λ a=>rowTo m rs a rs.length
theorem zav {m:Nat} {rs:List Rc} {a j:Nat}:rowTo m rs a (j + 1)=rowTo m rs a j++if z1z m rs a j then [(a,j)] else []:=by
 unfold rowTo;rw [c9,M7,u2];by_cases z:z1z m rs a j=true
 ·rw [if_pos z];simp [z]
 ·rw [if_neg z];simp [z]
theorem z6z {m:Nat} {rs:List Rc} {i:Nat}:z35 m rs (i + 1)=z35 m rs i++rowTo m rs i rs.length:=by unfold z35;rw [c9,List.flatMap_append];simp
theorem zcn {m:Nat} {rs:List Rc} {a j:Nat}:(rowTo m rs a j).length<=j:=by unfold rowTo;rw [G0];exact F0 (V2 _ _) (by rw [j2];exact B0 _)
theorem z5c {m:Nat} {rs:List Rc} :∀i:Nat,(z35 m rs i).length<=i * rs.length
 | 0=>by simp [z35]
 | i + 1=>by rw [z6z,K0,Nat.add_mul,Nat.one_mul];exact Nat.add_le_add (z5c i) zcn
theorem zi6 {i:Nat} {rs:List Rc} {e:Ev}:(dstep i rs e).length<=rs.length + 1:=by
 cases e with
 | beg h n v x=>show (rs++[_]).length<=_;rw [K0];exact B0 _
 | fin h a=>
  unfold dstep;dsimp only;cases lastI h (rs.map Rc.h) with
  | none=>exact T3 _
  | some j=>show (rs.modify j _).length<=_;rw [j07];exact T3 _
theorem zbf :∀{i:Nat} {rs:List Rc} (es:List Ev),(dAll i rs es).length<=rs.length + es.length
 | _,_,[]=>B0 _
 | i,rs,e :: es=>by show (dAll (i + 1) (dstep i rs e) es).length<=_;have:=zbf (i:=i + 1) (rs:=dstep i rs e) es;have:=zi6 (i:=i) (rs:=rs) (e:=e);rw [X0];omega
def PairAt (H:Hp) (p:Nat×Nat) (y:V):Prop:=∃a,y=.ref a/\H a=some (.tup [.int p.1,.int p.2])
theorem PairAt.same {H H':Hp} {p:Nat×Nat} {y:V} (s:Same H H') (h:PairAt H p y):PairAt H' p y:=h.elim λ a z=>⟨a,z.1,s _ _ z.2⟩
theorem PairAt.wrote {H:Hp} {l:Addr} {zs ws:List V} {p:Nat×Nat} {y:V} (e:H l=some (.lst zs)) (h:PairAt H p y):PairAt (upd H l (.lst ws)) p y:=h.elim λ a z=>⟨a,z.1,by rw [upd_ne (ne_of z.2 e (by intro z;cases z))];exact z.2⟩
def zd1 (K:c0):Sp:=λ vs H Q _=>∃(t te:Addr) (th:V) (ys:List V) (es:List Ev) (m:Nat),vs=[.ref t,.str (z0x m)]/\SqT K H t [th,.ref te]/\SqT K H te ys/\All2 (EvAt K H) es ys/\es.length<=100/\dWf 0 [] es/\
 ∀l zs H',Same H H'->H l=none->H' l=some (.lst zs)->All2 (PairAt H') (z35 m (dAll 0 [] es) (dAll 0 [] es).length) zs->Q (.ref l) H'
theorem zi4 (T:TX (kx w) mg) (c0:Ca P w mg base "deeds" ["tale"] 1 (zcc (kx w))) (c1:Ca P w mg base "check_strictness" ["strictness"] 1 z25) (c2:Ca P w mg base "goes_ahead" ["one","other","strictness"] 1 (z5w (kx w))):Fo P w mg base CX0 2 311 y1g ["tale","strictness"] (zd1 (kx w)):=by
 refine (z7a w.params).ok sc_has_to (λ vs H Q E h=>?_) (λ b8 A b2 s H vs Q E N h=>?_)
 ·obtain ⟨t,te,th,ys,B,m,rfl,_⟩:=h;rfl
 ·obtain ⟨t,te,th,ys,B,m,rfl,st,se,al,hl,wf,q⟩:=h;refine ⟨_,(z02 (z1a (pe_cal c1 (N.mono (by decide)) rfl (z00 (pv 1) pa_nil)))
   (z02 (ps_set (i:=2) sc_has_to.nd rfl (C1 rfl) (pe_cal c0 (N.mono (by decide)) rfl (z00 (pv 0) pa_nil)))
   (z02 (ps_set (i:=3) sc_has_to.nd rfl (C1 rfl) (pe_lst pa_nil))
   (z02 (ps_for S1 rfl (z8w rfl (T.no (z2f _)) (z00 (pv 2) pa_nil)) (pg_tup rfl (z0h (z0j (i:=4) sc_has_to.nd rfl (C1 rfl)) (z0h (z0j (i:=5) sc_has_to.nd rfl (C1 rfl)) z19)))
   (z04 (ps_for S1 rfl (z8w rfl (T.no (z2f _)) (z00 (pv 2) pa_nil)) (pg_tup rfl (z0h (z0j (i:=6) sc_has_to.nd rfl (C1 rfl)) (z0h (z0j (i:=7) sc_has_to.nd rfl (C1 rfl)) z19)))
   (z04 (ps_if (pt_val (pe_cal c2 (N.mono (by decide)) rfl (z00 (pv 5) (z00 (pv 7) (z00 (pv 1) pa_nil)))) (λ _=>rfl))
   (z04 (z1a (z21 (pv 3) (z00 (pe_tup (z00 (pv 4) (z00 (pv 6) pa_nil))) pa_nil))))
   z0b)))))
   (z04 (ps_ret (pv 3))))))),?_⟩
  refine ⟨_,rfl,m,rfl,?_⟩;refine ⟨_,rfl,t,te,th,ys,B,rfl,st,se,al,hl,wf,λ l g D s1 b1 Z O=>?_⟩;generalize hrs:dAll 0 [] B=rs at O q;have hn:rs.length<=100:=by rw [<-hrs];have:=zbf (i:=0) (rs:=[]) B;simpa using F0 this (by simpa using hl)
  have r:g.length=rs.length:=z05 O;refine ⟨w_0,λ c u=>?_⟩;have V:H c=none:=s1.free u;have nl:l≠c:=z07 Z u;have X:Same H (upd D c (.lst [])):=s1.trans (Same.upd u);have R:upd D c (.lst []) l=some (.lst g):=(Same.upd u) _ _ Z;have S:=z03 (λ a b z=>RcAt.tups (.of (Same.upd (o:=.lst []) u)) z) O;have a1:upd D c (.lst []) c=some (.lst []):=z01;generalize upd D c (.lst [])=H2 at X R S a1⊢;refine ⟨_,rfl,l,g,rfl,SqL.of R,?_⟩;refine z8r (K:=KX w.params) (a:=l) (xs:=g) (λ i σ d=>∃f,d l=some (.lst g)/\All2 (RcAt (kx w) d) rs g/\d c=some (.lst f)/\All2 (PairAt d) (z35 m rs i) f/\Same H d/\∃x4 x5 x6 x7,σ=[some (.ref t),some (.str (z0x m)),some (.ref l),some (.ref c),x4,x5,x6,x7])
   ⟨[],R,S,a1,.nil,X,_,_,_,_,rfl⟩ (λ i σ d h=>?_) ?_ ?_
  ·obtain ⟨f,e,_⟩:=h;exact SqL.of e
  ·rintro i x σ H3 p hx ⟨f,e3,a3,f3,b3,s3,x4,x5,x6,x7,rfl⟩ hp;obtain ⟨H4,L,n,ep⟩:=newA (.tup [.int i,x]) hp;rw [<-L];have e4:=n _ _ e3;have f4:=n _ _ f3;have a4:=z03 (λ a b z=>RcAt.tups (.of n) z) a3;have b4:=z03 (λ a b z=>PairAt.same n z) b3;have s4:=s3.trans n;refine ⟨p,_,rfl,SqT.of ep,rfl,.int i,_,rfl,x,_,rfl,rfl,?_⟩;have a2:i < rs.length:=by rw [<-r];exact (List.getElem?_eq_some_iff.mp hx).1
   have pl:=z5c (m:=m) (rs:=rs) i;have pm:i * rs.length<=10000:=R9 (F0 (J3 a2) hn) hn;refine ⟨_,rfl,l,g,rfl,SqL.of e4,?_⟩;refine z8r (K:=KX w.params) (a:=l) (xs:=g) (λ j σ d=>∃f,d l=some (.lst g)/\All2 (RcAt (kx w) d) rs g/\d c=some (.lst f)/\All2 (PairAt d) (z35 m rs i++rowTo m rs i j) f/\Same H d/\∃x6 x7,σ=[some (.ref t),some (.str (z0x m)),some (.ref l),some (.ref c),some (.int (i:Nat)),some x,x6,x7])
    ⟨f,e4,a4,f4,by rw [show rowTo m rs i 0=[] from rfl,N2];exact b4,s4,_,_,rfl⟩ (λ j σ d h=>?_) ?_ ?_
   ·obtain ⟨f,e,_⟩:=h;exact SqL.of e
   ·rintro j y σ I F hy ⟨zs3,e5,a5,f5,b5,s5,x6,x7,rfl⟩ hp';have k:=Same.upd (o:=.tup [.int j,y]) hp';have a0:upd I F (.tup [.int j,y]) F=some (.tup [.int j,y]):=z01;generalize upd I F (.tup [.int j,y])=H6 at k a0⊢;have e6:=k _ _ e5;have J:=k _ _ f5;have C:=z03 (λ a b z=>RcAt.tups (.of k) z) a5;have M:=z03 (λ a b z=>PairAt.same k z) b5;have s6:=s5.trans k;refine ⟨F,_,rfl,SqT.of a0,rfl,.int j,_,rfl,y,_,rfl,rfl,?_⟩;obtain ⟨Y,a8,a7⟩:=z0i C hx;obtain ⟨U,W,a9⟩:=z0i C hy;have b7:j < rs.length:=(List.getElem?_eq_some_iff.mp W).1;have ah:z1z m rs i j=aheadB m Y U:=by unfold z1z;rw [a8,W]
    refine ⟨_,rfl,_,rfl,_,rfl,x,y,Y,U,m,rfl,a7,a9,_,rfl,?_⟩;rw [<-ah];have rl:=zcn (m:=m) (rs:=rs) (a:=i) (j:=j);have zl:zs3.length=(z35 m rs i++rowTo m rs i j).length:=z05 M;rw [K0] at zl;by_cases z:z1z m rs i j=true
    ·refine iteP z ?_;refine ⟨_,rfl,.inl ⟨rfl,zs3,SqL.of J⟩,_,rfl,_,rfl,w_2,λ p2 b0=>?_⟩;obtain ⟨H7,L,v,e7⟩:=newA (.tup [.int (i:Nat),.int (j:Nat)]) b0;rw [<-L];have G:=v _ _ J;refine ⟨c,zs3,_,rfl,rfl,G,T1 (m:=20000) (by omega) (by decide),?_⟩;refine ⟨zs3++[.ref p2],?_,?_,z01,?_,Same.keep (s6.trans v) V,_,_,rfl⟩
     ·rw [upd_ne nl];exact v _ _ e6
     ·exact z03 (λ a b z=>RcAt.tups ((Tups.of v).trans (Tups.lst G)) z) C
     ·rw [zav,if_pos z,<-j13];exact z2v (z03 (λ a b z=>PairAt.wrote G (PairAt.same v z)) M) (PairAt.wrote G ⟨p2,rfl,e7⟩)
    ·refine iteN z ?_;exact ⟨zs3,e6,C,J,by rw [zav,if_neg z,N2];exact M,s6,_,_,rfl⟩
   ·rintro σ I ⟨zs3,e5,a5,f5,b5,s5,x6,x7,rfl⟩;exact ⟨zs3,e5,a5,f5,by rw [z6z,<-r];rw [r] at b5;rw [r];exact b5,s5,_,_,_,_,rfl⟩
  ·rintro σ H3 ⟨f,e3,a3,f3,b3,s3,x4,x5,x6,x7,rfl⟩;rw [r] at b3;exact ⟨_,rfl,q c f H3 s3 V f3 b3⟩
end
section
def oStep (os:List Int):Ev->List Int
 | .beg h _ _ _=>os++[h]
 | .fin h _=>os.filter λ k=>decide (k≠h)
def oOk (os:List Int):Ev->Prop
 | .beg h _ _ _=>h∉os
 | .fin h _=>h∈os
def EWf:List Int->List Ev->Prop
 | _,[]=>True
 | os,e :: es=>oOk os e/\EWf (oStep os e) es
theorem EWf.snoc :∀{es:List Ev} {os:List Int} {e:Ev},EWf os es->oOk (es.foldl oStep os) e->EWf os (es++[e])
 | [],os,e,_,h=>⟨h,trivial⟩
 | x :: es,os,e,w,h=>⟨w.1,EWf.snoc w.2 h⟩
theorem zj1 {h:Int} (hs:List Int) :∀{j:Nat},lastI h hs=some j->hs[j]? = some h/\∀k,j < k->hs[k]?≠some h:=by
 suffices key :∀n (hs:List Int),hs.length=n->∀{j:Nat},lastI h hs=some j->hs[j]? = some h/\∀k,j < k->hs[k]?≠some h from λ {j} a=>key _ hs rfl a;intro n;induction n with
 | zero=>intro hs e j a;have:=zc8 a;omega
 | succ n ih=>
  intro hs e j a;have ne:hs≠[]:=λ z=>by rw [z] at e;cases e
  obtain ⟨b,t,rfl⟩ :∃b t,hs=b++[t]:=⟨hs.dropLast,hs.getLast ne,(i7 ne).symm⟩
  rw [K0] at e;have e:b.length=n:=by simpa using e
  rw [z7i] at a;by_cases z:t=h
  ·rw [if_pos z] at a;cases a;refine ⟨by simp [z],λ k c=>?_⟩;rw [C4 (by rw [K0];show b.length + 1<=k;omega)];intro y;cases y
  ·rw [if_neg z] at a;obtain ⟨d,f⟩:=ih b e a;have lt:=zc8 a;refine ⟨by rw [Q2 lt];exact d,λ k c=>?_⟩;by_cases y:k < b.length
   ·rw [Q2 y];exact f k c
   ·by_cases y2:k=b.length
    ·subst y2;rw [B2 (B0 _)];simp;exact z
    ·rw [C4 (by rw [K0];show b.length + 1<=k;omega)];intro y;cases y
theorem zgq {h:Int} (hs:List Int) (hm:h∈hs):(lastI h hs).isSome=true:=by
 suffices key :∀n (hs:List Int),hs.length=n->h∈hs->(lastI h hs).isSome=true from key _ hs rfl hm;intro n;induction n with
 | zero=>intro hs e hm;rw [List.length_eq_zero_iff.mp e] at hm;cases hm
 | succ n ih=>
  intro hs e hm;have ne:hs≠[]:=λ z=>by rw [z] at e;cases e
  obtain ⟨a,t,rfl⟩ :∃a t,hs=a++[t]:=⟨hs.dropLast,hs.getLast ne,(i7 ne).symm⟩
  rw [K0] at e;rw [z7i];by_cases z:t=h
  ·rw [if_pos z];rfl
  ·rw [if_neg z];refine ih a (by simpa using e) ?_;rcases List.mem_append.mp hm with y|y
   ·exact y
   ·exact absurd (List.mem_singleton.mp y).symm z
structure DInv (i:Nat) (rs:List Rc) (os:List Int):Prop where
 b :∀r∈rs,r.b < i
 e :∀r∈rs,∀e,r.e=some e->e < i
 p :∀(x y:Nat) (r q:Rc),x < y->rs[x]? = some r->rs[y]? = some q->r.b < q.b/\(r.h=q.h->∃e,r.e=some e/\e < q.b)
 o :∀r∈rs,r.h∉os->r.e.isSome=true
 m :∀h∈os,h∈rs.map Rc.h
theorem DInv.nil:DInv 0 [] []:=⟨λ _ h=>(by cases h),λ _ h=>(by cases h),λ x y r q _ h=>(by simp at h),λ _ h=>(by cases h),λ _ h=>(by cases h)⟩
theorem zku {rs:List Rc} {j:Nat} {f:Rc->Rc} (hf :∀r,(f r).h=r.h):(rs.modify j f).map Rc.h=rs.map Rc.h:=by
 apply c8;intro m;rw [W0,W0,D9];cases rs[m]? with
 | none=>rfl
 | some r=>
  show some (if j=m then f r else r).h=some r.h;by_cases z:j=m
  ·rw [if_pos z,hf]
  ·rw [if_neg z]
theorem DInv.step {i:Nat} {rs:List Rc} {os:List Int} (I:DInv i rs os) {e:Ev} (ok:oOk os e):DInv (i + 1) (dstep i rs e) (oStep os e)/\∀h a,e=.fin h a->(lastI h (rs.map Rc.h)).isSome=true:=by
 cases e with
 | beg h n v x=>
  have ok:h∉os:=ok;refine ⟨⟨λ r d=>?_,λ r d e c=>?_,λ t g r q E H D=>?_,λ r d B=>?_,λ k M=>?_⟩,λ h a e=>by cases e⟩
  ·rcases List.mem_append.mp d with z|z
   ·have:=I.b r z;omega
   ·rw [List.mem_singleton.mp z];exact O2 i
  ·rcases List.mem_append.mp d with z|z
   ·have:=I.e r z e c;omega
   ·rw [List.mem_singleton.mp z] at c;cases c
  ·have a1:g < (dstep i rs (.beg h n v x)).length:=(List.getElem?_eq_some_iff.mp D).1;have hl:(dstep i rs (.beg h n v x)).length=rs.length + 1:=by show (rs++[_]).length=_;rw [K0];rfl
   have U:rs[t]? = some r:=by
    have:(rs++[_])[t]? = some r:=H
    rwa [Q2 (by omega)] at this
   by_cases z:g < rs.length
   ·have a0:rs[g]? = some q:=by
     have:(rs++[_])[g]? = some q:=D
     rwa [Q2 z] at this
    exact I.p t g r q E U a0
   ·have F:(rs++[_])[g]? = some q:=D;have ey:g=rs.length:=by omega
    subst ey;rw [B2 (B0 _)] at F;simp at F;have L:=Q0 U;rw [<-F];refine ⟨I.b r L,λ A=>?_⟩;have:r.e.isSome=true:=I.o r L (by rw [A];exact ok);obtain ⟨e,c⟩:=Option.isSome_iff_exists.mp this;exact ⟨e,c,I.e r L e c⟩
  ·rcases List.mem_append.mp d with z|z
   ·exact I.o r z λ y=>B (List.mem_append.mpr (.inl y))
   ·rw [List.mem_singleton.mp z] at B;exact absurd (List.mem_append.mpr (.inr (List.mem_singleton.mpr rfl))) B
  ·show k∈(rs++[_]).map Rc.h;rw [u2];rcases List.mem_append.mp M with z|z
   ·exact List.mem_append.mpr (.inl (I.m k z))
   ·rw [List.mem_singleton.mp z];exact List.mem_append.mpr (.inr (List.mem_singleton.mpr rfl))
 | fin h a=>
  have ok:h∈os:=ok;obtain ⟨j,N⟩:=Option.isSome_iff_exists.mp (zgq _ (I.m h ok));refine ⟨?_,λ h' a' e=>by cases e;rw [N];rfl⟩;obtain ⟨P,V⟩:=zj1 _ N;have Y:dstep i rs (.fin h a)=rs.modify j (λ r=>{ r with a:=a,e:=some i }):=by unfold dstep;dsimp only;rw [N]
  rw [Y];have hs:oStep os (.fin h a)=os.filter λ k=>decide (k≠h):=rfl;rw [hs];rw [W0] at P;obtain ⟨rj,T,W⟩:=Option.map_eq_some_iff.mp P;have get :∀m q,(rs.modify j (λ r=>{ r with a:=a,e:=some i }))[m]? = some q->∃r,rs[m]? = some r/\q.h=r.h/\q.b=r.b/\(m=j->q.e=some i)/\(m≠j->q=r):=λ m q S=>by
   rw [D9] at S;obtain ⟨r,d,e⟩:=Option.map_eq_some_iff.mp S;refine ⟨r,d,?_⟩;by_cases z:j=m
   ·rw [if_pos z] at e;rw [<-e];exact ⟨rfl,rfl,λ _=>rfl,λ y=>absurd z.symm y⟩
   ·rw [if_neg z] at e;rw [<-e];exact ⟨rfl,rfl,λ y=>absurd y.symm z,λ _=>rfl⟩
  refine ⟨λ r d=>?_,λ r d e c=>?_,λ t g r q E H D=>?_,λ r d B=>?_,λ k M=>?_⟩
  ·obtain ⟨m,C⟩:=List.mem_iff_getElem?.mp d;obtain ⟨s,u,_,h3,_⟩:=get m r C;have:=I.b s (Q0 u);omega
  ·obtain ⟨m,C⟩:=List.mem_iff_getElem?.mp d;obtain ⟨s,u,_,_,J,K⟩:=get m r C;by_cases z:m=j
   ·rw [J z] at c;cases c;exact O2 i
   ·rw [K z] at c;have:=I.e s (Q0 u) e c;omega
  ·obtain ⟨s,G,Z,r3,r4,r5⟩:=get t r H;obtain ⟨X,Q,R,q3,_⟩:=get g q D;obtain ⟨p1,O⟩:=I.p t g s X E G Q;refine ⟨by omega,λ A=>?_⟩;by_cases z:t=j
   ·subst z;rw [T] at G;cases G;refine absurd ?_ (V g E);rw [W0,Q];show some X.h=some h;rw [<-R,<-A,Z,W]
   ·rw [r5 z] at A⊢;rw [R] at A;obtain ⟨e,c,lt⟩:=O A;exact ⟨e,c,by omega⟩
  ·obtain ⟨m,C⟩:=List.mem_iff_getElem?.mp d;obtain ⟨s,u,h2,_,J,K⟩:=get m r C;by_cases z:m=j
   ·rw [J z];rfl
   ·rw [K z] at B⊢;by_cases y:s.h=h
    ·have lt:m < j:=by
      rcases Nat.lt_or_gt_of_ne z with l|l
      ·exact l
      ·exact absurd (by rw [W0,u];show some s.h=_;rw [y]) (V m l)
     obtain ⟨_,O⟩:=I.p m j s rj lt u T;obtain ⟨e,c,_⟩:=O (by rw [y,W]);rw [c];rfl
    ·exact I.o s (Q0 u) λ w=>B (List.mem_filter.mpr ⟨w,decide_eq_true y⟩)
  ·rw [zku (f:=λ r=>{ r with a:=a,e:=some i }) (λ r=>rfl)];exact I.m k (List.mem_filter.mp M).1
theorem DInv.all :∀{es:List Ev} {i:Nat} {rs:List Rc} {os:List Int},DInv i rs os->EWf os es->dWf i rs es/\∃os',DInv (i + es.length) (dAll i rs es) os'
 | [],i,rs,os,I,_=>⟨trivial,os,I⟩
 | e :: es,i,rs,os,I,w=>by obtain ⟨d,c⟩:=I.step w.1;obtain ⟨b,os',a⟩:=DInv.all d w.2;refine ⟨⟨c,b⟩,os',?_⟩;rw [X0,show i + (es.length + 1)=i + 1 + es.length by omega];exact a
theorem zia {kvs:List (Key×V)} {h:Int} :∀{os:List Int},kvs.map (·.1)=os.map Sum.inl->(dropK kvs (.inl h)).map (·.1)=(os.filter λ k=>decide (k≠h)).map Sum.inl:=by
 induction kvs with
 | nil=>intro os e;cases os with|nil=>rfl|cons o os=>cases e
 | cons p r ih=>
  intro os e;cases os with
  | nil=>cases e
  | cons o os=>
   rw [J1,J1] at e;injection e with e1 e2;by_cases z:o=h
   ·rw [zcs (by rw [e1,z]),Q4 (by simp [z])];exact ih e2
   ·rw [zdd (by rw [e1];exact λ y=>z (j10 y)),P4 (by simp [z]),J1,J1,e1,ih e2]
theorem z2i {α β:Type} {R:α->β->Prop} :∀{xs:List α} {ys:List β},ys.length=xs.length->(∀(k:Nat) a b,xs[k]? = some a->ys[k]? = some b->R a b)->All2 R xs ys
 | [],[],_,_=>.nil
 | [],y :: ys,h,_=>by cases h
 | x :: xs,[],h,_=>by cases h
 | x :: xs,y :: ys,h,f=>.cons (f 0 x y rfl rfl) (z2i (by simpa using h) λ k a b d c=>f (k + 1) a b (by rw [D2];exact d) (by rw [D2];exact c))
end
section
theorem mem_pairsTo {m:Nat} {rs:List Rc} {p:Nat×Nat} {n:Nat}:p∈z35 m rs n↔p.1 < n/\p.2 < rs.length/\z1z m rs p.1 p.2=true:=by
 unfold z35 rowTo;rw [List.mem_flatMap];constructor
 ·rintro ⟨a,ha,h⟩;obtain ⟨b,e,rfl⟩:=List.mem_map.mp h;obtain ⟨d,c⟩:=List.mem_filter.mp e;exact ⟨List.mem_range.mp ha,List.mem_range.mp d,c⟩
 ·rintro ⟨d,c,h3⟩;exact ⟨p.1,List.mem_range.mpr d,List.mem_map.mpr ⟨p.2,List.mem_filter.mpr ⟨List.mem_range.mpr c,h3⟩,rfl⟩⟩
end
section
variable {P:Program} {w:V0} {mg:Str->Option Value} {base:Heap}
def near (i:Int):Prop:=-1000000000<=i/\i<=1000000000
inductive DeedOk:Str->Str->Dt->Prop
 | regR:DeedOk "register" "read" .non
 | regW {i:Int}:near i->DeedOk "register" "write" (.int i)
 | cntR:DeedOk "counter" "read" .non
 | cntA {i:Int}:near i->DeedOk "counter" "add" (.int i)
 | quP {i:Int}:near i->DeedOk "queue" "put" (.int i)
 | quT:DeedOk "queue" "take" .non
 | setP {i:Int}:near i->DeedOk "set" "put" (.int i)
 | setC {i:Int}:near i->DeedOk "set" "cut" (.int i)
 | setH {i:Int}:near i->DeedOk "set" "has" (.int i)
 | celR:DeedOk "cell" "read" .non
 | celW {i:Int}:near i->DeedOk "cell" "write" (.int i)
 | celS {i j:Int}:near i->near j->DeedOk "cell" "swap" (.tup [.int i,.int j])
def kinds5:List Str:=["register","counter","queue","set","cell"]
def verbsT (k:Str):List Str:=if k = "register" then ["write","read"] else if k = "counter" then ["add","read"] else if k = "queue" then ["put","take"] else if k = "set" then ["put","cut","has"] else ["read","write","swap","swap"]
def VerbOk (k v:Str):Prop:=((v = "read"\/v = "take")/\DeedOk k v .non)\/(v = "swap"/\∀i j,near i->near j->DeedOk k v (.tup [.int i,.int j]))\/(v≠"read"/\v≠"take"/\v≠"swap"/\∀i,near i->DeedOk k v (.int i))
theorem zkz {k v:Str} (hk:k∈kinds5) (hv:v∈verbsT k):VerbOk k v:=by
 unfold kinds5 at hk;simp only [Y0,A0,or_false] at hk;rcases hk with rfl|rfl|rfl|rfl|rfl
 ·rw [show verbsT "register" = (["write","read"]:List Str) by decide +kernel] at hv;simp only [Y0,A0,or_false] at hv;rcases hv with rfl|rfl
  ·exact .inr (.inr ⟨by decide +kernel,by decide +kernel,by decide +kernel,λ i h=>.regW h⟩)
  ·exact .inl ⟨.inl rfl,.regR⟩
 ·rw [show verbsT "counter" = (["add","read"]:List Str) by decide +kernel] at hv;simp only [Y0,A0,or_false] at hv;rcases hv with rfl|rfl
  ·exact .inr (.inr ⟨by decide +kernel,by decide +kernel,by decide +kernel,λ i h=>.cntA h⟩)
  ·exact .inl ⟨.inl rfl,.cntR⟩
 ·rw [show verbsT "queue" = (["put","take"]:List Str) by decide +kernel] at hv;simp only [Y0,A0,or_false] at hv;rcases hv with rfl|rfl
  ·exact .inr (.inr ⟨by decide +kernel,by decide +kernel,by decide +kernel,λ i h=>.quP h⟩)
  ·exact .inl ⟨.inr rfl,.quT⟩
 ·rw [show verbsT "set" = (["put","cut","has"]:List Str) by decide +kernel] at hv;simp only [Y0,A0,or_false] at hv;rcases hv with rfl|rfl|rfl
  ·exact .inr (.inr ⟨by decide +kernel,by decide +kernel,by decide +kernel,λ i h=>.setP h⟩)
  ·exact .inr (.inr ⟨by decide +kernel,by decide +kernel,by decide +kernel,λ i h=>.setC h⟩)
  ·exact .inr (.inr ⟨by decide +kernel,by decide +kernel,by decide +kernel,λ i h=>.setH h⟩)
 ·rw [show verbsT "cell" = (["read","write","swap","swap"]:List Str) by decide +kernel] at hv;simp only [Y0,A0,or_false] at hv;rcases hv with rfl|rfl|rfl|rfl
  ·exact .inl ⟨.inl rfl,.celR⟩
  ·exact .inr (.inr ⟨by decide +kernel,by decide +kernel,by decide +kernel,λ i h=>.celW h⟩)
  ·exact .inr (.inl ⟨rfl,λ i j a b=>.celS a b⟩)
  ·exact .inr (.inl ⟨rfl,λ i j a b=>.celS a b⟩)
theorem zme (z:Str) (ws:List Str):inV (.str z) (ws.map V.str)=decide (z∈ws):=by
 unfold inV;rw [j14,Bool.eq_iff_iff,R6,decide_eq_true_eq];constructor
 ·rintro ⟨x,hx,e⟩;have e:x=z:=eq_of_beq (show (x == z)=true from e);rw [<-e];exact hx
 ·exact λ h=>⟨z,h,(show (z == z)=true from beq_self_eq_true z)⟩
theorem zbe {L:List Addr} {H H':Hp} (k:KeptL L H H') (n :∀l∈L,H l=none):Same H H':=λ b o e=>k b o (λ z=>by rw [n b z] at e;cases e) e
structure WordsAt (H:Hp) (p:Addr) (n:Nat) (f:Str->Option (List Str)):Prop where
 ex :∃kvs:List (Key×V),H p=some (.dK kvs)/\kvs.length<=n/\∀k ws,f k=some ws->∃l,valV kvs (.inr k)=some (.ref l)/\H l=some (.lst (ws.map V.str))
theorem zco (kvs:List (Key×V)) (k:Key) (v:V):(putK kvs k v).length<=kvs.length + 1:=by
 unfold putK;split
 ·rw [G0];exact T3 _
 ·rw [K0];exact B0 _
theorem WordsAt.put {H:Hp} {p l:Addr} {n:Nat} {f:Str->Option (List Str)} {kvs:List (Key×V)} {k:Str} {ws:List Str} (hl:H l=none) (e:H p=some (.dK kvs)) (hn:kvs.length<=n) (h :∀k ws,f k=some ws->∃l,valV kvs (.inr k)=some (.ref l)/\H l=some (.lst (ws.map V.str))) :
  ∃H',H'=upd (upd H l (.lst (ws.map V.str))) p (.dK (putK kvs (.inr k) (.ref l)))/\WordsAt H' p (n + 1) (λ j=>if j=k then some ws else f j)/\KeptL [p] H H':=by
 have s:p≠l:=z07 e hl;refine ⟨_,rfl,⟨_,z01,F0 (zco _ _ _) (T4 hn),λ j q c=>?_⟩,λ b o t d=>?_⟩
 ·by_cases z:j=k
  ·subst z;rw [if_pos rfl] at c;cases c;refine ⟨l,by rw [z5m,if_pos rfl],?_⟩;rw [upd_ne s.symm];exact z01
  ·rw [if_neg z] at c;obtain ⟨m,r,a⟩:=h j q c;refine ⟨m,by rw [z5m,if_neg (λ y=>z (W8 y))];exact r,?_⟩;have i:m≠p:=λ y=>by rw [y,e] at a;cases a
   rw [upd_ne i,upd_ne (z07 a hl)];exact a
 ·have g:b≠p:=λ z=>t (by rw [z];exact List.mem_singleton.mpr rfl);rw [upd_ne g,upd_ne (z07 d hl)];exact d
theorem words3 {H:Hp} {p l1 l2 l3:Addr} {k1 k2 k3:Str} {w1 w2 w3:List Str} (hp:H p=none) (h1:upd H p (.dK []) l1=none) (h2:upd (upd H p (.dK [])) l1 (.lst (w1.map V.str)) l2=none)
  (h3:upd (upd (upd H p (.dK [])) l1 (.lst (w1.map V.str))) l2 (.lst (w2.map V.str)) l3=none) (n12:k1≠k2) (n13:k1≠k3) (n23:k2≠k3) :
  upd (upd (upd (upd H p (.dK [])) l1 (.lst (w1.map V.str))) l2 (.lst (w2.map V.str))) l3 (.lst (w3.map V.str)) p=some (.dK [])/\
  ∃H',H'=upd (upd (upd (upd (upd H p (.dK [])) l1 (.lst (w1.map V.str))) l2 (.lst (w2.map V.str))) l3 (.lst (w3.map V.str))) p (.dK [(.inr k1,.ref l1),(.inr k2,.ref l2),(.inr k3,.ref l3)])/\Same H H'/\
   H' p=some (.dK [(.inr k1,.ref l1),(.inr k2,.ref l2),(.inr k3,.ref l3)])/\∀k ws,(if k=k1 then some w1 else if k=k2 then some w2 else if k=k3 then some w3 else none)=some ws->∃l,valV [((.inr k1:Key),V.ref l1),(.inr k2,.ref l2),(.inr k3,.ref l3)] (.inr k)=some (.ref l)/\H' l=some (.lst (ws.map V.str)):=by
 have c:p≠l1:=z07 z01 h1;have d:p≠l2:=z07 (by rw [upd_ne c];exact z01) h2;have f:p≠l3:=z07 (by rw [upd_ne d,upd_ne c];exact z01) h3;have g:l1≠l2:=z07 z01 h2;have i:l1≠l3:=z07 (by rw [upd_ne g];exact z01) h3;have j:l2≠l3:=z07 z01 h3;refine ⟨by rw [upd_ne f,upd_ne d,upd_ne c];exact z01,_,rfl,λ b o e=>?_,z01,λ k ws e=>?_⟩
 ·rw [upd_ne (z07 e hp)];exact ((((Same.upd hp).trans (Same.upd h1)).trans (Same.upd h2)).trans (Same.upd h3)) b o e
 ·have ne :∀{a b:Str},a≠b->(Sum.inr a:Key)≠Sum.inr b:=λ h e=>h (W8 e);by_cases z1:k=k1
  ·rw [if_pos z1] at e;cases e;exact ⟨l1,by rw [z1];exact z0u rfl,by rw [upd_ne c.symm,upd_ne i,upd_ne g];exact z01⟩
  ·rw [if_neg z1] at e;by_cases z2:k=k2
   ·rw [if_pos z2] at e;cases e;exact ⟨l2,by rw [z2,z0q (ne n12)];exact z0u rfl,by rw [upd_ne d.symm,upd_ne j];exact z01⟩
   ·rw [if_neg z2] at e;by_cases z3:k=k3
    ·rw [if_pos z3] at e;cases e;exact ⟨l3,by rw [z3,z0q (ne n13),z0q (ne n23)];exact z0u rfl,by rw [upd_ne f.symm];exact z01⟩
    ·rw [if_neg z3] at e;cases e
def WorthIn (H:Hp) (d:Dt) (x:V):Prop:=∀a b:Int,d=.tup [.int a,.int b]->∃t,x=.ref t/\H t=some (.tup [.int a,.int b])
theorem e9:(10:Int) ^ (9:Int).toNat=1000000000:=by decide
theorem p9:CPow 10 9:=⟨by decide,by decide,by decide⟩
end
section
inductive Sv
 | num (i:Int)
 | row (ns:List Int)
def rowK (k:Str):Prop:=k = "queue"\/k = "set"
instance (k:Str):Decidable (rowK k):=by unfold rowK;infer_instance
def opOf (k v:Str):Nat:=if k = "queue" then (if v = "put" then 0 else 1) else if k = "set" then (if v = "put" then 2 else if v = "cut" then 3 else 4) else if v = "read" then 5 else if v = "add" then 6 else if v = "write" then 7 else 8
def dI:Dt->Int
 | .int i=>i
 | _=>0
def srtI (ns:List Int):List Int:=ns.mergeSort λ a b=>decide (a<=b)
def dzo:Nat->Dt->Sv->Sv×V
 | 0,d,.row ns=>(.row (ns++[dI d]),.str "ok")
 | 1,_,.row []=>(.row [],.str "none")
 | 1,_,.row (m :: r)=>(.row r,.int m)
 | 2,d,.row ns=>if dI d∈ns then (.row ns,.int 0) else (.row (srtI (ns++[dI d])),.int 1)
 | 3,d,.row ns=>(.row (ns.filter λ j=>!decide (j=dI d)),.int (if dI d∈ns then 1 else 0))
 | 4,d,.row ns=>(.row ns,.int (if dI d∈ns then 1 else 0))
 | 5,_,.num i=>(.num i,.int i)
 | 6,d,.num i=>(.num (i + dI d),.int i)
 | 7,d,.num _=>(.num (dI d),.str "ok")
 | 8,.tup [.int a,.int b],.num i=>if i=a then (.num b,.int 1) else (.num i,.int 0)
 | _,_,s=>(s,.non)
def dz (k v:Str) (d:Dt) (s:Sv):Sv×V:=dzo (opOf k v) d s
theorem dz_at {k v:Str} {d:Dt} {s:Sv} {n:Nat} (h:opOf k v=n):dz k v d s=dzo n d s:=by unfold dz;rw [h]
theorem dz_quP {i:Int} {ns:List Int}:dz "queue" "put" (.int i) (.row ns)=(.row (ns++[i]),.str "ok"):=dz_at (n:=0) (by decide +kernel)
theorem zkb {d:Dt}:dz "queue" "take" d (.row [])=(.row [],.str "none"):=dz_at (n:=1) (by decide +kernel)
theorem dz_quT {d:Dt} {m:Int} {r:List Int}:dz "queue" "take" d (.row (m :: r))=(.row r,.int m):=dz_at (n:=1) (by decide +kernel)
theorem zki {i:Int} {ns:List Int}:dz "set" "put" (.int i) (.row ns)=if i∈ns then (.row ns,.int 0) else (.row (srtI (ns++[i])),.int 1):=dz_at (n:=2) (by decide +kernel)
theorem zja {i:Int} {ns:List Int}:dz "set" "cut" (.int i) (.row ns)=(.row (ns.filter λ j=>!decide (j=i)),.int (if i∈ns then 1 else 0)):=dz_at (n:=3) (by decide +kernel)
theorem zjh {i:Int} {ns:List Int}:dz "set" "has" (.int i) (.row ns)=(.row ns,.int (if i∈ns then 1 else 0)):=dz_at (n:=4) (by decide +kernel)
theorem zji {d:Dt} {i:Int}:dz "register" "read" d (.num i)=(.num i,.int i):=dz_at (n:=5) (by decide +kernel)
theorem zk6 {d:Dt} {i:Int}:dz "counter" "read" d (.num i)=(.num i,.int i):=dz_at (n:=5) (by decide +kernel)
theorem zkf {d:Dt} {i:Int}:dz "cell" "read" d (.num i)=(.num i,.int i):=dz_at (n:=5) (by decide +kernel)
theorem zjr {i j:Int}:dz "counter" "add" (.int j) (.num i)=(.num (i + j),.int i):=dz_at (n:=6) (by decide +kernel)
theorem zke {i j:Int}:dz "register" "write" (.int j) (.num i)=(.num j,.str "ok"):=dz_at (n:=7) (by decide +kernel)
theorem zjk {i j:Int}:dz "cell" "write" (.int j) (.num i)=(.num j,.str "ok"):=dz_at (n:=7) (by decide +kernel)
theorem zjl {i a b:Int}:dz "cell" "swap" (.tup [.int a,.int b]) (.num i)=if i=a then (.num b,.int 1) else (.num i,.int 0):=dz_at (n:=8) (by decide +kernel)
theorem zdq (ns:List Int):(srtI ns).Perm ns:=List.mergeSort_perm ns _
theorem z80 (ns:List Int):(srtI ns).Pairwise (·<=·):=by have:=j42 (le:=λ a b:Int=>decide (a<=b)) (λ a b c d e=>decide_eq_true (Int.le_trans (of_decide_eq_true d) (of_decide_eq_true e))) (λ a b=>by rcases Int.le_total a b with h|h<;>simp [h]) ns;exact this.imp λ h=>of_decide_eq_true h
theorem zhz {xs ys:List Int} (p:xs.Perm ys) (hx:xs.Pairwise (·<=·)) (hy:ys.Pairwise (·<=·)):xs=ys:=p.eq_of_pairwise (le:=(·<=·)) (λ _ _ _ _ b a=>Int.le_antisymm b a) hx hy
theorem zl9 {ns:List Int} (h:ns.Pairwise (· < ·)):ns.Nodup:=h.imp λ z e=>by omega
def SvOk (n:Nat) (k:Str):Sv->Prop
 | .row ns=>rowK k/\ns.length<=n/\(∀i∈ns,near i)/\(k = "set"->ns.Pairwise (· < ·))
 | .num i=>¬ rowK k/\-(1000000000 * (n:Int))<=i/\i<=1000000000 * (n:Int)
def AnsV (a:V):Prop:=a=.str "ok"\/a=.str "none"\/∃i:Int,a=.int i/\-100000000000<=i/\i<=100000000000
theorem SvOk.le {n m:Nat} {k:Str} :∀{s:Sv},n<=m->SvOk n k s->SvOk m k s
 | .row _,l,h=>⟨h.1,F0 h.2.1 l,h.2.2⟩
 | .num _,l,h=>⟨h.1,by have:=h.2.1;omega,by have:=h.2.2;omega⟩
theorem SvOk.isRow {n:Nat} {k:Str} :∀{s:Sv},SvOk n k s->rowK k->∃ns,s=.row ns/\ns.length<=n/\(∀i∈ns,near i)/\(k = "set"->ns.Pairwise (· < ·))
 | .row ns,h,_=>⟨ns,rfl,h.2⟩
 | .num _,h,hk=>absurd hk h.1
theorem SvOk.isNum {n:Nat} {k:Str} :∀{s:Sv},SvOk n k s->¬ rowK k->∃i,s=.num i/\-(1000000000 * (n:Int))<=i/\i<=1000000000 * (n:Int)
 | .row _,h,hk=>absurd h.1 hk
 | .num i,h,_=>⟨i,rfl,h.2⟩
theorem SvOk.row {n:Nat} {k:Str} {ns:List Int} (h1:rowK k) (h2:ns.length<=n) (h3 :∀i∈ns,near i) (h4:k = "set"->ns.Pairwise (· < ·)):SvOk n k (.row ns):=⟨h1,h2,h3,h4⟩
theorem SvOk.num {n:Nat} {k:Str} {i:Int} (h1:¬ rowK k) (h2:-(1000000000 * (n:Int))<=i) (h3:i<=1000000000 * (n:Int)):SvOk n k (.num i):=⟨h1,h2,h3⟩
theorem z3h {i:Int} (h0:-100000000000<=i) (h1:i<=100000000000):AnsV (.int i):=.inr (.inr ⟨i,rfl,h0,h1⟩)
theorem ans_b {p:Prop} [Decidable p]:AnsV (.int (if p then 1 else 0)):=by
 by_cases h:p
 ·rw [if_pos h];exact z3h (by decide) (by decide)
 ·rw [if_neg h];exact z3h (by decide) (by decide)
theorem dz_ok {n:Nat} {k v:Str} {d:Dt} {s:Sv} (hd:DeedOk k v d) (h:SvOk n k s) (hn:n < 63):SvOk (n + 1) k (dz k v d s).1/\AnsV (dz k v d s).2:=by
 have t:rowK "queue":=.inl rfl;have q:rowK "set":=.inr rfl;have A:("queue" : Str)≠"set":=by decide +kernel
 have u:¬ rowK "register":=by decide +kernel
 have w:¬ rowK "counter":=by decide +kernel
 have p:¬ rowK "cell":=by decide +kernel
 cases hd with
 | quP ni=>
  obtain ⟨g,rfl,f,c,o⟩:=h.isRow t;rw [dz_quP];refine ⟨.row t (by rw [K0];exact T4 f) (λ j l=>?_) λ z=>absurd z A,.inl rfl⟩;rcases List.mem_append.mp l with y|y
  ·exact c j y
  ·rw [List.mem_singleton.mp y];exact ni
 | quT=>
  obtain ⟨g,rfl,f,c,o⟩:=h.isRow t;cases g with
  | nil=>rw [zkb];exact ⟨.row t (R1 _) (λ j l=>by cases l) (λ z=>absurd z A),.inr (.inl rfl)⟩
  | cons m r=>rw [dz_quT];rw [X0] at f;have B:=c m F1;exact ⟨.row t (by omega) (λ j l=>c j (E1 _ l)) (λ z=>absurd z A),z3h (by have:=B.1;omega) (by have:=B.2;omega)⟩
 | setP ni=>
  rename_i i;obtain ⟨g,rfl,f,c,o⟩:=h.isRow q;rw [zki];by_cases z:i∈g
  ·rw [if_pos z];exact ⟨.row q (Q3 f) c o,z3h (by decide) (by decide)⟩
  ·rw [if_neg z];have x:=zdq (g++[i]);refine ⟨.row q (by rw [x.length_eq,K0];exact T4 f) (λ j l=>?_) (λ _=>?_),z3h (by decide) (by decide)⟩
   ·rcases List.mem_append.mp (x.mem_iff.mp l) with y|y
    ·exact c j y
    ·rw [List.mem_singleton.mp y];exact ni
   ·have E:(srtI (g++[i])).Nodup:=x.nodup_iff.mpr (by rw [C6];exact ⟨zl9 (o rfl),by simp,λ a D b C e=>z (by rw [<-List.mem_singleton.mp C,<-e];exact D)⟩);exact ((z80 (g++[i])).and E).imp λ h=>by have:=h.1;have:=h.2;omega
 | setC ni=>obtain ⟨g,rfl,f,c,o⟩:=h.isRow q;rw [zja];exact ⟨.row q (F0 (V2 _ _) (Q3 f)) (λ j l=>c j (List.mem_filter.mp l).1) (λ z=>(o z).filter _),ans_b⟩
 | setH ni=>obtain ⟨g,rfl,f,c,o⟩:=h.isRow q;rw [zjh];exact ⟨.row q (Q3 f) c o,ans_b⟩
 | regR=>obtain ⟨a,rfl,f,c⟩:=h.isNum u;rw [zji];exact ⟨.num u (by omega) (by omega),z3h (by omega) (by omega)⟩
 | cntR=>obtain ⟨a,rfl,f,c⟩:=h.isNum w;rw [zk6];exact ⟨.num w (by omega) (by omega),z3h (by omega) (by omega)⟩
 | celR=>obtain ⟨a,rfl,f,c⟩:=h.isNum p;rw [zkf];exact ⟨.num p (by omega) (by omega),z3h (by omega) (by omega)⟩
 | cntA ni=>obtain ⟨a,rfl,f,c⟩:=h.isNum w;rw [zjr];have:=ni.1;have:=ni.2;exact ⟨.num w (by omega) (by omega),z3h (by omega) (by omega)⟩
 | regW ni=>obtain ⟨a,rfl,f,c⟩:=h.isNum u;rw [zke];have:=ni.1;have:=ni.2;exact ⟨.num u (by omega) (by omega),.inl rfl⟩
 | celW ni=>obtain ⟨a,rfl,f,c⟩:=h.isNum p;rw [zjk];have:=ni.1;have:=ni.2;exact ⟨.num p (by omega) (by omega),.inl rfl⟩
 | celS ni nj=>
  rename_i i j;obtain ⟨a,rfl,f,c⟩:=h.isNum p;rw [zjl];have:=nj.1;have:=nj.2;by_cases z:a=i
  ·rw [if_pos z];exact ⟨.num p (by omega) (by omega),z3h (by decide) (by decide)⟩
  ·rw [if_neg z];exact ⟨.num p (by omega) (by omega),z3h (by decide) (by decide)⟩
def StZ (K:c0) (H:Hp):Sv->V->Prop
 | .row ns,v=>∃p,v=.ref p/\SqT K H p (ns.map V.int)
 | .num i,v=>v=.int i
theorem StZ.tups {K:c0} {H H':Hp} (t:Tups K H H') :∀{s:Sv} {v:V},StZ K H s v->StZ K H' s v
 | .row _,_,h=>h.elim λ p z=>⟨p,z.1,t _ _ z.2⟩
 | .num _,_,h=>h
def zeroK (k:Str):Sv:=if rowK k then .row [] else .num 0
theorem zl4 (k:Str):SvOk 0 k (zeroK k):=by
 unfold zeroK;by_cases h:rowK k
 ·rw [if_pos h];exact .row h (B0 _) (λ i a=>by cases a) (λ _=>.nil)
 ·rw [if_neg h];exact .num h (by omega) (by omega)
end
section
variable {P:Program} {w:V0} {mg:Str->Option Value} {base:Heap}
def SuAt (K:c0) (H:Hp) (n:Nat) (k:Str) (v:V):Prop:=(rowK k/\∃(p:Addr) (ns:List Int),v=.ref p/\SqT K H p (ns.map V.int)/\ns.length<=n)\/(¬ rowK k/\∃i:Int,v=.int i)
theorem SuAt.isRow {K:c0} {H:Hp} {n:Nat} {k:Str} {v:V} (h:SuAt K H n k v) (hk:rowK k) :∃(p:Addr) (ns:List Int),v=.ref p/\SqT K H p (ns.map V.int)/\ns.length<=n:=h.elim (λ z=>z.2) λ z=>absurd hk z.1
theorem SuAt.isNum {K:c0} {H:Hp} {n:Nat} {k:Str} {v:V} (h:SuAt K H n k v) (hk:¬ rowK k) :∃i:Int,v=.int i:=h.elim (λ z=>absurd z.1 hk) λ z=>z.2
theorem SuAt.mk {K:c0} {H:Hp} {n:Nat} {k:Str} {p:Addr} {ns:List Int} (hk:rowK k) (s:SqT K H p (ns.map V.int)) (l:ns.length<=n):SuAt K H n k (.ref p):=.inl ⟨hk,p,ns,rfl,s,l⟩
theorem SuAt.num {K:c0} {H:Hp} {n:Nat} {k:Str} {i:Int} (hk:¬ rowK k):SuAt K H n k (.int i):=.inr ⟨hk,i,rfl⟩
theorem SuAt.tups {K:c0} {H H':Hp} {n:Nat} {k:Str} {v:V} (t:Tups K H H') (h:SuAt K H n k v):SuAt K H' n k v:=h.imp (λ z=>⟨z.1,z.2.elim λ p y=>y.elim λ a y=>⟨p,a,y.1,t _ _ y.2.1,y.2.2⟩⟩) id
theorem SuAt.le {K:c0} {H:Hp} {n m:Nat} {k:Str} {v:V} (l:n<=m) (h:SuAt K H n k v):SuAt K H m k v:=h.imp (λ z=>⟨z.1,z.2.elim λ p y=>y.elim λ a y=>⟨p,a,y.1,y.2.1,F0 y.2.2 l⟩⟩) id
structure Tt (K:c0) (H H':Hp):Prop where
 t:Tups K H H'
 l :∀a xs,H a=some (.tup xs)->H' a=some (.tup xs)
theorem Tt.of {K:c0} {H H':Hp} (s:Same H H'):Tt K H H':=⟨.of s,λ _ _ h=>s _ _ h⟩
theorem Tt.trans {K:c0} {H H1 H2:Hp} (a:Tt K H H1) (b:Tt K H1 H2):Tt K H H2:=⟨a.t.trans b.t,λ _ _ h=>b.l _ _ (a.l _ _ h)⟩
def MutAt (H:Hp) (l:Addr):Prop:=(∃zs,H l=some (.lst zs))\/∃kvs:List (Key×V),H l=some (.dK kvs)
theorem KeptL.tt {K:c0} {L:List Addr} {H H':Hp} (k:KeptL L H H') (m :∀l∈L,MutAt H l):Tt K H H':=by
 refine ⟨λ a b h=>?_,λ a b h=>k _ _ (λ z=>?_) h⟩
 ·rcases h with (h|⟨ob,h⟩)|h
  ·exact .inl (.inl (k _ _ (λ z=>by rcases m a z with ⟨_,e⟩|⟨_,e⟩<;>(rw [h] at e;cases e)) h))
  ·exact .inl (.inr ⟨ob,k _ _ (λ z=>by rcases m a z with ⟨_,e⟩|⟨_,e⟩<;>(rw [h] at e;cases e)) h⟩)
  ·exact .inr h
 ·rcases m a z with ⟨_,e⟩|⟨_,e⟩<;>(rw [h] at e;cases e)
def ThAt (H:Hp) (p:Addr) (ts:List (Str×Str)):Prop:=∃ys,H p=some (.tup ys)/\All2 (λ (t:Str×Str) y=>∃b,y=.ref b/\H b=some (.tup [.str t.1,.str t.2])) ts ys
structure ThOk (ts:List (Str×Str)):Prop where
 n0:0 < ts.length
 n6:ts.length<=6
 nd:(ts.map (·.1)).Nodup
 ks :∀t∈ts,t.2∈kinds5
theorem ThAt.tt {K:c0} {H H':Hp} {p:Addr} {ts:List (Str×Str)} (t:Tt K H H') (h:ThAt H p ts):ThAt H' p ts:=h.elim λ a z=>⟨a,t.l _ _ z.1,z03 (λ _ _ y=>y.elim λ b x=>⟨b,x.1,t.l _ _ x.2⟩) z.2⟩
def kindR (K:c0) (x y:V) (H:Hp):Prop:=∃(n k:Str) (b:Addr),x=.str n/\y=.ref b/\k∈kinds5/\H b=some (.tup [.str n,.str k])
theorem z88 {K:c0} {H:Hp} :∀{ks:List Str} {ys:List V},All2 (λ x y=>kindR K x y H) (ks.map V.str) ys->∃ts:List (Str×Str),ts.map (·.1)=ks/\(∀t∈ts,t.2∈kinds5)/\All2 (λ (t:Str×Str) y=>∃b,y=.ref b/\H b=some (.tup [.str t.1,.str t.2])) ts ys
 | [],_,h=>by cases h;exact ⟨[],rfl,λ _ z=>absurd z A0,.nil⟩
 | n :: ks,_,h=>by
  cases h with
  | cons a r=>
   obtain ⟨ts,e,j,f⟩:=z88 r;obtain ⟨m,k,b,i,d,c,l⟩:=a;cases i;refine ⟨(n,k) :: ts,by rw [J1,e],λ t g=>?_,.cons ⟨b,d,l⟩ f⟩;rcases List.mem_cons.mp g with z|z
   ·rw [z];exact c
   ·exact j t z
theorem WorthIn.tt {K:c0} {H H':Hp} {d:Dt} {x:V} (t:Tt K H H') (h:WorthIn H d x):WorthIn H' d x:=λ a b e=>(h a b e).elim λ p z=>⟨p,z.1,t.l _ _ z.2⟩
theorem do_can {H:Hp} {k v:Str} {st x:V} {d:Dt} {n:Nat} {sv:Sv} {Q:VK} {E:XK} (so:SvOk n k sv) (sz:StZ (kx w) H sv st) (hn:n < 63) (hd:DeedOk k v d) (hx:IsDt (kx w) H d x) (wi:WorthIn H d x)
  (q :∀p st' H',Same H H'->H' p=some (.tup [st',(dz k v d sv).2])->StZ (kx w) H' (dz k v d sv).1 st'->Q (.ref p) H'):sp_do (kx w) [.str k,st,.str v,x] H Q E:=by
 have C :∀i:Int,Flat H (.int i):=λ i J e=>by cases e
 have D:Flat H .non:=λ J e=>by cases e
 have s :∀i:Int,near i->z11 (.int i) 1000000000=true:=λ i h=>by unfold z11;dsimp only;rw [decide_eq_true h.1,decide_eq_true h.2];rfl
 have M:rowK "queue":=.inl rfl;have G:rowK "set":=.inr rfl;cases hd with
 | quP ni=>rename_i i;obtain ⟨o,rfl,F,_,_⟩:=so.isRow M;obtain ⟨t,rfl,l⟩:=sz;cases (show x=V.int i from hx);rw [dz_quP] at q;refine ⟨_,_,_,_,_,_,_,rfl,rfl,C i,(deedB1 (by decide +kernel)).trans (s i ni),by decide +kernel,.inr (.inr (.inr (.inl ⟨rfl,rfl⟩))),λ H' b=>⟨t,_,_,rfl,b.seqT l,by rw [G0];omega,λ p B A c f u=>q p _ _ (b.trans c) f ⟨B,rfl,?_⟩⟩⟩;rw [show (o++[i]).map V.int=o.map V.int++[V.int i] by rw [u2];rfl];exact u
 | quT=>
  obtain ⟨o,rfl,F,_,_⟩:=so.isRow M;obtain ⟨t,rfl,l⟩:=sz;cases (show x=V.non from hx);refine ⟨_,_,_,_,_,_,_,rfl,rfl,D,(deedB0 (by decide +kernel)).trans rfl,by decide +kernel,.inr (.inr (.inr (.inr (.inl ⟨rfl,rfl⟩)))),λ H' b=>⟨t,o.map V.int,_,rfl,b.seqT l,λ e p A c f=>?_,λ m r e p B A c f u=>?_⟩⟩
  ·cases o with
   | nil=>rw [zkb] at q;exact q p _ _ (b.trans c) f ⟨t,rfl,(b.trans c).seqT l⟩
   | cons m r=>cases e
  ·cases o with
   | nil=>cases e
   | cons m' r'=>rw [dz_quT] at q;rw [J1] at e;injection e with e1 e3;subst e1 e3;exact q p _ _ (b.trans c) f ⟨B,rfl,u⟩
 | setP ni=>
  rename_i i;obtain ⟨o,rfl,F,_,L⟩:=so.isRow G;obtain ⟨t,rfl,l⟩:=sz;cases (show x=V.int i from hx);rw [zki] at q;refine ⟨_,_,_,_,_,_,_,rfl,rfl,C i,(deedB1 (by decide +kernel)).trans (s i ni),by decide +kernel,.inr (.inr (.inr (.inr (.inr (.inl ⟨rfl,rfl⟩))))),λ H' b=>⟨t,o,_,rfl,b.seqT l,by omega,λ z p A c f=>?_,λ z p B R A c f u O N=>?_⟩⟩
  ·rw [if_pos z] at q;exact q p _ _ (b.trans c) f ⟨t,rfl,(b.trans c).seqT l⟩
  ·rw [if_neg z] at q;rw [zhz (O.trans (zdq _).symm) N (z80 _)] at u;exact q p _ _ (b.trans c) f ⟨B,rfl,u⟩
 | setC ni=>
  rename_i i;obtain ⟨o,rfl,F,_,L⟩:=so.isRow G;obtain ⟨t,rfl,l⟩:=sz;cases (show x=V.int i from hx);rw [zja] at q;refine ⟨_,_,_,_,_,_,_,rfl,rfl,C i,(deedB1 (by decide +kernel)).trans (s i ni),by decide +kernel,.inr (.inr (.inr (.inr (.inr (.inr (.inl ⟨rfl,rfl⟩)))))),λ H' b=>⟨t,o,_,rfl,b.seqT l,by omega,λ z p A c f=>?_,λ z p B A c f u=>?_⟩⟩
  ·rw [if_neg z,List.filter_eq_self.mpr (λ j P=>by simp;exact λ e=>z (e ▸ P))] at q;exact q p _ _ (b.trans c) f ⟨t,rfl,(b.trans c).seqT l⟩
  ·rw [if_pos z] at q;exact q p _ _ (b.trans c) f ⟨B,rfl,u⟩
 | setH ni=>rename_i i;obtain ⟨o,rfl,F,_,L⟩:=so.isRow G;obtain ⟨t,rfl,l⟩:=sz;cases (show x=V.int i from hx);rw [zjh] at q;exact ⟨_,_,_,_,_,_,_,rfl,rfl,C i,(deedB1 (by decide +kernel)).trans (s i ni),by decide +kernel,.inr (.inr (.inr (.inr (.inr (.inr (.inr (.inl ⟨rfl,rfl⟩))))))),λ H' b=>⟨t,o,_,rfl,b.seqT l,λ p A c f=>q p _ _ (b.trans c) f ⟨t,rfl,(b.trans c).seqT l⟩⟩⟩
 | regR=>obtain ⟨a,rfl,_⟩:=so.isNum (by decide +kernel);cases (show st=V.int a from sz);cases (show x=V.non from hx);rw [zji] at q;exact ⟨_,_,_,_,_,_,_,rfl,rfl,D,(deedB0 (by decide +kernel)).trans rfl,by decide +kernel,.inl ⟨rfl,rfl⟩,λ H' b=>⟨_,_,rfl,λ p g=>q p _ _ (b.trans (Same.upd g)) z01 rfl⟩⟩
 | cntR=>obtain ⟨a,rfl,_⟩:=so.isNum (by decide +kernel);cases (show st=V.int a from sz);cases (show x=V.non from hx);rw [zk6] at q;exact ⟨_,_,_,_,_,_,_,rfl,rfl,D,(deedB0 (by decide +kernel)).trans rfl,by decide +kernel,.inl ⟨rfl,rfl⟩,λ H' b=>⟨_,_,rfl,λ p g=>q p _ _ (b.trans (Same.upd g)) z01 rfl⟩⟩
 | celR=>obtain ⟨a,rfl,_⟩:=so.isNum (by decide +kernel);cases (show st=V.int a from sz);cases (show x=V.non from hx);rw [zkf] at q;exact ⟨_,_,_,_,_,_,_,rfl,rfl,D,(deedB0 (by decide +kernel)).trans rfl,by decide +kernel,.inl ⟨rfl,rfl⟩,λ H' b=>⟨_,_,rfl,λ p g=>q p _ _ (b.trans (Same.upd g)) z01 rfl⟩⟩
 | cntA ni=>rename_i i;obtain ⟨a,rfl,_⟩:=so.isNum (by decide +kernel);cases (show st=V.int a from sz);cases (show x=V.int i from hx);rw [zjr] at q;exact ⟨_,_,_,_,_,_,_,rfl,rfl,C i,(deedB1 (by decide +kernel)).trans (s i ni),by decide +kernel,.inr (.inr (.inl ⟨rfl,rfl⟩)),λ H' b=>⟨_,_,rfl,λ p g=>q p _ _ (b.trans (Same.upd g)) z01 rfl⟩⟩
 | regW ni=>rename_i i;obtain ⟨a,rfl,_⟩:=so.isNum (by decide +kernel);cases (show st=V.int a from sz);cases (show x=V.int i from hx);rw [zke] at q;exact ⟨_,_,_,_,_,_,_,rfl,rfl,C i,(deedB1 (by decide +kernel)).trans (s i ni),by decide +kernel,.inr (.inl ⟨rfl,rfl⟩),λ H' b=>⟨_,_,rfl,λ p g=>q p _ _ (b.trans (Same.upd g)) z01 rfl⟩⟩
 | celW ni=>rename_i i;obtain ⟨a,rfl,_⟩:=so.isNum (by decide +kernel);cases (show st=V.int a from sz);cases (show x=V.int i from hx);rw [zjk] at q;exact ⟨_,_,_,_,_,_,_,rfl,rfl,C i,(deedB1 (by decide +kernel)).trans (s i ni),by decide +kernel,.inr (.inl ⟨rfl,rfl⟩),λ H' b=>⟨_,_,rfl,λ p g=>q p _ _ (b.trans (Same.upd g)) z01 rfl⟩⟩
 | celS ni nj=>
  rename_i i j;obtain ⟨a,rfl,_⟩:=so.isNum (by decide +kernel);cases (show st=V.int a from sz);obtain ⟨t,rfl,e⟩:=wi i j rfl;have I:tupOf H (.ref t)=some [.int i,.int j]:=by unfold tupOf;dsimp only;rw [e]
  rw [zjl] at q;refine ⟨_,_,_,_,_,_,"tuple",rfl,.inr (.inl ⟨⟨_,e⟩,rfl⟩),λ J z=>?_,?_,by decide +kernel,.inr (.inr (.inr (.inr (.inr (.inr (.inr (.inr ⟨rfl,rfl⟩))))))),λ H' b=>⟨a,i,j,t,rfl,SqT.of (b _ _ e),λ p g=>?_⟩⟩
  ·rw [I] at z;cases z;exact ⟨(show (2:Nat)<=1000 by decide),λ y K=>⟨"int",by simp only [Y0,A0,or_false] at K;rcases K with rfl|rfl<;>rfl⟩⟩
  ·rw [deedB2 (by decide +kernel) I];show (true && (z11 (.int i) 1000000000 && (z11 (.int j) 1000000000 && true)))=true;rw [s i ni,s j nj];rfl
  ·by_cases z:a=i
   ·rw [if_pos z] at q⊢;exact q p _ _ (b.trans (Same.upd g)) z01 rfl
   ·rw [if_neg z] at q⊢;exact q p _ _ (b.trans (Same.upd g)) z01 rfl
def IsA (a:V):Prop:=(∃i,a=.int i)\/∃z,a=.str z
theorem AnsV.isA {a:V} (h:AnsV a):IsA a:=by
 rcases h with rfl|rfl|⟨i,rfl,_⟩
 ·exact .inr ⟨_,rfl⟩
 ·exact .inr ⟨_,rfl⟩
 ·exact .inl ⟨_,rfl⟩
theorem IsA.scal {a b:V} (ha:IsA a\/a=.non) (hb:IsA b\/b=.non):L2.scal a b=true:=by rcases ha with (⟨i,rfl⟩|⟨i,rfl⟩)|rfl<;>rcases hb with (⟨j,rfl⟩|⟨j,rfl⟩)|rfl<;>rfl
def EvGd (K:c0) (H:Hp) (ts:List (Str×Str)):Ev->Prop
 | .beg _ n v x=>∃(nm k vb:Str) (dt:Dt),n=.str nm/\v=.str vb/\(nm,k)∈ts/\DeedOk k vb dt/\IsDt K H dt x/\WorthIn H dt x
 | .fin _ a=>IsA a
theorem EvGd.tt {K:c0} {H H':Hp} {ts:List (Str×Str)} (t:Tt K H H') :∀{e:Ev},EvGd K H ts e->EvGd K H' ts e
 | .beg _ _ _ _,⟨nm,k,vb,dt,e1,e2,hm,dk,ix,wi⟩=>⟨nm,k,vb,dt,e1,e2,hm,dk,IsDt.mono' t.t dt _ ix,wi.tt t⟩
 | .fin _ _,h=>h
structure DD where
 nm:Str
 k:Str
 vb:Str
 dt:Dt
def RcGd (K:c0) (H:Hp) (ts:List (Str×Str)) (r:Rc) (p:DD):Prop:=r.n=.str p.nm/\r.v=.str p.vb/\(p.nm,p.k)∈ts/\DeedOk p.k p.vb p.dt/\IsDt K H p.dt r.x/\WorthIn H p.dt r.x/\((r.e=none/\r.a=.non)\/(r.e.isSome=true/\IsA r.a))
theorem RcGd.tt {K:c0} {H H':Hp} {ts:List (Str×Str)} {r:Rc} {p:DD} (t:Tt K H H') (h:RcGd K H ts r p):RcGd K H' ts r p:=⟨h.1,h.2.1,h.2.2.1,h.2.2.2.1,IsDt.mono' t.t _ _ h.2.2.2.2.1,h.2.2.2.2.2.1.tt t,h.2.2.2.2.2.2⟩
theorem zez {α β:Type} {R:α->β->Prop} {f:α->α} (hf :∀x y,R x y->R (f x) y) :∀{xs:List α} {ys:List β} (j:Nat),All2 R xs ys->All2 R (xs.modify j f) ys
 | _,_,j,.nil=>by cases j<;>exact .nil
 | _,_,0,.cons a r=>.cons (hf _ _ a) r
 | _,_,j + 1,.cons a r=>.cons a (zez hf j r)
theorem rc_gd {K:c0} {H:Hp} {ts:List (Str×Str)} :∀{es:List Ev} {i:Nat} {rs:List Rc} {ps:List DD},(∀e∈es,EvGd K H ts e)->All2 (RcGd K H ts) rs ps->∃ps',All2 (RcGd K H ts) (dAll i rs es) ps'
 | [],_,_,ps,_,h=>⟨ps,h⟩
 | e :: es,i,rs,ps,g,h=>by
  have b:=g e F1;have c :∀x∈es,EvGd K H ts x:=λ x t=>g x (E1 _ t);cases e with
  | beg hd n v x=>obtain ⟨o,k,f,m,p,r,d,s,l,q⟩:=b;exact rc_gd (es:=es) c (z2v (x:=(⟨hd,n,v,x,.non,i,none⟩:Rc)) (y:=(⟨o,k,f,m⟩:DD)) h ⟨p,r,d,s,l,q,.inl ⟨rfl,rfl⟩⟩)
  | fin hd a=>
   have b:IsA a:=b;show∃ps',All2 _ (dAll (i + 1) (dstep i rs (.fin hd a)) es) ps';unfold dstep;dsimp only;cases lastI hd (rs.map Rc.h) with
   | none=>exact rc_gd (es:=es) c h
   | some j=>exact rc_gd (es:=es) c (zez (λ x y z=>⟨z.1,z.2.1,z.2.2.1,z.2.2.2.1,z.2.2.2.2.1,z.2.2.2.2.2.1,.inr ⟨rfl,b⟩⟩) j h)
end
section
def nsV (ns:List Nat):List V:=ns.map λ (n:Nat)=>V.int (n:Int)
theorem z9v (ns:List Nat):(nsV ns).length=ns.length:=G0 ..
theorem inV_ns (i:Nat) (ns:List Nat):inV (.int (i:Nat)) (nsV ns)=decide (i∈ns):=by
 unfold inV nsV;rw [j14,Bool.eq_iff_iff,R6,decide_eq_true_iff];constructor
 ·rintro ⟨n,hn,e⟩;have e:((n:Int))=i:=of_decide_eq_true e;rw [show i=n by omega];exact hn
 ·exact λ h=>⟨i,h,decide_eq_true rfl⟩
theorem zd8 (ns:List Nat):(nsV ns).all flatV=true:=by unfold nsV;rw [List.all_map];exact List.all_eq_true.mpr λ _ _=>rfl
theorem zld {ns:List Nat} {us:List V} (h:All2 (λ (a:Nat) y=>y=V.int (a:Nat)) ns us):us=nsV ns:=by
 induction h with
 | nil=>rfl
 | cons a r ih=>subst a;rw [ih];rfl
def srtN (ns:List Nat):List Nat:=ns.mergeSort λ a b=>decide (a<=b)
theorem zcj (ns:List Nat):(srtN ns).Perm ns:=List.mergeSort_perm ns _
theorem zec (ns:List Nat):(srtN ns).Pairwise (·<=·):=by have:=j42 (le:=λ a b:Nat=>decide (a<=b)) (λ a b c d e=>decide_eq_true (F0 (of_decide_eq_true d) (of_decide_eq_true e))) (λ a b=>by rcases Nat.le_total a b with h|h<;>simp [h]) ns;exact this.imp λ h=>of_decide_eq_true h
theorem zm5 {ns':List Int} {xs:List Nat} (p:ns'.Perm (xs.map λ (n:Nat)=>(n:Int))) (s:ns'.Pairwise (·<=·)):ns'.map V.int=nsV (srtN xs):=by
 have e:ns'=(srtN xs).map λ (n:Nat)=>(n:Int):=by refine (p.trans ((zcj xs).symm.map _)).eq_of_pairwise (le:=(·<=·)) (λ _ _ _ _ c d=>Int.le_antisymm c d) s ?_;exact List.Pairwise.map _ (λ a b h=>Int.ofNat_le.mpr h) (zec xs)
 rw [e];unfold nsV;rw [G3];rfl
theorem idx_eq :∀{l:List Str} {x:Str} {i:Nat},l.Nodup->l[i]? = some x->l.idxOf x=i
 | [],_,_,_,h=>by cases h
 | y :: l,x,i,nd,h=>by
  rw [j23] at nd;rw [List.idxOf_cons];cases i with
  | zero=>rw [Z2] at h;cases h;rw [beq_self_eq_true];rfl
  | succ i=>rw [D2] at h;have:¬ y=x:=λ z=>nd.1 (z ▸ Q0 h);rw [beq_eq_false_iff_ne.mpr this];show l.idxOf x + 1=_;rw [idx_eq nd.2 h]
abbrev Pl:=List Nat×List Sv
abbrev Stp:=Nat×V×Pl
def ixT (ts:List (Str×Str)) (nm:Str):Nat:=(ts.map (·.1)).idxOf nm
def stp (ts:List (Str×Str)) (r:Rc) (p:DD) (n:Nat) (pl:Pl):Option Stp:=match pl.2[ixT ts p.nm]? with
 | some s=>if r.e.isNone || decide ((dz p.k p.vb p.dt s).2=r.a) then some (n,(dz p.k p.vb p.dt s).2,(srtN (pl.1++[n]),pl.2.set (ixT ts p.nm) (dz p.k p.vb p.dt s).1)) else none
 | none=>none
def nexAt (c:Nat->Bool) (ts:List (Str×Str)) (rs:List Rc) (ps:List DD) (pl:Pl) (n:Nat):Option Stp:=if c n=true then (match rs[n]?,ps[n]? with|some r,some p=>stp ts r p n pl|_,_=>none) else none
def nexT (c:Nat->Bool) (ts:List (Str×Str)) (rs:List Rc) (ps:List DD) (pl:Pl) (i:Nat):List Stp:=(K1 i).filterMap (nexAt c ts rs ps pl)
theorem z9d {c:Nat->Bool} {ts:List (Str×Str)} {rs:List Rc} {ps:List DD} {pl:Pl} {i:Nat}:nexT c ts rs ps pl (i + 1)=nexT c ts rs ps pl i++(nexAt c ts rs ps pl i).toList:=by unfold nexT;rw [c9,List.filterMap_append];congr 1
theorem zfr {c:Nat->Bool} {ts:List (Str×Str)} {rs:List Rc} {ps:List DD} {pl:Pl} {i:Nat}:(nexT c ts rs ps pl i).length<=i:=by unfold nexT;exact F0 (d8 _ _) (by rw [j2];exact B0 _)
def cO (m:Nat) (rs:List Rc) (ns:List Nat) (n:Nat):Bool:=decide (n∉ns) && decide (∀a∈K1 rs.length,z1z m rs a n=true->a∈ns)
def cP (m:Nat) (rs:List Rc) (ns:List Nat) (n:Nat):Bool:=cO m rs ns n && decide (∀b∈K1 rs.length,z1z m rs n b=true->b∉ns)
theorem z5q {m:Nat} {rs:List Rc} {a b:Nat} (h:z1z m rs a b=true):a < rs.length/\b < rs.length:=by
 unfold z1z at h;cases ea:rs[a]? with
 | none=>rw [ea] at h;cases h
 | some r=>
  cases eb:rs[b]? with
  | none=>rw [ea,eb] at h;cases h
  | some q=>exact ⟨(List.getElem?_eq_some_iff.mp ea).1,(List.getElem?_eq_some_iff.mp eb).1⟩
structure PlOk (ts:List (Str×Str)) (N n:Nat) (pl:Pl):Prop where
 nd:pl.1.Nodup
 lt :∀x∈pl.1,x < N
 so:All2 (λ (t:Str×Str) s=>SvOk n t.2 s) ts pl.2
 nb:n<=4\/n<=pl.1.length
theorem z66 :∀(n:Nat) (ns:List Nat),ns.Nodup->(∀x∈ns,x < n)->ns.length<=n
 | 0,ns,_,h=>by
  cases ns with
  | nil=>exact B0 _
  | cons x r=>exact absurd (h x F1) (z7 _)
 | n + 1,ns,nd,h=>by
  have:=z66 n (ns.erase n) (nd.erase n) λ x a=>by have a:=(List.Nodup.mem_erase_iff nd).mp a;have:=h x a.2;omega
  by_cases m:n∈ns
  ·rw [List.length_erase_of_mem m] at this;omega
  ·rw [List.erase_of_not_mem m] at this;omega
theorem PlOk.n63 {ts:List (Str×Str)} {N n j:Nat} {pl:Pl} (h:PlOk ts N n pl) (N63:N<=63) (hj:j < N) (nj:j∉pl.1):n < 63/\pl.1.length < 63:=by
 have:=z66 N (j :: pl.1) (List.nodup_cons.mpr ⟨nj,h.nd⟩) λ x a=>by
  rcases List.mem_cons.mp a with z|z
  ·omega
  ·exact h.lt x z
 rw [X0] at this;rcases h.nb with z|z<;>omega
end
section
variable {P:Program} {w:V0} {mg:Str->Option Value} {base:Heap}
theorem lk_eq {f:Str} {v:V} {fs:List (Str×V)}:(putF f v fs).lookup f=some v:=by rw [z3x,if_pos rfl]
theorem lk_ne {f g:Str} {v:V} {fs:List (Str×V)} (h:g≠f):(putF f v fs).lookup g=fs.lookup g:=by rw [z3x,if_neg h]
theorem lk_n {f g:Str} {v:V} {fs:List (Str×V)} {o:Option V} (e:fs.lookup g=o) (h:g≠f:=by decide +kernel):(putF f v fs).lookup g=o:=(lk_ne h).trans e
theorem zd5 {x dx:Addr} {o1 o2:HO} {H H':Hp} (hx:H x=none) (hd:H dx=none) (k:Kept x (upd (upd H dx o1) x o2) H'):Same H H':=λ p o e=>by
 have a:p≠x:=λ z=>by rw [z,hx] at e;cases e
 have b:p≠dx:=λ z=>by rw [z,hd] at e;cases e
 exact k p o a (by rw [upd_ne a,upd_ne b];exact e)
theorem z3d {K:c0} {ta tv:TE} {f:Str} {rest:TS} {D:Ends} {σ:L2.St} {H:Hp} (h:tv σ H λ y H1=>ta σ H1 λ x H2=>∃a C dx fs,x=.ref a/\H2 a=some (.ins C dx fs)/\Cls K C/\NoAttr K C f/\fs.length < 1000/\rest D σ (upd H2 a (.ins C dx (putF f y fs)))):tSeq (sFld K ta tv f) rest D σ H:=h
theorem zlz {K:c0} {ta tv:TE} {f:Str} {D:Ends} {σ:L2.St} {H:Hp} (h:tv σ H λ y H1=>ta σ H1 λ x H2=>∃a C dx fs,x=.ref a/\H2 a=some (.ins C dx fs)/\Cls K C/\NoAttr K C f/\fs.length < 1000/\D.nx σ (upd H2 a (.ins C dx (putF f y fs)))):sFld K ta tv f D σ H:=h
theorem zeu (f:Str) (v:V) :∀fs:List (Str×V),(putF f v fs).length<=fs.length + 1
 | []=>B0 _
 | (g,x) :: r=>by
  unfold putF;split
  ·simp
  ·have:=zeu f v r;simp only [X0];omega
theorem z1k {K:c0} {x dx C:Addr} {H H1:Hp} {fs:List (Str×V)} {R:L2.St->Hp->Prop} {σ:L2.St} {f:Str} {y:V} {i n:Nat} (k:Kept x H H1) (e:H1 x=some (.ins C dx fs)) (hv:σ[i]? = some (some (.ref x))) (c:Cls K C) (na:NoAttr K C f) (l:fs.length<=n) (hn:n < 100)
  (q :∀H2,Kept x H H2->(∀b o,b≠x->H1 b=some o->H2 b=some o)->H2 x=some (.ins C dx (putF f y fs))->(putF f y fs).length<=n + 1->R σ H2) :
  tVar i σ H1 λ z H2=>∃a C dx fs,z=.ref a/\H2 a=some (.ins C dx fs)/\Cls K C/\NoAttr K C f/\fs.length < 1000/\R σ (upd H2 a (.ins C dx (putF f y fs))):=
 ⟨_,hv,x,C,dx,fs,rfl,e,c,na,by omega,q _ (k.trans .set) (λ b o d g=>by rw [upd_ne d];exact g) z01 (F0 (zeu f y fs) (by omega))⟩
theorem ins_tt {K:c0} {x C dx:Addr} {fs:List (Str×V)} {H H':Hp} (e:H x=some (.ins C dx fs)) (k:Kept x H H'):Tt K H H':=by
 refine ⟨λ a b h=>?_,λ a b h=>k _ _ (λ z=>by rw [z,e] at h;cases h) h⟩;rcases h with (h|⟨ob,h⟩)|h
 ·exact .inl (.inl (k _ _ (λ z=>by rw [z,e] at h;cases h) h))
 ·exact .inl (.inr ⟨ob,k _ _ (λ z=>by rw [z,e] at h;cases h) h⟩)
 ·exact .inr h
theorem zjy {ps:List (Nat×Nat)} {q:Nat×Nat->Bool} {f:Nat×Nat->Nat} {us:List V} (h:All2 (λ (i:Nat) y=>∃p,ps[i]? = some p/\y=V.int (f p:Nat)) ((K1 ps.length).filter λ i=>(ps[i]?.map q).getD false) us) :∃as,us=nsV as/\as.length<=ps.length/\∀a,a∈as↔∃p∈ps,q p=true/\f p=a:=by
 refine ⟨((K1 ps.length).filter λ i=>(ps[i]?.map q).getD false).map λ i=>f (ps[i]?.getD (0,0)),?_,?_,λ a=>?_⟩
 ·generalize (K1 ps.length).filter (λ i=>(ps[i]?.map q).getD false)=is at h;induction h with
  | nil=>rfl
  | cons a r ih=>obtain ⟨p,c,b⟩:=a;rw [ih,b,J1,c];rfl
 ·rw [G0];exact F0 (V2 _ _) (by rw [j2];exact B0 _)
 ·rw [List.mem_map];constructor
  ·rintro ⟨i,d,e⟩;obtain ⟨c,b⟩:=List.mem_filter.mp d;have j:=List.mem_range.mp c;have g:ps[i]? = some ps[i]:=N0 j;rw [g] at b e;exact ⟨_,Q0 g,b,e⟩
  ·rintro ⟨p,g,c,b⟩;obtain ⟨i,d⟩:=List.mem_iff_getElem?.mp g;refine ⟨i,List.mem_filter.mpr ⟨List.mem_range.mpr (List.getElem?_eq_some_iff.mp d).1,?_⟩,?_⟩
   ·rw [d];exact c
   ·rw [d];exact b
theorem dec_iN (i j:Nat):decide (V.int (i:Int)=V.int (j:Int))=decide (i=j):=decide_eq_decide.mpr ⟨λ e=>by have:=V.int.inj e;omega,λ e=>by rw [e]⟩
def z1l (K:c0):Sp:=λ vs H Q _=>∃(x dx lp:Addr) (n:Nat) (iv kv y:V) (zs:List V) (ps:List (Nat×Nat)) (r:Rc),vs=[.ref x,.int n,y,iv,kv,.ref lp]/\H x=some (.ins 347 dx [])/\RcAt K H r y/\H lp=some (.lst zs)/\All2 (PairAt H) ps zs/\ps.length<=10000/\
 ∀fs la lb as bs H',Kept x H H'->H' x=some (.ins 347 dx fs)->fs.lookup ("number" : Str)=some (.int n)->fs.lookup ("thing" : Str)=some iv->fs.lookup ("kind" : Str)=some kv->fs.lookup ("verb" : Str)=some r.v->fs.lookup ("worth" : Str)=some r.x->fs.lookup ("answer" : Str)=some r.a->fs.lookup ("aheads" : Str)=some (.ref la)->fs.lookup ("behinds" : Str)=some (.ref lb)->fs.lookup ("may_stand" : Str)=none->H' la=some (.lst (nsV as))->H' lb=some (.lst (nsV bs))->(∀a,a∈as↔(a,n)∈ps)->(∀b,b∈bs↔(n,b)∈ps)->as.length<=10000->bs.length<=10000->H la=none->H lb=none->Q .non H'
theorem zc5 (T:TX (kx w) mg):Fo P w mg base (CXE P w base) 1 337 y03 ["self","number","deed","thing","kind","pairs"] (z1l (kx w)):=by
 refine (z1w w.params).okE z3z (λ vs H Q E h=>?_) (λ c0 A b8 s H vs Q E hr h=>?_)
 ·obtain ⟨x,dx,O,n,iv,kv,y,D,u,r,rfl,_⟩:=h;rfl
 ·obtain ⟨x,dx,O,n,iv,kv,y,D,u,r,rfl,C,⟨p,rfl,sq⟩,S,al,pl,q⟩:=h;refine ⟨_,(z02 (ps_fld (pv 0) (pv 1) rfl)
   (z02 (ps_fld (pv 0) (pv 3) rfl)
   (z02 (ps_fld (pv 0) (pv 4) rfl)
   (z02 (ps_fld (pv 0) (pe_ix ix_seq (pv 2) pe_int (λ _ _=>rfl)) rfl)
   (z02 (ps_fld (pv 0) (pe_ix ix_seq (pv 2) pe_int (λ _ _=>rfl)) rfl)
   (z02 (ps_fld (pv 0) (pe_ix ix_seq (pv 2) pe_int (λ _ _=>rfl)) rfl)
   (z02 (ps_fld (pv 0) (pe_cg (xs:=["ahead","behind"]) (g:=gTup (kx w) 2 (gCons (gName 0) (gCons (gName 1) gNil))) (fr:=[(1,"number")]) (z22 (pv 5)) (λ _ _ _ _ _=>(pg_tup rfl (z0h (pg_cn (N:=["ahead","behind","number"]) 0) (z0h (pg_cn (N:=["ahead","behind","number"]) 1) z19)))) (λ _ _ _ _ _=>(pf_one (z0a opEq (pv 1) (pv 2) (nomark _)))) (λ _ _ _ _ _=>(pv 0))) rfl)
   (z04 (ps_fld (pv 0) (pe_cg (xs:=["ahead","behind"]) (g:=gTup (kx w) 2 (gCons (gName 0) (gCons (gName 1) gNil))) (fr:=[(1,"number")]) (z22 (pv 5)) (λ _ _ _ _ _=>(pg_tup rfl (z0h (pg_cn (N:=["ahead","behind","number"]) 0) (z0h (pg_cn (N:=["ahead","behind","number"]) 1) z19)))) (λ _ _ _ _ _=>(pf_one (z0a opEq (pv 0) (pv 2) (nomark _)))) (λ _ _ _ _ _=>(pv 1))) rfl))))))))),?_⟩
  have a1 :∀{H1 V:Hp} {l:Addr},Kept x H H1->Kept x H1 V->l≠x->V l=none->H l=none:=λ {H1 V l} k k' nl hl=>by
   cases z:H l with
   | none=>rfl
   | some o=>rw [k' l o nl (k l o nl z)] at hl;cases hl
  refine z3d ⟨_,rfl,z1k Kept.refl C rfl (z0d _) (z0v _) (n:=0) (B0 _) (by decide) λ H1 e _ e1 c=>?_⟩;refine z3d ⟨_,rfl,z1k e e1 rfl (z0d _) (z2g _) c (by decide) λ V d _ e2 c=>?_⟩;refine z3d ⟨_,rfl,z1k d e2 rfl (z0d _) (z32 _) c (by decide) λ H3 k3 _ e3 c=>?_⟩;have t3:Tt (kx w) H H3:=ins_tt C k3;refine z3d ⟨_,rfl,.inr (.inl ⟨p,_,2,r.v,rfl,rfl,t3.t _ _ sq,z0c (j:=2) rfl,z1k k3 e3 rfl (z0d _) (z36 _) c (by decide) λ H4 k4 _ e4 c=>?_⟩)⟩;refine z3d ⟨_,rfl,.inr (.inl ⟨p,_,3,r.x,rfl,rfl,(ins_tt C k4).t _ _ sq,z0c (j:=3) rfl,z1k k4 e4 rfl (z0d _) (z2d _) c (by decide) λ H5 k5 _ e5 c=>?_⟩)⟩;refine z3d ⟨_,rfl,.inr (.inl ⟨p,_,4,r.a,rfl,rfl,(ins_tt C k5).t _ _ sq,z0c (j:=4) rfl,z1k k5 e5 rfl (z0d _) (z16 _) c (by decide) λ H6 U _ e6 c=>?_⟩)⟩;have a5:O≠x:=λ z=>by rw [z,C] at S;cases S
  have zl:D.length=u.length:=z05 al;have a9 :∀{W:Hp},Kept x H W->All2 (PairAt W) u D:=λ k=>z03 (λ _ _ z=>z.elim λ b y=>⟨b,y.1,(ins_tt (K:=KX w.params) C k).l _ _ y.2⟩) al;refine z3d ?_;refine z7b (K:=KX w.params) (a:=O) (xs:=D) (H1:=H6) (λ i=>(u[i]?.map λ p=>decide (p.2=n)).getD false) (λ i y _=>∃p,u[i]? = some p/\y=.int (((λ p:Nat×Nat=>p.1) p:Nat):Int)) (λ _ _ _ _ _ z=>z) (λ R h=>⟨_,rfl,h⟩) (SqL.of (U _ _ a5 S)) (F0 (m:=10000) (by omega) (by decide)) (λ i hi v W Y hv KT KF e d=>?_) λ G H7 us s7 M a3=>?_
  ·obtain ⟨B,hp,b,rfl,eb⟩:=z0i (a9 U) hv;rw [hp] at e d;refine ⟨b,_,rfl,SqT.of (Y _ _ eb),rfl,_,_,rfl,_,_,rfl,rfl,[some (.int B.1),some (.int B.2)],rfl,rfl,?_⟩;refine ⟨_,rfl,_,rfl,rfl,_,rfl,?_⟩;rw [dec_iN];exact ite2 (λ z=>⟨_,rfl,e z _ _ (Same.refl _) ⟨B,rfl,rfl⟩⟩) λ z=>d (Bool.eq_false_iff.mpr z) _ (Same.refl _)
  rw [zl] at a3;obtain ⟨I,rfl,c1,b7⟩:=zjy (q:=λ p=>decide (p.2=n)) (f:=λ p=>p.1) a3;have s8:=s7.trans (Same.upd (o:=.lst (nsV I)) M);have a4:upd H7 G (.lst (nsV I)) G=some (.lst (nsV I)):=z01;have Z:G≠x:=λ z=>by rw [z,s7 _ _ e6] at M;cases M
  generalize upd H7 G (.lst (nsV I))=H8 at s8 a4⊢;refine z1k (U.trans s8.kept) (s8 _ _ e6) rfl (z0d _) (z24 _) c (by decide) λ H9 L b5 e9 c=>?_;have b6:=b5 _ _ Z a4;refine zlz ?_;refine z7b (K:=KX w.params) (a:=O) (xs:=D) (H1:=H9) (λ i=>(u[i]?.map λ p=>decide (p.1=n)).getD false) (λ i y _=>∃p,u[i]? = some p/\y=.int (((λ p:Nat×Nat=>p.2) p:Nat):Int)) (λ _ _ _ _ _ z=>z) (λ R h=>⟨_,rfl,h⟩) (SqL.of (L _ _ a5 S)) (F0 (m:=10000) (by omega) (by decide)) (λ i hi v W Y hv KT KF e d=>?_) λ F a2 us a0 J a7=>?_
  ·obtain ⟨B,hp,b,rfl,eb⟩:=z0i (a9 L) hv;rw [hp] at e d;refine ⟨b,_,rfl,SqT.of (Y _ _ eb),rfl,_,_,rfl,_,_,rfl,rfl,[some (.int B.1),some (.int B.2)],rfl,rfl,?_⟩;refine ⟨_,rfl,_,rfl,rfl,_,rfl,?_⟩;rw [dec_iN];exact ite2 (λ z=>⟨_,rfl,e z _ _ (Same.refl _) ⟨B,rfl,rfl⟩⟩) λ z=>d (Bool.eq_false_iff.mpr z) _ (Same.refl _)
  rw [zl] at a7;obtain ⟨bs,rfl,b9,b2⟩:=zjy (q:=λ p=>decide (p.1=n)) (f:=λ p=>p.2) a7;have X:=a0.trans (Same.upd (o:=.lst (nsV bs)) J);have b0:upd a2 F (.lst (nsV bs)) F=some (.lst (nsV bs)):=z01;have a8:F≠x:=λ z=>by rw [z,a0 _ _ e9] at J;cases J
  generalize upd a2 F (.lst (nsV bs))=H11 at X b0⊢;refine z1k (L.trans X.kept) (X _ _ e9) rfl (z0d _) (z1t _) c (by decide) λ b3 b4 a6 b1 c=>?_;refine q _ G F I bs b3 b4 b1 (lk_n (lk_n (lk_n (lk_n (lk_n (lk_n (lk_n lk_eq))))))) (lk_n (lk_n (lk_n (lk_n (lk_n (lk_n lk_eq)))))) (lk_n (lk_n (lk_n (lk_n (lk_n lk_eq))))) (lk_n (lk_n (lk_n (lk_n lk_eq)))) (lk_n (lk_n (lk_n lk_eq))) (lk_n (lk_n lk_eq)) (lk_n lk_eq) lk_eq (lk_n (lk_n (lk_n (lk_n (lk_n (lk_n (lk_n (lk_n rfl)))))))) (a6 _ _ Z (X _ _ b6)) (a6 _ _ a8 b0) (λ a=>(b7 a).trans ⟨λ ⟨p,h1,h2,h3⟩=>?_,λ h=>⟨_,h,decide_eq_true rfl,rfl⟩⟩) (λ b=>(b2 b).trans ⟨λ ⟨p,h1,h2,h3⟩=>?_,λ h=>⟨_,h,decide_eq_true rfl,rfl⟩⟩) (by omega) (by omega) (a1 U (s7.kept (r:=x)) Z M) (a1 L (a0.kept (r:=x)) a8 J)
  ·rw [<-h3,<-of_decide_eq_true h2];exact h1
  ·rw [<-h3,<-of_decide_eq_true h2];exact h1
def CaAt (H:Hp) (m:Nat) (rs:List Rc) (ts:List (Str×Str)) (n:Nat) (r:Rc) (p:DD) (y:V):Prop:=∃x dx fs la lb as bs,y=.ref x/\H x=some (.ins 347 dx fs)/\fs.lookup ("number" : Str)=some (.int (n:Nat))/\fs.lookup ("thing" : Str)=some (.int (ixT ts p.nm:Nat))/\fs.lookup ("kind" : Str)=some (.str p.k)/\fs.lookup ("verb" : Str)=some r.v/\fs.lookup ("worth" : Str)=some r.x/\fs.lookup ("answer" : Str)=some r.a/\fs.lookup ("aheads" : Str)=some (.ref la)/\fs.lookup ("behinds" : Str)=some (.ref lb)/\fs.lookup ("may_stand" : Str)=none/\H la=some (.lst (nsV as))/\H lb=some (.lst (nsV bs))/\(∀a,a∈as↔z1z m rs a n=true)/\(∀b,b∈bs↔z1z m rs n b=true)/\as.length<=10000/\bs.length<=10000
theorem CaAt.same {H H':Hp} {m:Nat} {rs:List Rc} {ts:List (Str×Str)} {n:Nat} {r:Rc} {p:DD} {y:V} (s:Same H H') (h:CaAt H m rs ts n r p y):CaAt H' m rs ts n r p y:=by obtain ⟨x,o,fs,k,e,d,bs,j,b,a,f,g,i,w,u,q,l,v,z,t,c⟩:=h;exact ⟨x,o,fs,k,e,d,bs,j,s _ _ b,a,f,g,i,w,u,q,l,v,s _ _ z,s _ _ t,c⟩
def z1i (K:c0):Sp:=λ vs H Q _=>∃(y:V) (pa:Addr) (m n:Nat) (rs:List Rc) (ts:List (Str×Str)) (r:Rc) (p:DD) (ns:List Nat),vs=[y,.ref pa]/\CaAt H m rs ts n r p y/\SqT K H pa (nsV ns)/\Q (.bl (cP m rs ns n)) H
theorem z38 (T:TX (kx w) mg):Fo P w mg base CX0 1 344 y02 ["self","done"] (z1i (kx w)):=by
 refine (z1n w.params).ok sc_Candidate_may_stand (λ U H Q E h=>?_) (λ a1 A a0 s H U Q E hr h=>?_)
 ·obtain ⟨y,f,m,n,t,Z,r,p,d,rfl,_⟩:=h;rfl
 ·obtain ⟨y,f,m,n,t,Z,r,p,d,rfl,⟨x,G,fs,R,O,l,bs,rfl,v,X,f2,f3,f4,f5,f6,f7,f8,f9,N,L,M,I,al,bl⟩,C,q⟩:=h;refine ⟨_,(z02 (ps_if (z0a z28 (pe_fld (pv 0) rfl) (pv 1) (by with_unfolding_all rfl))
   (z04 (ps_ret pe_bl))
   z0b)
   (z02 (ps_for S1 rfl (z22 (pe_fld (pv 0) rfl)) (z0j (i:=2) sc_Candidate_may_stand.nd rfl (C1 rfl))
   (z04 (ps_if (z0a z2u (pv 2) (pv 1) (by with_unfolding_all rfl))
   (z04 (ps_ret pe_bl))
   z0b)))
   (z02 (ps_for S1 rfl (z22 (pe_fld (pv 0) rfl)) (z0j (i:=3) sc_Candidate_may_stand.nd rfl (C1 rfl))
   (z04 (ps_if (z0a z28 (pv 3) (pv 1) (by with_unfolding_all rfl))
   (z04 (ps_ret pe_bl))
   z0b)))
   (z04 (ps_ret pe_bl))))),?_⟩
  refine sq_if ?_;refine ⟨_,rfl,x,_,G,fs,_,rfl,v,z0d _,z0v _,X,_,rfl,f,_,rfl,.inr C,rfl,zd8 _,_,rfl,?_⟩;have q:=λ b (h:b=cP m t d n)=>(show Q (.bl b) H from h ▸ q)
  by_cases z1:n∈d
  ·refine iteP ?_ (q _ ?_)
   ·rw [inV_ns];exact decide_eq_true z1
   ·unfold cP cO;rw [decide_eq_false (λ h=>h z1)];rfl
  refine iteN (λ h=>z1 (of_decide_eq_true (by rw [inV_ns] at h;exact h))) ?_;refine t_nx ?_;have J :∀{l:List Nat} {j:Nat} {y:V},(nsV l)[j]? = some y->∃a,l[j]? = some a/\y=.int (a:Nat):=λ h=>by unfold nsV at h;rw [W0] at h;obtain ⟨a,Y,S⟩:=Option.map_eq_some_iff.mp h;exact ⟨a,Y,S.symm⟩
  refine ⟨_,rfl,x,_,G,fs,_,rfl,v,z0d _,z24 _,f7,R,rfl,⟨_,SqL.of N⟩,?_⟩;refine z2o (K:=KX w.params) (a:=R) (xs:=nsV l) (λ i σ o=>o=H/\(∀k a,k < i->l[k]? = some a->a∈d)/\∃x2 x3,σ=[some (.ref x),some (.ref f),x2,x3]) ⟨rfl,λ k a c=>absurd c (z7 _),_,_,rfl⟩ (λ _ σ o _ h=>by rw [h.1];exact SqL.of N) ?_ ?_
  ·rintro j y σ o F ⟨rfl,fj,x2,x3,rfl⟩;obtain ⟨a,g,rfl⟩:=J F;refine g_name ⟨_,rfl,_,rfl,f,_,rfl,.inr C,rfl,zd8 _,_,rfl,?_⟩;by_cases z2:a∈d
   ·refine iteN (λ h=>?_) ⟨rfl,λ k D c e=>?_,_,_,rfl⟩
    ·rw [inV_ns,decide_eq_true z2] at h;cases h
    ·by_cases z:k=j
     ·subst z;rw [g] at e;cases e;exact z2
     ·exact fj k D (by omega) e
   ·refine iteP ?_ (q _ ?_)
    ·rw [inV_ns,decide_eq_false z2];rfl
    ·have h:=(M a).mp (Q0 g);unfold cP cO;rw [decide_eq_false (p:=∀a∈K1 t.length,z1z m t a n=true->a∈d) (λ B=>z2 (B a (List.mem_range.mpr (z5q h).1) h)),K9,P7]
  rintro σ o ⟨rfl,fj,x2,x3,rfl⟩;refine t_nx ?_;have W:cO m t d n=true:=by unfold cO;rw [j3,decide_eq_true_iff,decide_eq_true_iff];refine ⟨z1,λ a _ h=>?_⟩;obtain ⟨k,c⟩:=List.mem_iff_getElem?.mp ((M a).mpr h);exact fj k a (by rw [z9v];exact (List.getElem?_eq_some_iff.mp c).1) c
  refine ⟨_,rfl,x,_,G,fs,_,rfl,v,z0d _,z1t _,f8,O,rfl,⟨_,SqL.of L⟩,?_⟩;refine z2o (K:=KX w.params) (a:=O) (xs:=nsV bs) (λ i σ u=>u=o/\(∀k a,k < i->bs[k]? = some a->a∉d)/\∃x2 x3,σ=[some (.ref x),some (.ref f),x2,x3]) ⟨rfl,λ k a c=>absurd c (z7 _),_,_,rfl⟩ (λ _ σ u _ h=>by rw [h.1];exact SqL.of L) ?_ ?_
  ·rintro j y σ u F ⟨rfl,gj,x2,x3,rfl⟩;obtain ⟨a,g,rfl⟩:=J F;refine g_name ⟨_,rfl,_,rfl,f,_,rfl,.inr C,rfl,zd8 _,_,rfl,?_⟩;by_cases z2:a∈d
   ·refine iteP ?_ (q _ ?_)
    ·rw [inV_ns];exact decide_eq_true z2
    ·have h:=(I a).mp (Q0 g);unfold cP;rw [decide_eq_false (λ B=>B a (List.mem_range.mpr (z5q h).2) h z2),K9]
   ·refine iteN (λ h=>?_) ⟨rfl,λ k D c e=>?_,_,_,rfl⟩
    ·rw [inV_ns] at h;exact z2 (of_decide_eq_true h)
    ·by_cases z:k=j
     ·subst z;rw [g] at e;cases e;exact z2
     ·exact gj k D (by omega) e
  rintro σ u ⟨rfl,gj,x2,x3,rfl⟩;refine t_nx (q _ ?_);unfold cP;rw [W,j3c];refine (decide_eq_true λ b _ h=>?_).symm;obtain ⟨k,c⟩:=List.mem_iff_getElem?.mp ((I b).mpr h);exact gj k b (by rw [z9v];exact (List.getElem?_eq_some_iff.mp c).1) c
theorem zhg {X:Cx} {K:c0} (hK:X.K=K):OpR X (J2 .In) (rIn K false):=hK ▸ z28
def PlZ (K:c0) (H:Hp) (p:Addr) (pl:Pl):Prop:=∃pa pb vs,SqT K H p [.ref pa,.ref pb]/\SqT K H pa (nsV pl.1)/\SqT K H pb vs/\All2 (StZ K H) pl.2 vs
theorem PlZ.tups {K:c0} {H H':Hp} {p:Addr} {pl:Pl} (t:Tups K H H') (h:PlZ K H p pl):PlZ K H' p pl:=by obtain ⟨c,g,f,d,e,b,a⟩:=h;exact ⟨c,g,f,t _ _ d,t _ _ e,t _ _ b,z03 (λ _ _ z=>StZ.tups t z) a⟩
def StpZ (K:c0) (H:Hp) (s:Stp) (y:V):Prop:=∃b p,y=.ref b/\SqT K H b [.int (s.1:Nat),s.2.1,.ref p]/\PlZ K H p s.2.2
theorem StpZ.tups {K:c0} {H H':Hp} {s:Stp} {y:V} (t:Tups K H H') (h:StpZ K H s y):StpZ K H' s y:=by obtain ⟨b,p,c,d,a⟩:=h;exact ⟨b,p,c,t _ _ d,a.tups t⟩
structure ThW (ts:List (Str×Str)):Prop where
 n6:ts.length<=6
 nd:(ts.map (·.1)).Nodup
 ks :∀t∈ts,t.2∈kinds5
theorem ThOk.thw {ts:List (Str×Str)} (h:ThOk ts):ThW ts:=⟨h.n6,h.nd,h.ks⟩
theorem zlb {H:Hp} {k:Str} (hk:k∈kinds5) :∃v,kl_FIRST_STATES.lookup k=some v/\StZ (kx w) H (zeroK k) v:=by
 have b:SqT (kx w) H 187 []:=.inr ⟨⟨.type "tuple",none,.seq #[] 0,#[]⟩,#[],0,by kernel_rfl,rfl,rfl,by decide,.nil⟩;have a:SqT (kx w) H 188 []:=.inr ⟨⟨.type "tuple",none,.seq #[] 0,#[]⟩,#[],0,by kernel_rfl,rfl,rfl,by decide,.nil⟩;unfold kinds5 at hk;simp only [Y0,A0,or_false] at hk;unfold zeroK;rcases hk with rfl|rfl|rfl|rfl|rfl
 ·exact ⟨.int 0,by decide +kernel,by rw [if_neg (by decide +kernel)];rfl⟩
 ·exact ⟨.int 0,by decide +kernel,by rw [if_neg (by decide +kernel)];rfl⟩
 ·exact ⟨.ref 187,by decide +kernel,by rw [if_pos (by decide +kernel)];exact ⟨_,rfl,b⟩⟩
 ·exact ⟨.ref 188,by decide +kernel,by rw [if_pos (by decide +kernel)];exact ⟨_,rfl,a⟩⟩
 ·exact ⟨.int 0,by decide +kernel,by rw [if_neg (by decide +kernel)];rfl⟩
def TaleAt (K:c0) (H:Hp) (t:Addr) (ts:List (Str×Str)) (es:List Ev):Prop:=∃pt te ys,H t=some (.tup [.ref pt,.ref te])/\ThAt H pt ts/\H te=some (.tup ys)/\All2 (EvAt K H) es ys
theorem TaleAt.tt {K:c0} {H H':Hp} {t:Addr} {ts:List (Str×Str)} {es:List Ev} (x:Tt K H H') (h:TaleAt K H t ts es):TaleAt K H' t ts es:=by obtain ⟨pt,f,a,b,d,e,c⟩:=h;exact ⟨pt,f,a,x.l _ _ b,d.tt x,x.l _ _ e,z03 (λ _ _ z=>EvAt.tups x.t z) c⟩
theorem ixT_at {ts:List (Str×Str)} (ok:ThW ts) {t:Str×Str} {i:Nat} (h:ts[i]? = some t):ixT ts t.1=i:=idx_eq ok.nd (by rw [W0,h];rfl)
theorem ixT_of {ts:List (Str×Str)} (ok:ThW ts) {nm k:Str} (h:(nm,k)∈ts):ts[ixT ts nm]? = some (nm,k):=by obtain ⟨i,a⟩:=List.mem_iff_getElem?.mp h;rw [show ixT ts nm=i from ixT_at ok a];exact a
theorem set_sl {K:c0} {σ:L2.St} {H:Hp} {Q:VK} {t1 t2 ti tv tj:TE} {pb:Addr} {vs:List V} {i:Nat} {v:V} (h1 :∀(H':Hp) (R:VK),Same H H'->R (.ref pb) H'->t1 σ H' R) (h2 :∀(H':Hp) (R:VK),Same H H'->R (.ref pb) H'->t2 σ H' R) (hi :∀(H':Hp) (R:VK),Same H H'->R (.int (i:Nat)) H'->ti σ H' R) (hv :∀(H':Hp) (R:VK),Same H H'->R v H'->tv σ H' R) (hj :∀(H':Hp) (R:VK),Same H H'->R (.int ((i:Int) + 1)) H'->tj σ H' R)
  (sq:SqT K H pb vs) (il:i < vs.length) (l9:vs.length<=90) (q :∀p5 H',Same H H'->SqT K H' p5 (vs.set i v)->Q (.ref p5) H') :
  tOp (λ x y H Q=>rCatS K x y H Q\/rCatT K x y H Q) (tOp (λ x y H Q=>rCatS K x y H Q\/rCatT K x y H Q) (tSl (λ x lo hi H Q=>rSlL K x lo hi H Q\/rSlT K x lo hi H Q\/rSlS x lo hi H Q) t1 zhd (tPart ti)) (tTup (tCons tv tNil))) (tSl (λ x lo hi H Q=>rSlL K x lo hi H Q\/rSlT K x lo hi H Q\/rSlS x lo hi H Q) t2 (tPart tj) zhd) σ H Q:=by
 refine h1 _ _ (Same.refl _) (hi _ _ (Same.refl _) ⟨i,rfl,.inr (.inl ⟨pb,vs,rfl,sq,λ z=>?_,λ f C=>?_⟩)⟩)
 ·have:=z.2;rw [HT.sIx_nat] at this;omega
 have s:cutV vs none (some (i:Int))=vs.take i:=by unfold cutV;rw [HT.sIx_none,HT.sIx_nat,N7,Nat.sub_zero,j2a (by omega)]
 have g:=Same.upd (o:=.tup (cutV vs none (some (i:Int)))) C;have r:upd H f (.tup (cutV vs none (some (i:Int)))) f=some (.tup (vs.take i)):=by rw [z01,s]
 generalize upd H f (.tup (cutV vs none (some (i:Int))))=H1 at g r⊢;refine hv _ _ g ⟨w_1,λ A t=>?_⟩;obtain ⟨I,F,k,u⟩:=newA (.tup [v]) t;rw [<-F];refine .inl ⟨f,A,vs.take i,[v],rfl,rfl,SqT.of (k _ _ r),SqT.of u,by simp,F0 (m:=100) (by rw [O4];show _ + 1<=100;omega) (by decide),λ p j E B=>?_⟩;have a:Same H j:=(g.trans k).trans E;refine h2 _ _ a (hj _ _ a ⟨_,rfl,.inr (.inl ⟨pb,vs,rfl,a.seqT sq,λ z=>?_,λ b D=>?_⟩)⟩)
 ·have:=z.1;rw [show (i:Int) + 1=((i + 1:Nat):Int) from rfl,HT.sIx_nat] at this;omega
 have w:cutV vs (some ((i:Int) + 1)) none=vs.drop (i + 1):=by unfold cutV;rw [show (i:Int) + 1=((i + 1:Nat):Int) from rfl,HT.sIx_none,HT.sIx_nat,j2a (by omega)];exact M8 (by rw [O6];exact B0 _)
 have d:=Same.upd (o:=.tup (cutV vs (some ((i:Int) + 1)) none)) D;have h:upd j b (.tup (cutV vs (some ((i:Int) + 1)) none)) b=some (.tup (vs.drop (i + 1))):=by rw [z01,w]
 generalize upd j b (.tup (cutV vs (some ((i:Int) + 1)) none))=H4 at d h⊢;have c:vs.take i++[v]++vs.drop (i + 1)=vs.set i v:=by rw [j0h,if_pos il,j13];rfl
 have e:=d.seqT B;have l:(vs.take i++[v]).length + (vs.drop (i + 1)).length<=sizeLine:=F0 (m:=100) (by rw [<-K0,c,j24];omega) (by decide);by_cases hd:vs.drop (i + 1)=[]
 ·refine .inr ⟨p,b,_,_,rfl,rfl,e,SqT.of h,by simp,l,λ _=>?_,λ z=>absurd hd z⟩;rw [hd,N2] at c;rw [c] at e;exact q _ _ (a.trans d) e
 ·refine .inl ⟨p,b,_,_,rfl,rfl,e,SqT.of h,hd,l,λ p5 J G n=>?_⟩;rw [c] at n;exact q _ _ ((a.trans d).trans G) n
theorem zi5 {α β:Type} {R:α->β->Prop} {xs:List α} {ys:List β} {x:α} {y:β} (h:All2 R xs ys) (hx:R x y) :∀i,All2 R (xs.set i x) (ys.set i y):=by
 induction h with
 | nil=>intro i;exact .nil
 | cons a r ih=>
  intro i;cases i with
  | zero=>exact .cons hx r
  | succ i=>exact .cons a (ih i)
def stq (ts:List (Str×Str)) (p:DD) (n:Nat) (pl:Pl) (s:Sv):Stp:=(n,(dz p.k p.vb p.dt s).2,(srtN (pl.1++[n]),pl.2.set (ixT ts p.nm) (dz p.k p.vb p.dt s).1))
theorem stp_of {ts:List (Str×Str)} {r:Rc} {p:DD} {n:Nat} {pl:Pl} {s:Sv} (h:pl.2[ixT ts p.nm]? = some s):stp ts r p n pl=if r.e.isNone || decide ((dz p.k p.vb p.dt s).2=r.a) then some (stq ts p n pl s) else none:=by unfold stp;rw [h];rfl
def zae (K:c0):Sp:=λ vs H Q _=>∃(y:V) (pp:Addr) (m n k N:Nat) (rs:List Rc) (ts:List (Str×Str)) (r:Rc) (p:DD) (pl:Pl),vs=[y,.ref pp]/\CaAt H m rs ts n r p y/\RcGd K H ts r p/\ThW ts/\PlZ K H pp pl/\PlOk ts N k pl/\N<=63/\n < N/\n∉pl.1/\
 ∀s b q H',pl.2[ixT ts p.nm]? = some s->SvOk k p.k s->Same H H'->H' b=some (.tup [.int (n:Nat),(dz p.k p.vb p.dt s).2,.ref q])->StpZ K H' (stq ts p n pl s) (.ref b)->Q (.ref b) H'
theorem zf1 (T:TX (kx w) mg) (c0:Ca P w mg base "do" ["kind","state","verb","worth"] 5 (sp_do (kx w))):Fo P w mg base CX0 6 396 y1w ["candidate","place"] (zae (kx w)):=by
 refine (z8m w.params).ok sc_step_of (λ e H Q E h=>?_) (λ c4 A c3 s H e Q E hr h=>?_)
 ·obtain ⟨y,O,m,n,k,N,rs,u,r,p,a,rfl,_⟩:=h;rfl
 ·obtain ⟨y,O,m,n,k,N,rs,u,r,p,a,rfl,⟨x,c,fs,la,lb,as,bs,rfl,b,Y,f2,f3,f4,f5,f6,f7,f8,f9,ea,eb,ma,mb,al,bl⟩,gd,ok,⟨pa,Z,e,sp,sa,sb,sz⟩,S,b9,hn,nn,q⟩:=h;refine ⟨_,(z02 (ps_set (i:=2) sc_step_of.nd rfl (C1 rfl) (pe_fld (pv 0) rfl))
   (z02 (ps_set (i:=3) sc_step_of.nd rfl (C1 rfl) (pe_ix ix_seq (pv 1) pe_int (λ _ _=>rfl)))
   (z02 (ps_set (i:=4) sc_step_of.nd rfl (C1 rfl) (pe_cal c0 (hr.mono (by decide)) rfl (z00 (pe_fld (pv 0) rfl) (z00 (pe_ix ix_seq (pv 3) (pv 2) (λ _ _=>rfl)) (z00 (pe_fld (pv 0) rfl) (z00 (pe_fld (pv 0) rfl) pa_nil))))))
   (z02 (ps_set (i:=5) sc_step_of.nd rfl (C1 rfl) (z0z z0l rfl (T.no (z30 _)) S4 (z00 (z09 z4f rfl (T.no (z6p _)) j0f (z00 (pe_op op_catS (pe_ix ix_seq (pv 1) pe_int (λ _ _=>rfl)) (pe_tup (z00 (pe_fld (pv 0) rfl) pa_nil))) pa_nil)) pa_nil)))
   (z04 (ps_ret (pe_tup (z00 (pe_fld (pv 0) rfl) (z00 (pe_ix ix_seq (pv 4) pe_int (λ _ _=>rfl)) (z00 (pe_tup (z00 (pv 5) (z00 (pe_op (op_catS.or zar) (pe_op (op_catS.or zar) (z1b slSeq (pv 3) z2e (z1m (pv 2))) (pe_tup (z00 (pe_ix ix_seq (pv 4) pe_int (λ _ _=>rfl)) pa_nil))) (z1b slSeq (pv 3) (z1m (pe_op opAdd (pv 2) pe_int)) z2e)) pa_nil))) pa_nil)))))))))),?_⟩
  obtain ⟨g1,g2,hm,dk,ix,wi,ga⟩:=gd;have a8:=ixT_of ok hm;obtain ⟨s,hs,W⟩:=z34 S.so a8;obtain ⟨v,hv,hz⟩:=z34 sz hs;obtain ⟨a9,c6⟩:=S.n63 b9 hn nn;have vl:e.length=a.2.length:=z05 sz;have sl:a.2.length=u.length:=z05 S.so;have it:ixT u p.nm < e.length:=(List.getElem?_eq_some_iff.mp hv).1;rw [g2] at f4;refine ⟨_,rfl,x,_,c,fs,_,rfl,b,z0d _,z2g _,f2,?_⟩;refine g_name (t_nx ?_);refine ⟨_,rfl,.inr (.inl ⟨O,_,1,.ref Z,rfl,rfl,sp,z0c (j:=1) rfl,?_⟩)⟩;refine g_name (t_nx ?_);refine ⟨_,rfl,x,_,c,fs,_,rfl,b,z0d _,z32 _,f3,?_⟩;refine ⟨_,rfl,_,rfl,.inr (.inl ⟨Z,e,_,v,rfl,rfl,sb,z0c hv,?_⟩)⟩;refine ⟨_,rfl,x,_,c,fs,_,rfl,b,z0d _,z36 _,f4,?_⟩;refine ⟨_,rfl,x,_,c,fs,_,rfl,b,z0d _,z2d _,f5,?_⟩;refine do_can (w:=w) (E:=E0) W hz a9 dk ix wi λ p6 M K D e6 b3=>?_;refine g_name (t_nx ?_);refine z0o ?_;refine ⟨_,rfl,.inr (.inl ⟨O,_,0,.ref pa,rfl,rfl,D.seqT sp,z0c (j:=0) rfl,?_⟩)⟩;refine ⟨_,rfl,x,_,c,fs,_,rfl,D _ _ b,z0d _,z0v _,Y,w_1,λ B a2=>?_⟩;have U:=D.trans (Same.upd (o:=.tup [.int (n:Nat)]) a2);have u7:=Same.upd (o:=.tup [.int (n:Nat)]) a2;have e7:upd K B (.tup [.int (n:Nat)]) B=some (.tup [.int (n:Nat)]):=z01;generalize upd K B (.tup [.int (n:Nat)])=H7 at U u7 e7⊢;refine ⟨pa,B,nsV a.1,[.int (n:Nat)],rfl,rfl,U.seqT sa,SqT.of e7,by simp,F0 (m:=100) (by rw [z9v];show _ + 1<=100;omega) (by decide),λ b2 H8 r8 q8=>?_⟩;rw [show nsV a.1++[.int (n:Nat)]=((a.1++[n]).map λ (n:Nat)=>(n:Int)).map V.int by unfold nsV;rw [G3,u2];rfl] at q8;refine ⟨b2,_,rfl,.inr q8,by rw [G0,K0];show _ + 1 < 64;omega,λ l3 c5 b0 pm pw=>?_⟩;rw [zm5 pm pw];obtain ⟨H9,l,r9,e9⟩:=newA (.lst (nsV (srtN (a.1++[n])))) b0;rw [<-l];refine ⟨l3,_,rfl,.inl ⟨SqL.of e9,λ g b7=>?_⟩⟩;obtain ⟨a0,l,c2,a6⟩:=newA (.tup (nsV (srtN (a.1++[n])))) b7;rw [<-l];refine g_name ?_;have C:Same K a0:=((u7.trans r8).trans r9).trans c2;have F:=D.trans C;refine sq_ret ?_;refine ⟨_,rfl,x,_,c,fs,_,rfl,F _ _ b,z0d _,z0v _,Y,?_⟩;refine ⟨_,rfl,.inr (.inl ⟨p6,_,1,_,rfl,rfl,SqT.of (C _ _ e6),z0c (j:=1) rfl,?_⟩)⟩;refine ⟨_,rfl,zft (set_sl (i:=ixT u p.nm) (v:=M) (λ I R f h=>⟨_,rfl,h⟩) (λ I R f h=>⟨_,rfl,h⟩) (λ I R f h=>⟨_,rfl,h⟩) (λ I R f h=>⟨_,rfl,.inr (.inl ⟨p6,_,0,M,rfl,rfl,SqT.of (f _ _ (C _ _ e6)),z0c (j:=0) rfl,h⟩)⟩) (λ I R f h=>⟨_,rfl,.inl ⟨_,1,rfl,rfl,h⟩⟩) (F.seqT sb) it (by have:=ok.n6;omega) λ t a3 c1 a7=>?_)⟩;refine ⟨w_2,λ d b8=>⟨w_3,λ b6 a4=>?_⟩⟩;have J:=Same.upd (o:=.tup [.ref g,.ref t]) b8;have X:upd a3 d (.tup [.ref g,.ref t]) d=some (.tup [.ref g,.ref t]):=z01;generalize upd a3 d (.tup [.ref g,.ref t])=H12 at J X a4⊢;obtain ⟨a1,l,L,a5⟩:=newA (.tup [.int (n:Nat),(dz p.k p.vb p.dt s).2,.ref d]) a4;rw [<-l];have G:Same a0 a1:=(c1.trans J).trans L;refine q s b6 d a1 hs W (F.trans G) a5 ⟨b6,d,rfl,SqT.of a5,g,t,e.set (ixT u p.nm) M,SqT.of (L _ _ X),SqT.of (G _ _ a6),(J.trans L).seqT a7,zi5 (z03 (λ _ _ z=>StZ.tups (.of (F.trans G)) z) sz) (b3.tups (.of (C.trans G))) _⟩
def EndL (rs:List Rc) (es:List Nat):Prop:=es.length<=rs.length/\∀n,n∈es↔∃r,rs[n]? = some r/\r.e.isSome=true
def z3s (K:c0):Sp:=λ vs H Q _=>∃(l:Addr) (zs:List V) (rs:List Rc),vs=[.ref l]/\H l=some (.lst zs)/\All2 (RcAt K H) rs zs/\rs.length<=100/\
 ∀le es H',Same H H'->H' le=some (.lst (nsV es))->EndL rs es->Q (.ref le) H'
theorem z6i (T:TX (kx w) mg):Fo P w mg base CX0 1 401 y0c ["told"] (z3s (kx w)):=by
 refine (z29 w.params).ok z7g (λ B H Q E h=>?_) (λ a0 A X s H B Q E Y h=>?_)
 ·obtain ⟨l,f,k,rfl,_⟩:=h;rfl
 ·obtain ⟨l,f,k,rfl,C,o,W,q⟩:=h;refine ⟨_,(z04 (ps_ret (pe_cg (xs:=["number","deed"]) (g:=gTup (kx w) 2 (gCons (gName 0) (gCons (gName 1) gNil))) (fr:=[]) (z8w rfl (T.no (z2f _)) (z00 (pv 0) pa_nil)) (λ _ _ _ _ _=>(pg_tup rfl (z0h (pg_cn (N:=["number","deed"]) 0) (z0h (pg_cn (N:=["number","deed"]) 1) z19)))) (λ _ _ _ _ _=>(pf_one (z0a zdc (pe_ix (zg9 (K:=KX w.params) rfl) (pv 1) pe_int (λ _ _=>rfl)) pe_non (nomark _)))) (λ _ _ _ _ _=>(pv 0))))),?_⟩;have t:f.length=k.length:=z05 o;refine sq_ret ?_;refine zhp (K:=KX w.params) (a:=l) (xs:=f) (H1:=H) (λ i=>(k[i]?.map λ r=>r.e.isSome).getD false) (λ i y _=>y=.int (i:Nat)) (λ _ _ _ _ _ z=>z) (λ R h=>⟨_,rfl,h⟩) (SqL.of C) (F0 (m:=100) (by omega) (by decide)) ?_ ?_
  ·intro i Z v J d O KT U c b;obtain ⟨x,D,L,rfl,F⟩:=O;obtain ⟨r,M,p,rfl,G⟩:=z0i o L;rw [M] at c b;refine ⟨D,_,rfl,SqT.of F,rfl,_,_,rfl,_,_,rfl,rfl,[some (.int (i:Nat)),some (.ref p)],rfl,rfl,?_⟩;refine ⟨_,rfl,.inr (.inl ⟨p,_,6,endV r.e,rfl,rfl,d.seqT G,z0c (j:=6) rfl,rfl,_,rfl,?_⟩)⟩;have c:=λ z=>c (show r.e.isSome=true from z);have b:=λ z=>b (show r.e.isSome=false from z);cases re:r.e with
   | none=>exact iteN (by show ¬ (!decide (V.non=V.non))=true;decide) (b (by rw [re];rfl) _ (Same.refl _))
   | some e=>exact iteP rfl ⟨_,rfl,c (by rw [re];rfl) _ _ (Same.refl _) rfl⟩
  intro le J S d u I;rw [zld I];refine q le _ _ (d.trans (Same.upd u)) z01 ⟨?_,λ n=>?_⟩
  ·exact F0 (V2 _ _) (by rw [j2,t];exact B0 _)
  ·rw [List.mem_filter,List.mem_range,t];constructor
   ·rintro ⟨h1,h2⟩;rw [N0 h1] at h2;exact ⟨_,N0 h1,h2⟩
   ·rintro ⟨r,h1,h2⟩;exact ⟨(List.getElem?_eq_some_iff.mp h1).1,by rw [h1];exact h2⟩
def z6y (K:c0):Sp:=λ vs H Q _=>∃(pa le:Addr) (ns es:List Nat),vs=[.ref pa,.ref le]/\SqT K H pa (nsV ns)/\H le=some (.lst (nsV es))/\es.length<=100/\∀b H',Same H H'->(b=true↔∀n∈es,n∈ns)->Q (.bl b) H'
theorem zc1 (T:TX (kx w) mg):Fo P w mg base CX0 1 406 y18 ["done","numbers"] (z6y (kx w)):=by
 refine (z5g w.params).ok zcb (λ D H Q E h=>?_) (λ a0 A Y s H D Q E Z h=>?_)
 ·obtain ⟨r,le,x,f,rfl,_⟩:=h;rfl
 ·obtain ⟨r,le,x,f,rfl,F,G,S,q⟩:=h;refine ⟨_,(z04 (ps_ret (z09 (z23 rfl) rfl (T.no (n_all _)) x9 (z00 (pe_cg (xs:=["number"]) (g:=gName 0) (fr:=[(0,"done")]) (z22 (pv 1)) (λ _ _ _ _ _=>(pg_cn (N:=["number","done"]) 0)) (λ _ _ _ _ _=>pf_nil) (λ _ _ _ _ _=>(z31 (zhg (K:=KX w.params) rfl) (pv 0) (pv 1) (by with_unfolding_all rfl)))) pa_nil)))),?_⟩;refine sq_ret (e_cb1 ?_);refine z7b (K:=KX w.params) (a:=le) (xs:=nsV f) (H1:=H) (λ _=>true) (λ i y _=>∃n,f[i]? = some n/\y=.bl (decide (n∈x))) (λ _ _ _ _ _ z=>z) (λ R h=>⟨_,rfl,h⟩) (SqL.of G) (F0 (m:=100) (by rw [z9v];omega) (by decide)) ?_ ?_
  ·intro i b v L k p KT U I W;unfold nsV at p;rw [W0] at p;obtain ⟨n,d,rfl⟩:=Option.map_eq_some_iff.mp p;refine ⟨[some (.int (n:Nat))],rfl,rfl,iteT ?_⟩;refine ⟨_,rfl,_,rfl,r,_,rfl,.inr (k.seqT F),rfl,zd8 _,?_⟩;exact I rfl _ _ (Same.refl _) ⟨n,d,by rw [<-inV_ns];rfl⟩
  intro C L l k O c;rw [List.filter_eq_self.mpr (λ _ _=>rfl),z9v] at c;have J:=z05 c;rw [j2] at J;refine ⟨C,l,rfl,SqL.of z01,λ y o=>?_,q _ _ (k.trans (Same.upd O)) ?_⟩
  ·obtain ⟨i,b⟩:=List.mem_iff_getElem?.mp o;obtain ⟨j,_,n,_,e⟩:=z0i c b;exact ⟨_,e⟩
  ·rw [z8];constructor
   ·intro h n d;obtain ⟨i,b⟩:=List.mem_iff_getElem?.mp d;have M:=(List.getElem?_eq_some_iff.mp b).1;have t:l[i]? = some l[i]:=N0 (by omega);obtain ⟨j,B,X,u,e⟩:=z0i c t;rw [Y9 M] at B;cases B;rw [b] at u;cases u;have:=of_decide_eq_true (h _ (Q0 t));rw [e] at this;exact of_decide_eq_true (V.bl.inj this)
   ·intro h y o;obtain ⟨i,b⟩:=List.mem_iff_getElem?.mp o;obtain ⟨j,_,n,d,e⟩:=z0i c b;rw [e,decide_eq_true (h n (Q0 d))];exact decide_eq_true rfl
theorem zi1 {K:c0} {H:Hp} {ts:List (Str×Str)} {vs:List V} (al:All2 (λ (i:Nat) y=>∃t,ts[i]? = some t/\StZ K H (zeroK t.2) y) (K1 ts.length) vs):All2 (StZ K H) (ts.map λ t=>zeroK t.2) vs:=by have e:=z05 al;rw [j2] at e;refine z2i (by rw [G0,e]) λ i z v c f=>?_;rw [W0] at c;obtain ⟨t,b,rfl⟩:=Option.map_eq_some_iff.mp c;obtain ⟨j,d,h,a,g⟩:=z0i al f;rw [Y9 (List.getElem?_eq_some_iff.mp b).1] at d;cases d;rw [b] at a;cases a;exact g
def z4u (K:c0):Sp:=λ vs H Q _=>∃(t:Addr) (ts:List (Str×Str)) (es:List Ev),vs=[.ref t]/\TaleAt K H t ts es/\ThW ts/\∀p H',Same H H'->PlZ K H' p ([],ts.map λ t=>zeroK t.2)->Q (.ref p) H'
theorem z8i (T:TX (kx w) mg) (c0:Ca P w mg base "first_state" ["kind"] 2 z56):Fo P w mg base CX0 3 411 y0m ["tale"] (z4u (kx w)):=by
 refine (z3i w.params).ok z8k (λ d H Q E h=>?_) (λ a7 A a6 s H d Q E hr h=>?_)
 ·obtain ⟨t,u,J,rfl,_⟩:=h;rfl
 ·obtain ⟨t,u,J,rfl,⟨pt,te,ys,I,⟨M,G,k⟩,a4,al⟩,ok,q⟩:=h;refine ⟨_,(z04 (ps_ret (pe_tup (z00 (pe_tup pa_nil) (z00 (z0z z0l rfl (T.no (z30 _)) S4 (z00 (pe_cg (xs:=["name","kind"]) (g:=gTup (kx w) 2 (gCons (gName 0) (gCons (gName 1) gNil))) (fr:=[]) (pi_tup (pe_ix ix_seq (pv 0) pe_int (λ _ _=>rfl))) (λ _ _ _ _ _=>(pg_tup rfl (z0h (pg_cn (N:=["name","kind"]) 0) (z0h (pg_cn (N:=["name","kind"]) 1) z19)))) (λ _ _ _ _ _=>pf_nil) (λ _ _ _ _ _=>(pe_cal c0 (hr.mono (by decide)) rfl (z00 (pv 1) pa_nil)))) pa_nil)) pa_nil))))),?_⟩;refine sq_ret ?_;refine ⟨w_0,λ D a1=>?_⟩;obtain ⟨H3,c,e,e3⟩:=newA (.tup []) a1;rw [<-c];refine zft (e_cb1 ?_);refine z26 (K:=KX w.params) (a:=pt) (xs:=M) (H1:=H3) (λ _=>true) (λ i y W=>∃t,u[i]? = some t/\StZ (kx w) W (zeroK t.2) y) (λ _ _ _ _ s ⟨t,h1,h2⟩=>⟨t,h1,h2.tups (.of s)⟩) (λ R h=>⟨_,rfl,.inr (.inl ⟨t,_,0,.ref pt,rfl,rfl,SqT.of (e _ _ I),z0c (j:=0) rfl,h⟩)⟩) (e.seqT (SqT.of G)) (F0 (m:=6) (by rw [z05 k];exact ok.n6) (by decide)) ?_ ?_
  ·intro i hi v n f o KT KF k1 k2;obtain ⟨t,x,b,rfl,O⟩:=z0i k o;have L:=(e.trans f) _ _ O;obtain ⟨v,o,V⟩:=zlb (w:=w) (H:=n) (ok.ks t (Q0 x));refine ⟨b,_,rfl,SqT.of L,rfl,_,_,rfl,_,_,rfl,rfl,[some (.str t.1),some (.str t.2)],rfl,rfl,iteT ?_⟩;exact ⟨_,rfl,t.2,v,rfl,o,k1 rfl _ _ (Same.refl _) ⟨t,x,V⟩⟩
  intro F n d f S C;rw [List.filter_eq_self.mpr (λ _ _=>rfl),z05 k] at C;obtain ⟨H5,c,X,e5⟩:=newA (.lst d) S;rw [<-c];refine ⟨F,d,rfl,.inl ⟨SqL.of e5,λ p a2=>?_⟩⟩;obtain ⟨H6,c,Y,Z⟩:=newA (.tup d) a2;rw [<-c];refine ⟨w_2,λ U a3=>?_⟩;obtain ⟨B,c,r,e7⟩:=newA (.tup [.ref D,.ref p]) a3;rw [<-c];have l:Same n B:=(X.trans Y).trans r;exact q U B ((e.trans f).trans l) ⟨D,p,d,SqT.of e7,SqT.of ((f.trans l) _ _ e3),SqT.of (r _ _ Z),zi1 (z03 (λ _ _ z=>z.elim λ t y=>⟨t,y.1,y.2.tups (.of l)⟩) C)⟩
def hide (r:Addr) (H:Hp):Hp:=λ p=>if p=r then none else H p
theorem z1j {r p:Addr} {H:Hp} {o:HO} (n:p≠r) (e:H p=some o):hide r H p=some o:=by unfold hide;rw [if_neg n];exact e
theorem hide_same {r:Addr} {H:Hp}:Same (hide r H) H:=λ p o e=>by
 unfold hide at e;by_cases z:p=r
 ·rw [if_pos z] at e;cases e
 ·rw [if_neg z] at e;exact e
theorem zn1 {r p:Addr} {H:Hp} {o:HO} (e:hide r H p=some o):p≠r:=λ z=>by unfold hide at e;rw [if_pos z] at e;cases e
theorem z4v {r:Addr} {H H':Hp} (s:Same H H'):Same (hide r H) (hide r H'):=λ p o e=>z1j (zn1 e) (s _ _ (hide_same _ _ e))
theorem z5f {l:Addr} {H:Hp} {o:HO}:hide l (upd H l o)=hide l H:=by
 funext q;unfold hide;by_cases z:q=l
 ·rw [if_pos z,if_pos z]
 ·rw [if_neg z,if_neg z,upd_ne z]
theorem z9l {ts:List (Str×Str)} {f:Str×Str->Str} {us:List V} (h:All2 (λ (i:Nat) y=>∃t,ts[i]? = some t/\y=V.str (f t)) (K1 ts.length) us):us=ts.map λ t=>V.str (f t):=by
 have b:=z05 h;rw [j2] at b;apply c8;intro i;rw [W0];cases hu:us[i]? with
 | none=>rw [C4 (by have:=List.getElem?_eq_none_iff.mp hu;omega)];rfl
 | some y=>obtain ⟨j,a,t,c,d⟩:=z0i h hu;rw [Y9 (by have:=(List.getElem?_eq_some_iff.mp hu).1;omega)] at a;cases a;rw [c,d];rfl
def CaL (H:Hp) (m:Nat) (rs:List Rc) (ts:List (Str×Str)) (ps:List DD) (cs:List V):Prop:=∀n r p y,rs[n]? = some r->ps[n]? = some p->cs[n]? = some y->CaAt H m rs ts n r p y
structure BoF (K:c0) (H:Hp) (m:Nat) (rs:List Rc) (ts:List (Str×Str)) (ps:List DD) (fs:List (Str×V)):Prop where
 cand :∃lc cs,fs.lookup ("candidates" : Str)=some (.ref lc)/\H lc=some (.lst cs)/\cs.length=rs.length/\CaL H m rs ts ps cs
 first :∃p0,fs.lookup ("first" : Str)=some (.ref p0)/\PlZ K H p0 ([],ts.map λ t=>zeroK t.2)
 ended :∃le en,fs.lookup ("ended" : Str)=some (.ref le)/\H le=some (.lst (nsV en))/\EndL rs en
 kinds :∃lk,fs.lookup ("kinds" : Str)=some (.ref lk)/\H lk=some (.lst (ts.map λ t=>V.str t.2))
 nm :∀z:Str,z∈(["steps_from","ends_at","has_place"]:List Str)->fs.lookup z=none
theorem BoF.same {K:c0} {H H':Hp} {m:Nat} {rs:List Rc} {ts:List (Str×Str)} {ps:List DD} {fs:List (Str×V)} (s:Same H H') (h:BoF K H m rs ts ps fs):BoF K H' m rs ts ps fs:=
 ⟨h.cand.elim λ d z=>z.elim λ g y=>⟨d,g,y.1,s _ _ y.2.1,y.2.2.1,λ n r p v c e b=>(y.2.2.2 n r p v c e b).same s⟩,h.first.elim λ p z=>⟨p,z.1,z.2.tups (.of s)⟩,h.ended.elim λ le z=>z.elim λ f y=>⟨le,f,y.1,s _ _ y.2.1,y.2.2⟩,h.kinds.elim λ a z=>⟨a,z.1,s _ _ z.2⟩,h.nm⟩
def z0r (K:c0):Sp:=λ vs H Q _=>∃(x dx t:Addr) (ts:List (Str×Str)) (es:List Ev) (ps:List DD) (m:Nat),vs=[.ref x,.ref t,.str (z0x m)]/\H x=some (.ins 385 dx [])/\TaleAt K H t ts es/\ThW ts/\es.length<=63/\EWf [] es/\All2 (RcGd K H ts) (dAll 0 [] es) ps/\
 ∀fs H',Kept x H H'->H' x=some (.ins 385 dx fs)->BoF K H' m (dAll 0 [] es) ts ps fs->Q .non H'
theorem zkn (T:TX (kx w) mg) (c0:Ca P w mg base "has_to" ["tale","strictness"] 2 (zd1 (kx w))) (c1:Ca P w mg base "deeds" ["tale"] 1 (zcc (kx w))) (c2:Ca P w mg base "first_place" ["tale"] 3 (z4u (kx w))) (c3:Ca P w mg base "ended_numbers" ["told"] 1 (z3s (kx w))) (c4:Fo P w mg base (CXE P w base) 1 337 y03 ["self","number","deed","thing","kind","pairs"] (z1l (kx w))):Fo P w mg base (CXE P w base) 5 363 y00 ["self","tale","strictness"] (z0r (kx w)):=by
 refine (z1r w.params).okE sc_Board___init__ (λ vs H Q E h=>?_) (λ l5 A k8 s H vs Q E hr h=>?_)
 ·obtain ⟨x,dx,t,u,L,ps,m,rfl,_⟩:=h;rfl
 ·obtain ⟨x,dx,t,u,L,ps,m,rfl,ex,ta,ok,l0,wf,gd,q⟩:=h;refine ⟨_,(z02 (ps_set (i:=3) sc_Board___init__.nd rfl (C1 rfl) (pe_cal c0 (hr.mono (by decide)) rfl (z00 (pv 1) (z00 (pv 2) pa_nil))))
   (z02 (ps_set (i:=4) sc_Board___init__.nd rfl (C1 rfl) (pe_cal c1 (hr.mono (by decide)) rfl (z00 (pv 1) pa_nil)))
   (z02 (ps_fld (pv 0) (pe_cg (xs:=["name","kind"]) (g:=gTup (kx w) 2 (gCons (gName 0) (gCons (gName 1) gNil))) (fr:=[]) (pi_tup (pe_ix ix_seq (pv 1) pe_int (λ _ _=>rfl))) (λ _ _ _ _ _=>(pg_tup rfl (z0h (pg_cn (N:=["name","kind"]) 0) (z0h (pg_cn (N:=["name","kind"]) 1) z19)))) (λ _ _ _ _ _=>pf_nil) (λ _ _ _ _ _=>(pv 1))) rfl)
   (z02 (ps_fld (pv 0) (pe_cal c2 (hr.mono (by decide)) rfl (z00 (pv 1) pa_nil)) rfl)
   (z02 (ps_fld (pv 0) (pe_cal c3 (hr.mono (by decide)) rfl (z00 (pv 4) pa_nil)) rfl)
   (z02 (ps_fld (pv 0) (pe_lst pa_nil) rfl)
   (z02 (zm2 (i:=5) sc_Board___init__.nd rfl (C1 rfl) (xs:=["name","kind"]) (g:=gTup (kx w) 2 (gCons (gName 0) (gCons (gName 1) gNil))) (fr:=[]) rfl (pi_tup (pe_ix ix_seq (pv 1) pe_int (λ _ _=>rfl))) (λ _ z=>absurd z A0) (zhm rfl) (λ _ z=>absurd z A0) (by decide +kernel) rfl (by decide +kernel) (λ _ _ _ _ _=>(pg_tup rfl (z0h (pg_cn (N:=["name","kind"]) 0) (z0h (pg_cn (N:=["name","kind"]) 1) z19)))) (λ _ _ _ _ _=>pf_nil) (λ _ _ _ _ _=>(pv 0)))
   (z04 (PS.nox (ps_for S1 rfl (z8w rfl (T.no (z2f _)) (z00 (pv 4) pa_nil)) (pg_tup rfl (z0h (z0j (i:=6) sc_Board___init__.nd rfl (C1 rfl)) (z0h (z0j (i:=7) sc_Board___init__.nd rfl (C1 rfl)) z19)))
   (z02 (ps_set (i:=8) sc_Board___init__.nd rfl (C1 rfl) (zh9 (pv 5) (z00 (pe_ix ix_seq (pv 7) pe_int (λ _ _=>rfl)) pa_nil)))
   (z04 (z1a (z21 (pe_fld (pv 0) rfl) (z00 (z82 (zc4 _) c4 (hr.mono (by decide)) rfl (T.of (zed _)) (z4a _) .nil passN (z00 (pv 6) (z00 (pv 7) (z00 (pv 8) (z00 (pe_ix ix_seq (pe_fld (pv 0) rfl) (pv 8) (λ _ _=>rfl)) (z00 (pv 3) pa_nil)))))) pa_nil))))))))))))))),?_⟩
  obtain ⟨pt,te,ys,et,⟨yt,d6,Z⟩,d8,al⟩:=id ta;obtain ⟨dw,os,DI⟩:=DInv.all DInv.nil wf;have rl:(dAll 0 [] L).length<=63:=by have:=zbf (i:=0) (rs:=[]) L;simp only [d7,Z8] at this;omega
  refine ⟨_,rfl,_,rfl,t,te,.ref pt,ys,L,m,rfl,SqT.of et,SqT.of d8,al,by omega,dw,λ lp zp H1 s1 l4 d1 ap=>?_⟩;refine g_name (t_nx ?_);refine ⟨_,rfl,t,te,.ref pt,ys,L,rfl,s1.seqT (SqT.of et),s1.seqT (SqT.of d8),z03 (λ _ _ z=>EvAt.tups (.of s1) z) al,by omega,dw,λ lt zt C s2 l2 X ar=>?_⟩;refine g_name (t_nx ?_);have W:=s1.trans s2;generalize dAll 0 [] L=rs at *;have zl:zt.length=rs.length:=z05 ar;have pl:=z5c (m:=m) (rs:=rs) rs.length;have pm:rs.length * rs.length<=63 * 63:=R9 rl rl;have g0 :∀{a:Addr} {o:HO} {S:Hp},S x=some (.ins 385 dx [])->S a=some o->(∀d f,o≠.ins 385 d f)->a≠x:=λ e1 e2 n z=>by rw [z,e1] at e2;cases e2;exact n _ _ rfl
  have a4:=W _ _ ex;have j0:lp≠x:=g0 a4 (s2 _ _ d1) λ _ _ z=>by cases z
  have b6:lt≠x:=g0 a4 X λ _ _ z=>by cases z
  refine z3d ?_;refine z26 (K:=KX w.params) (a:=pt) (xs:=yt) (H1:=C) (λ _=>true) (λ i y _=>∃t,u[i]? = some t/\y=.str t.2) (λ _ _ _ _ s z=>z) (λ R h=>⟨_,rfl,.inr (.inl ⟨t,_,0,.ref pt,rfl,rfl,SqT.of (W _ _ et),z0c (j:=0) rfl,h⟩)⟩) (W.seqT (SqT.of d6)) (F0 (m:=6) (by rw [z05 Z];exact ok.n6) (by decide)) ?_ ?_
  ·intro i hi v H3 s3 hv KT KF k1 k2;obtain ⟨t,ht,b,rfl,eb⟩:=z0i Z hv;refine ⟨b,_,rfl,SqT.of ((W.trans s3) _ _ eb),rfl,_,_,rfl,_,_,rfl,rfl,[some (.str t.1),some (.str t.2)],rfl,rfl,iteT ?_⟩;exact ⟨_,rfl,k1 rfl _ _ (Same.refl _) ⟨t,ht,rfl⟩⟩
  intro D H3 us s3 d0 g7;rw [List.filter_eq_self.mpr (λ _ _=>rfl),z05 Z] at g7;rw [z9l (f:=λ t=>t.2) g7];have d4:=s3.trans (Same.upd (o:=.lst (u.map λ t=>V.str t.2)) d0);have c9:upd H3 D (.lst (u.map λ t=>V.str t.2)) D=some (.lst (u.map λ t=>V.str t.2)):=z01;have d9:D≠x:=λ z=>by rw [z,s3 _ _ a4] at d0;cases d0
  generalize upd H3 D (.lst (u.map λ t=>V.str t.2))=H4 at d4 c9⊢;have s4:=W.trans d4;refine z1k s4.kept (s4 _ _ ex) rfl (z0p _) (z1o _) (n:=0) (B0 _) (by decide) λ H5 k5 e0 e5 Y=>?_;refine z3d ?_;refine ⟨_,rfl,t,u,L,rfl,ta.tt (ins_tt ex k5),ok,λ p0 H6 s6 pz=>?_⟩;refine z1k (k5.trans s6.kept) (s6 _ _ e5) rfl (z0p _) (z1p _) Y (by decide) λ H7 k7 b7 e7 Y=>?_;refine z3d ?_;have b4:Kept x C H7:=(d4.kept.trans e0).trans (s6.kept.trans b7);have j1:Tt (kx w) C H7:=ins_tt a4 b4;refine ⟨_,rfl,lt,zt,rs,rfl,b4 _ _ b6 X,z03 (λ _ _ z=>RcAt.tups j1.t z) ar,by omega,λ le en H8 G a9 EL=>?_⟩;refine z1k (k7.trans G.kept) (G _ _ e7) rfl (z0p _) (z50 _) Y (by decide) λ H9 k9 a0 e9 Y=>?_;refine z3d ⟨w_0,λ c a1=>?_⟩;have I:=Same.upd (o:=.lst []) a1;have h5:upd H9 c (.lst []) c=some (.lst []):=z01;have b2:c≠x:=λ z=>by rw [z,e9] at a1;cases a1
  generalize upd H9 c (.lst [])=H10 at I h5⊢;refine z1k (k9.trans I.kept) (I _ _ e9) rfl (z0p _) (z17 _) Y (by decide) λ d2 f0 a3 d5 Y=>?_;have h0:=a3 _ _ b2 h5;have h8:Kept x C d2:=(b4.trans (G.kept.trans a0)).trans (I.kept.trans a3);have c5:Tt (kx w) H d2:=ins_tt ex f0;refine z0o ?_;refine z26 (K:=KX w.params) (a:=pt) (xs:=yt) (H1:=d2) (λ _=>true) (λ i y _=>∃t,u[i]? = some t/\y=.str t.1) (λ _ _ _ _ s z=>z) (λ R h=>⟨_,rfl,.inr (.inl ⟨t,_,0,.ref pt,rfl,rfl,SqT.of (c5.l _ _ et),z0c (j:=0) rfl,h⟩)⟩) (c5.t _ _ (SqT.of d6)) (F0 (m:=6) (by rw [z05 Z];exact ok.n6) (by decide)) ?_ ?_
  ·intro i hi v c6 a6 hv KT KF k1 k2;obtain ⟨t,ht,b,rfl,eb⟩:=z0i Z hv;refine ⟨b,_,rfl,SqT.of (a6 _ _ (c5.l _ _ eb)),rfl,_,_,rfl,_,_,rfl,rfl,[some (.str t.1),some (.str t.2)],rfl,rfl,iteT ?_⟩;exact ⟨_,rfl,k1 rfl _ _ (Same.refl _) ⟨t,ht,rfl⟩⟩
  intro O c6 us a6 a2 g8;rw [List.filter_eq_self.mpr (λ _ _=>rfl),z05 Z] at g8;rw [z9l (f:=λ t=>t.1) g8];have F:=a6.trans (Same.upd (o:=.lst (u.map λ t=>V.str t.1)) a2);have g5:upd c6 O (.lst (u.map λ t=>V.str t.1)) O=some (.lst (u.map λ t=>V.str t.1)):=z01;have l6:O≠x:=λ z=>by rw [z,a6 _ _ d5] at a2;cases a2
  have j6:O≠c:=λ z=>by rw [z,a6 _ _ h0] at a2;cases a2
  generalize upd c6 O (.lst (u.map λ t=>V.str t.1))=HB at F g5⊢;refine g_name ?_;have eB:=F _ _ d5;have b8:=F _ _ h0;have kB:Kept x H HB:=f0.trans F.kept;have b0:Kept x C HB:=h8.trans F.kept;have b9:C c=none:=by
   cases z:C c with
   | none=>rfl
   | some o=>have:=((b4.trans (G.kept.trans a0))) _ _ b2 z;rw [a1] at this;cases this
  have k3:H c=none:=W.free b9;have i2:lt≠c:=λ z=>by rw [z,b9] at X;cases X
  have i0:lp≠c:=λ z=>by have:=s2 _ _ d1;rw [z,b9] at this;cases this
  have w5:Kept x H4 H5:=e0;have e3:Kept x H4 H9:=(w5.trans (s6.kept.trans b7)).trans (G.kept.trans a0);have g4:D≠c:=λ z=>by have h:=e3 _ _ d9 c9;rw [z,a1] at h;cases h
  have g9:HB D=some (.lst (u.map λ t=>V.str t.2)):=((e3.trans (I.kept.trans a3)).trans F.kept) _ _ d9 c9;refine ⟨_,rfl,lt,zt,rfl,SqL.of (b0 _ _ b6 X),?_⟩;refine z8r (K:=KX w.params) (a:=lt) (xs:=zt) (λ i σ S=>∃B,KeptL [c] HB S/\S c=some (.lst B)/\B.length=i/\CaL (hide c S) m rs u ps B/\∃x6 x7 x8,σ=[some (.ref x),some (.ref t),some (.str (z0x m)),some (.ref lp),some (.ref lt),some (.ref O),x6,x7,x8])
   ⟨[],KeptL.refl,b8,rfl,λ n r p y _ _ h=>(by cases h),_,_,_,rfl⟩ (λ i σ S h=>?_) ?_ ?_
  ·obtain ⟨B,kk,_⟩:=h;exact SqL.of (kk _ _ (by simp [i2]) (b0 _ _ b6 X))
  ·rintro i y σ b1 pq hy ⟨B,k13,e13,cl,ca,x6,x7,x8,rfl⟩ hpq;obtain ⟨a7,v_,sp,i9⟩:=newA (.tup [.int i,y]) hpq;rw [<-v_];refine ⟨pq,_,rfl,SqT.of i9,rfl,.int i,_,rfl,y,_,rfl,rfl,?_⟩;have k6:i < rs.length:=by rw [<-zl];exact (List.getElem?_eq_some_iff.mp hy).1
   obtain ⟨r,h4,py,rfl,g3⟩:=z0i ar hy;obtain ⟨M,i8,g1,g2,hm,dk,ix,wi,ga⟩:=z34 gd h4;have mB :∀l∈[c],MutAt HB l:=λ l hl=>by rw [List.mem_singleton.mp hl];exact .inl ⟨_,b8⟩
   have i3:Tt (kx w) C HB:=ins_tt a4 b0;have d3:Tt (kx w) C a7:=(i3.trans (KeptL.tt k13 mB)).trans (.of sp);have a5:KeptL [c] HB a7:=k13.trans sp.keptL;have e8:=d3.t _ _ g3;rw [g1] at e8;have b5:=ixT_of ok hm;have l3:ixT u M.nm < u.length:=(List.getElem?_eq_some_iff.mp b5).1;have e4:(u.map (·.1))[ixT u M.nm]? = some M.nm:=by rw [W0,b5];rfl
   have i7:u.map (λ t=>V.str t.1)=(u.map (·.1)).map V.str:=by rw [G3];rfl
   have c8:=a5 _ _ (by simp [j6]) g5;rw [i7] at c8;refine ⟨_,rfl,.inl ⟨rfl,_,SqL.of c8⟩,_,rfl,.inr (.inl ⟨py,_,1,.str M.nm,rfl,rfl,e8,z0c (j:=1) rfl,O,u.map (·.1),M.nm,ixT u M.nm,rfl,rfl,c8,F0 (m:=6) (by rw [G0];exact ok.n6) (by decide),e4,λ m' l1 e=>?_,?_⟩)⟩
   ·have:=(List.getElem?_inj (List.getElem?_eq_some_iff.mp e).1 ok.nd).mp (e.trans e4.symm);omega
   refine g_name (t_nx ?_);have h6:=a5 _ _ (by simp [b2.symm]) eB;have a8:=sp _ _ e13;have i4:=a5 _ _ (by simp [g4]) g9;have h9:=a5 _ _ (by simp [i0]) (b0 _ _ j0 (s2 _ _ d1));refine ⟨_,rfl,x,_,dx,_,_,rfl,h6,z0p _,z17 _,lk_eq,.inl ⟨rfl,_,SqL.of a8⟩,?_⟩;refine ⟨_,rfl,_,rfl,_,rfl,_,rfl,x,_,dx,_,_,rfl,h6,z0p _,z1o _,lk_n (lk_n (lk_n lk_eq)),?_⟩;refine ⟨_,rfl,.inl ⟨D,_,_,.str M.k,rfl,rfl,SqL.of i4,z0c (by rw [W0,b5];rfl),?_⟩⟩;refine ⟨_,rfl,λ xc dc b3 e6 nc=>?_⟩;have sC:Same a7 (upd (upd a7 dc (.own xc)) xc (.ins 347 dc [])):=(Same.upd e6).trans (Same.upd (by rw [upd_ne nc.symm];exact b3));refine ⟨xc,dc,lp,i,_,_,.ref py,zp,z35 m rs rs.length,r,rfl,z01,⟨py,rfl,sC.seqT (d3.t _ _ g3)⟩,sC _ _ h9,z03 (λ _ _ z=>z.elim λ b y=>⟨b,y.1,sC _ _ (d3.l _ _ (s2 _ _ y.2))⟩) ap,by omega,λ fs la lb as bs j9 i6 j2 f1 f2 f3 f4 f5 f6 f7 f8 f9 ea eb ma mb j7 j3 fa fb=>⟨rfl,?_⟩⟩;have c7:Same a7 j9:=zd5 b3 e6 i6;have i5:=c7 _ _ a8;refine ⟨c,B,_,rfl,rfl,i5,T1 (m:=100) (by omega) (by decide),?_⟩;have k4:xc≠c:=λ z=>by rw [z,a8] at b3;cases b3
   have k0:la≠c:=λ z=>by rw [z,sC _ _ a8] at fa;cases fa
   have h7:lb≠c:=λ z=>by rw [z,sC _ _ a8] at fb;cases fb
   refine ⟨B++[.ref xc],(a5.trans c7.keptL).trans (KeptL.set (by simp)),z01,by rw [K0];show B.length + 1=_;omega,λ n r' p' y' U h2 J=>?_,_,_,_,rfl⟩;rw [z5f];by_cases z:n < B.length
   ·rw [Q2 z] at J;exact (ca n r' p' y' U h2 J).same (z4v (sp.trans c7))
   ·have hn:n=B.length:=by have:=(List.getElem?_eq_some_iff.mp J).1;rw [K0] at this;have:n < B.length + 1:=this;omega
    rw [hn,B2 (B0 _),Nat.sub_self] at J;cases J;rw [hn,cl] at U h2;rw [h4] at U;rw [i8] at h2;cases U;cases h2;rw [hn,cl];exact ⟨xc,dc,fs,la,lb,as,bs,rfl,z1j k4 j2,f1,f2,f3,f4,f5,f6,f7,f8,f9,z1j k0 ea,z1j h7 eb,λ a=>(ma a).trans ⟨λ h=>(mem_pairsTo.mp h).2.2,λ h=>mem_pairsTo.mpr ⟨(z5q h).1,(z5q h).2,h⟩⟩,λ b=>(mb b).trans ⟨λ h=>(mem_pairsTo.mp h).2.2,λ h=>mem_pairsTo.mpr ⟨(z5q h).1,(z5q h).2,h⟩⟩,j7,j3⟩
  ·rintro σ b1 ⟨B,k13,e13,cl,ca,x6,x7,x8,rfl⟩;have j5 :∀b o,b≠x->b≠c->H8 b=some o->b1 b=some o:=λ b o n1 n2 e=>k13 _ _ (by simp [n2]) (F _ _ (a3 _ _ n1 (I _ _ (a0 _ _ n1 e))));have g6:le≠x:=λ z=>by rw [z,G _ _ e7] at a9;cases a9
   have i1:le≠c:=λ z=>by have h:=a0 _ _ g6 a9;rw [z,a1] at h;cases h
   have j8 :∀l∈[c],MutAt HB l:=λ l hl=>by rw [List.mem_singleton.mp hl];exact .inl ⟨_,b8⟩
   have j4:Tt (kx w) H6 b1:=((ins_tt (s6 _ _ e5) b7).trans ((Tt.of G).trans ((ins_tt (G _ _ e7) a0).trans ((Tt.of I).trans ((ins_tt (I _ _ e9) a3).trans (.of F)))))).trans (KeptL.tt k13 j8);refine q _ b1 (λ b o nb e=>k13 _ _ (λ z=>by rw [List.mem_singleton.mp z,k3] at e;cases e) (kB b o nb e)) (k13 _ _ (by simp [b2.symm]) eB) ⟨⟨c,B,lk_eq,e13,by omega,λ n r p y U h2 J=>(ca n r p y U h2 J).same hide_same⟩,⟨p0,lk_n (lk_n lk_eq),pz.tups j4.t⟩,⟨le,en,lk_n lk_eq,j5 _ _ g6 i1 a9,EL⟩,⟨D,lk_n (lk_n (lk_n lk_eq)),k13 _ _ (by simp [g4]) g9⟩,λ z hz=>?_⟩;simp only [Y0,A0,or_false] at hz;rcases hz with rfl|rfl|rfl<;>exact (lk_n (lk_n (lk_n (lk_n rfl))))
theorem zlh {α β:Type} {R:α->β->Prop} {xs xs':List α} {ys ys':List β} (h:All2 R xs ys) (h':All2 R xs' ys'):All2 R (xs++xs') (ys++ys'):=by
 induction h with
 | nil=>exact h'
 | cons a r ih=>exact .cons a ih
theorem if_any {tc:TT} {ta tb:TS} {D:Ends} {σ:L2.St} {H:Hp} (R:Hp->Prop) (k :∀H',R H'->ta D σ H') (h:(∀H',R H'->ta D σ H')->tIfS tc ta tb D σ H):tIfS tc ta tb D σ H:=h k
def BoAt (K:c0) (H:Hp) (m:Nat) (rs:List Rc) (ts:List (Str×Str)) (ps:List DD) (b:Addr):Prop:=∃dx fs,H b=some (.ins 385 dx fs)/\BoF K H m rs ts ps fs
theorem BoAt.same {K:c0} {H H':Hp} {m:Nat} {rs:List Rc} {ts:List (Str×Str)} {ps:List DD} {b:Addr} (s:Same H H') (h:BoAt K H m rs ts ps b):BoAt K H' m rs ts ps b:=h.elim λ a z=>z.elim λ fs y=>⟨a,fs,s _ _ y.1,y.2.same s⟩
def z0w (K:c0):Sp:=λ vs H Q _=>∃(b pp:Addr) (m k:Nat) (rs:List Rc) (ts:List (Str×Str)) (ps:List DD) (pl:Pl),vs=[.ref b,.ref pp]/\BoAt K H m rs ts ps b/\All2 (RcGd K H ts) rs ps/\ThW ts/\PlZ K H pp pl/\PlOk ts rs.length k pl/\rs.length<=63/\
 ∀l ys H',Same H H'->H l=none->H' l=some (.lst ys)->All2 (StpZ K H') (nexT (cP m rs pl.1) ts rs ps pl rs.length) ys->Q (.ref l) H'
theorem z58 (T:TX (kx w) mg) (c0:Fo P w mg base CX0 1 344 y02 ["self","done"] (z1i (kx w))) (c1:Ca P w mg base "step_of" ["candidate","place"] 6 (zae (kx w))):Fo P w mg base CX0 7 370 y01 ["self","place"] (z0w (kx w)):=by
 refine (z2h w.params).ok sc_Board_steps_from (λ vs H Q E h=>?_) (λ a5 A a4 s H vs Q E hr h=>?_)
 ·obtain ⟨b,u,m,k,d,l,C,c,rfl,_⟩:=h;rfl
 ·obtain ⟨b,u,m,k,d,l,C,c,rfl,⟨dx,fs,eb,⟨⟨lc,cs,fc,ec,cl,ca⟩,_,_,_,fn⟩⟩,gd,ok,pz,po,rl,q⟩:=h;refine ⟨_,(z02 (ps_set (i:=2) sc_Board_steps_from.nd rfl (C1 rfl) (pe_lst pa_nil))
   (z02 (ps_for S1 rfl (z22 (pe_fld (pv 0) rfl)) (z0j (i:=3) sc_Board_steps_from.nd rfl (C1 rfl))
   (z04 (ps_if (pt_val (z78 (pv 3) (z0d _) (z3t _) c0 (hr.mono (by decide)) (z3y _) .nil pass0 (z00 (pe_ix ix_seq (pv 1) pe_int (λ _ _=>rfl)) pa_nil)) (λ _=>rfl))
   (z02 (ps_set (i:=4) sc_Board_steps_from.nd rfl (C1 rfl) (pe_cal c1 (hr.mono (by decide)) rfl (z00 (pv 3) (z00 (pv 1) pa_nil))))
   (z04 (ps_if (PW.pt (pw_or (z0a op_isN (pe_fld (pv 3) rfl) pe_non (nomark _)) (pw_or1 (z0a opEq (pe_fld (pv 3) rfl) (pe_ix ix_seq (pv 4) pe_int (λ _ _=>rfl)) (nomark _)))))
   (z04 (z1a (z21 (pv 2) (z00 (pv 4) pa_nil))))
   z0b)))
   z0b)))
   (z04 (ps_ret (pv 2))))),?_⟩
  refine ⟨w_0,λ o M=>?_⟩;obtain ⟨H1,v_,Y,F⟩:=newA (.lst []) M;rw [<-v_];refine g_name (t_nx ?_);refine ⟨_,rfl,b,_,dx,fs,_,rfl,Y _ _ eb,z0p _,z17 _,fc,lc,rfl,⟨_,SqL.of (Y _ _ ec)⟩,?_⟩;refine z2o (K:=KX w.params) (a:=lc) (xs:=cs) (λ i σ f=>∃ys,Same H f/\f o=some (.lst ys)/\All2 (StpZ (kx w) f) (nexT (cP m d c.1) l d C c i) ys/\∃x3 x4,σ=[some (.ref b),some (.ref u),some (.ref o),x3,x4])
   ⟨[],Y,F,.nil,_,_,rfl⟩ (λ i σ f _ h=>SqL.of (h.choose_spec.1 _ _ ec)) ?_ ?_
  ·rintro i y σ H2 hy ⟨ys,s2,e2,al2,x3,x4,rfl⟩;have J:i < d.length:=by rw [<-cl];exact (List.getElem?_eq_some_iff.mp hy).1
   have D:d[i]? = some d[i]:=N0 J;obtain ⟨p,O,g⟩:=z34 gd D;generalize d[i]=r at D g;have N:=(ca i r p y D O hy).same s2;obtain ⟨pa,pb,vs,sp,sa,sb,sz⟩:=id pz;refine g_name ?_;have a3 :∀{f:Hp} {R:VK},Same H f->R (.ref pa) f->tOp (rIx (kx w)) (tVar 1) (tC (.int 0)) [some (.ref b),some (.ref u),some (.ref o),some y,x4] f R:=λ B h=>⟨_,rfl,.inr (.inl ⟨u,_,0,.ref pa,rfl,rfl,B.seqT sp,z0c (j:=0) rfl,h⟩)⟩
   have skip:cP m d c.1 i=false\/stp l r p i c=none->∀{x3 x4:Option V} {f:Hp},Same H2 f->∃ys,Same H f/\f o=some (.lst ys)/\All2 (StpZ (kx w) f) (nexT (cP m d c.1) l d C c (i + 1)) ys/\∃x3' x4',[some (.ref b),some (.ref u),some (.ref o),x3,x4]=[some (.ref b),some (.ref u),some (.ref o),x3',x4']:=λ h {x3 x4 f} B=>by
    refine ⟨ys,s2.trans B,B _ _ e2,?_,_,_,rfl⟩;rw [z9d,show nexAt (cP m d c.1) l d C c i=none by
     unfold nexAt;rcases h with h|h
     ·rw [h];rfl
     ·rw [D,O];split<;>first|exact h|rfl]
    rw [j53,N2];exact z03 (λ _ _ z=>StpZ.tups (.of B) z) al2
   obtain ⟨x,W,I,la,lb,as,bs,rfl,G,f1,f2,f3,f4,f5,f6,f7,f8,f9,_⟩:=id N;refine ⟨_,rfl,x,W,I,rfl,G,f9,a3 s2 ⟨.ref x,pa,m,i,d,l,r,p,c.1,rfl,N,s2.seqT sa,_,rfl,?_⟩⟩;cases hc:cP m d c.1 i with
   | false=>exact iteF (skip (.inl hc) (Same.refl _))
   | true=>
   refine iteT ?_;have ni:i∉c.1:=of_decide_eq_true (Bool.and_eq_true_iff.mp (Bool.and_eq_true_iff.mp hc).1).1;refine ⟨_,rfl,_,rfl,.ref x,u,m,i,k,d.length,d,l,r,p,c,rfl,N,g.tt (.of s2),ok,pz.tups (.of s2),po,rl,J,ni,λ S U q6 H3 a2 so v e3 a0=>?_⟩;refine g_name (t_nx ?_);have X:=stp_of (r:=r) (n:=i) a2;refine if_any (λ f=>H3=f/\stp l r p i c=some (stq l p i c S)) ?_ λ put=>?_;rotate_left
   ·refine t_or ?_;refine ⟨_,rfl,x,_,W,I,_,rfl,v _ _ G,z0d _,z16 _,f6,rfl,_,rfl,?_⟩;have a1:=dz_ok g.2.2.2.1 so (po.n63 rl J ni).1;rcases g.2.2.2.2.2.2 with ⟨L,t⟩|⟨L,t⟩
    ·refine iteP (by rw [t];rfl) (iteT (put _ ⟨rfl,?_⟩));rw [X,L];rfl
    have na:¬ decide (r.a=V.non)=true:=λ h=>by have:=of_decide_eq_true h;rcases t with ⟨j,t⟩|⟨j,t⟩<;>(rw [t] at this;cases this)
    have F:r.e.isNone=false:=Option.isNone_eq_false_iff.mpr L;refine iteN na ?_;refine ⟨_,rfl,x,_,W,I,_,rfl,v _ _ G,z0d _,z16 _,f6,?_⟩;refine ⟨_,rfl,.inr (.inl ⟨U,_,1,_,rfl,rfl,SqT.of e3,z0c (j:=1) rfl,IsA.scal (.inl t) (.inl a1.2.isA),_,rfl,?_⟩)⟩;by_cases za:r.a=(dz p.k p.vb p.dt S).2
    ·refine iteP (decide_eq_true za) (put _ ⟨rfl,?_⟩);rw [X,F,j3d,decide_eq_true za.symm];rfl
    ·refine iteN (λ h=>za (of_decide_eq_true h)) (skip (.inr ?_) v);rw [X,F,j3d,decide_eq_false (λ h=>za h.symm)];rfl
   rintro f ⟨rfl,hst⟩;have Z:=v _ _ e2;have yl:ys.length<=i:=by rw [z05 al2];exact zfr
   refine ⟨_,rfl,.inl ⟨rfl,_,SqL.of Z⟩,_,rfl,o,ys,_,rfl,rfl,Z,T1 (m:=100) (by omega) (by decide),?_⟩;have tu:Tups (kx w) H3 (upd H3 o (.lst (ys++[.ref U]))):=Tups.lst Z;refine ⟨ys++[.ref U],Same.keep (s2.trans v) M,z01,?_,_,_,rfl⟩;rw [z9d,show nexAt (cP m d c.1) l d C c i=some (stq l p i c S) by unfold nexAt;rw [if_pos hc,D,O];exact hst];exact zlh (z03 (λ _ _ z=>(StpZ.tups (.of v) z).tups tu) al2) (.cons (a0.tups tu) .nil)
  ·rintro σ H2 ⟨ys,s2,e2,al2,x3,x4,rfl⟩;rw [cl] at al2;exact ⟨_,rfl,q o ys H2 s2 M e2 al2⟩
end
section
theorem cut_to {ys:List V} {m:Nat} (h:m<=ys.length):cutV ys none (some (m:Int))=ys.take m/\HT.sIx ys.length 0 none=0/\HT.sIx ys.length ys.length (some (m:Int))=m:=by
 have a:HT.sIx ys.length 0 none=0:=by simp [HT.sIx]
 have b:HT.sIx ys.length ys.length (some (m:Int))=m:=by simp [HT.sIx];rw [if_neg (by omega)];exact j2a h
 refine ⟨?_,a,b⟩;unfold cutV;rw [a,b,N7,Nat.sub_zero]
end
section
variable {P:Program} {w:V0} {mg:Str->Option Value} {base:Heap}
def z42 (K:c0):Sp:=λ vs H Q _=>∃(a:Addr) (ns:List Int),vs=[.ref a,.int 0]/\SqL K H a (ns.map V.int)/\∀i,Q (.int i) H
theorem z7o (T:TX (kx w) mg):Fo P w mg base CX0 1 456 y07 ["script","k"] (z42 (kx w)):=by
 refine (z15 w.params).ok z43 (λ d H Q E h=>?_) (λ f A g s H d Q E e h=>?_)
 ·obtain ⟨a,b,rfl,_⟩:=h;rfl
 ·obtain ⟨a,b,rfl,c,q⟩:=h;refine ⟨_,(z02 (ps_if (z0a op_lt (pv 1) (z09 z2m rfl (T.no (n_len _)) L5 (z00 (pv 0) pa_nil)) (nomark _))
   (z04 (ps_ret (pe_ix ix_seq (pv 0) (pv 1) (λ _ _=>rfl))))
   z0b)
   (z04 (ps_ret pe_int))),?_⟩
  refine ⟨_,rfl,_,rfl,.inl ⟨a,_,rfl,.inl c,_,_,rfl,rfl,_,rfl,?_⟩⟩;cases b with
  | nil=>exact iteF (q 0)
  | cons n b=>rw [if_pos (by simp)];exact ⟨_,rfl,_,rfl,.inl ⟨a,_,0,.int n,rfl,rfl,c,z0c (xs:=(n :: b).map V.int) (j:=0) rfl,q n⟩⟩
def DeckAt (H:Hp) (r:Addr) (n:Nat):Prop:=∃a b c:Int,H r=some (.lst [.int a,.int b,.int c])/\0<=b/\b < 2/\0<=c/\c<=n
theorem DeckAt.same {H H':Hp} {r:Addr} {n:Nat} (h:DeckAt H r n) (s:Same H H'):DeckAt H' r n:=by obtain ⟨a,b,c,e,z⟩:=h;exact ⟨a,b,c,s _ _ e,z⟩
theorem DeckAt.fresh {r p:Addr} {H:Hp} {n:Nat} (h:DeckAt H r n) (e:H p=none):p≠r:=λ z=>by obtain ⟨a,b,c,d,_⟩:=h;rw [z,d] at e;cases e
structure Dw (r:Addr) (n:Nat) (H H':Hp):Prop where
 k:Kept r H H'
 r:DeckAt H' r n
theorem Dw.trans {r:Addr} {n m:Nat} {H H1 H2:Hp} (a:Dw r n H H1) (b:Dw r m H1 H2):Dw r m H H2:=⟨a.k.trans b.k,b.r⟩
theorem Dw.same {r:Addr} {n:Nat} {H H1 H2:Hp} (a:Dw r n H H1) (s:Same H1 H2):Dw r n H H2:=⟨a.k.trans s.kept,a.r.same s⟩
theorem DeckAt.dw {r:Addr} {n:Nat} {H:Hp} (h:DeckAt H r n):Dw r n H H:=⟨.refl,h⟩
theorem Dw.free {r:Addr} {n:Nat} {H H':Hp} {p:Addr} (h:Dw r n H H') (e:H' p=none):H p=none:=by
 cases z:H p with
 | none=>rfl
 | some o=>rw [h.k _ _ (h.r.fresh e) z] at e;cases e
def z1u:Sp:=λ vs H Q _=>∃(r:Addr) (m:Int) (n:Nat),vs=[.ref r,.int m]/\DeckAt H r n/\n < 10000/\0 < m/\m < 2 ^ 64/\∀t H',Dw r (n + 1) H H'->0<=t->t < m->Q (.int t) H'
theorem zbn (T:TX (kx w) mg):Fo P w mg base CX0 1 463 y19 ["deck","many"] z1u:=by
 refine (z5k w.params).ok sc__law_take (λ l H Q E h=>?_) (λ F A v s H l Q E z h=>?_)
 ·obtain ⟨r,m,n,rfl,_⟩:=h;rfl
 ·obtain ⟨r,m,n,rfl,⟨a,b,c,e,k,g,p,t⟩,C,f,o,q⟩:=h;refine ⟨_,(z02 (ps_if (z0a opEq (pe_ix ix_seq (pv 0) pe_int (λ _ _=>rfl)) pe_int (nomark _))
   (z02 (ps_set (i:=2) sc__law_take.nd rfl (C1 rfl) (pe_op op_mod (pe_ix ix_seq (pv 0) pe_int (λ _ _=>rfl)) (pv 1)))
   (z02 (ps_asg (pe_op z6d (pe_ix ix_seq (pv 0) pe_int (λ _ _=>rfl)) (pv 1)) (pg_sub (pv 0) pe_int z8n))
   (z04 (ps_ret (pv 2)))))
   z0b)
   (z02 (ps_asg (pe_op opAdd (pe_ix ix_seq (pv 0) pe_int (λ _ _=>rfl)) pe_int) (pg_sub (pv 0) pe_int z8n))
   (z02 (ps_set (i:=3) sc__law_take.nd rfl (C1 rfl) (pe_op op_mod (pe_op opAdd (pe_op op_mul (pe_op op_mod (pe_ix ix_seq (pv 0) pe_int (λ _ _=>rfl)) pe_int) (pe_op opAdd (pe_op op_mul (pe_ix ix_seq (pv 0) pe_int (λ _ _=>rfl)) (pe_ix ix_seq (pv 0) pe_int (λ _ _=>rfl))) pe_int)) (pe_ix ix_seq (pv 0) pe_int (λ _ _=>rfl))) pe_int))
   (z02 (ps_set (i:=3) sc__law_take.nd rfl (C1 rfl) (pe_op op_mod (pe_op op_mul (pv 3) (pv 3)) pe_int))
   (z04 (ps_ret (pe_op op_mod (pe_op z6d (pe_op op_mod (pe_op op_mul (pv 3) pe_int) pe_int) pe_int) (pv 1)))))))),?_⟩
  refine ⟨_,rfl,.inl ⟨r,_,1,.int b,rfl,rfl,SqL.of e,rfl,rfl,_,rfl,?_⟩⟩;refine ite2 (λ _=>?_) λ _=>?_
  ·refine ⟨_,rfl,.inl ⟨r,_,0,.int a,rfl,rfl,SqL.of e,rfl,_,rfl,_,_,rfl,rfl,f,?_⟩⟩;refine ⟨_,rfl,.inl ⟨r,_,0,.int a,rfl,rfl,SqL.of e,rfl,_,rfl,_,_,rfl,rfl,⟨f,o⟩,?_⟩⟩;refine ⟨_,rfl,r,_,0,0,rfl,rfl,e,rfl,?_⟩;exact ⟨_,rfl,q _ _ ⟨.set,_,b,c,z01,k,g,p,by omega⟩ (j6 _ (by omega)) (Y4 _ f)⟩
  ·refine ⟨_,rfl,.inl ⟨r,_,2,.int c,rfl,rfl,SqL.of e,rfl,.inl ⟨_,_,rfl,rfl,?_⟩⟩⟩;refine ⟨_,rfl,r,_,2,2,rfl,rfl,e,rfl,?_⟩;have d:upd H r (.lst ([V.int a,.int b,.int c].set 2 (.int (c + 1)))) r=some (.lst [.int a,.int b,.int (c + 1)]):=z01;have j:Kept r H (upd H r (.lst ([V.int a,.int b,.int c].set 2 (.int (c + 1))))):=.set;generalize upd H r (.lst ([V.int a,.int b,.int c].set 2 (.int (c + 1))))=H2 at d j⊢;have D:0<=a % 2147483647:=j6 _ (by decide);have y:a % 2147483647 < 2147483647:=Y4 _ (by decide);refine ⟨_,rfl,.inl ⟨r,_,0,.int a,rfl,rfl,SqL.of d,rfl,_,_,rfl,rfl,(show (0:Int) < 2147483647 by decide),?_⟩⟩;refine ⟨_,rfl,.inl ⟨r,_,2,.int (c + 1),rfl,rfl,SqL.of d,rfl,_,rfl,.inl ⟨r,_,2,.int (c + 1),rfl,rfl,SqL.of d,rfl,_,_,rfl,rfl,.inl ⟨by omega,by omega⟩,.inl ⟨_,_,rfl,rfl,?_⟩⟩⟩⟩;refine ⟨_,_,rfl,rfl,.inl ⟨by omega,by omega⟩,_,rfl,.inl ⟨r,_,2,.int (c + 1),rfl,rfl,SqL.of d,rfl,.inl ⟨_,_,rfl,rfl,?_⟩⟩⟩;refine ⟨_,_,rfl,rfl,(show (0:Int) < 2147483629 by decide),?_⟩;generalize hx:(a % 2147483647 * ((c + 1) * (c + 1) + 48271) + (c + 1)) % 2147483629=x;have u:0<=x:=by rw [<-hx];exact j6 _ (by decide)
   have B:x < 2147483629:=by rw [<-hx];exact Y4 _ (by decide)
   refine ⟨_,rfl,_,rfl,_,_,rfl,rfl,.inl ⟨by omega,by omega⟩,_,_,rfl,rfl,(show (0:Int) < 2147483587 by decide),?_⟩;refine ⟨_,rfl,_,_,rfl,rfl,.inr (by decide),_,_,rfl,rfl,(show (0:Int) < 2147483563 by decide),_,_,rfl,rfl,⟨by decide,by decide⟩,_,rfl,_,_,rfl,rfl,f,?_⟩;exact q _ _ ⟨j,a,b,c + 1,d,k,g,by omega,by omega⟩ (j6 _ (by omega)) (Y4 _ f)
def z5t:Sp:=λ vs H Q _=>∃(r:Addr) (n:Nat),vs=[.ref r]/\DeckAt H r n/\n < 10000/\∀i H',Dw r (n + 1) H H'->near i->Q (.int i) H'
theorem z9u (T:TX (kx w) mg) (c0:Ca P w mg base "_law_take" ["deck","many"] 1 z1u):Fo P w mg base CX0 2 480 y10 ["deck"] z5t:=by
 refine (z4p w.params).ok zas (λ d H Q E h=>?_) (λ x A u s H d Q E g h=>?_)
 ·obtain ⟨r,n,rfl,_⟩:=h;rfl
 ·obtain ⟨r,n,rfl,R,m,q⟩:=h;refine q_of (z1g (qs_ret (qe_ix ix_seq (qe_lst (z08 (QE.mk pe_int) (z08 (QE.mk pe_int) (z08 (QE.mk pe_int) (z08 (QE.mk pe_int) (z08 (QE.mk pe_int) (z08 (QE.mk pe_int) (z08 (QE.mk (pe_un un_neg pe_int)) (z08 (QE.mk (pe_op op_pow pe_int pe_int)) qa_nil))))))))) (QE.mk (pe_cal c0 (g.mono (by decide)) rfl (z00 (pv 0) (z00 pe_int pa_nil)))) (λ _ _=>rfl)))) ?_;refine ⟨_,rfl,_,_,rfl,rfl,p9,w_8,λ l a=>?_⟩;simp only [e9];refine ⟨_,rfl,r,8,n,rfl,R.same (Same.upd a),m,by decide,by decide,λ t p c j e=>?_⟩;obtain ⟨v,i,b⟩:=atI_of (xs:=[V.int 0,.int 1,.int 2,.int 3,.int 1,.int 2,.int (-1),.int 1000000000]) j e;refine .inl ⟨l,_,t,v,rfl,rfl,SqL.of (c.k _ _ (R.fresh a) z01),i,?_⟩;have f:=(R.dw.same (Same.upd (o:=.lst [V.int 0,.int 1,.int 2,.int 3,.int 1,.int 2,.int (-1),.int 1000000000]) a)).trans c;simp only [Y0,A0,or_false] at b;rcases b with rfl|rfl|rfl|rfl|rfl|rfl|rfl|rfl<;>exact q _ _ f ⟨by decide,by decide⟩
def z74 (K:c0):Sp:=λ vs H Q _=>∃(r:Addr) (k:Str) (n:Nat),vs=[.ref r,.str k]/\DeckAt H r n/\n < 9000/\k∈kinds5/\∀p v x d H' m,Dw r m H H'->m<=n + 3->H' p=some (.tup [.str v,x])->H p=none->DeedOk k v d->IsDt K H' d x->WorthIn H' d x->Q (.ref p) H'
theorem zc6 (T:TX (kx w) mg) (c0:Ca P w mg base "_law_take" ["deck","many"] 1 z1u) (c1:Ca P w mg base "_law_worth" ["deck"] 2 z5t):Fo P w mg base CX0 3 487 y1a ["deck","kind"] (z74 (kx w)):=by
 refine (z5o w.params).ok sc__law_verb (λ vs H Q E h=>?_) (λ b9 A b6 s H vs Q E u h=>?_)
 ·obtain ⟨r,k,n,rfl,_⟩:=h;rfl
 ·obtain ⟨r,k,n,rfl,R,hn,Z,q⟩:=h;refine q_of (z0f (qs_set (i:=2) sc__law_verb.nd rfl (C1 rfl) (zmk (zbr (QE.mk pe_str) (qe_lst (z08 (QE.mk pe_str) (z08 (QE.mk pe_str) qa_nil))) (zbr (QE.mk pe_str) (qe_lst (z08 (QE.mk pe_str) (z08 (QE.mk pe_str) qa_nil))) (zbr (QE.mk pe_str) (qe_lst (z08 (QE.mk pe_str) (z08 (QE.mk pe_str) qa_nil))) zlt))) rfl rfl (by simp) (by decide)))
   (z0f (zfo (hu_of u) (QE.mk (pv 2)) (QE.mk pe_str) (qe_lst (z08 (QE.mk pe_str) (z08 (QE.mk pe_str) (z08 (QE.mk pe_str) qa_nil)))) rfl)
   (z0f (zfo (hu_of u) (QE.mk (pv 2)) (QE.mk pe_str) (qe_lst (z08 (QE.mk pe_str) (z08 (QE.mk pe_str) (z08 (QE.mk pe_str) (z08 (QE.mk pe_str) qa_nil))))) rfl)
   (z0f (QS.mk (ps_set (i:=3) sc__law_verb.nd rfl (C1 rfl) (pe_ix ix_seq (zb2 (hu_of u) (pv 2) (pv 1) (λ _ _=>rfl)) (pe_cal c0 (u.mono (by decide)) rfl (z00 (pv 0) (z00 (z09 z2m rfl (T.no (n_len _)) L5 (z00 (zb2 (hu_of u) (pv 2) (pv 1) (λ _ _=>rfl)) pa_nil)) pa_nil))) (λ _ _=>rfl))))
   (z0f (QS.mk (ps_if (z0a opEq (pv 3) pe_str (nomark _))
   (z04 (ps_ret (pe_tup (z00 (pv 3) (z00 (pe_tup (z00 (pe_cal c1 (u.mono (by decide)) rfl (z00 (pv 0) pa_nil)) (z00 (pe_cal c1 (u.mono (by decide)) rfl (z00 (pv 0) pa_nil)) pa_nil))) pa_nil)))))
   z0b))
   (z0f (QS.mk (ps_if (z0a z28 (pv 3) (pe_lst (z00 pe_str (z00 pe_str pa_nil))) (by with_unfolding_all rfl))
   (z04 (ps_ret (pe_tup (z00 (pv 3) (z00 pe_non pa_nil)))))
   z0b))
   (z1g (QS.mk (ps_ret (pe_tup (z00 (pv 3) (z00 (pe_cal c1 (u.mono (by decide)) rfl (z00 (pv 0) pa_nil)) pa_nil)))))))))))) ?_
  refine z0o ?_;intro p hp;refine ⟨w_2,λ X O=>⟨w_2,λ l2 h2=>⟨w_2,λ N W=>?_⟩⟩⟩;obtain ⟨ep,H2,a9,s2,e2,f2⟩:=words3 (H:=H) (k1:="register") (k2:="counter") (k3:="queue") (w1:=["write","read"]) (w2:=["add","read"]) (w3:=["put","take"]) hp O h2 W (by decide +kernel) (by decide +kernel) (by decide +kernel);refine ⟨ep,[(.inr "register",.ref X),(.inr "counter",.ref l2),(.inr "queue",.ref N)],rfl,(show (3:Nat)<=15 by decide),?_⟩;rw [show mergeK [] [((.inr "register" : Key),V.ref X),(.inr "counter",.ref l2),(.inr "queue",.ref N)]=[(.inr "register",.ref X),(.inr "counter",.ref l2),(.inr "queue",.ref N)] from rfl];refine g_name ?_;refine (show∀A,H2=A->tSeq _ _ _ _ A from ?_) _ a9;intro A F;subst F;refine ⟨w_3,λ l4 h4=>⟨_,rfl,p,_,rfl,DPut.k (k:=.inr "set") ((Same.upd h4) _ _ e2) (show (3:Nat) < sizeLine by decide),?_⟩⟩;obtain ⟨H4,b5,W4,k4⟩:=WordsAt.put (k:="set") (ws:=["put","cut","has"]) h4 e2 (n:=3) (B0 _) f2;refine (show∀A,H4=A->tSeq _ _ _ _ A from ?_) _ b5;intro A F;subst F;obtain ⟨b7,e4,n4,f4⟩:=W4.ex;refine ⟨w_4,λ l5 h5=>⟨_,rfl,p,_,rfl,DPut.k (k:=.inr "cell") ((Same.upd h5) _ _ e4) (T1 n4 (by decide)),?_⟩⟩;obtain ⟨U,a6,W5,k5⟩:=WordsAt.put (k:="cell") (ws:=["read","write","swap","swap"]) h5 e4 n4 f4;refine (show∀A,U=A->tSeq _ _ _ _ A from ?_) _ a6;intro A F;subst F;have s5:Same H U:=zbe (L:=[p]) ((s2.keptL.trans k4).trans k5) (λ l hl=>by rw [List.mem_singleton.mp hl];exact hp);obtain ⟨c2,e5,_,f5⟩:=W5.ex;have M:=R.dw.same s5;have fk:(if k = "cell" then some ["read","write","swap","swap"] else if k = "set" then some ["put","cut","has"] else if k = "register" then some ["write","read"] else if k = "counter" then some ["add","read"] else if k = "queue" then some ["put","take"] else none:Option (List Str))=some (verbsT k):=by have B:=Z;unfold kinds5 at B;simp only [Y0,A0,or_false] at B;rcases B with rfl|rfl|rfl|rfl|rfl<;>decide +kernel
  obtain ⟨C,v6,I⟩:=f5 k _ fk;have dg:DGet U p (.str k) (some (.ref C)):=by have:=DGet.k (k:=.inr k) e5;rw [v6] at this;exact this
  refine ⟨_,rfl,_,rfl,p,.ref C,rfl,dg,_,rfl,_,rfl,_,rfl,p,.ref C,rfl,dg,.inl ⟨C,_,rfl,.inl (SqL.of I),?_⟩⟩;have a5:0 < (verbsT k).length/\(verbsT k).length<=4:=by have B:=Z;unfold kinds5 at B;simp only [Y0,A0,or_false] at B;rcases B with rfl|rfl|rfl|rfl|rfl<;>decide +kernel
  refine ⟨r,_,n,rfl,M.r,by omega,by rw [G0];omega,by rw [G0];omega,λ t7 H7 w7 b1 b4=>?_⟩;obtain ⟨v0,b0,b2⟩:=atI_of (xs:=(verbsT k).map V.str) b1 b4;obtain ⟨v,hv,rfl⟩:=List.mem_map.mp b2;have n6:C≠r:=λ z=>by
   obtain ⟨a,b,c,er,_⟩:=M.r;rw [z,er] at I;cases hws:verbsT k with
   | nil=>rw [hws] at a5;exact absurd a5.1 (by decide)
   | cons y ys=>rw [hws] at I;cases I
  refine .inl ⟨C,_,t7,_,rfl,rfl,SqL.of (w7.k _ _ n6 I),b0,?_⟩;have b3:=M.trans w7;have fr :∀{m:Nat} {H':Hp} {p':Addr},Dw r m H H'->H' p'=none->H p'=none:=λ hw e=>hw.free e;have J:Dw r (n + 1) H H7:=b3;have a0 :∀(d:Dt) (x:V) (f:Hp) (m:Nat),Dw r m H f->m<=n + 3->DeedOk k v d->IsDt (kx w) f d x->WorthIn f d x->∀p9,f p9=none->Q (.ref p9) (upd f p9 (.tup [.str v,x])):=λ d x f m g a7 dk ix wi p9 D=>q p9 v x d _ m (g.same (Same.upd D)) a7 z01 (g.free D) dk (ix.same (Same.upd D)) (λ a b e=>(wi a b e).elim λ t z=>⟨t,z.1,(Same.upd D) _ _ z.2⟩);rcases zkz Z hv with ⟨a4,G⟩|⟨hsw,G⟩|⟨O,h2,W,G⟩
  ·refine ⟨_,rfl,rfl,_,rfl,iteN (by rcases a4 with rfl|rfl<;>decide +kernel) ?_⟩;refine ⟨_,rfl,w_2,λ p8 a1=>⟨p8,[V.str "read",.str "take"],rfl,.inl (SqL.of z01),rfl,rfl,_,rfl,iteP (by rcases a4 with rfl|rfl<;>decide +kernel) ?_⟩⟩;exact ⟨_,rfl,w_2,λ p9 D=>a0 .non .non _ _ (J.same (Same.upd a1)) (by omega) G rfl (λ _ _ e=>by cases e) p9 D⟩
  ·subst hsw;refine ⟨_,rfl,rfl,_,rfl,iteP (decide_eq_true rfl) ?_⟩;refine ⟨_,rfl,_,rfl,r,_,rfl,J.r,by omega,λ i f g S=>⟨_,rfl,r,_,rfl,g.r,by omega,λ j b8 K nj=>⟨w_2,λ a3 a8=>⟨w_2,λ a2 Y=>?_⟩⟩⟩⟩;exact a0 (.tup [.int i,.int j]) (.ref a3) _ _ (((J.trans g).trans K).same (Same.upd a8)) (by omega) (G i j S nj) (.mkT z01 (.mk2 rfl rfl)) (λ a b e=>by cases e;exact ⟨a3,rfl,z01⟩) a2 Y
  ·refine ⟨_,rfl,rfl,_,rfl,iteN (by rw [decide_eq_false λ e=>W (by injection e)];decide) ?_⟩;refine ⟨_,rfl,w_2,λ p8 a1=>⟨p8,[V.str "read",.str "take"],rfl,.inl (SqL.of z01),rfl,rfl,_,rfl,?_⟩⟩;have iv:inV (.str v) [.str "read",.str "take"]=decide (v∈(["read","take"]:List Str)):=zme v ["read","take"];rw [if_neg S0,iv];refine iteN (λ z=>?_) ?_
   ·have:=of_decide_eq_true z;simp only [Y0,A0,or_false] at this;rcases this with z|z
    ·exact O z
    ·exact h2 z
   ·have g:=J.same (Same.upd (o:=.lst [V.str "read",.str "take"]) a1);exact ⟨_,rfl,_,rfl,r,_,rfl,g.r,by omega,λ i f K S=>⟨w_2,λ a2 Y=>a0 (.int i) (.int i) _ _ (g.trans K) (by omega) (G i S) rfl (λ _ _ e=>by cases e) a2 Y⟩⟩
theorem za4 {K:c0} {H:Hp} :∀ns:List Int,IsPds K H (ns.map PyData.int) (ns.map V.int)
 | []=>rfl
 | n :: ns=>⟨.int n,ns.map V.int,rfl,rfl,za4 ns⟩
theorem z9s :∀ns:List Int,z14 (ns.map PyData.int)=true
 | []=>rfl
 | n :: ns=>by show (true && z14 (ns.map PyData.int))=true;rw [z9s ns];rfl
theorem z9k :∀ns:List Int,Q1 (ns.map PyData.int)<=1
 | []=>by decide
 | n :: ns=>by have:=z9k ns;show max (j38 (.int n)) (Q1 (ns.map PyData.int))<=1;exact Nat.max_le.mpr ⟨(show (0:Nat)<=1 by decide),this⟩
def AnsI (a:V):Prop:=(∃i,a=.int i)\/a=.str "ok"\/a=.str "none"
def za1 (K:c0):Sp:=λ vs H Q _=>∃(k v:Str) (st x:V) (d:Dt) (n:Nat),vs=[.str k,st,.str v,x]/\SuAt K H n k st/\n < 63/\DeedOk k v d/\IsDt K H d x/\WorthIn H d x/\∀p st' a H',Same H H'->H' p=some (.tup [st',a])->SuAt K H' (n + 1) k st'->AnsI a->Q (.ref p) H'
theorem zhf (T:TX (kx w) mg):Fo P w mg base CX0 1 468 y1x ["kind","state","verb","worth"] (za1 (kx w)):=by
 refine (z9c w.params).ok sc__law_do (λ vs H Q E h=>?_) (λ b2 A b1 s H vs Q E hr h=>?_)
 ·obtain ⟨k,v,st,x,d,n,rfl,_⟩:=h;rfl
 ·obtain ⟨k,v,st,x,d,n,rfl,F,hn,hd,J,wi,q⟩:=h;refine ⟨_,(z02 (ps_if (z0a opEq (pv 2) pe_str (nomark _))
   (z04 (ps_ret (pe_tup (z00 (pv 1) (z00 (pv 1) pa_nil)))))
   z0b)
   (z02 (ps_if (z0a opEq (pv 2) pe_str (nomark _))
   (z04 (ps_ret (pe_tup (z00 (pv 3) (z00 pe_str pa_nil)))))
   z0b)
   (z02 (ps_if (z0a opEq (pv 2) pe_str (nomark _))
   (z04 (ps_ret (pe_tup (z00 (pe_op opAdd (pv 1) (pv 3)) (z00 (pv 1) pa_nil)))))
   z0b)
   (z02 (ps_if (z0a opEq (pv 2) pe_str (nomark _))
   (z04 (ps_ret (pe_ix ix_seq (pe_lst (z00 (pe_tup (z00 (pv 1) (z00 pe_int pa_nil))) (z00 (pe_tup (z00 (pe_ix ix_seq (pv 3) pe_int (λ _ _=>rfl)) (z00 pe_int pa_nil))) pa_nil))) (z0z zbj rfl (T.no (n_int _)) boot_int (z00 (z31 opEq (pv 1) (pe_ix ix_seq (pv 3) pe_int (λ _ _=>rfl)) (nomark _)) pa_nil)) (λ _ _=>rfl))))
   z0b)
   (z02 (ps_if (z0a opEq (pv 2) pe_str (nomark _))
   (z02 (ps_if (z0a (op_eqP hr) (pv 1) (pe_tup pa_nil) (nomark _))
   (z04 (ps_ret (pe_tup (z00 (pv 1) (z00 pe_str pa_nil)))))
   z0b)
   (z04 (ps_ret (pe_tup (z00 (z1b slSeq (pv 1) (z1m pe_int) z2e) (z00 (pe_ix ix_seq (pv 1) pe_int (λ _ _=>rfl)) pa_nil))))))
   z0b)
   (z02 (ps_if (z0a opEq (pv 0) pe_str (nomark _))
   (z04 (ps_ret (pe_tup (z00 (pe_op zd6 (pv 1) (pe_tup (z00 (pv 3) pa_nil))) (z00 pe_str pa_nil)))))
   z0b)
   (z02 (ps_set (i:=4) sc__law_do.nd rfl (C1 rfl) (z31 z28 (pv 3) (pv 1) (by with_unfolding_all rfl)))
   (z02 (ps_if (PW.pt (pw_and (z0a opEq (pv 2) pe_str (nomark _)) (zm7 (pt_not (pt_val (pv 4) (λ _=>rfl))))))
   (z04 (ps_ret (pe_tup (z00 (z0z z0l rfl (T.no (z30 _)) S4 (z00 (z09 z4f rfl (T.no (z6p _)) j0f (z00 (pe_op zd6 (pv 1) (pe_tup (z00 (pv 3) pa_nil))) pa_nil)) pa_nil)) (z00 pe_int pa_nil)))))
   z0b)
   (z02 (ps_if (z0a opEq (pv 2) pe_str (nomark _))
   (z04 (ps_ret (pe_tup (z00 (pv 1) (z00 pe_int pa_nil)))))
   z0b)
   (z02 (ps_if (z0a opEq (pv 2) pe_str (nomark _))
   (z04 (ps_ret (pe_tup (z00 (z0z z0l rfl (T.no (z30 _)) S4 (z00 (pe_cg (xs:=["one"]) (g:=gName 0) (fr:=[(3,"worth")]) (pi_tup (pv 1)) (λ _ _ _ _ _=>(pg_cn (N:=["one","worth"]) 0)) (λ _ _ _ _ _=>(pf_one (z0a opNe (pv 0) (pv 1) (nomark _)))) (λ _ _ _ _ _=>(pv 0))) pa_nil)) (z00 (z0z zbj rfl (T.no (n_int _)) boot_int (z00 (pv 4) pa_nil)) pa_nil)))))
   z0b)
   (z04 (ps_ret (pe_tup (z00 (pv 1) (z00 (z0z zbj rfl (T.no (n_int _)) boot_int (z00 (pv 4) pa_nil)) pa_nil))))))))))))))),?_⟩
  have big :∀{ns:List Int},ns.length<=n->(ns.map V.int).length + 1<=sizeLine:=λ l=>by rw [G0];exact F0 (m:=64) (by omega) (by decide)
  have a5 :∀(ns:List Int) (i:Int),ns.map V.int++[V.int i]=(ns++[i]).map V.int:=λ ns i=>by rw [u2];rfl
  have U:rowK "queue":=.inl rfl;have M:rowK "set":=.inr rfl;have D :∀i,AnsI (.int i):=λ i=>.inl ⟨i,rfl⟩;have as:AnsI (.str "ok"):=.inr (.inl rfl);have a7:AnsI (.str "none"):=.inr (.inr rfl);cases hd with
  | regR=>
   have c:¬ rowK "register":=by decide +kernel
   obtain ⟨a,rfl⟩:=F.isNum c;refine ⟨_,rfl,rfl,_,rfl,iteP (decide_eq_true rfl) ?_⟩;exact ⟨_,rfl,_,rfl,w_2,λ p b=>q p _ _ _ (Same.upd b) z01 (.num c) (D _)⟩
  | cntR=>
   have c:¬ rowK "counter":=by decide +kernel
   obtain ⟨a,rfl⟩:=F.isNum c;refine ⟨_,rfl,rfl,_,rfl,iteP (decide_eq_true rfl) ?_⟩;exact ⟨_,rfl,_,rfl,w_2,λ p b=>q p _ _ _ (Same.upd b) z01 (.num c) (D _)⟩
  | celR=>
   have c:¬ rowK "cell":=by decide +kernel
   obtain ⟨a,rfl⟩:=F.isNum c;refine ⟨_,rfl,rfl,_,rfl,iteP (decide_eq_true rfl) ?_⟩;exact ⟨_,rfl,_,rfl,w_2,λ p b=>q p _ _ _ (Same.upd b) z01 (.num c) (D _)⟩
  | regW ni=>
   rename_i i;have c:¬ rowK "register":=by decide +kernel
   cases (show x=V.int i from J);refine ⟨_,rfl,rfl,_,rfl,iteK ⟨_,rfl,rfl,_,rfl,iteP (decide_eq_true rfl) ?_⟩⟩;exact ⟨_,rfl,w_2,λ p b=>q p _ _ _ (Same.upd b) z01 (.num c) as⟩
  | celW ni=>
   rename_i i;have c:¬ rowK "cell":=by decide +kernel
   cases (show x=V.int i from J);refine ⟨_,rfl,rfl,_,rfl,iteK ⟨_,rfl,rfl,_,rfl,iteP (decide_eq_true rfl) ?_⟩⟩;exact ⟨_,rfl,w_2,λ p b=>q p _ _ _ (Same.upd b) z01 (.num c) as⟩
  | cntA ni=>
   rename_i i;have c:¬ rowK "counter":=by decide +kernel
   obtain ⟨a,rfl⟩:=F.isNum c;cases (show x=V.int i from J);refine ⟨_,rfl,rfl,_,rfl,iteK ⟨_,rfl,rfl,_,rfl,iteK ⟨_,rfl,rfl,_,rfl,iteP (decide_eq_true rfl) ?_⟩⟩⟩;exact ⟨_,rfl,_,rfl,.inl ⟨a,i,rfl,rfl,_,rfl,w_2,λ p b=>q p _ _ _ (Same.upd b) z01 (.num c) (D _)⟩⟩
  | celS ni nj=>
   rename_i i j;have c:¬ rowK "cell":=by decide +kernel
   obtain ⟨a,rfl⟩:=F.isNum c;obtain ⟨t,rfl,et⟩:=wi i j rfl;refine ⟨_,rfl,rfl,_,rfl,iteK ⟨_,rfl,rfl,_,rfl,iteK ⟨_,rfl,rfl,_,rfl,iteK ⟨_,rfl,rfl,_,rfl,iteP (decide_eq_true rfl) ?_⟩⟩⟩⟩;refine ⟨_,rfl,w_2,λ e L=>?_⟩;obtain ⟨H1,v_,B,X⟩:=newA (.tup [.int a,.int 0]) L;rw [<-v_];refine ⟨_,rfl,.inr (.inl ⟨t,_,1,.int j,rfl,rfl,SqT.of (B _ _ et),z0c (j:=1) rfl,w_2,λ C a9=>?_⟩)⟩;have I:=Same.upd (o:=.tup [.int j,.int 1]) a9;have e2:upd H1 C (.tup [.int j,.int 1]) C=some (.tup [.int j,.int 1]):=z01;have a1:=I _ _ X;generalize upd H1 C (.tup [.int j,.int 1])=Y at I e2 a1⊢;refine ⟨w_2,λ l hl=>?_⟩;have G:=Same.upd (o:=.lst [.ref e,.ref C]) hl;have e3:upd Y l (.lst [.ref e,.ref C]) l=some (.lst [.ref e,.ref C]):=z01;have a6:=G _ _ a1;have a2:=G _ _ e2;generalize upd Y l (.lst [.ref e,.ref C])=H3 at G e3 a6 a2⊢;have sx:=(B.trans I).trans G;refine ⟨_,rfl,_,rfl,.inr (.inl ⟨t,_,0,.int i,rfl,rfl,SqT.of (sx _ _ et),z0c (j:=0) rfl,rfl,.inl (.inr ⟨_,rfl,?_⟩)⟩)⟩;by_cases z:decide (V.int a=V.int i)=true
   ·exact .inl ⟨l,_,_,.ref C,rfl,rfl,SqL.of e3,by rw [if_pos z];rfl,q C _ _ _ sx a2 (.num c) (D _)⟩
   ·exact .inl ⟨l,_,_,.ref e,rfl,rfl,SqL.of e3,by rw [if_neg z];rfl,q e _ _ _ sx a6 (.num c) (D _)⟩
  | quT=>
   obtain ⟨t,ns,rfl,f,u⟩:=F.isRow U;refine ⟨_,rfl,rfl,_,rfl,iteK ⟨_,rfl,rfl,_,rfl,iteK ⟨_,rfl,rfl,_,rfl,iteK ⟨_,rfl,rfl,_,rfl,iteK ⟨_,rfl,rfl,_,rfl,iteP (decide_eq_true rfl) ?_⟩⟩⟩⟩⟩;refine ⟨_,rfl,w_0,λ p0 b0=>?_⟩;have S:=Same.upd (o:=.tup []) b0;refine ⟨.tuple (ns.map PyData.int),.tuple [],⟨t,_,rfl,S.seqT f,za4 ns⟩,⟨p0,[],rfl,SqT.of z01,rfl⟩,z9s ns,rfl,F0 (Nat.add_le_add_right (z9k ns) 1) (by decide),_,rfl,?_⟩;generalize upd H p0 (.tup [])=H0 at S⊢;have Z:=S.seqT f;cases ns with
   | nil=>exact iteP rfl ⟨_,rfl,w_2,λ p b=>q p _ _ _ (S.trans (Same.upd b)) z01 (.mk (ns:=[]) U ((Same.upd b).seqT Z) (R1 _)) a7⟩
   | cons m r=>
    refine iteN S0 ?_;refine ⟨_,rfl,_,rfl,.inr (.inl ⟨t,_,rfl,Z,?_,λ e L=>?_⟩)⟩
    ·intro z;have:HT.sIx ((m :: r).map V.int).length 0 (some 1)=1:=by rw [G0,X0];simp [HT.sIx]
     omega
    ·have ec:cutV ((m :: r).map V.int) (some 1) none=r.map V.int:=by unfold cutV;simp [HT.sIx];exact M8 (by rw [G0];exact B0 _)
     have B:=Same.upd (o:=.tup (cutV ((m :: r).map V.int) (some 1) none)) L;have X:upd H0 e (.tup (cutV ((m :: r).map V.int) (some 1) none)) e=some (.tup (r.map V.int)):=by rw [z01,ec]
     generalize upd H0 e (.tup (cutV ((m :: r).map V.int) (some 1) none))=H1 at B X⊢;refine ⟨_,rfl,.inr (.inl ⟨t,_,0,.int m,rfl,rfl,B.seqT Z,z0c (j:=0) rfl,w_2,λ p b=>?_⟩)⟩;exact q p _ _ _ ((S.trans B).trans (Same.upd b)) z01 (.mk (ns:=r) U ((Same.upd b).seqT (SqT.of X)) (by rw [X0] at u;omega)) (D _)
  | quP ni=>rename_i i;obtain ⟨t,ns,rfl,f,u⟩:=F.isRow U;cases (show x=V.int i from J);refine ⟨_,rfl,rfl,_,rfl,iteK ⟨_,rfl,rfl,_,rfl,iteK ⟨_,rfl,rfl,_,rfl,iteK ⟨_,rfl,rfl,_,rfl,iteK ⟨_,rfl,rfl,_,rfl,iteK ⟨_,rfl,rfl,_,rfl,iteP (decide_eq_true rfl) ?_⟩⟩⟩⟩⟩⟩;refine ⟨_,rfl,_,rfl,w_1,λ e L=>?_⟩;have B:=Same.upd (o:=.tup [.int i]) L;refine ⟨t,e,ns.map V.int,[.int i],rfl,rfl,B.seqT f,SqT.of z01,big u,λ C Y I O=>?_⟩;rw [a5] at O;exact ⟨w_2,λ p3 a3=>q p3 _ _ _ ((B.trans I).trans (Same.upd a3)) z01 (.mk U ((Same.upd a3).seqT O) (by rw [K0];exact T4 u)) as⟩
  | setP ni=>
   rename_i i;obtain ⟨t,ns,rfl,f,u⟩:=F.isRow M;cases (show x=V.int i from J);refine ⟨_,rfl,rfl,_,rfl,iteK ⟨_,rfl,rfl,_,rfl,iteK ⟨_,rfl,rfl,_,rfl,iteK ⟨_,rfl,rfl,_,rfl,iteK ⟨_,rfl,rfl,_,rfl,iteK ⟨_,rfl,rfl,_,rfl,iteK ?_⟩⟩⟩⟩⟩⟩;refine ⟨_,rfl,_,rfl,t,_,rfl,.inr f,rfl,z3v ns,?_⟩;rw [if_neg S0,z5r];refine ⟨_,rfl,rfl,_,rfl,iteP (decide_eq_true rfl) ⟨_,rfl,_,rfl,?_⟩⟩;by_cases hi:i∈ns
   ·rw [decide_eq_true hi];refine iteN (by decide) ⟨_,rfl,rfl,_,rfl,iteP (decide_eq_true rfl) ?_⟩;exact ⟨_,rfl,w_2,λ p b=>q p _ _ _ (Same.upd b) z01 (.mk M ((Same.upd b).seqT f) (Q3 u)) (D _)⟩
   ·rw [decide_eq_false hi];refine iteP rfl ?_;refine ⟨_,rfl,_,rfl,w_1,λ e L=>?_⟩;have B:=Same.upd (o:=.tup [.int i]) L;refine ⟨t,e,ns.map V.int,[.int i],rfl,rfl,B.seqT f,SqT.of z01,big u,λ C Y I O=>?_⟩;rw [a5] at O;refine ⟨C,ns++[i],rfl,.inr O,by rw [K0];exact (show ns.length + 1 < 64 by omega),λ l a4 hl pm pw=>?_⟩;have G:=Same.upd (o:=.lst (a4.map V.int)) hl;refine ⟨l,_,rfl,.inl ⟨SqL.of z01,λ p4 a0=>⟨w_2,λ p5 W=>?_⟩⟩⟩;exact q p5 _ _ _ ((((B.trans I).trans G).trans (Same.upd a0)).trans (Same.upd W)) z01 (.mk (ns:=a4) M (SqT.of ((Same.upd W) _ _ z01)) (by rw [pm.length_eq,K0];exact T4 u)) (D _)
  | setC ni=>
   rename_i i;obtain ⟨t,ns,rfl,f,u⟩:=F.isRow M;cases (show x=V.int i from J);refine ⟨_,rfl,rfl,_,rfl,iteK ⟨_,rfl,rfl,_,rfl,iteK ⟨_,rfl,rfl,_,rfl,iteK ⟨_,rfl,rfl,_,rfl,iteK ⟨_,rfl,rfl,_,rfl,iteK ⟨_,rfl,rfl,_,rfl,iteK ?_⟩⟩⟩⟩⟩⟩;refine ⟨_,rfl,_,rfl,t,_,rfl,.inr f,rfl,z3v ns,?_⟩;rw [if_neg S0,z5r];refine ⟨_,rfl,rfl,_,rfl,iteK ?_⟩;refine iteN S0 ⟨_,rfl,rfl,_,rfl,iteK ⟨_,rfl,rfl,_,rfl,iteP (decide_eq_true rfl) ?_⟩⟩;have zl:(ns.map V.int).length<=sizeLine:=F0 (T3 _) (big u);simp only [tRet,tTup,tCB,tCons,tNil];refine z26 (K:=KX w.params) (a:=t) (xs:=ns.map V.int) (H1:=H) (λ j=>(ns[j]?.map λ n=>!decide (n=i)).getD false) (λ j y _=>ns[j]?.map V.int=some y) (λ _ _ _ _ _ z=>z) (λ R h=>⟨_,rfl,h⟩) f zl (λ j hj v H' s' hv KT KF k1 k2=>?_) λ l H' ys s' a8 al=>?_
   ·rw [W0] at hv;obtain ⟨n,hn,rfl⟩:=Option.map_eq_some_iff.mp hv;rw [hn] at k1 k2;refine ⟨[some (.int n)],rfl,rfl,_,rfl,_,rfl,rfl,_,rfl,?_⟩;rw [dec_i0];exact ite2 (λ z=>⟨_,rfl,k1 z _ _ (Same.refl _) rfl⟩) λ z=>k2 (Bool.eq_false_iff.mpr z) _ (Same.refl _)
   ·rw [G0] at al;rw [zcv ns ys al];have G:=Same.upd (o:=.lst ((ns.filter λ j=>!decide (j=i)).map V.int)) a8;refine ⟨l,_,rfl,.inl ⟨SqL.of z01,λ p4 a0=>⟨_,rfl,.inl (.inr ⟨_,rfl,w_2,λ p5 W=>?_⟩)⟩⟩⟩;exact q p5 _ _ _ (((s'.trans G).trans (Same.upd a0)).trans (Same.upd W)) z01 (.mk (ns:=ns.filter λ j=>!decide (j=i)) M (SqT.of ((Same.upd W) _ _ z01)) (F0 (V2 _ _) (Q3 u))) (D _)
  | setH ni=>rename_i i;obtain ⟨t,ns,rfl,f,u⟩:=F.isRow M;cases (show x=V.int i from J);refine ⟨_,rfl,rfl,_,rfl,iteK ⟨_,rfl,rfl,_,rfl,iteK ⟨_,rfl,rfl,_,rfl,iteK ⟨_,rfl,rfl,_,rfl,iteK ⟨_,rfl,rfl,_,rfl,iteK ⟨_,rfl,rfl,_,rfl,iteK ?_⟩⟩⟩⟩⟩⟩;refine ⟨_,rfl,_,rfl,t,_,rfl,.inr f,rfl,z3v ns,?_⟩;rw [if_neg S0,z5r];refine ⟨_,rfl,rfl,_,rfl,iteK ?_⟩;refine iteN S0 ⟨_,rfl,rfl,_,rfl,iteK ⟨_,rfl,rfl,_,rfl,iteK ?_⟩⟩;exact ⟨_,rfl,_,rfl,.inl (.inr ⟨_,rfl,w_2,λ p b=>q p _ _ _ (Same.upd b) z01 (.mk M ((Same.upd b).seqT f) (Q3 u)) (D _)⟩)⟩
def StsT (K:c0) (H:Hp) (p:Addr) (ts:List (Str×Str)) (n:Nat):Prop:=∃vs,SqT K H p vs/\All2 (λ (t:Str×Str) y=>SuAt K H n t.2 y) ts vs
theorem StsT.tups {K:c0} {H H':Hp} {p:Addr} {ts:List (Str×Str)} {n:Nat} (t:Tups K H H') (h:StsT K H p ts n):StsT K H' p ts n:=h.elim λ a z=>⟨a,t _ _ z.1,z03 (λ _ _ y=>y.tups t) z.2⟩
theorem StsT.le {K:c0} {H:Hp} {p:Addr} {ts:List (Str×Str)} {n m:Nat} (l:n<=m) (h:StsT K H p ts n):StsT K H p ts m:=h.elim λ a z=>⟨a,z.1,z03 (λ _ _ y=>y.le l) z.2⟩
def ZrAt (H:Hp) (k:Str) (v:V):Prop:=(rowK k/\∃a,v=.ref a/\H a=some (.tup []))\/(¬ rowK k/\v=.int 0)
theorem ZrAt.same {H H':Hp} {k:Str} {v:V} (s:Same H H') (h:ZrAt H k v):ZrAt H' k v:=h.imp (λ z=>⟨z.1,z.2.elim λ a y=>⟨a,y.1,s _ _ y.2⟩⟩) id
def ZrT (H:Hp) (p:Addr) (ts:List (Str×Str)):Prop:=∃vs,H p=some (.tup vs)/\All2 (λ (t:Str×Str) y=>ZrAt H t.2 y) ts vs
theorem ZrT.same {H H':Hp} {p:Addr} {ts:List (Str×Str)} (s:Same H H') (h:ZrT H p ts):ZrT H' p ts:=h.elim λ a z=>⟨a,s _ _ z.1,z03 (λ _ _ y=>y.same s) z.2⟩
theorem ZrT.sts {K:c0} {H:Hp} {p:Addr} {ts:List (Str×Str)} (h:ZrT H p ts):StsT K H p ts 0:=h.elim λ d z=>⟨d,SqT.of z.1,z03 (λ t y z=>by
 rcases z with ⟨b,a,rfl,c⟩|⟨b,rfl⟩
 ·exact .mk (ns:=[]) b (SqT.of c) (B0 _)
 ·exact .num b) z.2⟩
theorem zay {H:Hp} :∀{ts:List (Str×Str)} {ys zs:List V},All2 (λ (t:Str×Str) y=>∃b,y=.ref b/\H b=some (.tup [.str t.1,.str t.2])) ts ys->All2 (λ x y=>∃(n k:Str) (b:Addr),x=.ref b/\H b=some (.tup [.str n,.str k])/\ZrAt H k y) ys zs->All2 (λ (t:Str×Str) y=>ZrAt H t.2 y) ts zs
 | [],_,_,.nil,.nil=>.nil
 | t :: ts,_,_,.cons a r,.cons a' r'=>by
  refine .cons ?_ (zay r r');obtain ⟨b,rfl,f⟩:=a;obtain ⟨n,k,i,g,c,e⟩:=a';cases g;rw [f] at c;injection c with c;injection c with c;have d:t.2=k:=by injection c with _ h;injection h with h _;injection h
  rw [d];exact e
def z3k (K:c0):Sp:=λ vs H Q _=>∃(pt:Addr) (ts:List (Str×Str)),vs=[.ref pt]/\ThAt H pt ts/\ts.length<=6/\∀p H',Same H H'->ZrT H' p ts->Q (.ref p) H'
theorem zad (T:TX (kx w) mg):Fo P w mg base CX0 1 473 y0z ["things"] (z3k (kx w)):=by
 refine (z4e w.params).ok z9w (λ vs H Q E h=>?_) (λ a8 A a7 s H vs Q E hr h=>?_)
 ·obtain ⟨pt,W,rfl,_⟩:=h;rfl
 ·obtain ⟨pt,W,rfl,⟨L,a3,F⟩,Z,q⟩:=h;refine ⟨_,(z04 (ps_ret (z0z z0l rfl (T.no (z30 _)) S4 (z00 (pe_cg (xs:=["name","kind"]) (g:=gTup (kx w) 2 (gCons (gName 0) (gCons (gName 1) gNil))) (fr:=[]) (pi_tup (pv 0)) (λ _ _ _ _ _=>(pg_tup rfl (z0h (pg_cn (N:=["name","kind"]) 0) (z0h (pg_cn (N:=["name","kind"]) 1) z19)))) (λ _ _ _ _ _=>pf_nil) (λ _ _ _ _ _=>(zlj (hu_of hr) (zkc (zcf pe_str (pe_tup pa_nil) (zcf pe_str (pe_tup pa_nil) zjc)) rfl rfl (by simp) (by decide)) (pv 1) pe_int ⟨rfl,rfl,rfl,rfl⟩))) pa_nil)))),?_⟩;refine zjz ?_;refine za0 (S:=Same) (K:=KX w.params) (a:=pt) (xs:=L) (λ x y H=>∃(n k:Str) (b:Addr),x=.ref b/\H b=some (.tup [.str n,.str k])/\ZrAt H k y) (Same.refl _) (λ _ _ _ a b=>a.trans b) (λ _ _=>Same.refl _) ?_ (λ R h=>⟨_,rfl,h⟩) (λ H' s'=>s'.seqT (SqT.of a3)) (F0 (V5 (z05 F)) (F0 Z (by decide))) ?_ ?_
  ·rintro x y l j i ⟨n,k,b,G,C,e3⟩;exact ⟨n,k,b,G,i _ _ C,e3.same i⟩
  ·intro v hv l r KT a5 KF;obtain ⟨m,Y⟩:=List.mem_iff_getElem?.mp hv;obtain ⟨t,ht,b,rfl,eb⟩:=z0i F Y;have I:=r _ _ eb;refine ⟨b,_,rfl,SqT.of I,rfl,_,_,rfl,_,_,rfl,rfl,[some (.str t.1),some (.str t.2)],rfl,rfl,iteT ?_⟩;intro p O;refine ⟨w_0,λ d U=>⟨w_0,λ f B=>?_⟩⟩;have D:p≠d:=z07 z01 U;have J:p≠f:=z07 (by rw [upd_ne D];exact z01) B;have a1:d≠f:=z07 z01 B;refine ⟨by rw [upd_ne J,upd_ne D];exact z01,[(.inr "queue",.ref d),(.inr "set",.ref f)],rfl,(show (2:Nat)<=15 by decide),?_⟩;rw [show mergeK [] [((.inr "queue" : Key),V.ref d),(.inr "set",.ref f)]=[(.inr "queue",.ref d),(.inr "set",.ref f)] from rfl];generalize hH4:upd (upd (upd (upd l p (.dK [])) d (.tup [])) f (.tup [])) p (.dK [(.inr "queue",.ref d),(.inr "set",.ref f)])=j;have X:j p=some (.dK [(.inr "queue",.ref d),(.inr "set",.ref f)]):=by rw [<-hH4];exact z01
   have G:j d=some (.tup []):=by rw [<-hH4,upd_ne D.symm,upd_ne a1];exact z01
   have C:j f=some (.tup []):=by rw [<-hH4,upd_ne J.symm];exact z01
   have i:Same l j:=λ c o e=>by rw [<-hH4,upd_ne (z07 e O)];exact ((((Same.upd O).trans (Same.upd U)).trans (Same.upd B))) c o e
   refine ⟨p,rfl,.inl ⟨_,.inl X⟩,_,rfl,_,DGet.k (k:=.inr t.2) X,?_⟩;refine a5 _ _ i ⟨t.1,t.2,b,rfl,i _ _ I,?_⟩;by_cases z1:t.2 = "queue"
   ·rw [z1,z0u rfl];exact .inl ⟨.inl rfl,_,rfl,G⟩
   ·rw [z0q (λ e=>z1 (W8 e).symm)];by_cases z2:t.2 = "set"
    ·rw [z2,z0u rfl];exact .inl ⟨.inr rfl,_,rfl,C⟩
    ·rw [z0q (λ e=>z2 (W8 e).symm)];exact .inr ⟨λ h=>h.elim z1 z2,rfl⟩
  ·intro l3 l u r a4 a2;refine ⟨l3,u,rfl,.inl ⟨SqL.of z01,λ p4 a0=>?_⟩⟩;have a6:All2 (λ (t:Str×Str) y=>∃b,y=.ref b/\l b=some (.tup [.str t.1,.str t.2])) W L:=z03 (λ _ _ z=>z.elim λ b y=>⟨b,y.1,r _ _ y.2⟩) F;have M:=(Same.upd (o:=.lst u) a4).trans (Same.upd (o:=.tup u) a0);exact q p4 _ (r.trans M) ⟨u,z01,z03 (λ _ _ z=>z.same M) (zay a6 a2)⟩
theorem zmo {tl:TE} {K:c0} {m:Nat} {fr:List (Nat×Str)} {g:TG} {tc:TT} {te:TE} {σ:L2.St} {H:Hp} {Q:VK} (Pr:Addr->Hp->Prop) (h1 :∀R:VK,(∀l H1,Pr l H1->R (.ref l) H1)->tl σ H R) (h2 :∀l H1,Pr l H1->tCompG (iList K λ _ _ R=>R (.ref l) H1) m fr g tc te σ H Q):tCompG (iList K tl) m fr g tc te σ H Q:=h1 _ λ l H1 p=>h2 l H1 p
theorem seq_bm {K:c0} {N:String} {r:V->List V->Hp->VK->Prop} {to:TE} {t:TA} {g:TG} {rest:TS} {D:Ends} {σ:L2.St} {H:Hp} (h:to σ H λ x H1=>tyV K N x H1/\t σ H1 λ xs H2=>r x xs H2 λ y H3=>g y σ H3 (rest D)):tSeq (tAsg (tBM K N r to t) g) rest D σ H:=h
def OwnAt (K:c0) (H:Hp) (ts:List (Str×Str)) (p:Addr):Prop:=∃(nm vb:Str) (x a:V) (k:Str) (d:Dt),H p=some (.lst [.str nm,.str vb,x,a])/\(nm,k)∈ts/\DeedOk k vb d/\IsDt K H d x/\WorthIn H d x/\(a=.non\/AnsI a)
theorem zan {H:Hp} :∀{ts:List (Str×Str)} {ys zs:List V},All2 (λ (t:Str×Str) y=>∃b,y=.ref b/\H b=some (.tup [.str t.1,.str t.2])) ts ys->All2 (λ x y=>∃(n k:Str) (b:Addr),x=.ref b/\H b=some (.tup [.str n,.str k])/\y=.str n) ys zs->zs=(ts.map (·.1)).map V.str
 | [],_,_,.nil,.nil=>rfl
 | t :: ts,_,_,.cons a r,.cons a' r'=>by
  rw [zan r r'];obtain ⟨b,rfl,e⟩:=a;obtain ⟨n,k,g,f,c,rfl⟩:=a';cases f;rw [e] at c;injection c with c;injection c with c;have d:t.1=n:=by injection c with h _;injection h
  rw [<-d];rfl
theorem zgz {α β:Type} {R S:α->β->Prop} {y:β} :∀{xs:List α} {ys:List β} {j:Nat} {x:α},(∀a b,R a b->S a b)->All2 R xs ys->xs[j]? = some x->S x y->All2 S xs (ys.set j y)
 | _,_,_,_,_,.nil,e,_=>by simp at e
 | _,_,0,x,f,.cons a r,e,h=>by rw [Z2] at e;cases e;exact .cons h (z03 f r)
 | _,_,j + 1,x,f,.cons a r,e,h=>by rw [D2] at e;exact .cons (f _ _ a) (zgz f r e h)
theorem cut_at {ys:List V} {m:Nat} (h:m < ys.length):cutV ys none (some (m:Int))=ys.take m/\cutV ys (some ((m:Int) + 1)) none=ys.drop (m + 1)/\HT.sIx ys.length ys.length (some (m:Int))=m/\HT.sIx ys.length 0 (some ((m:Int) + 1))=m + 1:=by
 obtain ⟨a,_,c⟩:=cut_to (J3 h);have b:HT.sIx ys.length 0 (some ((m:Int) + 1))=m + 1:=by simp [HT.sIx];rw [if_neg (by omega)];omega
 refine ⟨a,?_,c,b⟩;unfold cutV;rw [b,show HT.sIx ys.length ys.length none=ys.length by simp [HT.sIx]];exact M8 (by rw [O6];exact B0 _)
theorem zj5 {ys:List V} {m:Nat} {y:V} (h:m < ys.length):ys.take m++[y]++ys.drop (m + 1)=ys.set m y:=by rw [j0h,if_pos h];simp
def z48 (K:c0):Sp:=λ vs H Q _=>∃(pt ps po:Addr) (ts:List (Str×Str)) (n:Nat),vs=[.ref pt,.ref ps,.ref po]/\ThAt H pt ts/\ThOk ts/\StsT K H ps ts n/\n < 63/\OwnAt K H ts po/\∀p H',KeptL [po] H H'->OwnAt K H' ts po->(∃a xs,H' po=some (.lst (xs++[a]))/\xs.length=3/\AnsI a)->StsT K H' p ts (n + 1)->Q (.ref p) H'
theorem z7q (T:TX (kx w) mg) (c0:Ca P w mg base "_law_do" ["kind","state","verb","worth"] 1 (za1 (kx w))):Fo P w mg base CX0 2 497 y0g ["things","states","own"] (z48 (kx w)):=by
 refine (z2s w.params).ok sc__law_applied (λ f H Q E h=>?_) (λ d4 A d2 s H f Q E hr h=>?_)
 ·obtain ⟨pt,Y,u,B,n,rfl,_⟩:=h;rfl
 ·obtain ⟨pt,Y,u,B,n,rfl,⟨yt,a3,X⟩,ok,⟨f,a4,a2⟩,hn,⟨p,r,x,a0,k,d,F,M,dk,ix,wi,_⟩,q⟩:=h;refine ⟨_,(z02 (ps_set (i:=3) sc__law_applied.nd rfl (C1 rfl) (zh9 (pe_cg (xs:=["name","kind"]) (g:=gTup (kx w) 2 (gCons (gName 0) (gCons (gName 1) gNil))) (fr:=[]) (pi_tup (pv 0)) (λ _ _ _ _ _=>(pg_tup rfl (z0h (pg_cn (N:=["name","kind"]) 0) (z0h (pg_cn (N:=["name","kind"]) 1) z19)))) (λ _ _ _ _ _=>pf_nil) (λ _ _ _ _ _=>(pv 0))) (z00 (pe_ix ix_seq (pv 2) pe_int (λ _ _=>rfl)) pa_nil)))
   (z02 (ps_asg (pe_cal c0 (hr.mono (by decide)) rfl (z00 (pe_ix ix_seq (pe_ix ix_seq (pv 0) (pv 3) (λ _ _=>rfl)) pe_int (λ _ _=>rfl)) (z00 (pe_ix ix_seq (pv 1) (pv 3) (λ _ _=>rfl)) (z00 (pe_ix ix_seq (pv 2) pe_int (λ _ _=>rfl)) (z00 (pe_ix ix_seq (pv 2) pe_int (λ _ _=>rfl)) pa_nil))))) (pg_tup rfl (z0h (z0j (i:=4) sc__law_applied.nd rfl (C1 rfl)) (z0h (z0j (i:=5) sc__law_applied.nd rfl (C1 rfl)) z19))))
   (z02 (ps_asg (pv 5) (pg_sub (pv 2) pe_int z8n))
   (z04 (ps_ret (pe_op zd6 (pe_op zd6 (z1b slSeq (pv 1) z2e (z1m (pv 3))) (pe_tup (z00 (pv 4) pa_nil))) (z1b slSeq (pv 1) (z1m (pe_op opAdd (pv 3) pe_int)) z2e))))))),?_⟩
  refine seq_bm ?_;refine za0 (S:=Same) (K:=KX w.params) (a:=pt) (xs:=yt) (λ x y H=>∃(n k:Str) (b:Addr),x=.ref b/\H b=some (.tup [.str n,.str k])/\y=.str n) (Same.refl _) (λ _ _ _ a b=>a.trans b) (λ _ _=>Same.refl _) ?_ (λ R h=>⟨_,rfl,h⟩) (λ H' s'=>s'.seqT (SqT.of a3)) (F0 (V5 (z05 X)) (F0 ok.n6 (by decide))) ?_ ?_
  ·rintro x y I H4 l ⟨n,k,b,e1,e2,e3⟩;exact ⟨n,k,b,e1,l _ _ e2,e3⟩
  ·intro v hv I G KT c8 KF;obtain ⟨m,M⟩:=List.mem_iff_getElem?.mp hv;obtain ⟨t,ht,b,rfl,eb⟩:=z0i X M;exact ⟨b,_,rfl,SqT.of (G _ _ eb),rfl,_,_,rfl,_,_,rfl,rfl,[some (.str t.1),some (.str t.2)],rfl,rfl,iteT ⟨_,rfl,c8 _ _ (Same.refl _) ⟨t.1,t.2,b,rfl,G _ _ eb,rfl⟩⟩⟩
  intro L I zs G b7 c6;have d0:All2 (λ (t:Str×Str) y=>∃b,y=.ref b/\I b=some (.tup [.str t.1,.str t.2])) B yt:=z03 (λ _ _ z=>z.elim λ b y=>⟨b,y.1,G _ _ y.2⟩) X;have ez:=zan d0 c6;subst ez;have sl:=Same.upd (o:=.lst ((B.map (·.1)).map V.str)) b7;have el:upd I L (.lst ((B.map (·.1)).map V.str)) L=some (.lst ((B.map (·.1)).map V.str)):=z01;have l:=G.trans sl;generalize upd I L (.lst ((B.map (·.1)).map V.str))=H4 at sl el l⊢;obtain ⟨j,J⟩:=List.mem_iff_getElem?.mp M;have a6:(B.map (·.1))[j]? = some p:=by rw [W0,J];rfl
  have d3:j < B.length:=(List.getElem?_eq_some_iff.mp J).1;refine ⟨.inl ⟨rfl,_,SqL.of el⟩,_,rfl,.inl ⟨u,_,0,.str p,rfl,rfl,SqL.of (l _ _ F),z0c (j:=0) rfl,L,B.map (·.1),p,j,rfl,rfl,el,by rw [G0];exact F0 ok.n6 (by decide),a6,λ m lt e=>?_,?_⟩⟩
  ·have:=(List.getElem?_inj (by rw [G0];omega) ok.nd).mp (e.trans a6.symm);omega
  refine g_name ?_;obtain ⟨yj,b4,bj,rfl,b6⟩:=z34 X J;obtain ⟨vj,b5,sj⟩:=z34 a2 J;refine ⟨_,rfl,_,rfl,.inr (.inl ⟨pt,yt,j,.ref bj,rfl,rfl,SqT.of (l _ _ a3),z0c b4,.inr (.inl ⟨bj,_,1,.str k,rfl,rfl,SqT.of (l _ _ b6),z0c (j:=1) rfl,?_⟩)⟩)⟩;refine ⟨_,rfl,_,rfl,.inr (.inl ⟨Y,f,j,vj,rfl,rfl,l.seqT a4,z0c b5,?_⟩)⟩;refine ⟨_,rfl,.inl ⟨u,_,1,.str r,rfl,rfl,SqL.of (l _ _ F),z0c (j:=1) rfl,?_⟩⟩;refine ⟨_,rfl,.inl ⟨u,_,2,x,rfl,rfl,SqL.of (l _ _ F),z0c (j:=2) rfl,?_⟩⟩;refine ⟨k,r,vj,x,d,n,rfl,sj.tups (.of l),hn,dk,ix.same l,wi.tt (.of (K:=KX w.params) l),λ p2 a1 a C D e5 b3 ai=>?_⟩;have D:=l.trans D;refine ⟨p2,_,rfl,SqT.of e5,rfl,_,_,rfl,_,_,rfl,rfl,?_⟩;refine ⟨_,rfl,_,rfl,u,_,3,3,rfl,rfl,D _ _ F,rfl,?_⟩;rw [show [V.str p,.str r,x,a0].set 3 a=[.str p,.str r,x,a] from rfl];have k6:KeptL [u] C (upd C u (.lst [.str p,.str r,x,a])):=KeptL.set (by simp);have T6:Tt (kx w) C (upd C u (.lst [.str p,.str r,x,a])):=KeptL.tt k6 λ c hc=>by rw [List.mem_singleton.mp hc];exact .inl ⟨_,D _ _ F⟩
  have e6:upd C u (.lst [.str p,.str r,x,a]) u=some (.lst [.str p,.str r,x,a]):=z01;generalize upd C u (.lst [.str p,.str r,x,a])=H6 at k6 T6 e6⊢;have O:Tt (kx w) H H6:=Tt.trans (.of D) T6;have a5:=O.t _ _ a4;have vl:f.length=B.length:=z05 a2;have b0:j < f.length:=by omega
  obtain ⟨c1,c2,c3,c4⟩:=cut_at b0;refine ⟨_,rfl,_,rfl,_,rfl,.inr (.inl ⟨Y,f,rfl,a5,λ z=>by have:=z.2;rw [c3] at this;omega,λ p7 c9=>?_⟩)⟩;rw [c1];obtain ⟨H7,v_,s7,e7⟩:=newA (.tup (f.take j)) c9;rw [<-v_];refine ⟨_,rfl,w_1,λ p8 b9=>?_⟩;have s8:=Same.upd (o:=.tup [a1]) b9;refine ⟨p7,p8,f.take j,[a1],rfl,rfl,s8.seqT (SqT.of e7),SqT.of z01,?_,λ p9 H9 U b1=>?_⟩
  ·rw [O4];exact F0 (m:=10) (by have:=ok.n6;show min j f.length + 1<=10;omega) (by decide)
  have U:=(s7.trans s8).trans U;have c7:=U.seqT a5;refine ⟨_,rfl,_,rfl,.inl ⟨_,_,rfl,rfl,_,rfl,.inr (.inl ⟨Y,f,rfl,c7,λ z=>by have:=z.1;rw [c4] at this;omega,λ c5 b8=>?_⟩)⟩⟩;rw [c2];have a7:=Same.upd (o:=.tup (f.drop (j + 1))) b8;refine ⟨p9,c5,f.take j++[a1],f.drop (j + 1),rfl,rfl,a7.seqT b1,SqT.of z01,?_,λ b2 a8 d1 a9=>?_⟩
  ·rw [K0,O4,O6];exact F0 (m:=20) (by have:=ok.n6;show min j f.length + 1 + (f.length - (j + 1))<=20;omega) (by decide)
  rw [zj5 b0] at a9;have Z:=(U.trans a7).trans d1;have W:Tt (kx w) H6 a8:=.of Z;refine q b2 a8 ((D.keptL.trans k6).trans Z.keptL) ⟨p,r,x,a,k,d,Z _ _ e6,M,dk,IsDt.mono' (O.trans W).t _ _ ix,wi.tt (O.trans W),.inr ai⟩ ⟨a,[.str p,.str r,x],Z _ _ e6,rfl,ai⟩ ⟨_,a9,?_⟩;exact zgz (λ _ _ z=>(z.tups (O.trans W).t).le (T3 _)) a2 J (b3.tups (T6.trans W).t)
theorem valV_isSomeK {kvs:List (Key×V)} {k:Key}:(valV kvs k).isSome=true↔k∈kvs.map (·.1):=by
 induction kvs with
 | nil=>simp [valV]
 | cons p r ih=>
  obtain ⟨a,pv⟩:=p;by_cases y:a=k
  ·subst y;rw [z0u rfl];simp
  ·rw [z0q y,ih,J1,Y0];exact ⟨λ z=>.inr z,λ z=>z.resolve_left λ x=>y x.symm⟩
theorem zmy {kvs:List (Key×V)} {k:Key} {v:V} (h:k∈kvs.map (·.1)):(putK kvs k v).map (·.1)=kvs.map (·.1):=by
 unfold putK;obtain ⟨p,a,e⟩:=List.mem_map.mp h;rw [if_pos (List.any_eq_true.mpr ⟨p,a,decide_eq_true e⟩),G3];refine List.map_congr_left λ q _=>?_;show (if q.1=k then (q.1,v) else q).1=q.1;by_cases y:q.1=k
 ·rw [if_pos y]
 ·rw [if_neg y]
theorem zfw {kvs:List (Key×V)} {k:Key} {v:V} (h:k∉kvs.map (·.1)):putK kvs k v=kvs++[(k,v)]:=by unfold putK;rw [if_neg];intro z;obtain ⟨p,a,e⟩:=List.any_eq_true.mp z;exact h (List.mem_map.mpr ⟨p,a,of_decide_eq_true e⟩)
def z52:Sp:=λ vs H Q _=>∃(r:Addr) (n:Nat),vs=[.ref r]/\DeckAt H r n/\n < 100/\∀p ts H',Dw r (n + 20) H H'->H p=none->ThAt H' p ts->ThOk ts->(∀t∈ts,v8 t.1=true/\t.1.length<=8)->Q (.ref p) H'
theorem DeckAt.le {H:Hp} {r:Addr} {n m:Nat} (l:n<=m) (h:DeckAt H r n):DeckAt H r m:=by obtain ⟨a,b,c,e,f,g,d,i⟩:=h;exact ⟨a,b,c,e,f,g,d,by omega⟩
theorem Dw.le {r:Addr} {n m:Nat} {H H':Hp} (l:n<=m) (h:Dw r n H H'):Dw r m H H':=⟨h.k,h.r.le l⟩
theorem z8u (T:TX (kx w) mg) (c0:Ca P w mg base "_law_take" ["deck","many"] 1 z1u):Fo P w mg base CX0 2 492 y0n ["deck"] z52:=by
 refine (z3a w.params).ok sc__law_things (λ vs H Q E h=>?_) (λ d3 A d2 s H vs Q E I h=>?_)
 ·obtain ⟨r,n,rfl,_⟩:=h;rfl
 ·obtain ⟨r,n,rfl,R,hn,q⟩:=h;refine q_of (z0f (qs_set (i:=1) sc__law_things.nd rfl (C1 rfl) (qe_lst (z08 (QE.mk pe_str) (z08 (QE.mk pe_str) (z08 (QE.mk pe_str) (z08 (QE.mk pe_str) (z08 (QE.mk pe_str) (z08 (QE.mk pe_str) (z08 (QE.mk pe_str) (z08 (QE.mk pe_str) qa_nil))))))))))
   (z0f (QS.mk (ps_set (i:=2) sc__law_things.nd rfl (B1 rfl) z8z))
   (z0f (qs_for S1 rfl (z6a rfl (T.no (zck _)) (z00 (pe_op opAdd pe_int (pe_cal c0 (I.mono (by decide)) rfl (z00 (pv 0) (z00 pe_int pa_nil)))) pa_nil)) (z0j (i:=3) sc__law_things.nd rfl (C1 rfl))
   (z1g (zfo (hu_of I) (QE.mk (pv 2)) (QE.mk (pe_ix ix_seq (pv 1) (pe_cal c0 (I.mono (by decide)) rfl (z00 (pv 0) (z00 pe_int pa_nil))) (λ _ _=>rfl))) (qe_ix ix_seq (qe_lst (z08 (QE.mk pe_str) (z08 (QE.mk pe_str) (z08 (QE.mk pe_str) (z08 (QE.mk pe_str) (z08 (QE.mk pe_str) qa_nil)))))) (QE.mk (pe_cal c0 (I.mono (by decide)) rfl (z00 (pv 0) (z00 pe_int pa_nil)))) (λ _ _=>rfl)) rfl)))
   (z1g (QS.mk (ps_ret (z0z z0l rfl (T.no (z30 _)) S4 (z00 (pe_cg (xs:=["name"]) (g:=gName 0) (fr:=[(2,"told")]) (z22 (z09 (z9e rfl) rfl (T.no (z6p _)) j0f (z00 (pv 2) pa_nil))) (λ _ _ _ _ _=>(pg_cn (N:=["name","told"]) 0)) (λ _ _ _ _ _=>pf_nil) (λ _ _ _ _ _=>(pe_tup (z00 (pv 0) (z00 (zb2 (hu_of I) (pv 1) (pv 0) (λ _ _=>rfl)) pa_nil))))) pa_nil)))))))) ?_
  refine z0o ?_;refine ⟨w_8,λ l hl=>?_⟩;refine g_name ?_;have nl:l≠r:=R.fresh hl;have O:=Same.upd (o:=.lst [.str "q",.str "a",.str "zz",.str "begin",.str "reg",.str "abcdefgh",.str "b",.str "thing"]) hl;have e1:upd H l (.lst [.str "q",.str "a",.str "zz",.str "begin",.str "reg",.str "abcdefgh",.str "b",.str "thing"]) l=some (.lst ((["q","a","zz","begin","reg","abcdefgh","b","thing"]:List Str).map V.str)):=z01;generalize upd H l (.lst [.str "q",.str "a",.str "zz",.str "begin",.str "reg",.str "abcdefgh",.str "b",.str "thing"])=H1 at O e1⊢;refine z0o ?_;intro d U;refine g_name ?_;have W:d≠r:=(R.same O).fresh U;have a5:l≠d:=z07 e1 U;have fd:H d=none:=O.free U;have s2:=Same.upd (o:=.dK []) U;have e2:=s2 _ _ e1;have a6:upd H1 d (.dK []) d=some (.dK []):=z01;have a4:=O.trans s2;generalize upd H1 d (.dK [])=H2 at s2 e2 a6 a4⊢;have w2:Dw r n H H2:=R.dw.same a4;refine ⟨_,rfl,r,3,n,rfl,w2.r,by omega,by decide,by decide,λ t H3 G d5 d4=>.inl ⟨1,t,rfl,rfl,1 + t,rfl,by omega,by omega,?_⟩⟩;have e3:=G.k _ _ nl e2;have b4:=G.k _ _ W a6;have G:=w2.trans G;have tn:(1 + t).toNat<=3:=by omega
  have tp:0 < (1 + t).toNat:=by omega
  generalize (1 + t).toNat=tt at tn tp⊢;refine z69 (lo:=0) (n:=tt) (λ i σ X=>∃kvs ss,Dw r (n + 1 + 2 * i) H X/\X l=some (.lst ((["q","a","zz","begin","reg","abcdefgh","b","thing"]:List Str).map V.str))/\X d=some (.dK kvs)/\kvs.map (·.1)=ss.map Sum.inr/\ss.Nodup/\(∀z∈ss,v8 z=true/\z.length<=8)/\ss.length<=i/\(0 < i->0 < ss.length)/\(∀k v,valV kvs k=some v->∃z,z∈kinds5/\v=.str z)/\∃x3,σ=[some (.ref r),some (.ref l),some (.ref d),x3])
   ⟨[],[],G,e3,b4,rfl,.nil,λ _ z=>absurd z A0,B0 _,λ h=>h,(λ k v e=>by cases e),_,rfl⟩ ?_ ?_
  ·rintro i σ L hi ⟨kvs,ss,w4,e4,ed4,ek,sn,so,sl,sp,kv,x3,rfl⟩;refine g_name ?_;refine ⟨w_5,λ j C=>⟨_,rfl,r,5,_,rfl,w4.r.same (Same.upd C),by omega,by decide,by decide,λ t5 H5 u b6 b7=>?_⟩⟩;obtain ⟨v5,a8,c3⟩:=atI_of (xs:=kinds5.map V.str) b6 b7;obtain ⟨J,b3,rfl⟩:=List.mem_map.mp c3;refine .inl ⟨j,_,t5,_,rfl,rfl,SqL.of (u.k _ _ (w4.r.fresh C) z01),a8,?_⟩;have e5:=u.k _ _ nl ((Same.upd (o:=.lst (kinds5.map V.str)) C) _ _ e4);have a2:=u.k _ _ W ((Same.upd (o:=.lst (kinds5.map V.str)) C) _ _ ed4);have u:=(w4.same (Same.upd (o:=.lst (kinds5.map V.str)) C)).trans u;refine ⟨_,rfl,_,rfl,_,rfl,r,8,_,rfl,u.r,by omega,by decide,by decide,λ t6 H6 D b9 c7=>?_⟩;obtain ⟨v6,b0,a9⟩:=atI_of (xs:=(["q","a","zz","begin","reg","abcdefgh","b","thing"]:List Str).map V.str) b9 c7;obtain ⟨c,d1,rfl⟩:=List.mem_map.mp a9;have c2:v8 c=true/\c.length<=8:=(by decide +kernel :∀z∈(["q","a","zz","begin","reg","abcdefgh","b","thing"]:List Str),v8 z=true/\z.length<=8) c d1;have e6:=D.k _ _ nl e5;have b8:=D.k _ _ W a2;have D:=u.trans D;have kl:kvs.length=ss.length:=by have:=congrArg j55 ek;simpa using this
   refine .inl ⟨l,_,t6,_,rfl,rfl,SqL.of e6,b0,d,_,rfl,DPut.k (k:=.inr c) b8 (T1 (m:=100) (by omega) (by decide)),?_⟩;have w7:Dw r (n + 1 + 2 * (i + 1)) H (upd H6 d (.dK (putK kvs (.inr c) (.str J)))):=by refine ⟨λ b o hb e=>by rw [upd_ne (z07 e fd)];exact D.k b o hb e,?_⟩;obtain ⟨a1,Y,c1,ee,F⟩:=D.r;exact ⟨a1,Y,c1,by rw [upd_ne W.symm];exact ee,F.1,F.2.1,F.2.2.1,by have:=F.2.2.2;omega⟩
   have a3 :∀k v,valV (putK kvs (.inr c) (.str J)) k=some v->∃z,z∈kinds5/\v=.str z:=λ k v e=>by
    rw [z5m] at e;by_cases z:k=.inr c
    ·rw [if_pos z] at e;cases e;exact ⟨J,b3,rfl⟩
    ·rw [if_neg z] at e;exact kv k v e
   by_cases z:c∈ss
   ·have kk:=zmy (kvs:=kvs) (k:=(.inr c:Key)) (v:=.str J) (by rw [ek];exact List.mem_map.mpr ⟨c,z,rfl⟩);exact ⟨_,ss,w7,by rw [upd_ne a5];exact e6,z01,kk.trans ek,sn,so,by omega,λ _=>List.length_pos_of_mem z,a3,_,rfl⟩
   ·have kk:=zfw (kvs:=kvs) (k:=(.inr c:Key)) (v:=.str J) (by rw [ek];exact λ y=>z (by obtain ⟨a,ha,e⟩:=List.mem_map.mp y;cases e;exact ha));refine ⟨_,ss++[c],w7,by rw [upd_ne a5];exact e6,z01,by rw [kk,u2,ek,u2];rfl,?_,λ z hz=>?_,?_,λ _=>?_,a3,_,rfl⟩
    ·rw [C6];refine ⟨sn,by simp,λ a ha b hb=>?_⟩;rw [List.mem_singleton.mp hb];exact λ e=>z (e ▸ ha)
    ·rcases List.mem_append.mp hz with y|y
     ·exact so z y
     ·rw [List.mem_singleton.mp y];exact c2
    ·rw [K0];show ss.length + 1<=i + 1;omega
    ·rw [K0];exact Nat.succ_pos _
  ·rintro σ L ⟨kvs,ss,w4,e4,ed4,ek,sn,so,sl,sp,kv,x3,rfl⟩;refine t_nx (zjz ?_);refine zmo (λ j H5=>∃f:List Str,L j=none/\f.Perm ss/\H5=upd L j (.lst (f.map V.str))) (λ R h=>⟨_,rfl,d,kvs,ss,rfl,ed4,ek,by omega,λ j f h5 B _=>h j _ ⟨f,h5,B,rfl⟩⟩) ?_;rintro j H5 ⟨f,C,B,rfl⟩;have s5:=Same.upd (o:=.lst (f.map V.str)) C;have a2:=s5 _ _ ed4;have e5:upd L j (.lst (f.map V.str)) j=some (.lst (f.map V.str)):=z01;have c6:f.length<=3:=by rw [B.length_eq];omega
   refine zee (S:=Same) (K:=KX w.params) (a:=j) (xs:=f.map V.str) (kindR (kx w)) (Same.refl _) (λ _ _ _ a b=>a.trans b) (λ _ _=>Same.refl _) ?_ (λ R h=>h) (λ X s'=>SqL.of (s' _ _ e5)) (by rw [G0];exact F0 c6 (by decide)) ?_ ?_
   ·rintro x y Ha Hb c8 ⟨p,k1,Y,F,z2,z3,z4⟩;exact ⟨p,k1,Y,F,z2,z3,c8 _ _ z4⟩
   ·intro v hv H6 s6 KT c9 KF;obtain ⟨p,b5,rfl⟩:=List.mem_map.mp hv;refine ⟨[some (.str p)],rfl,rfl,iteT ?_⟩;have hs:(valV kvs (.inr p)).isSome=true:=valV_isSomeK.mpr (by rw [ek];exact List.mem_map.mpr ⟨p,B.mem_iff.mp b5,rfl⟩);obtain ⟨v1,a7⟩:=Option.isSome_iff_exists.mp hs;obtain ⟨z,hz,rfl⟩:=kv _ _ a7;have dg:DGet H6 d (.str p) (some (.str z)):=by have:=DGet.k (k:=.inr p) (s6 _ _ a2);rw [a7] at this;exact this
    exact ⟨_,rfl,_,rfl,_,rfl,d,_,rfl,dg,w_2,λ p7 d0=>c9 _ _ (Same.upd d0) ⟨p,z,p7,rfl,rfl,hz,z01⟩⟩
   ·intro l7 H7 M s7 b2 c4;obtain ⟨ts,Z,f2,c5⟩:=z88 c4;have s8:=Same.upd (o:=.lst M) b2;refine ⟨l7,M,rfl,.inl ⟨SqL.of z01,λ p8 a0=>?_⟩⟩;have w8:=(w4.same (s5.trans s7)).same s8;have s9:=s8.trans (Same.upd (o:=.tup M) a0);have tl:ts.length=f.length:=by rw [<-Z,G0]
    have pl:=B.length_eq;have:=sp tp;exact q p8 ts _ ((w8.same (Same.upd a0)).le (by omega)) (w8.free a0) ⟨M,z01,z03 (λ _ _ z=>z.elim λ b y=>⟨b,y.1,s9 _ _ y.2⟩) c5⟩ ⟨by omega,by omega,by rw [Z];exact B.nodup_iff.mpr sn,f2⟩ (λ t ht=>so t.1 (B.mem_iff.mp (by rw [<-Z];exact List.mem_map.mpr ⟨t,ht,rfl⟩)))
def EvW (K:c0) (H:Hp) (z:Str) (y:V):Prop:=∃(p:Addr) (r:List V),y=.ref p/\SqT K H p (.str z :: r)
theorem EvW.tups {K:c0} {H H':Hp} {z:Str} {y:V} (t:Tups K H H') (h:EvW K H z y):EvW K H' z y:=by obtain ⟨p,r,e,s⟩:=h;exact ⟨p,r,e,t _ _ s⟩
theorem OwnAt.tt {K:c0} {H H':Hp} {ts:List (Str×Str)} {p:Addr} (t:Tt K H H') (e :∀o,H p=some o->H' p=some o) (h:OwnAt K H ts p):OwnAt K H' ts p:=by obtain ⟨j,b,x,a,k,d,l,m,g,c,f,i⟩:=h;exact ⟨j,b,x,a,k,d,e _ l,m,g,IsDt.mono' t.t d x c,f.tt t,i⟩
theorem OwnAt.mutAt {K:c0} {H:Hp} {ts:List (Str×Str)} {p:Addr} (h:OwnAt K H ts p):MutAt H p:=by obtain ⟨e,c,x,a,k,d,b,_⟩:=h;exact .inl ⟨_,b⟩
theorem DeckAt.mutAt {H:Hp} {r:Addr} {n:Nat} (h:DeckAt H r n):MutAt H r:=by obtain ⟨a,b,c,e,_⟩:=h;exact .inl ⟨_,e⟩
theorem Dw.keptL {r:Addr} {n:Nat} {H H':Hp} {L:List Addr} (h:Dw r n H H') (hr:r∈L):KeptL L H H':=λ b o n e=>h.k b o (λ z=>n (z ▸ hr)) e
theorem Dw.tt {K:c0} {r:Addr} {n m:Nat} {H H':Hp} (R:DeckAt H r m) (h:Dw r n H H'):Tt K H H':=KeptL.tt (h.keptL (List.mem_singleton.mpr rfl)) λ l a=>by rw [List.mem_singleton.mp a];exact R.mutAt
theorem z1f {L:List Addr} {H H1 H2:Hp} (s:Same H H1) (k:KeptL L H1 H2) (n :∀l∈L,H l=none):Same H H2:=λ c o e=>k c o (λ z=>by rw [n c z] at e;cases e) (s c o e)
theorem zew {kvs:List (Key×V)} {k j:Key} {v:V} (h:valV (dropK kvs k) j=some v):valV kvs j=some v:=by
 induction kvs with
 | nil=>cases h
 | cons p r ih=>
  obtain ⟨a,pv⟩:=p;by_cases z:a=k
  ·rw [zcs z] at h;have c:j≠a:=λ y=>by
    have:(valV (dropK r k) j).isSome=true:=by rw [h];rfl
    have:=valV_isSomeK.mp this;obtain ⟨q,b,e⟩:=List.mem_map.mp this;have:=of_decide_eq_true (List.mem_filter.mp b).2;exact this (e.trans (y.trans z))
   rw [z0q (λ e=>c e.symm)];exact ih h
  ·rw [zdd z] at h;by_cases y:a=j
   ·subst y;rw [z0u rfl] at h⊢;exact h
   ·rw [z0q y] at h⊢;exact ih h
def wordE:Ev->Str
 | .beg _ _ _ _=>"begin"
 | .fin _ _=>"end"
def isBg (e:Ev):Bool:=decide (V.str (wordE e)=V.str "begin")
theorem zgr {h:Int} {n v x:V}:isBg (.beg h n v x)=true:=by show decide (V.str "begin" = V.str "begin")=true;decide +kernel
theorem zgc {h:Int} {a:V}:isBg (.fin h a)=false:=by show decide (V.str "end" = V.str "begin")=false;decide +kernel
def bgN (es:List Ev):Nat:=(es.filter isBg).length
theorem zn0 {es:List Ev} {h:Int} {a:V}:bgN (es++[.fin h a])=bgN es:=by unfold bgN;rw [M7,K0];rw [Q4 (by rw [zgc];decide)];rfl
theorem zmf {es:List Ev} {h:Int} {n v x:V}:bgN (es++[.beg h n v x])=bgN es + 1:=by unfold bgN;rw [M7,K0,P4 zgr];rfl
theorem zk2 {p:Ev->Bool} :∀{es:List Ev} {ys:List V},es.length=ys.length->((es.zip ys).filter λ a=>p a.1).length=(es.filter p).length
 | [],[],_=>rfl
 | e :: es,y :: ys,h=>by
  have b:=zk2 (p:=p) (es:=es) (ys:=ys) (by simpa using h);rw [j06];cases c:p e with
  | true=>rw [P4 (by exact c),P4 c,X0,X0,b]
  | false=>rw [Q4 (by show ¬ p e=true;rw [c];decide),Q4 (by rw [c];decide),b]
theorem zk7 :∀{es:List Ev} {i:Nat} {rs:List Rc},(dAll i rs es).length=rs.length + bgN es
 | [],_,_=>rfl
 | e :: es,i,rs=>by
  have b:=zk7 (es:=es) (i:=i + 1) (rs:=dstep i rs e);show (dAll (i + 1) (dstep i rs e) es).length=_;rw [b];cases e with
  | beg hd n v x=>
   have d:(dstep i rs (.beg hd n v x)).length=rs.length + 1:=by show (rs++[_]).length=_;rw [K0];rfl
   have c:bgN (Ev.beg hd n v x :: es)=bgN es + 1:=by unfold bgN;rw [P4 zgr,X0]
   omega
  | fin hd a=>
   have d:(dstep i rs (.fin hd a)).length=rs.length:=by
    unfold dstep;dsimp only;cases lastI hd (rs.map Rc.h) with
    | none=>rfl
    | some j=>exact j07 ..
   have c:bgN (Ev.fin hd a :: es)=bgN es:=by unfold bgN;rw [Q4 (by rw [zgc];decide)]
   omega
structure EvQ (K:c0) (ts:List (Str×Str)) (H:Hp) (e:Ev) (y:V):Prop where
 a:EvAt K H e y
 w:EvW K H (wordE e) y
 n:EvGd K H ts e
theorem EvQ.tt {K:c0} {ts:List (Str×Str)} {H H':Hp} {e:Ev} {y:V} (t:Tt K H H') (h:EvQ K ts H e y):EvQ K ts H' e y:=⟨EvAt.tups t.t h.a,h.w.tups t.t,h.n.tt t⟩
theorem zfb {K:c0} {ts:List (Str×Str)} {H:Hp} :∀{es:List Ev} {ys:List V},All2 (EvQ K ts H) es ys->All2 (λ (a:Ev×V) v=>a.2=v/\EvQ K ts H a.1 v) (es.zip ys) ys
 | _,_,.nil=>.nil
 | _,_,.cons a r=>.cons ⟨rfl,a⟩ (zfb r)
def UwAt (K:c0) (H H0:Hp) (u l ha:Addr) (ts:List (Str×Str)) (m:Nat) (os:List Int):Prop:=∃kvs:List (Key×V),H u=some (.dK kvs)/\kvs.length<=m/\kvs.map (·.1)=os.map Sum.inl/\∀k v,valV kvs k=some v->∃p,v=.ref p/\OwnAt K H ts p/\p≠l/\p≠ha/\H0 p=none
structure TaJ (K:c0) (H H0:Hp) (pt ps u l ha:Addr) (ts:List (Str×Str)) (hs:List Int) (i:Nat) (os:List Int) (es:List Ev):Prop where
 th:ThAt H pt ts
 st:StsT K H ps ts i
 uw:UwAt K H H0 u l ha ts i os
 ev :∃ys,H l=some (.lst ys)/\All2 (EvQ K ts H) es ys
 hn:H ha=some (.lst (hs.map V.int))
 ln:es.length<=i
 wf:EWf [] es
 cn:bgN es<=4
theorem TaJ.tt {K:c0} {H H' H0:Hp} {pt ps u l ha:Addr} {ts:List (Str×Str)} {hs:List Int} {i:Nat} {os:List Int} {es:List Ev} (t:Tt K H H') (L:List Addr) (k:KeptL L H H') (n:u∉L/\l∉L/\ha∉L) (po :∀p∈L,∀q:OwnAt K H ts p,OwnAt K H' ts p) (h:TaJ K H H0 pt ps u l ha ts hs i os es):TaJ K H' H0 pt ps u l ha ts hs i os es:=by
 refine ⟨h.th.tt t,h.st.tups t.t,?_,h.ev.elim λ c z=>⟨c,k _ _ n.2.1 z.1,z03 (λ _ _ y=>y.tt t) z.2⟩,k _ _ n.2.2 h.hn,h.ln,h.wf,h.cn⟩;obtain ⟨s,e,r,d,f⟩:=h.uw;refine ⟨s,k _ _ n.1 e,r,d,λ a v j=>?_⟩;obtain ⟨p,m,b,g⟩:=f a v j;refine ⟨p,m,?_,g⟩;rcases Classical.em (p∈L) with z|z
 ·exact po p z b
 ·exact b.tt t λ o e=>k _ _ z e
theorem TaJ.same {K:c0} {H H' H0:Hp} {pt ps u l ha:Addr} {ts:List (Str×Str)} {hs:List Int} {i:Nat} {os:List Int} {es:List Ev} (s:Same H H') (h:TaJ K H H0 pt ps u l ha ts hs i os es):TaJ K H' H0 pt ps u l ha ts hs i os es:=h.tt (.of s) [] s.keptL ⟨A0,A0,A0⟩ (λ _ z=>absurd z A0)
theorem TaJ.le {K:c0} {H H0:Hp} {pt ps u l ha:Addr} {ts:List (Str×Str)} {hs:List Int} {i:Nat} {os:List Int} {es:List Ev} (h:TaJ K H H0 pt ps u l ha ts hs i os es):TaJ K H H0 pt ps u l ha ts hs (i + 1) os es:=⟨h.th,h.st.le (T3 _),h.uw.elim λ a z=>⟨a,z.1,Q3 z.2.1,z.2.2⟩,h.ev,h.hn,Q3 h.ln,h.wf,h.cn⟩
theorem TaJ.dw {K:c0} {H H' H0:Hp} {pt ps u l ha r:Addr} {ts:List (Str×Str)} {hs:List Int} {i n m:Nat} {os:List Int} {es:List Ev} (R:DeckAt H r n) (w:Dw r m H H') (nr:u≠r/\l≠r/\ha≠r) (h:TaJ K H H0 pt ps u l ha ts hs i os es):TaJ K H' H0 pt ps u l ha ts hs i os es:=by refine h.tt (w.tt R) [r] (w.keptL (by simp)) ⟨by simp [nr.1],by simp [nr.2.1],by simp [nr.2.2]⟩ λ p e o=>?_;rw [List.mem_singleton.mp e] at o⊢;obtain ⟨q,f,x,a,k,d,c,_⟩:=o;obtain ⟨j,s,g,b,_⟩:=R;rw [c] at b;cases b
def z7m (K:c0):Sp:=λ vs H Q _=>∃(sc:Addr) (ns:List Int),vs=[.ref sc,.int 4]/\SqL K H sc (ns.map V.int)/\ns.length<=63/\
 ∀t pt te ys es ts H',Same H H'->H' t=some (.tup [.ref pt,.ref te])->H' te=some (.tup ys)->ThAt H' pt ts->ThOk ts->(∀t∈ts,v8 t.1=true/\t.1.length<=8)->All2 (EvQ K ts H') es ys->es.length<=20->EWf [] es->bgN es<=4->Q (.ref t) H'
theorem zc2 (T:TX (kx w) mg) (c0:Ca P w mg base "_law_cell_at" ["script","k"] 1 (z42 (kx w))) (c2:Ca P w mg base "_law_take" ["deck","many"] 1 z1u) (c3:Ca P w mg base "_law_things" ["deck"] 2 z52) (c4:Ca P w mg base "_law_first" ["things"] 1 (z3k (kx w))) (c5:Ca P w mg base "_law_applied" ["things","states","own"] 2 (z48 (kx w))) (c6:Ca P w mg base "_law_verb" ["deck","kind"] 3 (z74 (kx w))):Fo P w mg base CX0 4 502 y1b ["script","most"] (z7m (kx w)):=by
 refine (z5i w.params).ok sc__law_tale (λ vs H Q E h=>?_) (λ w1 A w8 s H vs Q E G h=>?_)
 ·obtain ⟨sc,O,rfl,_⟩:=h;rfl
 ·obtain ⟨sc,O,rfl,sq,hn,q⟩:=h;refine q_of (z0f (QS.mk (ps_set (i:=2) sc__law_tale.nd rfl (C1 rfl) (pe_op op_mod (pe_cal c0 (G.mono (by decide)) rfl (z00 (pv 0) (z00 pe_int pa_nil))) pe_int)))
   (z0f (QS.mk (ps_set (i:=3) sc__law_tale.nd rfl (C1 rfl) (pe_lst (z00 (pe_op z6d (pe_cal c0 (G.mono (by decide)) rfl (z00 (pv 0) (z00 pe_int pa_nil))) pe_int) (z00 (pv 2) (z00 pe_int pa_nil))))))
   (z0f (QS.mk (ps_set (i:=4) sc__law_tale.nd rfl (C1 rfl) (pe_cal c3 (G.mono (by decide)) rfl (z00 (pv 3) pa_nil))))
   (z0f (QS.mk (ps_set (i:=5) sc__law_tale.nd rfl (C1 rfl) (z1b slSeq (pe_ix ix_seq (pe_lst (z00 (pe_lst (z00 pe_int (z00 pe_int (z00 pe_int (z00 pe_int pa_nil))))) (z00 (pe_lst (z00 pe_int (z00 pe_int (z00 pe_int (z00 pe_int pa_nil))))) pa_nil))) (pe_cal c2 (G.mono (by decide)) rfl (z00 (pv 3) (z00 pe_int pa_nil))) (λ _ _=>rfl)) z2e (z1m (pe_op opAdd pe_int (pe_cal c2 (G.mono (by decide)) rfl (z00 (pv 3) (z00 pe_int pa_nil))))))))
   (z0f (qs_set (i:=6) sc__law_tale.nd rfl (C1 rfl) (qe_ix ix_seq (qe_lst (z08 (QE.mk pe_int) (z08 (QE.mk pe_int) (z08 (QE.mk pe_int) (z08 (QE.mk pe_int) qa_nil))))) (QE.mk (pe_cal c2 (G.mono (by decide)) rfl (z00 (pv 3) (z00 pe_int pa_nil)))) (λ _ _=>rfl)))
   (z0f (QS.mk (ps_set (i:=7) sc__law_tale.nd rfl (C1 rfl) (pe_cal c4 (G.mono (by decide)) rfl (z00 (pv 4) pa_nil))))
   (z0f (QS.mk (ps_set (i:=8) sc__law_tale.nd rfl (C1 rfl) (pe_lst pa_nil)))
   (z0f (QS.mk (ps_set (i:=9) sc__law_tale.nd rfl (C1 rfl) z8z))
   (z0f (qs_for S1 rfl (z6a rfl (T.no (zck _)) (z00 (z09 (zj7 rfl) rfl (T.no (n_min _)) boot_min (z00 (pe_op op_mul pe_int (pv 1)) (z00 (z09 (zho rfl) rfl (T.no (n_max _)) boot_max (z00 pe_int (z00 (pe_op op_sub (z09 z2m rfl (T.no (n_len _)) L5 (z00 (pv 0) pa_nil)) pe_int) pa_nil))) pa_nil))) pa_nil)) (z0j (i:=10) sc__law_tale.nd rfl (C1 rfl))
   (z0f (QS.mk (ps_set (i:=3) sc__law_tale.nd rfl (C1 rfl) (pe_lst (z00 (z09 (zcl rfl) rfl (T.no (n_sum _)) boot_sum (z00 (zig (pv 0) (z1m (pe_op opAdd pe_int (pv 10))) (z1m pe_int) (z1m (pe_op op_mul pe_int (pv 1)))) pa_nil)) (z00 (pv 2) (z00 (pe_op opAdd pe_int (pe_op op_mul pe_int (pv 10))) pa_nil))))))
   (z0f (QS.mk (ps_set (i:=11) sc__law_tale.nd rfl (C1 rfl) (pe_ix ix_seq (pv 5) (pe_cal c2 (G.mono (by decide)) rfl (z00 (pv 3) (z00 (z09 z2m rfl (T.no (n_len _)) L5 (z00 (pv 5) pa_nil)) pa_nil))) (λ _ _=>rfl))))
   (z1g (qs_if (pt_cmp (pc_din (hu_of G) (pv 11) (pv 9)) (by with_unfolding_all rfl))
   (z0f (QS.mk (ps_set (i:=12) sc__law_tale.nd rfl (C1 rfl) (zkm (pv 9) (pv 11) ⟨rfl,rfl,rfl,rfl⟩)))
   (z0f (QS.mk (ps_if (z0a op_isN (pe_ix ix_seq (pv 12) pe_int (λ _ _=>rfl)) pe_non (nomark _))
   (z04 (ps_set (i:=7) sc__law_tale.nd rfl (C1 rfl) (pe_cal c5 (G.mono (by decide)) rfl (z00 (pv 4) (z00 (pv 7) (z00 (pv 12) pa_nil))))))
   z0b))
   (z0f (QS.mk (ps_set (i:=13) sc__law_tale.nd rfl (C1 rfl) (pe_ix ix_seq (pv 12) pe_int (λ _ _=>rfl))))
   (z0f (qs_if (PW.pt (pw_or (pt_val (z09 z0t rfl (T.no (z0g _)) X1 (z00 (pv 13) (z00 (z37 (v:=.ty "tuple") rfl (T.no (z30 _)) S4 rfl) pa_nil))) (λ _=>rfl)) (pw_or1 (z0a opEq (pe_cal c2 (G.mono (by decide)) rfl (z00 (pv 3) (z00 (pv 6) pa_nil))) pe_int (nomark _)))))
   (z1g (qs_set (i:=13) sc__law_tale.nd rfl (C1 rfl) (qe_ix ix_seq (qe_lst (z08 (QE.mk pe_str) (z08 (QE.mk pe_str) (z08 (QE.mk pe_int) (z08 (QE.mk pe_int) (z08 (QE.mk pe_int) (z08 (QE.mk (pe_op op_pow pe_int pe_int)) (z08 (QE.mk (pe_un un_neg pe_int)) qa_nil)))))))) (QE.mk (pe_cal c2 (G.mono (by decide)) rfl (z00 (pv 3) (z00 pe_int pa_nil)))) (λ _ _=>rfl))))
   (QSs.mk z0b))
   (z1g (QS.mk (z1a (z21 (pv 8) (z00 (pe_tup (z00 pe_str (z00 (pv 11) (z00 (pv 13) pa_nil)))) pa_nil)))))))))
   (z1g (QS.mk (ps_if (z0a op_lt (z09 z2m rfl (T.no (n_len _)) L5 (z00 (pe_cg (xs:=["event"]) (g:=gName 0) (fr:=[]) (z22 (pv 8)) (λ _ _ _ _ _=>(pg_cn (N:=["event"]) 0)) (λ _ _ _ _ _=>(pf_one (z0a opEq (pe_ix (zg9 (K:=KX w.params) rfl) (pv 0) pe_int (λ _ _=>rfl)) pe_str (nomark _)))) (λ _ _ _ _ _=>(pv 0))) pa_nil)) (pv 1) (nomark _))
   (z02 (ps_asg (pe_ix ix_seq (pv 4) (pe_cal c2 (G.mono (by decide)) rfl (z00 (pv 3) (z00 (z09 z2m rfl (T.no (n_len _)) L5 (z00 (pv 4) pa_nil)) pa_nil))) (λ _ _=>rfl)) (pg_tup rfl (z0h (z0j (i:=14) sc__law_tale.nd rfl (C1 rfl)) (z0h (z0j (i:=15) sc__law_tale.nd rfl (C1 rfl)) z19))))
   (z02 (ps_asg (pe_cal c6 (G.mono (by decide)) rfl (z00 (pv 3) (z00 (pv 15) pa_nil))) (pg_tup rfl (z0h (z0j (i:=16) sc__law_tale.nd rfl (C1 rfl)) (z0h (z0j (i:=17) sc__law_tale.nd rfl (C1 rfl)) z19))))
   (z02 (z1a (z21 (pv 8) (z00 (pe_tup (z00 pe_str (z00 (pv 11) (z00 (pv 14) (z00 (pv 16) (z00 (pv 17) pa_nil)))))) pa_nil)))
   (z02 (zfv (hu_of G) (pv 9) (pv 11) (pe_lst (z00 (pv 14) (z00 (pv 16) (z00 (pv 17) (z00 pe_non pa_nil))))) rfl)
   (z04 (ps_if (z0a opEq (pe_cal c2 (G.mono (by decide)) rfl (z00 (pv 3) (z00 pe_int pa_nil))) pe_int (nomark _))
   (z04 (ps_set (i:=7) sc__law_tale.nd rfl (C1 rfl) (pe_cal c5 (G.mono (by decide)) rfl (z00 (pv 4) (z00 (pv 7) (z00 (zb2 (hu_of G) (pv 9) (pv 11) (λ _ _=>rfl)) pa_nil))))))
   z0b))))))
   z0b))))))))
   (z1g (QS.mk (ps_ret (pe_tup (z00 (pv 4) (z00 (z0z z0l rfl (T.no (z30 _)) S4 (z00 (pv 8) pa_nil)) pa_nil))))))))))))))) ?_
  refine z0o ?_;refine ⟨_,rfl,sc,O,rfl,sq,λ i0=>⟨_,_,rfl,rfl,(show (0:Int) < 2 by decide),?_⟩⟩;refine g_name ?_;have y0:0<=i0 % 2:=j6 _ (by decide);have y1:i0 % 2 < 2:=Y4 _ (by decide);refine z0o ?_;refine ⟨_,rfl,sc,O,rfl,sq,λ i1=>⟨_,_,rfl,rfl,⟨by decide,by decide⟩,_,rfl,w_3,λ X m0=>?_⟩⟩;refine g_name ?_;have s1:=Same.upd (o:=.lst [.int (i1 / 2),.int (i0 % 2),.int 0]) m0;have D1:DeckAt (upd H X (.lst [.int (i1 / 2),.int (i0 % 2),.int 0])) X 0:=⟨_,_,_,z01,y0,y1,j25 _,j25 _⟩
  generalize upd H X (.lst [.int (i1 / 2),.int (i0 % 2),.int 0])=H1 at s1 D1⊢;have only :∀{n:Nat} {Ha Hb:Hp},Same H Ha->Dw X n Ha Hb->Same H Hb:=λ sa wa=>z1f sa (wa.keptL (L:=[X]) (by simp)) λ c B=>by rw [List.mem_singleton.mp B];exact m0
  refine ⟨_,rfl,X,0,rfl,D1,by decide,λ pt S H2 w2 x1 th ok p3=>?_⟩;have s2:=only s1 w2;refine g_name (t_nx ?_);refine z0o ?_;refine ⟨w_4,λ F h1=>⟨w_4,λ a2 h2=>⟨w_2,λ a3 h3=>?_⟩⟩⟩;have q1:=Same.upd (o:=.lst [V.int 0,.int 1,.int 2,.int 5]) h1;have q2:=Same.upd (o:=.lst [V.int 5,.int 4,.int 3,.int 0]) h2;have q3:=Same.upd (o:=.lst [.ref F,.ref a2]) h3;have f1:=q3 _ _ (q2 _ _ (z01 (H:=H2) (a:=F) (o:=.lst [V.int 0,.int 1,.int 2,.int 5])));have f2:=q3 _ _ (z01 (H:=upd H2 F (.lst [V.int 0,.int 1,.int 2,.int 5])) (a:=a2) (o:=.lst [V.int 5,.int 4,.int 3,.int 0]));have f3:=z01 (H:=upd (upd H2 F (.lst [V.int 0,.int 1,.int 2,.int 5])) a2 (.lst [V.int 5,.int 4,.int 3,.int 0])) (a:=a3) (o:=.lst [.ref F,.ref a2]);have n1:F≠X:=w2.r.fresh h1;have n2:a2≠X:=(w2.r.same q1).fresh h2;have n3:a3≠X:=(w2.r.same (q1.trans q2)).fresh h3;have f7:=(q1.trans q2).trans q3;generalize upd (upd (upd H2 F (.lst [V.int 0,.int 1,.int 2,.int 5])) a2 (.lst [V.int 5,.int 4,.int 3,.int 0])) a3 (.lst [.ref F,.ref a2])=H3 at f1 f2 f3 f7⊢;have D3:=w2.r.same f7;have r9:=th.tt (.of (K:=KX w.params) f7);have s3:=s2.trans f7;refine ⟨_,rfl,X,2,_,rfl,D3,by decide,by decide,by decide,λ t4 H4 w4 o6 p2=>?_⟩;obtain ⟨v4,p1,m7⟩:=atI_of (xs:=[V.ref F,.ref a2]) o6 p2;obtain ⟨aX,b5,rfl,eX,nX,lX⟩ :∃(aX:Addr) (b5:List Int),v4=.ref aX/\H3 aX=some (.lst (b5.map V.int))/\aX≠X/\b5.length=4:=by
   simp only [Y0,A0,or_false] at m7;rcases m7 with rfl|rfl
   ·exact ⟨F,[0,1,2,5],rfl,f1,n1,rfl⟩
   ·exact ⟨a2,[5,4,3,0],rfl,f2,n2,rfl⟩
  refine .inl ⟨a3,_,t4,_,rfl,rfl,SqL.of (w4.k _ _ n3 f3),p1,?_⟩;have u4:=w4.k _ _ nX eX;have s4:=only s3 w4;have r2:=r9.tt (w4.tt (K:=KX w.params) D3);refine ⟨_,rfl,X,4,_,rfl,w4.r,by decide,by decide,by decide,λ t5 H5 w5 m9 x0=>.inl ⟨1,t5,rfl,rfl,_,rfl,.inl ⟨aX,_,rfl,SqL.of (w5.k _ _ nX u4),λ D j0=>?_⟩⟩⟩;have s5:=only s4 w5;have p8:=r2.tt (w5.tt (K:=KX w.params) w4.r);obtain ⟨m5,rfl⟩:=Int.eq_ofNat_of_zero_le m9;have ec:cutV (b5.map V.int) none (some (1 + (m5:Int)))=(b5.take (1 + m5)).map V.int:=by rw [show (1:Int) + (m5:Int)=((1 + m5:Nat):Int) by omega,(cut_to (ys:=b5.map V.int) (m:=1 + m5) (by rw [G0];omega)).1,List.map_take]
  rw [ec];have u9:(b5.take (1 + m5)).length=1 + m5:=by rw [O4];omega
  generalize b5.take (1 + m5)=hs at u9⊢;refine g_name ?_;have q6:=Same.upd (o:=.lst (hs.map V.int)) j0;have e6:upd H5 D (.lst (hs.map V.int)) D=some (.lst (hs.map V.int)):=z01;have r0:D≠X:=w5.r.fresh j0;have w3:H D=none:=s5.free j0;generalize upd H5 D (.lst (hs.map V.int))=H6 at q6 e6⊢;have D6:=w5.r.same q6;have s6:=s5.trans q6;have r3:=p8.tt (.of (K:=KX w.params) q6);refine z0o ?_;refine ⟨w_4,λ a7 h7=>⟨_,rfl,X,4,_,rfl,D6.same (Same.upd h7),by decide,by decide,by decide,λ t7 H7 w7 n4 p6=>?_⟩⟩;obtain ⟨v7,r1,l4⟩:=atI_of (xs:=[V.int 3,.int 8,.int 40,.int 40]) n4 p6;obtain ⟨b4,rfl,v2,x2⟩ :∃b4:Int,v7=.int b4/\0 < b4/\b4<=40:=by simp only [Y0,A0,or_false] at l4;rcases l4 with rfl|rfl|rfl|rfl<;>exact ⟨_,rfl,by decide,by decide⟩
  refine .inl ⟨a7,_,t7,_,rfl,rfl,SqL.of (w7.k _ _ (D6.fresh h7) z01),r1,?_⟩;refine g_name ?_;have e7:=w7.k _ _ r0 ((Same.upd (o:=.lst [V.int 3,.int 8,.int 40,.int 40]) h7) _ _ e6);have m3:=(r3.tt (.of (K:=KX w.params) (Same.upd (o:=.lst [V.int 3,.int 8,.int 40,.int 40]) h7))).tt (w7.tt (K:=KX w.params) (D6.same (Same.upd h7)));have s7:=only (s6.trans (Same.upd (o:=.lst [V.int 3,.int 8,.int 40,.int 40]) h7)) w7;refine ⟨_,rfl,pt,S,rfl,m3,ok.n6,λ W M s8 e5=>?_⟩;have e8:=s8 _ _ e7;have v0:=m3.tt (.of (K:=KX w.params) s8);have s8:=s7.trans s8;refine ⟨w_0,λ l hl=>?_⟩;have q9:=Same.upd (o:=.lst []) hl;have d0:upd M l (.lst []) l=some (.lst []):=z01;have j3:l≠D:=λ z=>by rw [z,e8] at hl;cases hl
  have fl:H l=none:=s8.free hl;have e9:=q9 _ _ e8;have k6:=v0.tt (.of (K:=KX w.params) q9);have g3:=(e5.sts (K:=KX w.params)).tups (.of q9);have s9:=s8.trans q9;generalize upd M l (.lst [])=H9 at q9 d0 e9 k6 g3 s9⊢;intro u hu;have a4:=Same.upd (o:=.dK []) hu;have fu:H u=none:=s9.free hu;have c9:l≠u:=λ z=>by rw [<-z,d0] at hu;cases hu
  have h4:D≠u:=λ z=>by rw [<-z,e9] at hu;cases hu
  have J0:TaJ (kx w) (upd H9 u (.dK [])) H pt W u l D S hs 0 [] []:=⟨k6.tt (.of (K:=KX w.params) a4),g3.tups (.of a4),⟨[],z01,B0 _,rfl,λ k v e=>by cases e⟩,⟨[],a4 _ _ d0,.nil⟩,a4 _ _ e9,B0 _,trivial,R1 _⟩
  have e4:=s9.trans a4;generalize upd H9 u (.dK [])=a6 at J0 e4⊢;have hb :∀L:Int,0<=(if (if L > 0 then L else 0) < 2 * 4 then (if L > 0 then L else 0) else 2 * 4)/\(if (if L > 0 then L else 0) < 2 * 4 then (if L > 0 then L else 0) else 2 * 4)<=20:=λ L=>by split<;>split<;>omega
  obtain ⟨b1,b2⟩:=hb (((O.map V.int).length:Int) - 1);refine ⟨_,rfl,_,_,rfl,rfl,.inl ⟨by decide,by decide⟩,_,rfl,.inl ⟨sc,_,rfl,.inl (e4.seq sq),_,_,rfl,rfl,_,_,rfl,_,_,rfl,(if (if ((O.map V.int).length:Int) - 1 > 0 then ((O.map V.int).length:Int) - 1 else 0) < 2 * 4 then (if ((O.map V.int).length:Int) - 1 > 0 then ((O.map V.int).length:Int) - 1 else 0) else 2 * 4),rfl,by omega,by omega,?_⟩⟩;generalize (if (if ((O.map V.int).length:Int) - 1 > 0 then ((O.map V.int).length:Int) - 1 else 0) < 2 * 4 then (if ((O.map V.int).length:Int) - 1 > 0 then ((O.map V.int).length:Int) - 1 else 0) else 2 * 4)=JJ at b1 b2⊢;have tn:JJ.toNat<=20:=by omega
  generalize JJ.toNat=tt at tn⊢;refine z69 (lo:=0) (n:=tt) (λ i σ H'=>∃W es,TaJ (kx w) H' H pt W u l D S hs i (es.foldl oStep []) es/\Same H H'/\∃x3 Y x11 x12 x13 x14 x15 x16 x17,σ=[some (.ref sc),some (.int 4),some (.int (i0 % 2)),x3,some (.ref pt),some (.ref D),some (.int b4),some (.ref W),some (.ref l),some (.ref u),Y,x11,x12,x13,x14,x15,x16,x17])
   ⟨W,[],J0,e4,_,_,_,_,_,_,_,_,_,rfl⟩ ?_ ?_
  ·rintro i σ H3 hi ⟨W,es,J,s3,x3,Y,x11,x12,x13,x14,x15,x16,x17,rfl⟩;rw [Int.zero_add];refine g_name ?_;obtain ⟨ms,em⟩ :∃ms:List Int,pickV (O.map V.int) (some (1 + (i:Int))) (some 63) (some (2 * 4))=ms.map V.int:=zju λ y hy=>by obtain ⟨c,_,rfl⟩:=List.mem_map.mp (zim hy);exact ⟨c,rfl⟩
   have pl:(pickV (O.map V.int) (some (1 + (i:Int))) (some 63) (some (2 * 4))).length<=sizeLine:=F0 (zj6 (by omega)) (by rw [G0];exact F0 hn (by decide));refine z0o ?_;refine ⟨_,rfl,_,rfl,.inl ⟨_,_,rfl,rfl,_,rfl,63,rfl,_,rfl,_,_,rfl,rfl,.inl ⟨by decide,by decide⟩,_,rfl,sc,_,rfl,s3.seq sq,(show (some (2 * 4:Int))≠some 0 from λ e=>by injection e with e;omega),pl,λ p4 n8=>?_⟩⟩;have q4:=Same.upd (o:=.lst (pickV (O.map V.int) (some (1 + (i:Int))) (some 63) (some (2 * 4)))) n8;refine ⟨p4,ms,rfl,SqL.of (by rw [<-em];exact z01),?_⟩;refine ⟨_,rfl,_,rfl,_,_,rfl,rfl,.inl ⟨by decide,by decide⟩,.inl ⟨_,_,rfl,rfl,w_3,λ C f5=>?_⟩⟩;refine g_name ?_;have q5:=Same.upd (o:=.lst [.int ms.sum,.int (i0 % 2),.int (9 + 5 * (i:Int))]) f5;have D5:DeckAt (upd (upd H3 p4 (.lst (pickV (O.map V.int) (some (1 + (i:Int))) (some 63) (some (2 * 4))))) C (.lst [.int ms.sum,.int (i0 % 2),.int (9 + 5 * (i:Int))])) C (9 + 5 * i):=⟨_,_,_,z01,y0,y1,by omega,by omega⟩
   have J5:=(J.same q4).same q5;have t2:H C=none:=(s3.trans q4).free f5;have s5:=(s3.trans q4).trans q5;generalize upd (upd H3 p4 (.lst (pickV (O.map V.int) (some (1 + (i:Int))) (some 63) (some (2 * 4))))) C (.lst [.int ms.sum,.int (i0 % 2),.int (9 + 5 * (i:Int))])=H5 at D5 J5 s5⊢;have nd:u≠C/\l≠C/\D≠C:=by
    obtain ⟨F,b1,c1,e1,_⟩:=D5;refine ⟨λ z=>?_,λ z=>?_,λ z=>?_⟩
    ·obtain ⟨kv,e,_⟩:=(J.same q4).uw;rw [z,f5] at e;cases e
    ·obtain ⟨kv,e,_⟩:=(J.same q4).ev;rw [z,f5] at e;cases e
    ·have e:=(J.same q4).hn;rw [z,f5] at e;cases e
   have g8 :∀{n:Nat} {Ha Hb:Hp},Same H Ha->Dw C n Ha Hb->Same H Hb:=λ sa wa=>z1f sa (wa.keptL (L:=[C]) (by simp)) λ c B=>by rw [List.mem_singleton.mp B];exact t2
   refine z0o ?_;refine ⟨_,rfl,_,rfl,_,rfl,.inl ⟨D,_,rfl,.inl (SqL.of J5.hn),C,_,_,rfl,D5,by omega,by rw [G0];omega,by rw [G0];omega,λ t6 H6 w6 n5 t0=>?_⟩⟩;obtain ⟨v6,o8,o7⟩:=atI_of (xs:=hs.map V.int) n5 t0;obtain ⟨b,_,rfl⟩:=List.mem_map.mp o7;have Z:=J5.dw D5 w6 nd;have s6:=g8 s5 w6;have D6:=w6.r;refine .inl ⟨D,_,t6,_,rfl,rfl,SqL.of Z.hn,o8,?_⟩;refine g_name ?_;obtain ⟨a8,b0,o2,g2,k2⟩:=Z.uw;have dg:DGet H6 u (.int b) (valV a8 (.inl b)):=DGet.k (k:=.inl b) b0;refine ⟨_,rfl,_,rfl,u,_,rfl,dg,_,rfl,?_⟩;cases hv:valV a8 (.inl b) with
   | some v=>
    refine iteP rfl ?_;obtain ⟨f,rfl,ow,g4,g7,g0⟩:=k2 _ _ hv;refine z0o ?_;refine ⟨_,rfl,u,rfl,.inl ⟨_,.inl b0⟩,_,rfl,a8,.inl b,.ref f,b0,rfl,hv,?_⟩;refine g_name ?_;have k7:KeptL [u] H6 (upd H6 u (.dK (dropK a8 (.inl b)))):=KeptL.set (by simp);have T7:Tt (kx w) H6 (upd H6 u (.dK (dropK a8 (.inl b)))):=KeptL.tt k7 λ c B=>by rw [List.mem_singleton.mp B];exact .inr ⟨_,b0⟩
    have j7:upd H6 u (.dK (dropK a8 (.inl b))) u=some (.dK (dropK a8 (.inl b))):=z01;generalize upd H6 u (.dK (dropK a8 (.inl b)))=H7 at k7 T7 j7⊢;obtain ⟨ys,c7,e2⟩:=Z.ev;have c9:l≠u:=λ z=>by rw [z,b0] at c7;cases c7
    have h4:D≠u:=λ z=>by have:=Z.hn;rw [z,b0] at this;cases this
    have d2 :∀{p:Addr},OwnAt (kx w) H6 S p->p≠u:=λ o z=>by obtain ⟨_,_,_,_,_,_,e,_⟩:=o;rw [z,b0] at e;cases e
    have o1:b∈es.foldl oStep []:=by have:(Sum.inl b:Key)∈a8.map (·.1):=valV_isSomeK.mp (by rw [hv];rfl);rw [g2] at this;obtain ⟨k,hk,e⟩:=List.mem_map.mp this;exact j10 e ▸ hk
    have J7:TaJ (kx w) H7 H pt W u l D S hs i ((es.foldl oStep []).filter λ k=>decide (k≠b)) es:=⟨Z.th.tt T7,Z.st.tups T7.t,⟨_,j7,F0 (zf9 _ _) o2,zia g2,λ k v e=>by obtain ⟨p,h1,h2,h3⟩:=k2 k v (zew e);exact ⟨p,h1,h2.tt T7 λ o e=>k7 _ _ (by simp [d2 h2]) e,h3⟩⟩,⟨ys,k7 _ _ (by simp [c9]) c7,z03 (λ _ _ y=>y.tt T7) e2⟩,k7 _ _ (by simp [h4]) Z.hn,Z.ln,Z.wf,Z.cn⟩
    have f4:=ow.tt T7 λ o e=>k7 _ _ (by simp [d2 ow]) e;have D7:DeckAt H7 C (9 + 5 * i + 1):=by obtain ⟨F,b1,c1,e1,z1⟩:=D6;exact ⟨F,b1,c1,k7 _ _ (by simp [R3 nd.1]) e1,z1⟩
    have s7:Same H H7:=z1f s6 k7 λ c B=>by rw [List.mem_singleton.mp B];exact fu
    have h5:f≠C:=λ z=>by obtain ⟨_,_,_,_,_,_,e,_⟩:=f4;obtain ⟨F,b1,c1,e1,_⟩:=D7;rw [z,e1] at e;cases e
    obtain ⟨nm,vb,x,a,k,d,eo,hm,i6,ix,wi,an⟩:=id f4;refine z3e (λ σ1 M=>∃ps' a' xs,KeptL [f] H7 M/\OwnAt (kx w) M S f/\M f=some (.lst (xs++[a']))/\xs.length=3/\AnsI a'/\StsT (kx w) M ps' S (i + 1)/\σ1=[some (.ref sc),some (.int 4),some (.int (i0 % 2)),some (.ref C),some (.ref pt),some (.ref D),some (.int b4),some (.ref ps'),some (.ref l),some (.ref u),some (.int (i:Int)),some (.int b),some (.ref f),x13,x14,x15,x16,x17]) ?_ (λ tl=>?_);rotate_left
    ·refine ⟨_,rfl,.inl ⟨f,_,3,a,rfl,rfl,SqL.of eo,z0c (j:=3) rfl,rfl,_,rfl,?_⟩⟩;by_cases za:a=.non
     ·refine iteP (decide_eq_true za) ?_;refine ⟨_,rfl,_,rfl,_,rfl,pt,W,f,S,i,rfl,J7.th,ok,J7.st,by omega,f4,?_⟩;rintro p' M k8 i5 ⟨a',xs,e8,l8,ai⟩ e5;exact tl _ _ ⟨p',a',xs,k8,i5,e8,l8,ai,e5,rfl⟩
     ·exact iteN (by rw [decide_eq_false za];decide) (tl _ _ ⟨W,a,[.str nm,.str vb,x],KeptL.refl,f4,eo,rfl,an.resolve_left za,J7.st.le (T3 _),rfl⟩)
    rintro σ8 M ⟨ps',a',xs8,k8,i5,e8,l8,ai,e5,rfl⟩;have T8:Tt (kx w) H7 M:=KeptL.tt k8 λ c B=>by rw [List.mem_singleton.mp B];exact f4.mutAt
    have J8:TaJ (kx w) M H pt W u l D S hs i ((es.foldl oStep []).filter λ k=>decide (k≠b)) es:=J7.tt T8 [f] k8 ⟨by simp [R3 (d2 ow)],by simp [R3 g4],by simp [R3 g7]⟩ λ p hp _=>by rw [List.mem_singleton.mp hp];exact i5
    have D8:DeckAt M C (9 + 5 * i + 1):=by obtain ⟨F,b1,c1,e1,z1⟩:=D7;exact ⟨F,b1,c1,k8 _ _ (by simp [R3 h5]) e1,z1⟩
    have s8:Same H M:=z1f s7 k8 λ c B=>by rw [List.mem_singleton.mp B];exact g0
    refine z0o ?_;refine ⟨_,rfl,.inl ⟨f,_,3,a',rfl,rfl,SqL.of e8,z0c (j:=3) (by rw [B2 (by omega),l8];rfl),?_⟩⟩;refine g_name ?_;refine z3e (λ σ1 H9=>∃a9 n9,Dw C n9 M H9/\AnsI a9/\σ1=[some (.ref sc),some (.int 4),some (.int (i0 % 2)),some (.ref C),some (.ref pt),some (.ref D),some (.int b4),some (.ref ps'),some (.ref l),some (.ref u),some (.int (i:Int)),some (.int b),some (.ref f),some a9,x14,x15,x16,x17]) ?_ (λ k5=>?_);rotate_left
    ·obtain ⟨T0,tg,nt⟩ :∃T0,TagOf M a' T0/\instB T0 "tuple" = false:=by
      rcases ai with ⟨i9,rfl⟩|rfl|rfl
      ·exact ⟨"int",rfl,by decide⟩
      ·exact ⟨"str",rfl,by decide⟩
      ·exact ⟨"str",rfl,by decide⟩
     refine ⟨_,rfl,_,_,T0,rfl,tg,by decide,_,rfl,?_⟩;rw [nt];refine iteF ?_;refine ⟨_,rfl,_,rfl,C,b4,_,rfl,D8,by omega,v2,by omega,λ t9 H9 w9 _ _=>⟨rfl,_,rfl,ite2 (λ _=>?_) λ _=>k5 _ _ ⟨a',_,w9,ai,rfl⟩⟩⟩;refine ⟨_,_,rfl,rfl,p9,_,rfl,w_7,λ l9 h8=>?_⟩;refine ⟨_,rfl,C,7,_,rfl,w9.r.same (Same.upd h8),by omega,by decide,by decide,λ t3 a6 d9 h0 h1=>?_⟩;obtain ⟨a0,n7,i7⟩:=atI_of (xs:=[V.str "ok",.str "none",.int 0,.int 1,.int 2,.int (10 ^ (9:Int).toNat),.int (-1)]) h0 h1;refine .inl ⟨l9,_,t3,a0,rfl,rfl,SqL.of (d9.k _ _ (w9.r.fresh h8) z01),n7,k5 _ _ ⟨a0,_,(w9.same (Same.upd h8)).trans d9,?_,rfl⟩⟩;simp only [Y0,A0,or_false] at i7;rcases i7 with rfl|rfl|rfl|rfl|rfl|rfl|rfl
     ·exact .inr (.inl rfl)
     ·exact .inr (.inr rfl)
     ·exact .inl ⟨_,rfl⟩
     ·exact .inl ⟨_,rfl⟩
     ·exact .inl ⟨_,rfl⟩
     ·exact .inl ⟨_,rfl⟩
     ·exact .inl ⟨_,rfl⟩
    rintro σ9 H9 ⟨a9,n9,w9,ai9,rfl⟩;have J9:=J8.dw D8 w9 nd;have g3:=e5.tups (w9.tt D8).t;have s9:=g8 s8 w9;obtain ⟨U,d0,j8⟩:=J9.ev;have i2:U.length<=20:=by rw [z05 j8];have:=J9.ln;omega
    refine ⟨_,rfl,.inl ⟨rfl,_,SqL.of d0⟩,_,rfl,_,rfl,w_3,λ a5 p5=>?_⟩;have a4:=Same.upd (o:=.tup [.str "end",.int b,a9]) p5;have g5:upd H9 a5 (.tup [.str "end",.int b,a9]) a5=some (.tup [.str "end",.int b,a9]):=z01;have I:=J9.same a4;have m4:=g3.tups (.of a4);generalize upd H9 a5 (.tup [.str "end",.int b,a9])=a6 at a4 g5 I m4⊢;have e3:=a4 _ _ d0;have f9:=z03 (λ _ _ z=>EvQ.tt (.of a4) z) j8;refine ⟨l,U,_,rfl,rfl,e3,T1 i2 (by decide),?_⟩;have d7:KeptL [l] a6 (upd a6 l (.lst (U++[.ref a5]))):=KeptL.set (by simp);have d4:Tt (kx w) a6 (upd a6 l (.lst (U++[.ref a5]))):=KeptL.tt d7 λ c B=>by rw [List.mem_singleton.mp B];exact .inl ⟨_,e3⟩
    have f0:upd a6 l (.lst (U++[.ref a5])) l=some (.lst (U++[.ref a5])):=z01;generalize upd a6 l (.lst (U++[.ref a5]))=b7 at d7 d4 f0⊢;obtain ⟨b3,g6,j4,f6,i4⟩:=I.uw;have f8:D≠l:=λ z=>j3 z.symm;have g9:u≠l:=λ z=>c9 z.symm;refine ⟨ps',es++[.fin b a9],⟨I.th.tt d4,m4.tups d4.t,⟨b3,d7 _ _ (by simp [g9]) g6,Q3 j4,by rw [j12];exact f6,λ k v e=>?_⟩,⟨_,f0,?_⟩,d7 _ _ (by simp [f8]) I.hn,?_,EWf.snoc (e:=.fin b a9) I.wf o1,F0 (V5 zn0) I.cn⟩,z1f (s9.trans a4) d7 (λ c B=>by rw [List.mem_singleton.mp B];exact fl),_,_,_,_,_,_,_,_,_,rfl⟩
    ·obtain ⟨p,h1,h2,h3⟩:=i4 k v e;exact ⟨p,h1,h2.tt d4 λ o e=>d7 _ _ (by simp [h3.1]) e,h3⟩
    ·refine z2v (z03 (λ _ _ z=>EvQ.tt d4 z) f9) ?_;have se:=d4.l _ _ g5;refine ⟨⟨a5,rfl,SqT.of se⟩,⟨a5,_,rfl,SqT.of se⟩,?_⟩;rcases ai9 with ⟨i9,rfl⟩|rfl|rfl
     ·exact .inl ⟨_,rfl⟩
     ·exact .inr ⟨_,rfl⟩
     ·exact .inr ⟨_,rfl⟩
    ·rw [K0];exact T4 I.ln
   | none=>
    refine iteN (by decide) ?_;obtain ⟨ys,c7,e2⟩:=Z.ev;have c9:l≠u:=λ z=>by rw [z,b0] at c7;cases c7
    have u7:ys.length<=20:=by rw [z05 e2];have:=Z.ln;omega
    refine zjb (zlr ?_);refine zdz (α:=Ev×V) (K:=KX w.params) (l:=l) (rs:=es.zip ys) (xs:=ys) (RA:=λ H a v=>a.2=v/\EvQ (kx w) S H a.1 v) (.fin 0 .non,.non) (λ a=>decide (V.str (wordE a.1)=V.str "begin")) (λ a=>a.2) (λ R h=>⟨_,rfl,h⟩) (SqL.of c7) (λ H H' a v s z=>⟨z.1,z.2.tt (.of s)⟩) (zfb e2) ?_ ?_ ?_
    ·exact F0 (by rw [List.length_zip];exact Nat.min_le_right _ _) (F0 u7 (by decide))
    ·rintro ⟨z,v⟩ _ v' H7 s7 ⟨rfl,⟨_,⟨p,r,rfl,sqp⟩,_⟩⟩ KT KF h1 h2;refine ⟨[some (.ref p)],rfl,rfl,?_⟩;refine ⟨_,rfl,.inr (.inl ⟨p,_,0,.str (wordE z),rfl,rfl,sqp,z0c (j:=0) rfl,rfl,_,rfl,?_⟩)⟩;by_cases y:decide (V.str (wordE z)=V.str "begin")=true
     ·exact iteP y ⟨_,rfl,h1 y _ (Same.refl _)⟩
     ·exact iteN y (h2 (by simpa using y) _ (Same.refl _))
    intro l7 H7 q7 u1;have q8:=Same.upd (o:=.lst (((es.zip ys).filter λ a=>decide (V.str (wordE a.1)=V.str "begin")).map λ a=>a.2)) u1;refine .inl ⟨l7,_,rfl,.inl (SqL.of z01),_,rfl,_,_,rfl,rfl,_,rfl,?_⟩;have J8:=Z.same (q7.trans q8);have D8:=D6.same (q7.trans q8);have s8:=s6.trans (q7.trans q8);generalize upd H7 l7 (.lst (((es.zip ys).filter λ a=>decide (V.str (wordE a.1)=V.str "begin")).map λ a=>a.2))=M at J8 D8 s8⊢;refine ite2 (λ g1=>?_) λ _=>⟨W,es,J8.le,s8,_,_,_,_,_,_,_,_,_,rfl⟩
    have q0:bgN es + 1<=4:=by have g1:=of_decide_eq_true g1;have hz:((es.zip ys).filter λ a=>decide (V.str (wordE a.1)=V.str "begin")).length=bgN es:=zk2 (p:=isBg) (z05 e2).symm;rw [G0,hz] at g1;exact Int.ofNat_lt.mp g1
    obtain ⟨yt,k9,l3⟩:=J8.th;have w0:yt.length=S.length:=z05 l3;have v3:=ok.n0;have v5:=ok.n6;refine ⟨_,rfl,_,rfl,_,rfl,.inl ⟨pt,yt,rfl,.inr (SqT.of k9),C,_,_,rfl,D8,by omega,by omega,by omega,λ t9 H9 w9 r6 r7=>?_⟩⟩;obtain ⟨v9,r8,m8⟩:=atI_of (xs:=yt) r6 r7;obtain ⟨j,hj⟩:=List.mem_iff_getElem?.mp m8;obtain ⟨t,ht,b9,rfl,e9⟩:=z0i l3 hj;have h6:=Q0 ht;have T9:Tt (kx w) M H9:=w9.tt D8;refine .inr (.inl ⟨pt,yt,t9,_,rfl,rfl,SqT.of (T9.l _ _ k9),r8,b9,_,rfl,SqT.of (T9.l _ _ e9),rfl,_,_,rfl,_,_,rfl,rfl,?_⟩);refine ⟨_,rfl,_,rfl,C,t.2,_,rfl,w9.r,by omega,ok.ks t h6,λ a5 a0 Y m6 a6 u3 d9 i7 g5 _ i6 ix wi=>⟨a5,_,rfl,SqT.of g5,rfl,_,_,rfl,_,_,rfl,rfl,?_⟩⟩;have m1:=w9.trans d9;have I:=J8.dw D8 m1 nd;have o4:=d9.r;have e4:=g8 s8 m1;obtain ⟨U,e3,f9⟩:=I.ev;have i2:U.length<=20:=by rw [z05 f9];have:=I.ln;omega
    refine ⟨_,rfl,.inl ⟨rfl,_,SqL.of e3⟩,_,rfl,_,rfl,_,rfl,_,rfl,w_5,λ b8 u0=>?_⟩;obtain ⟨b7,v_,d5,o5⟩:=newA (.tup [.str "begin",.int b,.str t.1,.str a0,Y]) u0;rw [<-v_];have f0:=d5 _ _ e3;refine ⟨l,U,_,rfl,rfl,f0,T1 i2 (by decide),?_⟩;have d6:KeptL [l] b7 (upd b7 l (.lst (U++[.ref b8]))):=KeptL.set (by simp);have k3:Tt (kx w) b7 (upd b7 l (.lst (U++[.ref b8]))):=KeptL.tt d6 λ c B=>by rw [List.mem_singleton.mp B];exact .inl ⟨_,f0⟩
    have h9:upd b7 l (.lst (U++[.ref b8])) l=some (.lst (U++[.ref b8])):=z01;generalize upd b7 l (.lst (U++[.ref b8]))=H12 at d6 k3 h9⊢;obtain ⟨b3,g6,j4,f6,i4⟩:=I.uw;have f8:D≠l:=λ z=>j3 z.symm;have g9:u≠l:=λ z=>c9 z.symm;have l1:Same H H12:=z1f (e4.trans d5) d6 λ c B=>by rw [List.mem_singleton.mp B];exact fl
    have l6:=d6 _ _ (show u∉[l] by simp [g9]) (d5 _ _ g6);have o9:=d6 _ _ (show D∉[l] by simp [f8]) (d5 _ _ I.hn);refine ⟨_,rfl,_,rfl,_,rfl,w_4,λ f b6=>?_⟩;have d3:=Same.upd (o:=.lst [.str t.1,.str a0,Y,.non]) b6;have k0:upd H12 f (.lst [.str t.1,.str a0,Y,.non]) f=some (.lst [.str t.1,.str a0,Y,.non]):=z01;have g4:f≠l:=λ z=>by rw [z,h9] at b6;cases b6
    have g7:f≠D:=λ z=>by rw [z,o9] at b6;cases b6
    have d2:f≠u:=λ z=>by rw [z,l6] at b6;cases b6
    have g0:H f=none:=l1.free b6;generalize upd H12 f (.lst [.str t.1,.str a0,Y,.non])=H13 at d3 k0⊢;have m2:=d3 _ _ l6;refine ⟨_,rfl,_,rfl,u,_,rfl,DPut.k (k:=.inl b) m2 (T1 (m:=100) (by omega) (by decide)),?_⟩;have d8:KeptL [u] H13 (upd H13 u (.dK (putK b3 (.inl b) (.ref f)))):=KeptL.set (by simp);have j9:Tt (kx w) H13 (upd H13 u (.dK (putK b3 (.inl b) (.ref f)))):=KeptL.tt d8 λ c B=>by rw [List.mem_singleton.mp B];exact .inr ⟨_,m2⟩
    have j1:upd H13 u (.dK (putK b3 (.inl b) (.ref f))) u=some (.dK (putK b3 (.inl b) (.ref f))):=z01;generalize upd H13 u (.dK (putK b3 (.inl b) (.ref f)))=H14 at d8 j9 j1⊢;have k1:Tt (kx w) b7 H14:=(k3.trans (.of d3)).trans j9;have T:Tt (kx w) a6 H14:=Tt.trans (.of d5) k1;have kk:KeptL [l,u] a6 H14:=λ c o n e=>by simp only [Y0,A0,or_false,not_or] at n;exact d8 _ _ (by simp [n]) (d3 _ _ (d6 _ _ (by simp [n]) (d5 _ _ e)))
    have u6:Same H H14:=z1f (l1.trans d3) d8 λ c B=>by rw [List.mem_singleton.mp B];exact fu
    have l5:=d8 _ _ (show f∉[u] by simp [d2]) k0;have l0:OwnAt (kx w) H14 S f:=⟨t.1,a0,Y,.non,t.2,m6,l5,h6,i6,IsDt.mono' T.t _ _ ix,wi.tt T,.inl rfl⟩
    have k4:(Sum.inl b:Key)∉a8.map (·.1):=λ z=>by have:=valV_isSomeK.mpr z;rw [hv] at this;cases this
    have v1:b∉es.foldl oStep []:=λ z=>k4 (by rw [g2];exact List.mem_map.mpr ⟨b,z,rfl⟩);have t1:TaJ (kx w) H14 H pt W u l D S hs (i + 1) ((es++[Ev.beg b (.str t.1) (.str a0) Y]).foldl oStep []) (es++[.beg b (.str t.1) (.str a0) Y]):=by
     refine ⟨I.th.tt T,(I.st.tups T.t).le (T3 _),⟨_,j1,F0 (zco _ _ _) (by omega),?_,λ k v e=>?_⟩,⟨_,d8 _ _ (show l∉[u] by simp [c9]) (d3 _ _ h9),?_⟩,kk _ _ (by simp [f8,h4]) I.hn,?_,EWf.snoc (e:=.beg b (.str t.1) (.str a0) Y) I.wf v1,F0 (V5 zmf) q0⟩
     ·have r4:(Sum.inl b:Key)∉b3.map (·.1):=by rw [f6,<-g2];exact k4
      rw [j12,zfw r4,u2,f6];show _=((es.foldl oStep [])++[b]).map Sum.inl;rw [u2];rfl
     ·rw [z5m] at e;by_cases z:k=.inl b
      ·rw [if_pos z] at e;cases e;exact ⟨f,rfl,l0,g4,g7,g0⟩
      ·rw [if_neg z] at e;obtain ⟨p,h1,h2,h3⟩:=i4 k v e;refine ⟨p,h1,h2.tt T λ o e=>kk _ _ ?_ e,h3⟩;have:p≠u:=λ y=>by obtain ⟨_,_,_,_,_,_,e,_⟩:=h2;rw [y,g6] at e;cases e
       simp [h3.1,this]
     ·refine z2v (z03 (λ _ _ z=>EvQ.tt T z) f9) ?_;have se:=k1.l _ _ o5;exact ⟨⟨b8,rfl,SqT.of se⟩,⟨b8,_,rfl,SqT.of se⟩,⟨t.1,t.2,a0,m6,rfl,rfl,h6,i6,IsDt.mono' T.t _ _ ix,wi.tt T⟩⟩
     ·rw [K0];exact T4 I.ln
    have e0:DeckAt H14 C u3:=by obtain ⟨F,b1,c1,e1,z1⟩:=o4;exact ⟨F,b1,c1,kk _ _ (by simp [R3 nd.1,R3 nd.2.1]) e1,z1⟩
    have h5:f≠C:=λ z=>by obtain ⟨F,b1,c1,e1,_⟩:=e0;rw [<-z,l5] at e1;cases e1
    refine ⟨_,rfl,C,2,_,rfl,e0,by omega,by decide,by decide,λ v8 j2 d1 _ _=>⟨rfl,_,rfl,?_⟩⟩;have i8:=t1.dw e0 d1 nd;have j5:=g8 u6 d1;have u8:=d1.k _ _ nd.1 j1;have l2:OwnAt (kx w) j2 S f:=l0.tt (d1.tt e0) λ o e=>d1.k _ _ h5 e;refine ite2 (λ _=>?_) λ _=>⟨W,_,i8,j5,_,_,_,_,_,_,_,_,_,rfl⟩
    have u5:DGet j2 u (.int b) (some (.ref f)):=by have:=DGet.k (k:=.inl b) u8;rw [z5m,if_pos rfl] at this;exact this
    refine ⟨_,rfl,_,rfl,_,rfl,_,rfl,u,.ref f,rfl,u5,pt,W,f,S,i,rfl,i8.th,ok,I.st.tups (T.trans (d1.tt e0)).t,by omega,l2,?_⟩;rintro p' s0 i3 t8 _ o0;have r5:Tt (kx w) j2 s0:=KeptL.tt i3 λ c B=>by rw [List.mem_singleton.mp B];exact l2.mutAt
    have c8:=i8.tt r5 [f] i3 ⟨by simp [R3 d2],by simp [R3 g4],by simp [R3 g7]⟩ λ p hp _=>by rw [List.mem_singleton.mp hp];exact t8
    exact ⟨p',_,⟨c8.th,o0,c8.uw,c8.ev,c8.hn,c8.ln,c8.wf,c8.cn⟩,z1f j5 i3 (λ c B=>by rw [List.mem_singleton.mp B];exact g0),_,_,_,_,_,_,_,_,_,rfl⟩
  ·rintro σ H3 ⟨W,es,J,s3,x3,Y,x11,x12,x13,x14,x15,x16,x17,rfl⟩;obtain ⟨ys,p7,p0⟩:=J.ev;refine ⟨_,rfl,_,rfl,l,ys,rfl,.inl ⟨SqL.of p7,λ te o3=>⟨w_2,λ t ht=>?_⟩⟩⟩;have sE:=Same.upd (o:=.tup ys) o3;have sF:=sE.trans (Same.upd (o:=.tup [.ref pt,.ref te]) ht);exact q t pt te ys es S _ (s3.trans sF) z01 ((Same.upd ht) _ _ z01) (J.th.tt (.of (K:=KX w.params) sF)) ok p3 (z03 (λ _ _ z=>EvQ.tt (.of sF) z) p0) (F0 J.ln tn) J.wf J.cn
def svD:Sv->PyData
 | .num i=>.int i
 | .row ns=>.tuple (ns.map PyData.int)
def plD (pl:Pl):PyData:=.tuple [.tuple (pl.1.map λ (n:Nat)=>.int (n:Int)),.tuple (pl.2.map svD)]
theorem zgw {K:c0} {H:Hp} :∀ns:List Int,IsPds K H (ns.map PyData.int) (ns.map V.int)
 | []=>rfl
 | n :: ns=>⟨_,_,rfl,rfl,zgw ns⟩
theorem zkd {K:c0} {H:Hp} :∀ns:List Nat,IsPds K H (ns.map λ (n:Nat)=>.int (n:Int)) (nsV ns)
 | []=>rfl
 | n :: ns=>⟨_,_,rfl,rfl,zkd ns⟩
theorem stz_pd {K:c0} {H:Hp} :∀{s:Sv} {v:V},StZ K H s v->IsPd K H (svD s) v
 | .num _,_,h=>h
 | .row ns,_,h=>h.elim λ p z=>⟨p,_,z.1,z.2,zgw ns⟩
theorem zmg {K:c0} {H:Hp} {ss:List Sv} {vs:List V} (h:All2 (StZ K H) ss vs):IsPds K H (ss.map svD) vs:=by
 induction h with
 | nil=>exact (rfl:([]:List V)=[])
 | cons a r ih=>exact ⟨_,_,rfl,stz_pd a,ih⟩
theorem plz_pd {K:c0} {H:Hp} {p:Addr} {pl:Pl} (h:PlZ K H p pl):IsPd K H (plD pl) (.ref p):=by obtain ⟨c,f,g,d,e,b,a⟩:=h;exact ⟨p,_,rfl,d,_,_,rfl,⟨c,_,rfl,e,zkd _⟩,_,_,rfl,⟨f,_,rfl,b,zmg a⟩,rfl⟩
theorem z3u {α:Type} {f:α->PyData} :∀{xs:List α},(∀x∈xs,plainP (f x)=true)->z14 (xs.map f)=true
 | [],_=>rfl
 | x :: xs,h=>by show (plainP (f x) && z14 (xs.map f))=true;rw [h x F1,z3u λ y a=>h y (E1 _ a)];rfl
theorem z4z {α:Type} {f:α->PyData} {n:Nat} :∀{xs:List α},(∀x∈xs,(f x).depth<=n)->Q1 (xs.map f)<=n
 | [],_=>R1 _
 | x :: xs,h=>by have c:=h x F1;have b:=z4z (f:=f) (n:=n) (xs:=xs) λ y a=>h y (E1 _ a);show max (f x).depth (Q1 (xs.map f))<=n;omega
theorem zgv (s:Sv):plainP (svD s)=true/\(svD s).depth<=1:=by
 cases s with
 | num i=>exact ⟨rfl,R1 _⟩
 | row ns=>exact ⟨z3u λ _ _=>rfl,by have:=z4z (f:=PyData.int) (n:=0) (xs:=ns) (λ _ _=>B0 _);simp only [svD,j38];omega⟩
theorem zlg (pl:Pl):plainP (plD pl)=true/\(plD pl).depth<=3:=by
 have a:z14 (pl.1.map λ (n:Nat)=>PyData.int (n:Int))=true:=z3u λ _ _=>rfl;have b:z14 (pl.2.map svD)=true:=z3u λ s _=>(zgv s).1;have c:=z4z (f:=λ (n:Nat)=>PyData.int (n:Int)) (n:=0) (xs:=pl.1) (λ _ _=>B0 _);have d:=z4z (f:=svD) (n:=1) (xs:=pl.2) (λ s _=>(zgv s).2);refine ⟨?_,?_⟩
 ·show (z14 _ && (z14 _ && true))=true;rw [a,b];rfl
 ·unfold plD;simp only [j38,Q1];omega
theorem zm3 {K:c0} {H:Hp} {c:Nat->Bool} {ts:List (Str×Str)} {rs:List Rc} {ps:List DD} {pl:Pl} {k N i:Nat} (gd:All2 (RcGd K H ts) rs ps) (ok:ThW ts) (po:PlOk ts N k pl) (rl:N<=63) (hN:N=rs.length) (hc :∀n,c n=true->n∉pl.1) (hi:i<=N) :∀s∈nexT c ts rs ps pl i,AnsV s.2.1/\∃n r p sv,n < N/\c n=true/\rs[n]? = some r/\ps[n]? = some p/\pl.2[ixT ts p.nm]? = some sv/\SvOk k p.k sv/\s=stq ts p n pl sv:=by
 intro s b;unfold nexT at b;obtain ⟨n,l,e⟩:=List.mem_filterMap.mp b;have l:=List.mem_range.mp l;unfold nexAt at e;cases h:c n with
 | false=>rw [h] at e;cases e
 | true=>
  have d:rs[n]? = some rs[n]:=N0 (by omega);obtain ⟨p,m,g⟩:=z34 gd d;rw [if_pos h,d,m] at e;generalize rs[n]=r at d g e;have o:=ixT_of ok g.2.2.1;obtain ⟨sv,b,f⟩:=z34 po.so o;have e:stp ts r p n pl=some s:=e;rw [stp_of b] at e;cases hb:r.e.isNone || decide ((dz p.k p.vb p.dt sv).2=r.a) with
  | false=>rw [hb] at e;cases e
  | true=>rw [hb] at e;have e:stq ts p n pl sv=s:=P1 e;have q:=dz_ok g.2.2.2.1 f (po.n63 rl (j:=n) (by omega) (hc n h)).1;rw [<-e];exact ⟨q.2,n,r,p,sv,by omega,h,d,m,b,f,rfl⟩
theorem cP_no {m:Nat} {rs:List Rc} {ns:List Nat} {n:Nat} (h:cP m rs ns n=true):n∉ns:=of_decide_eq_true (Bool.and_eq_true_iff.mp (Bool.and_eq_true_iff.mp h).1).1
theorem new1 {H:Hp} {p:Addr} (o:HO) (h:H p=none) :∃H',H'=upd H p o/\Same H H'/\H' p=some o:=⟨_,rfl,Same.upd h,z01⟩
theorem zk5 {K:c0} {H:Hp} {m:Nat} {ts:List (Str×Str)} {rs:List Rc} {ps:List DD} {pl:Pl} (gd:All2 (RcGd K H ts) rs ps) (ok:ThW ts) (po:PlOk ts rs.length pl.1.length pl) (rl:rs.length<=63) :∀s∈nexT (cP m rs pl.1) ts rs ps pl rs.length,PlOk ts rs.length s.2.2.1.length s.2.2/\s.2.2.1.length=pl.1.length + 1:=by
 intro s E;obtain ⟨_,n,r,p,C,v,N,J,D,G,B,rfl⟩:=zm3 (c:=cP m rs pl.1) gd ok po rl rfl (λ n h=>cP_no h) (B0 _) s E;have l:=cP_no N;have j:=zcj (pl.1++[n]);have o:(srtN (pl.1++[n])).length=pl.1.length + 1:=by rw [j.length_eq,K0];rfl
 obtain ⟨P,u,g⟩:=z34 gd J;rw [D] at u;cases u;have L:=dz_ok g.2.2.2.1 B (po.n63 rl v l).1;show PlOk ts rs.length (srtN (pl.1++[n])).length (srtN (pl.1++[n]),pl.2.set (ixT ts p.nm) (dz p.k p.vb p.dt C).1)/\(srtN (pl.1++[n])).length=pl.1.length + 1;refine ⟨⟨?_,λ x M=>?_,?_,.inr (B0 _)⟩,o⟩
 ·refine j.nodup_iff.mpr ?_;rw [C6];exact ⟨po.nd,by simp,λ a A b y e=>l (by rw [<-List.mem_singleton.mp y,<-e];exact A)⟩
 ·rcases List.mem_append.mp (j.mem_iff.mp M) with z|z
  ·exact po.lt x z
  ·rw [List.mem_singleton.mp z];exact v
 ·rw [o];have w:pl.2.length=ts.length:=z05 po.so;refine z2i (by rw [j24,w]) λ i t Q f d=>?_;rw [List.getElem?_set] at d;by_cases z:ixT ts p.nm=i
  ·subst z;have I:=ixT_of ok g.2.2.1;rw [I] at f;cases f;rw [if_pos rfl,if_pos (List.getElem?_eq_some_iff.mp G).1] at d;cases d;exact L.1
  ·rw [if_neg z] at d;obtain ⟨O,q,F⟩:=z0i po.so d;rw [f] at q;cases q;exact F.le (T3 _)
theorem zhn {c:Nat->Bool} {ts:List (Str×Str)} {rs:List Rc} {ps:List DD} {pl:Pl} {i:Nat} {s:Stp} (h:nexAt c ts rs ps pl i=some s):s.1=i/\c i=true:=by
 unfold nexAt at h;cases e:c i with
 | false=>rw [e] at h;cases h
 | true=>
  rw [if_pos e] at h;refine ⟨?_,rfl⟩;cases hr:rs[i]? with
  | none=>rw [hr] at h;cases h
  | some r=>
   cases hp:ps[i]? with
   | none=>rw [hr,hp] at h;cases h
   | some p=>
    rw [hr,hp] at h;have h:stp ts r p i pl=some s:=h;unfold stp at h;cases hs:pl.2[ixT ts p.nm]? with
    | none=>rw [hs] at h;cases h
    | some sv=>
     rw [hs] at h;dsimp only at h;split at h
     ·cases h;rfl
     ·cases h
theorem zcw {m:Nat} {ts:List (Str×Str)} {rs:List Rc} {ps:List DD} {pl:Pl} (nd:pl.1.Nodup) (lt :∀x∈pl.1,x < rs.length):pl.1.length + (nexT (cP m rs pl.1) ts rs ps pl rs.length).length<=rs.length:=by
 have j :∀i,(((nexT (cP m rs pl.1) ts rs ps pl i).map (·.1)).Nodup/\∀x∈(nexT (cP m rs pl.1) ts rs ps pl i).map (·.1),x < i/\x∉pl.1):=λ i=>by
  induction i with
  | zero=>exact ⟨.nil,λ x c=>absurd c A0⟩
  | succ i ih=>
   rw [z9d,u2];cases h:nexAt (cP m rs pl.1) ts rs ps pl i with
   | none=>rw [j53,R5,N2];exact ⟨ih.1,λ x c=>⟨A2 (ih.2 x c).1,(ih.2 x c).2⟩⟩
   | some s=>
    obtain ⟨e,l⟩:=zhn h;rw [Option.toList_some,J1,R5,e];refine ⟨?_,λ x c=>?_⟩
    ·rw [C6];refine ⟨ih.1,by simp,λ a f b d z=>?_⟩;have:=(ih.2 a f).1;rw [List.mem_singleton.mp d] at z;omega
    ·rcases List.mem_append.mp c with z|z
     ·exact ⟨A2 (ih.2 x z).1,(ih.2 x z).2⟩
     ·rw [List.mem_singleton.mp z];exact ⟨O2 i,cP_no l⟩
 obtain ⟨k,g⟩:=j rs.length;have:=z66 rs.length (pl.1++(nexT (cP m rs pl.1) ts rs ps pl rs.length).map (·.1)) (by
  rw [C6];exact ⟨nd,k,λ a f b d e=>(g b d).2 (e ▸ f)⟩) λ x c=>by
   rcases List.mem_append.mp c with z|z
   ·exact lt x z
   ·exact (g x z).1
 rwa [K0,G0] at this
theorem z67 {α:Type} {f:α->PyData} :∀{xs:List α},(∀x∈xs,keyD (f x)=true)->keyDs (xs.map f)=true
 | [],_=>rfl
 | x :: xs,h=>by show (keyD (f x) && keyDs (xs.map f))=true;rw [h x F1,z67 λ y a=>h y (E1 _ a)];rfl
theorem sv_key (s:Sv):keyD (svD s)=true:=by
 cases s with
 | num i=>rfl
 | row ns=>exact z67 λ _ _=>rfl
theorem pl_key (pl:Pl):keyD (plD pl)=true:=by have b:keyDs (pl.1.map λ (n:Nat)=>PyData.int (n:Int))=true:=z67 λ _ _=>rfl;have a:keyDs (pl.2.map svD)=true:=z67 λ s _=>sv_key s;show (keyDs _ && (keyDs _ && true))=true;rw [b,a];rfl
theorem pl_dep (pl:Pl):(plD pl).depth<=7:=F0 (zlg pl).2 (by decide)
theorem z8x :∀{xs ys:List PyData},(∀(i:Nat) x y,xs[i]? = some x->ys[i]? = some y->(ltD x y).isSome=true)->(ltDs xs ys).isSome=true
 | [],_,_=>by unfold ltDs;rfl
 | _ :: _,[],_=>by unfold ltDs;rfl
 | x :: xs,y :: ys,h=>by
  unfold ltDs;dsimp only;split
  ·exact z8x λ i a b d c=>h (i + 1) a b d c
  ·exact h 0 x y rfl rfl
theorem zjv (xs ys:List Int):(ltD (.tuple (xs.map PyData.int)) (.tuple (ys.map PyData.int))).isSome=true:=by unfold ltD;refine z8x λ i x y d c=>?_;rw [W0] at d c;obtain ⟨a,_,rfl⟩:=Option.map_eq_some_iff.mp d;obtain ⟨b,_,rfl⟩:=Option.map_eq_some_iff.mp c;unfold ltD;rfl
theorem lt_sv {k:Str} {n n':Nat} {s s':Sv} (h:SvOk n k s) (h':SvOk n' k s'):(ltD (svD s) (svD s')).isSome=true:=by
 cases s with
 | num i=>
  cases s' with
  | num j=>show (ltD (.int i) (.int j)).isSome=true;unfold ltD;rfl
  | row ns=>exact absurd h'.1 h.1
 | row ns=>
  cases s' with
  | num j=>exact absurd h.1 h'.1
  | row ms=>exact zjv ns ms
theorem lt_pl {ts:List (Str×Str)} {N n n':Nat} {pl pl':Pl} (h:PlOk ts N n pl) (h':PlOk ts N n' pl'):(ltD (plD pl) (plD pl')).isSome=true:=by
 unfold plD ltD;refine z8x λ i x y c d=>?_
 match i,c,d with
 | 0,c,d=>
  cases c;cases d;have e :∀f:List Nat,(f.map λ (n:Nat)=>PyData.int (n:Int))=(f.map λ (n:Nat)=>(n:Int)).map PyData.int:=λ f=>by rw [G3];rfl
  rw [e,e];exact zjv _ _
 | 1,c,d=>cases c;cases d;unfold ltD;refine z8x λ i x y c d=>?_;rw [W0] at c d;obtain ⟨a,o,rfl⟩:=Option.map_eq_some_iff.mp c;obtain ⟨b,m,rfl⟩:=Option.map_eq_some_iff.mp d;obtain ⟨t,k,g⟩:=z0i h.so o;obtain ⟨p,j,l⟩:=z0i h'.so m;rw [k] at j;cases j;exact lt_sv g l
 | i + 2,c,d=>cases c
theorem pl_tup (pl:Pl) :∃xs ys,plD pl=.tuple (.tuple xs :: ys):=⟨_,_,rfl⟩
theorem zbv (ts:List (Str×Str)) (N:Nat):PlOk ts N 0 ([],ts.map λ t=>zeroK t.2):=⟨.nil,λ _ h=>absurd h A0,by refine z2i (by rw [G0]) λ i t s b a=>?_;rw [W0,b] at a;cases a;exact zl4 _,.inl (R1 _)⟩
def wkN:Nat->Nat
 | 0=>1
 | n + 1=>1 + (n + 1) * (wkN n + 1)
def wkP (N:Nat) (ws:List Pl):Nat:=(ws.map λ pl=>wkN (N - pl.1.length)).sum
theorem wkN_4 {n:Nat} (h:n<=4):wkN n<=129:=(by decide :∀n,n < 5->wkN n<=129) n (by omega)
theorem zh6 {N:Nat} {xs ys:List Pl}:wkP N (xs++ys)=wkP N xs + wkP N ys:=by unfold wkP;rw [u2,List.sum_append]
theorem zdl {N:Nat} {x:Pl}:wkP N [x]=wkN (N - x.1.length):=by unfold wkP;simp
theorem nt_cb1 {f:List V->Hp->VK->Prop} {te:TE} {σ:L2.St} {H:Hp} {Q:Bool->Hp->Prop} (h:te σ H λ x H1=>f [x] H1 λ y H2=>∃c,y=.bl c/\Q (!c) H2):tNot (tB (tCB f (tCons te tNil))) σ H Q:=h
theorem tn_x {D:Ends} {σ:L2.St} {H:Hp} (h:D.nx σ H):tNext D σ H:=h
theorem zjm {us:List V} {n:Nat} {f:Nat->Bool} (al:All2 (λ (_:Nat) (y:V)=>∃b,y=V.bl b) ((K1 n).filter f) us) :∀y∈us,∃b,y=V.bl b:=λ y a=>by obtain ⟨i,c⟩:=List.mem_iff_getElem?.mp a;obtain ⟨j,_,b,e⟩:=z0i al c;exact ⟨b,e⟩
theorem all_bl {K:c0} {H:Hp} {l:Addr} {us:List V} {n:Nat} {f:Nat->Bool} {Q:VK} (e:H l=some (.lst us)) (al:All2 (λ (_:Nat) (y:V)=>∃b,y=V.bl b) ((K1 n).filter f) us) (q :∀b,Q (.bl b) H) :∃p ys,[V.ref l]=[V.ref p]/\SqL K H p ys/\(∀y∈ys,∃b,y=.bl b)/\Q (.bl (ys.all λ y=>decide (y=V.bl true))) H:=
 ⟨l,us,rfl,SqL.of e,zjm al,q _⟩
def z4d (K:c0):Sp:=λ vs H Q _=>∃(a:Addr) (ns:List Int),vs=[.ref a]/\H a=some (.tup (ns.map V.int))/\ns.length<=100/\∀b H',Same H H'->Q (.bl b) H'
theorem zbz (T:TX (kx w) mg) (c0:Ca P w mg base "is_whole" ["value"] 1 z3w):Fo P w mg base CX0 2 47 y14 ["values"] (z4d (kx w)):=by
 refine (z59 w.params).ok zbp (λ j H Q E h=>?_) (λ F A B s H j Q E o h=>?_)
 ·obtain ⟨a,c,rfl,_⟩:=h;rfl
 ·obtain ⟨a,c,rfl,e,k,q⟩:=h;refine ⟨_,(z04 (ps_ret (pe_and (z09 z0t rfl (T.no (z0g _)) X1 (z00 (pv 0) (z00 (z37 (v:=.ty "tuple") rfl (T.no (z30 _)) S4 rfl) pa_nil))) (pe_one (z09 (z23 rfl) rfl (T.no (n_all _)) x9 (z00 (pe_cg (xs:=["value"]) (g:=gName 0) (fr:=[]) (pi_tup (pv 0)) (λ _ _ _ _ _=>(pg_cn (N:=["value"]) 0)) (λ _ _ _ _ _=>pf_nil) (λ _ _ _ _ _=>(pe_cal c0 (o.mono (by decide)) rfl (z00 (pv 0) pa_nil)))) pa_nil)))))),?_⟩;refine ⟨_,rfl,_,_,"tuple",rfl,.inr (.inl ⟨⟨_,e⟩,rfl⟩),by decide,_,rfl,iteT (e_cb1 ?_)⟩;refine z26 (K:=KX w.params) (a:=a) (xs:=c.map V.int) (H1:=H) (λ _=>true) (λ _ y _=>∃b,y=.bl b) (λ _ _ _ _ _ z=>z) (λ R h=>⟨_,rfl,h⟩) (SqT.of e) (by rw [G0];exact F0 k (by decide)) ?_ ?_
  ·intro i C v p d f KT x l G;rw [W0] at f;obtain ⟨n,D,rfl⟩:=Option.map_eq_some_iff.mp f;refine ⟨[some (.int n)],rfl,rfl,iteT ?_⟩;exact ⟨_,rfl,.int n,"int",rfl,rfl,l rfl _ _ (Same.refl _) ⟨_,rfl⟩⟩
  intro t p u d r m;exact all_bl z01 m λ b=>q b _ (d.trans (Same.upd r))
theorem zm8 {X:Cx} {K:c0} (hK:X.K=K) {e:Expr} {f:Str} {pos:Pos} {ta:TE} (he:PE X e ta) (hb:S3 e f X.env (Y2 e X.env)=Y2 e X.env):PE X (.Attribute e f pos) (tFld K ta f):=hK ▸ pe_fld he hb
theorem zgf {X:Cx} {K:c0} (h:X.K=K):CallR X (.builtin "len") (λ xs H Q=>(∃p ys,xs=[V.ref p]/\(SqL K H p ys\/SqT K H p ys)/\Q (V.int ys.length) H)\/∃z,xs=[V.str z]/\z.length<=sizeLine/\Q (V.int z.length) H):=h ▸ z2m
def z4j (K:c0):Sp:=λ vs H Q _=>∃(a:Addr),vs=[.ref a]/\H a=some (.tup [])/\∀b H',Same H H'->Q (.bl b) H'
theorem zbi (T:TX (kx w) mg) (c0:Ca P w mg base "are_whole" ["values"] 2 (z4d (kx w))):Fo P w mg base CX0 3 52 y15 ["values"] (z4j (kx w)):=by
 refine (z5a w.params).ok zbs (λ f H Q E h=>?_) (λ B A v s H f Q E m h=>?_)
 ·obtain ⟨a,rfl,_⟩:=h;rfl
 ·obtain ⟨a,rfl,e,q⟩:=h;refine ⟨_,(z04 (ps_ret (pe_and (pe_cal c0 (m.mono (by decide)) rfl (z00 (pv 0) pa_nil)) (pe_one (z09 (z23 rfl) rfl (T.no (n_all _)) x9 (z00 (pe_cg (xs:=["one","other"]) (g:=gTup (kx w) 2 (gCons (gName 0) (gCons (gName 1) gNil))) (fr:=[]) (zjs true rfl (T.no (n_zip _)) (z00 (pv 0) (z00 (z1b slSeqW (pv 0) (z1m pe_int) z2e) pa_nil))) (λ _ _ _ _ _=>(pg_tup rfl (z0h (pg_cn (N:=["one","other"]) 0) (z0h (pg_cn (N:=["one","other"]) 1) z19)))) (λ _ _ _ _ _=>pf_nil) (λ _ _ _ _ _=>(z31 op_lt (pv 0) (pv 1) (nomark _)))) pa_nil)))))),?_⟩;refine ⟨_,rfl,a,[],rfl,e,by decide,λ t H1 d=>⟨_,rfl,?_⟩⟩;refine ite2 (λ _=>e_cb1 ?_) λ _=>q _ _ d;have c:=d _ _ e;refine zh8 (k:=true) (K:=KX w.params) (a:=a) (b:=a) (xs:=[]) (ys:=[]) (n:=0) (H1:=H1) (λ _=>true) (λ _ y _=>∃b,y=.bl b) (λ _ _ _ _ _ z=>z) (λ R h=>⟨_,rfl,_,rfl,_,rfl,.inr ⟨a,[],rfl,SqT.of c,⟨rfl,rfl⟩,h⟩⟩) (SqT.of c) (SqT.of c) rfl rfl (R1 _) (λ i o=>absurd o (z7 _)) ?_;intro r x u j p l;exact all_bl z01 l λ b=>q b _ ((d.trans j).trans (Same.upd p))
def z8b (K:c0):Sp:=λ vs H Q _=>∃(k:Str) (v:V),vs=[.str k,v]/\ZrAt H k v/\∀b H',Same H H'->Q (.bl b) H'
theorem zem (T:TX (kx w) mg) (c0:Ca P w mg base "are_whole" ["values"] 2 (z4d (kx w))) (c1:Ca P w mg base "is_rising" ["values"] 3 (z4j (kx w))) (c2:Ca P w mg base "is_whole" ["value"] 1 z3w):Fo P w mg base CX0 4 284 y1m ["kind","state"] (z8b (kx w)):=by
 refine (z76 w.params).ok zdy (λ e H Q E h=>?_) (λ f A g s H e Q E b h=>?_)
 ·obtain ⟨k,v,rfl,_⟩:=h;rfl
 ·obtain ⟨k,v,rfl,d,q⟩:=h;refine ⟨_,(z02 (ps_if (z0a opEq (pv 0) pe_str (nomark _))
   (z04 (ps_ret (pe_cal c0 (b.mono (by decide)) rfl (z00 (pv 1) pa_nil))))
   z0b)
   (z02 (ps_if (z0a opEq (pv 0) pe_str (nomark _))
   (z04 (ps_ret (pe_cal c1 (b.mono (by decide)) rfl (z00 (pv 1) pa_nil))))
   z0b)
   (z04 (ps_ret (pe_cal c2 (b.mono (by decide)) rfl (z00 (pv 1) pa_nil)))))),?_⟩
  have row:rowK k->∃a,v=.ref a/\H a=some (.tup (([]:List Int).map V.int)):=λ h=>by
   rcases d with ⟨_,z⟩|⟨z,_⟩
   ·exact z
   ·exact absurd h z
  refine ⟨_,rfl,rfl,_,rfl,?_⟩;by_cases h1:k = "queue"
  ·obtain ⟨a,rfl,c⟩:=row (.inl h1);refine iteP (decide_eq_true (by rw [h1])) ?_;exact ⟨_,rfl,a,[],rfl,c,by decide,q⟩
  refine iteN (λ h=>h1 (V.str.inj (of_decide_eq_true h))) ?_;refine ⟨_,rfl,rfl,_,rfl,?_⟩;by_cases h2:k = "set"
  ·obtain ⟨a,rfl,c⟩:=row (.inr h2);refine iteP (decide_eq_true (by rw [h2])) ?_;exact ⟨_,rfl,a,rfl,c,q⟩
  refine iteN (λ h=>h2 (V.str.inj (of_decide_eq_true h))) ?_;rcases d with ⟨z,_⟩|⟨_,rfl⟩
  ·exact absurd z λ z=>z.elim h1 h2
  ·exact ⟨_,rfl,.int 0,"int",rfl,rfl,q _ _ (Same.refl _)⟩
def z1y (K:c0):Sp:=λ vs H Q _=>∃(b pp:Addr) (m:Nat) (rs:List Rc) (ts:List (Str×Str)) (ps:List DD) (pl:Pl),vs=[.ref b,.ref pp]/\BoAt K H m rs ts ps b/\rs.length<=63/\PlZ K H pp pl/\∀b H',Same H H'->Q (.bl b) H'
theorem z6t (T:TX (kx w) mg) (c0:Ca P w mg base "holds_all" ["done","numbers"] 1 (z6y (kx w))):Fo P w mg base CX0 2 377 y04 ["self","place"] (z1y (kx w)):=by
 refine (z40 w.params).ok z6l (λ c H Q E h=>?_) (λ F A D s H c Q E y h=>?_)
 ·obtain ⟨b,d,m,p,r,t,a,rfl,_⟩:=h;rfl
 ·obtain ⟨b,d,m,p,r,t,a,rfl,⟨v,fs,k,u⟩,C,⟨e,G,c,o,g,I,sz⟩,q⟩:=h;refine ⟨_,(z04 (ps_ret (pe_cal c0 (y.mono (by decide)) rfl (z00 (pe_ix ix_seq (pv 1) pe_int (λ _ _=>rfl)) (z00 (pe_fld (pv 0) rfl) pa_nil))))),?_⟩;obtain ⟨le,f,l,x,n⟩:=u.ended;refine ⟨_,rfl,.inr (.inl ⟨d,_,0,.ref e,rfl,rfl,o,z0c (j:=0) rfl,?_⟩)⟩;refine ⟨_,rfl,b,_,v,fs,_,rfl,k,z0p _,z50 _,l,?_⟩;exact ⟨e,le,a.1,f,rfl,g,x,by have:=n.1;omega,λ z B i _=>q z B i⟩
def FpAt (H:Hp) (p:Addr) (ts:List (Str×Str)):Prop:=∃pa pb,H p=some (.tup [.ref pa,.ref pb])/\H pa=some (.tup [])/\ZrT H pb ts
theorem FpAt.same {H H':Hp} {p:Addr} {ts:List (Str×Str)} (s:Same H H') (h:FpAt H p ts):FpAt H' p ts:=by obtain ⟨b,e,c,d,a⟩:=h;exact ⟨b,e,s _ _ c,s _ _ d,a.same s⟩
theorem FpAt.plz {K:c0} {H:Hp} {p:Addr} {ts:List (Str×Str)} (h:FpAt H p ts):PlZ K H p ([],ts.map λ t=>zeroK t.2):=by
 obtain ⟨f,o,g,l,m,e,b⟩:=h;refine ⟨f,o,m,SqT.of g,SqT.of l,SqT.of e,?_⟩;refine z2i (by rw [G0];exact z05 b) λ i s v d j=>?_;rw [W0] at d;obtain ⟨t,k,rfl⟩:=Option.map_eq_some_iff.mp d;obtain ⟨q,c,z⟩:=z0i b j;rw [k] at c;cases c;unfold zeroK;rcases z with ⟨h,a,rfl,n⟩|⟨h,rfl⟩
 ·rw [if_pos h];exact ⟨a,rfl,SqT.of n⟩
 ·rw [if_neg h];rfl
def z2l (K:c0):Sp:=λ vs H Q _=>∃(b:Addr) (v:V) (m:Nat) (rs:List Rc) (ts:List (Str×Str)) (ps:List DD),vs=[.ref b,v]/\BoAt K H m rs ts ps b/\ts.length<=6/\((v=.non/\∀H',Same H H'->Q (.bl false) H')\/(∃p,v=.ref p/\FpAt H p ts/\∀b H',Same H H'->Q (.bl b) H'))
theorem z5h (T:TX (kx w) mg) (c0:Ca P w mg base "is_tuple_of" ["value","many"] 1 z2r) (c1:Ca P w mg base "is_rising" ["values"] 3 (z4j (kx w))) (c2:Ca P w mg base "is_state" ["kind","state"] 4 (z8b (kx w))):Fo P w mg base CX0 5 382 y06 ["self","value"] (z2l (kx w)):=by
 refine (z33 w.params).ok z5n (λ l H Q E h=>?_) (λ a5 A a4 s H l Q E e h=>?_)
 ·obtain ⟨b,v,m,rs,u,ps,rfl,_⟩:=h;rfl
 ·obtain ⟨b,v,m,rs,u,ps,rfl,⟨L,fs,G,J⟩,U,f⟩:=h;refine ⟨_,(z02 (ps_if (PW.pt (pw_or (pt_not (pt_val (pe_cal c0 (e.mono (by decide)) rfl (z00 (pv 1) (z00 pe_int pa_nil))) (λ _=>rfl))) (pw_or (pt_not (pt_val (pe_cal c1 (e.mono (by decide)) rfl (z00 (pe_ix ix_seq (pv 1) pe_int (λ _ _=>rfl)) pa_nil)) (λ _=>rfl))) (pw_or1 (pt_not (pt_val (pe_cal c0 (e.mono (by decide)) rfl (z00 (pe_ix ix_seq (pv 1) pe_int (λ _ _=>rfl)) (z00 (z09 (zgf (K:=KX w.params) rfl) rfl (T.no (n_len _)) L5 (z00 (pe_fld (pv 0) rfl) pa_nil)) pa_nil))) (λ _=>rfl)))))))
   (z04 (ps_ret pe_bl))
   z0b)
   (z02 (ps_if (pt_not (pt_val (z09 (z23 rfl) rfl (T.no (n_all _)) x9 (z00 (pe_cg (xs:=["number"]) (g:=gName 0) (fr:=[(0,"self")]) (pi_tup (pe_ix ix_seq (pv 1) pe_int (λ _ _=>rfl))) (λ _ _ _ _ _=>(pg_cn (N:=["number","self"]) 0)) (λ _ _ _ _ _=>pf_nil) (λ _ _ _ _ _=>(zf3 op_le op_lt pe_int (pv 0) (z09 (zgf (K:=KX w.params) rfl) rfl (T.no (n_len _)) L5 (z00 (zm8 (K:=KX w.params) rfl (pv 1) rfl) pa_nil))))) pa_nil)) (λ _=>rfl)))
   (z04 (ps_ret pe_bl))
   z0b)
   (z04 (ps_ret (z09 (z23 rfl) rfl (T.no (n_all _)) x9 (z00 (pe_cg (xs:=["kind","state"]) (g:=gTup (kx w) 2 (gCons (gName 0) (gCons (gName 1) gNil))) (fr:=[]) (zjs false rfl (T.no (n_zip _)) (z00 (pe_fld (pv 0) rfl) (z00 (pe_ix ix_seq (pv 1) pe_int (λ _ _=>rfl)) pa_nil))) (λ _ _ _ _ _=>(pg_tup rfl (z0h (pg_cn (N:=["kind","state"]) 0) (z0h (pg_cn (N:=["kind","state"]) 1) z19)))) (λ _ _ _ _ _=>pf_nil) (λ _ _ _ _ _=>(pe_cal c2 (e.mono (by decide)) rfl (z00 (pv 0) (z00 (pv 1) pa_nil))))) pa_nil)))))),?_⟩
  obtain ⟨B,F,C⟩:=J.kinds;obtain ⟨lc,cs,fc,ec,cl,ca⟩:=J.cand;rcases f with ⟨rfl,q⟩|⟨p,rfl,⟨pa,pb,e1,e2,l,e3,al⟩,q⟩
  ·exact ⟨_,rfl,.non,"NoneType",2,rfl,rfl,_,rfl,iteT (iteT (q _ (Same.refl _)))⟩
  have tp :∀{a:Addr} {xs:List V},H a=some (.tup xs)->tupOf H (.ref a)=some xs:=λ h=>by unfold tupOf;dsimp only;rw [h]
  refine ⟨_,rfl,.ref p,"tuple",2,rfl,.inr (.inl ⟨⟨_,e1⟩,rfl⟩),_,rfl,?_⟩;refine iteN (by rw [tp e1];show ¬ (!decide (((2:Nat):Int)=2))=true;decide) ?_;refine ⟨_,rfl,.inr (.inl ⟨p,_,0,.ref pa,rfl,rfl,SqT.of e1,z0c (j:=0) rfl,pa,rfl,e2,λ b1 H1 c=>⟨_,rfl,?_⟩⟩)⟩;refine ite2 (λ _=>iteT (q _ _ c)) λ _=>?_;refine ⟨_,rfl,.inr (.inl ⟨p,_,1,.ref pb,rfl,rfl,SqT.of (c _ _ e1),z0c (j:=1) rfl,?_⟩)⟩;refine ⟨_,rfl,b,_,L,fs,_,rfl,c _ _ G,z0p _,z1o _,F,.inl ⟨B,_,rfl,.inl (SqL.of (c _ _ C)),.ref pb,"tuple",_,rfl,.inr (.inl ⟨⟨_,c _ _ e3⟩,rfl⟩),_,rfl,?_⟩⟩;refine ite2 (λ _=>q _ _ c) λ _=>?_;refine tn_x (t_nx (sq_if (nt_cb1 ?_)));refine z26 (K:=KX w.params) (a:=pa) (xs:=[]) (H1:=H1) (λ _=>true) (λ _ y _=>∃b,y=.bl b) (λ _ _ _ _ _ z=>z) (λ R h=>⟨_,rfl,.inr (.inl ⟨p,_,0,.ref pa,rfl,rfl,SqT.of (c _ _ e1),z0c (j:=0) rfl,h⟩)⟩) (SqT.of (c _ _ e2)) (R1 _) (λ i M=>absurd M (z7 _)) ?_;intro D H4 r Z a2 a1;have d:=(c.trans Z).trans (Same.upd (o:=.lst r) a2);refine ⟨D,r,rfl,SqL.of z01,zjm a1,_,rfl,?_⟩;refine ite2 (λ _=>q _ _ d) λ _=>?_;refine tn_x (t_nx (sq_ret (e_cb1 ?_)));generalize upd H4 D (HO.lst r)=H5 at d⊢;refine zh8 (k:=false) (K:=KX w.params) (n:=u.length) (a:=B) (b:=pb) (xs:=u.map λ t=>V.str t.2) (ys:=l) (H1:=H5) (λ _=>true) (λ _ y _=>∃b,y=.bl b) (λ _ _ _ _ _ z=>z) (λ R h=>⟨_,rfl,b,_,L,fs,_,rfl,d _ _ G,z0p _,z1o _,F,_,rfl,.inr (.inl ⟨p,_,1,.ref pb,rfl,rfl,SqT.of (d _ _ e1),z0c (j:=1) rfl,h⟩)⟩) (SqL.of (d _ _ C)) (SqT.of (d _ _ e3)) (G0 ..).symm (z05 al).symm (F0 U (by decide)) ?_ ?_
  ·intro i M v H6 S hx KT KF k1 k2;obtain ⟨x,y,X,f,hy,rfl,Y⟩:=hx;rw [W0] at f;obtain ⟨t,ht,rfl⟩:=Option.map_eq_some_iff.mp f;obtain ⟨t',I,z⟩:=z0i al hy;rw [ht] at I;cases I;refine ⟨X,_,rfl,SqT.of Y,rfl,_,_,rfl,_,_,rfl,rfl,[some (.str t.2),some y],rfl,rfl,iteT ?_⟩;exact ⟨_,rfl,_,rfl,t.2,y,rfl,z.same (d.trans S),λ b H' s'=>k1 rfl _ _ s' ⟨b,rfl⟩⟩
  intro l7 H7 a3 O a0 W;exact all_bl z01 W λ b=>q b _ ((d.trans O).trans (Same.upd a0))
def BadS (H:Hp) (x:V):Prop:=∃T,TagOf H x T/\∀z:Str,x=.str z->z∉(["strict","hands","bare"]:List Str)
theorem BadS.same {H H':Hp} {x:V} (s:Same H H') (h:BadS H x):BadS H' x:=h.elim λ T z=>⟨T,z.1.same s,z.2⟩
theorem zfa (z:Str) (ws:List Str):inV (.str z) (ws.map V.str)=decide (z∈ws):=by
 unfold inV;rw [j14,Bool.eq_iff_iff,R6,decide_eq_true_eq];constructor
 ·rintro ⟨x,hx,e⟩;have e:x=z:=eq_of_beq (show (x == z)=true from e);rw [<-e];exact hx
 ·exact λ h=>⟨z,h,(show (z == z)=true from beq_self_eq_true z)⟩
def z1v:Sp:=λ vs H _ E=>∃(x:V),vs=[x]/\BadS H x/\∀H',Same H H'->E (.ref 99) none H'
theorem z4c (T:TX (kx w) mg):Fo P w mg base (CXE P w base) 1 318 y05 ["strictness"] z1v:=by
 refine (z0n w.params).okE z20 (λ c H Q E h=>?_) (λ f A g s H c Q E e h=>?_)
 ·obtain ⟨x,rfl,_⟩:=h;rfl
 ·obtain ⟨x,rfl,⟨t,a,d⟩,q⟩:=h;refine ⟨_,(z04 (ps_if (PW.pt (pw_or (pt_not (pt_val (z09 z0t rfl (T.no (z0g _)) X1 (z00 (pv 0) (z00 (z37 (v:=.ty "str") rfl (T.no (n_str _)) boot_str rfl) pa_nil))) (λ _=>rfl))) (pw_or1 (z0a z2u (pv 0) (z0m (v:=.ref 304) rfl (T.of (z53 _)) rfl) (by with_unfolding_all rfl)))))
   (z04 (ziq F.excBase_ValueError (T.of (z2w _)) (z9a _) rfl (z00 pe_str pa_nil)))
   z0b)),?_⟩
  refine ⟨_,rfl,_,_,t,rfl,a,by decide,_,rfl,?_⟩;rw [z6u a (by decide)];by_cases h1:t = "str"
  ·subst h1;obtain ⟨z,rfl⟩:=a.str;refine iteN (by decide) ⟨_,rfl,304,_,rfl,.inr zcu,rfl,rfl,_,rfl,?_⟩;have b:inV (.str z) [.str "strict",.str "hands",.str "bare"]=decide (z∈(["strict","hands","bare"]:List Str)):=zfa z ["strict","hands","bare"];rw [if_pos rfl,b,decide_eq_false (d z rfl)];exact iteT ⟨w_1,q _ (Same.refl _)⟩
  ·rw [decide_eq_false h1];exact iteT (iteT ⟨w_1,q _ (Same.refl _)⟩)
def zai:Sp:=λ vs H _ E=>∃(t x:V),vs=[t,x]/\BadS H x/\∀H',Same H H'->E (.ref 99) none H'
theorem zfs (T:TX (kx w) mg) (c0:CaE P w mg base "check_strictness" ["strictness"] 1 z1v):Fo P w mg base (CXE P w base) 2 311 y1g ["tale","strictness"] zai:=by
 refine (z7a w.params).okE sc_has_to (λ c H Q E h=>?_) (λ d A e s H c Q E a h=>?_)
 ·obtain ⟨t,x,rfl,_⟩:=h;rfl
 ·obtain ⟨t,x,rfl,b,q⟩:=h;refine ⟨_,(z02 (z1a (zf2 passE c0 (a.mono (by decide)) rfl (z00 (pv 1) pa_nil)))
   (z02 z0k (z02 z0k (z02 z0k (z04 z0k))))),?_⟩
  exact ⟨_,rfl,x,rfl,b,q⟩
def z1d:Sp:=λ vs H _ E=>∃(me t x:V),vs=[me,t,x]/\BadS H x/\∀H',Same H H'->E (.ref 99) none H'
theorem zij (T:TX (kx w) mg) (c0:CaE P w mg base "has_to" ["tale","strictness"] 2 zai):Fo P w mg base (CXE P w base) 3 363 y00 ["self","tale","strictness"] z1d:=by
 refine (z1r w.params).okE sc_Board___init__ (λ c H Q E h=>?_) (λ e A f s H c Q E a h=>?_)
 ·obtain ⟨d,t,x,rfl,_⟩:=h;rfl
 ·obtain ⟨d,t,x,rfl,b,q⟩:=h;refine ⟨_,(z02 (ps_set (i:=3) sc_Board___init__.nd rfl (C1 rfl) (zf2 passE c0 (a.mono (by decide)) rfl (z00 (pv 1) (z00 (pv 2) pa_nil))))
   (z02 z0k (z02 z0k (z02 z0k (z02 z0k (z02 z0k (z02 z0k (z04 z0k)))))))),?_⟩
  exact ⟨_,rfl,_,rfl,t,x,rfl,b,q⟩
theorem made {H:Hp} {a dx C:Addr} (h1:H a=none) (h2:H dx=none) (n:dx≠a):Same H (upd (upd H dx (.own a)) a (.ins C dx [])):=(Same.upd h2).trans (Same.upd (by rw [upd_ne n.symm];exact h1))
def z6k:Sp:=λ vs H _ E=>∃(t x:V),vs=[t,x]/\BadS H x/\∀H',Same H H'->E (.ref 99) none H'
theorem zh7 (T:TX (kx w) mg) (c0:Fo P w mg base (CXE P w base) 3 363 y00 ["self","tale","strictness"] z1d):Fo P w mg base (CXE P w base) 5 432 y1h ["tale","strictness"] z6k:=by
 refine (z6r w.params).okE sc_judged (λ e H Q E h=>?_) (λ m A j s H e Q E g h=>?_)
 ·obtain ⟨t,x,rfl,_⟩:=h;rfl
 ·obtain ⟨t,x,rfl,b,q⟩:=h;refine ⟨_,(z02 (ps_set (i:=2) sc_judged.nd rfl (C1 rfl) (z82 (z6o _) c0 (g.mono (by decide)) rfl (T.of (zal _)) (z0y _) .nil passE (z00 (pv 0) (z00 (pv 1) pa_nil))))
   (z02 z0k (z02 z0k (z02 z0k (z04 z0k))))),?_⟩
  exact ⟨_,rfl,_,rfl,λ a l d c n=>⟨_,t,x,rfl,b.same (made d c n),λ k f=>q _ ((made d c n).trans f)⟩⟩
def z44:Sp:=λ vs H _ E=>∃(t x:V),vs=[t,x]/\BadS H x/\∀H',Same H H'->E (.ref 99) none H'
theorem z7p (T:TX (kx w) mg) (c0:CaE P w mg base "judged" ["tale","strictness"] 5 z6k):Fo P w mg base (CXE P w base) 6 439 y08 ["tale","strictness"] z44:=by
 refine (z1h w.params).okE z4s (λ c H Q E h=>?_) (λ d A e s H c Q E a h=>?_)
 ·obtain ⟨t,x,rfl,_⟩:=h;rfl
 ·obtain ⟨t,x,rfl,b,q⟩:=h;refine ⟨_,(z02 (ps_if (z0a zdc (zf2 passE c0 (a.mono (by decide)) rfl (z00 (pv 0) (z00 (pv 1) pa_nil))) pe_non (nomark _))
   (z04 (ps_ret pe_non))
   z0b)
   (z04 z0k)),?_⟩
  exact ⟨_,rfl,_,rfl,t,x,rfl,b,q⟩
def z7h:Sp:=λ vs H _ E=>∃(t x o:V),vs=[t,x,o]/\BadS H x/\∀H',Same H H'->E (.ref 99) none H'
theorem zbb (T:TX (kx w) mg) (c0:Fo P w mg base (CXE P w base) 3 363 y00 ["self","tale","strictness"] z1d):Fo P w mg base (CXE P w base) 5 444 y0p ["tale","strictness","paper"] z7h:=by
 refine (z3r w.params).okE sc_is_stuck (λ e H Q E h=>?_) (λ m A j s H e Q E g h=>?_)
 ·obtain ⟨t,x,o,rfl,_⟩:=h;rfl
 ·obtain ⟨t,x,o,rfl,b,q⟩:=h;refine ⟨_,(z02 (ps_set (i:=3) sc_is_stuck.nd rfl (B1 rfl) (z82 (z6o _) c0 (g.mono (by decide)) rfl (T.of (zal _)) (z0y _) .nil passE (z00 (pv 0) (z00 (pv 1) pa_nil))))
   (z02 z0k (z02 z0k (z02 z0k (z02 z0k (z04 z0k)))))),?_⟩
  exact ⟨_,rfl,_,rfl,λ a l d c n=>⟨_,t,x,rfl,b.same (made d c n),λ k f=>q _ ((made d c n).trans f)⟩⟩
theorem zcq {c:TT} {tb:TS} {D:Ends} {σ:L2.St} {H:Hp} (W B:Nat->L2.St->Hp->Prop) (m0:Nat) (w0:W m0 σ H)
  (body :∀m σ H1,B m σ H1->tb { D with nx:=λ σ' H'=>∃m',m' < m/\W m' σ' H',ct:=λ σ' H'=>∃m',m' < m/\W m' σ' H',bk:=D.nx } σ H1)
  (cond :∀m σ H,W m σ H->(∀H1,B m σ H1->∃N:L2.St->Hp->Prop,(∀σ' H',N σ' H'->∃m',m' < m/\W m' σ' H')/\tb { D with nx:=N,ct:=N,bk:=D.nx } σ H1)->c σ H λ b H1=>if b=true then∃N:L2.St->Hp->Prop,(∀σ' H',N σ' H'->∃m',m' < m/\W m' σ' H')/\tb { D with nx:=N,ct:=N,bk:=D.nx } σ H1 else D.nx σ H1):tWhile c tb D σ H:=
 ⟨W,⟨m0,w0⟩,λ m σ H h=>cond m σ H h λ H1 b=>⟨_,λ _ _ z=>z,body m σ H1 b⟩⟩
def PlG (ts:List (Str×Str)) (N d:Nat) (pl:Pl):Prop:=PlOk ts N pl.1.length pl/\pl.1.length=d
def PlV (K:c0) (H:Hp) (pl:Pl) (y:V):Prop:=∃p,y=.ref p/\PlZ K H p pl
theorem PlV.same {K:c0} {H H':Hp} {pl:Pl} {y:V} (s:Same H H') (h:PlV K H pl y):PlV K H' pl y:=h.elim λ p z=>⟨p,z.1,z.2.tups (.of s)⟩
def KeyI (K:c0) (H:Hp) (G:Pl->Prop) (ks:List (PyData×Addr)):Prop:=∀k∈ks,∃pl,k.1=plD pl/\PlZ K H k.2 pl/\G pl
theorem KeyI.same {K:c0} {H H':Hp} {G:Pl->Prop} {ks:List (PyData×Addr)} (s:Same H H') (h:KeyI K H G ks):KeyI K H' G ks:=λ k b=>(h k b).elim λ a z=>⟨a,z.1,z.2.1.tups (.of s),z.2.2⟩
theorem KeyI.put {K:c0} {H:Hp} {G:Pl->Prop} {ks:List (PyData×Addr)} {pl:Pl} {b:Addr} (h:KeyI K H G ks) (z:PlZ K H b pl) (g:G pl):KeyI K H G (putN ks (plD pl) b):=λ k a=>by
 unfold L2.putN at a;split at a
 ·exact h k a
 ·rcases List.mem_append.mp a with y|y
  ·exact h k y
  ·rw [List.mem_singleton.mp y];exact ⟨pl,rfl,z,g⟩
theorem KeyI.at_ {K:c0} {H:Hp} {G:Pl->Prop} {ks:List (PyData×Addr)} {a:Addr} (r:Rd H a (NsO a ks)) (h:KeyI K H G ks):NsAt K H a ks:=⟨r,λ k c=>by obtain ⟨b,e,z,_⟩:=h k c;rw [e];exact ⟨pl_key b,pl_dep b,plz_pd z⟩⟩
theorem zfi {K:c0} {H:Hp} {G:Pl->Prop} {ks:List (PyData×Addr)} (h:KeyI K H G ks) :∀(is:List Nat),(∀i∈is,i < ks.length)->∃pls,All2 (PlV K H) pls (is.map λ i=>V.ref (ks.getD i (.none,0)).2)/\(∀pl∈pls,G pl)/\pls.length=is.length
 | [],_=>⟨[],.nil,λ _ z=>absurd z A0,rfl⟩
 | i :: is,hi=>by
  obtain ⟨pls,b,c,a⟩:=zfi h is λ j e=>hi j (E1 _ e);have l:=hi i F1;obtain ⟨pl,_,z,g⟩:=h ks[i] (P6 l);refine ⟨pl :: pls,.cons ⟨_,rfl,?_⟩ b,λ p d=>?_,by rw [X0,X0,a]⟩
  ·rw [C2,N0 l];exact z
  ·rcases List.mem_cons.mp d with y|y
   ·rw [y];exact g
   ·exact c p y
theorem zdj {K:c0} {H:Hp} {r:Addr} {f:Heap->Prop} (e:H r=some (.ext f)):Tups K H (hide r H):=λ a b h=>by
 rcases h with (h|⟨ob,h⟩)|h
 ·exact .inl (.inl (z1j (λ z=>by rw [z,e] at h;cases h) h))
 ·exact .inl (.inr ⟨ob,z1j (λ z=>by rw [z,e] at h;cases h) h⟩)
 ·exact .inr h
def layN:Nat->Nat
 | 0=>1
 | d + 1=>layN d * (4 - d)
theorem layN_0 :∀d,layN (d + 5)=0
 | 0=>rfl
 | d + 1=>by show layN (d + 5) * _=0;rw [layN_0 d,Nat.zero_mul]
theorem zfn :∀d,layN d<=24
 | 0=>by decide
 | 1=>by decide
 | 2=>by decide
 | 3=>by decide
 | 4=>by decide
 | d + 5=>by rw [layN_0];decide
def z5z (K:c0):Sp:=λ vs H Q _=>∃(b l:Addr) (m d:Nat) (rs:List Rc) (ts:List (Str×Str)) (ps:List DD) (pls:List Pl) (ys:List V),vs=[.ref b,.ref l]/\BoAt K H m rs ts ps b/\All2 (RcGd K H ts) rs ps/\ThW ts/\rs.length<=4/\H l=some (.lst ys)/\All2 (PlV K H) pls ys/\(∀pl∈pls,PlG ts rs.length d pl)/\pls.length<=layN d/\
 ∀l' ys' pls' H',Same H H'->H l'=none->H' l'=some (.lst ys')->All2 (PlV K H') pls' ys'->(∀pl∈pls',PlG ts rs.length (d + 1) pl)->pls'.length<=layN (d + 1)->Q (.ref l') H'
theorem zaq (T:TX (kx w) mg) (c0:Fo P w mg base CX0 7 370 y01 ["self","place"] (z0w (kx w))):Fo P w mg base CX0 8 425 y0y ["board","layer"] (z5z (kx w)):=by
 refine (z4k w.params).ok sc_next_layer (λ vs H Q E h=>?_) (λ c5 A c3 s H vs Q E F h=>?_)
 ·obtain ⟨b,l,m,d,x,ts,ps,X,B,rfl,_⟩:=h;rfl
 ·obtain ⟨b,l,m,d,x,ts,ps,X,B,rfl,Y,gd,ok,rl,O,L,pg,U,q⟩:=h;refine ⟨_,(z02 (ps_set (i:=2) sc_next_layer.nd rfl (C1 rfl) zfe)
   (z02 (ps_for S1 rfl (z22 (pv 1)) (z0j (i:=3) sc_next_layer.nd rfl (C1 rfl))
   (z04 (ps_for S1 rfl (z22 (z78 (pv 0) (z0p _) (z13 _) c0 (F.mono (by decide)) (z1c _) .nil pass0 (z00 (pv 3) pa_nil))) (z0j (i:=4) sc_next_layer.nd rfl (C1 rfl))
   (z04 (zkj F (pv 2) (pe_ix ix_seq (pv 4) pe_int (λ _ _=>rfl)) pe_bl rfl)))))
   (z04 (ps_ret (z09 (zbt F) rfl (T.no (z6p _)) j0f (z00 (pv 2) pa_nil)))))),?_⟩
  have yl:B.length=X.length:=z05 L;obtain ⟨dx,fs,eb,bf⟩:=id Y;refine z0o ?_;intro c a7;refine g_name ?_;have G:=Same.upd (o:=NsO c []) a7;have W:upd H c (NsO c []) c=some (NsO c []):=z01;have a0:Same H (hide c (upd H c (NsO c []))):=λ p o e=>z1j (λ z=>by rw [z,a7] at e;cases e) (G _ _ e);generalize upd H c (NsO c [])=H1 at G W a0⊢;refine ⟨_,rfl,l,rfl,⟨_,SqL.of (G _ _ O)⟩,?_⟩;refine z2o (K:=KX w.params) (a:=l) (xs:=B) (λ i σ f=>∃ks,Same H (hide c f)/\f c=some (NsO c ks)/\KeyI (kx w) (hide c f) (PlG ts x.length (d + 1)) ks/\ks.length<=i * (4 - d)/\∃x3 x4,σ=[some (.ref b),some (.ref l),some (.ref c),x3,x4])
   ⟨[],a0,W,(λ k u=>absurd u A0),R1 _,_,_,rfl⟩ (λ i σ f _ h=>SqL.of (hide_same _ _ (h.choose_spec.1 _ _ O))) ?_ ?_
  ·rintro i y σ I hy ⟨ks,s2,e2,ki,kl,x3,x4,rfl⟩;obtain ⟨t,b7,p,rfl,pz⟩:=z0i L hy;have g:=pg t (Q0 b7);have n:Same H I:=s2.trans hide_same;refine g_name ?_;refine ⟨_,rfl,b,dx,fs,rfl,n _ _ eb,bf.nm _ (by simp),_,rfl,b,p,m,_,x,ts,ps,t,rfl,Y.same n,z03 (λ _ _ z=>RcGd.tt (.of n) z) gd,ok,pz.tups (.of n),g.1,by omega,λ C D H3 v N a4 a6=>⟨C,rfl,⟨_,SqL.of a4⟩,?_⟩⟩;have e3:=v _ _ e2;have b8:C≠c:=λ z=>by rw [z,e2] at N;cases N
   have a8:=z4v (r:=c) v;have b6:=z03 (λ _ _ z=>StpZ.tups (zdj e3) z) a6;have nx:=zk5 gd ok g.1 (by omega) (m:=m);have c1:=zcw (m:=m) (ts:=ts) (ps:=ps) g.1.nd g.1.lt;rw [g.2] at c1;have c4:D.length<=4 - d:=by rw [z05 a6];omega
   refine z2o (K:=KX w.params) (a:=C) (xs:=D) (λ j σ f=>∃ks,Same (hide c H3) (hide c f)/\f c=some (NsO c ks)/\KeyI (kx w) (hide c f) (PlG ts x.length (d + 1)) ks/\ks.length<=i * (4 - d) + j/\∃x4,σ=[some (.ref b),some (.ref l),some (.ref c),some (.ref p),x4])
    ⟨ks,Same.refl _,e3,ki.same a8,kl,_,rfl⟩ (λ j σ f _ h=>SqL.of (hide_same _ _ (h.choose_spec.1 _ _ (z1j b8 a4)))) ?_ ?_
   ·rintro j y σ M Z ⟨ks4,s4,e4,ki4,kl4,x4,rfl⟩;obtain ⟨st,b4,b5,q5,rfl,a9,b3⟩:=z0i b6 Z;have R:=nx st (Q0 b4);have b9:Same (hide c H3) M:=s4.trans hide_same;have S:=b3.tups (.of s4);have jl:j < D.length:=(List.getElem?_eq_some_iff.mp Z).1;have il:i < B.length:=(List.getElem?_eq_some_iff.mp hy).1;have kb:i * (4 - d) + j < 1000:=by have h1:i < 24:=G1 il (by rw [yl];exact F0 U (zfn d));have h2:=R9 (J3 h1) (show 4 - d<=4 by omega);omega
    refine g_name ?_;refine ⟨_,rfl,_,rfl,.inr (.inl ⟨b5,_,2,.ref q5,rfl,rfl,b9.seqT a9,z0c (j:=2) rfl,c,q5,ks4,plD st.2.2,rfl,rfl,rfl,e4,(ki4.same hide_same).at_ (.inl e4),T1 kl4 (Nat.lt_trans kb (by decide)),pl_key _,pl_dep _,plz_pd (S.tups (.of hide_same)),?_⟩)⟩;refine ⟨_,?_,z01,?_,F0 z6n (by omega),_,rfl⟩
    ·rw [z5f];exact s4
    ·rw [z5f];exact ki4.put S ⟨R.1,by rw [R.2,g.2]⟩
   ·rintro σ M ⟨ks4,s4,e4,ki4,kl4,x4,rfl⟩;refine ⟨ks4,(s2.trans a8).trans s4,e4,ki4,?_,_,_,rfl⟩;have:(i + 1) * (4 - d)=i * (4 - d) + (4 - d):=Nat.succ_mul _ _;omega
  ·rintro σ I ⟨ks,s2,e2,ki,kl,x3,x4,rfl⟩;have J:ks.length<=layN (d + 1):=F0 kl (Q5 _ (by rw [yl];exact U));have b1:ks.length < 64:=T1 J (T1 (zfn _) (by decide));refine ⟨_,rfl,c,ks,rfl,(ki.same hide_same).at_ (.inl e2),b1,λ k u=>?_,λ k u k' b2 _=>?_,λ l' a5=>?_⟩
   ·obtain ⟨t,e,_⟩:=ki k u;rw [e];exact pl_tup t
   ·obtain ⟨t,e,_,g⟩:=ki k u;obtain ⟨c2,e',_,g'⟩:=ki k' b2;rw [e,e'];exact lt_pl g.1 g'.1
   ·have pm:=z90 (ks.map (·.1));obtain ⟨b0,a1,a2,a3⟩:=zfi (ki.same hide_same) (srtD (ks.map (·.1))) λ i hi=>by
     have:=List.mem_range.mp (pm.mem_iff.mp hi)
     rwa [G0] at this
    have v:=Same.upd (o:=.lst ((srtD (ks.map (·.1))).map λ i=>V.ref (ks.getD i (.none,0)).2)) a5;have n:Same H I:=s2.trans hide_same;refine q l' _ b0 _ (n.trans v) (n.free a5) z01 (z03 (λ _ _ z=>z.same v) a1) a2 ?_;rw [a3,pm.length_eq,j2,G0];exact J
theorem zg0 {c:TT} {tb rest:TS} {D:Ends} {σ:L2.St} {H:Hp} (h:tWhile c tb { D with nx:=rest D } σ H):tSeq (tWhile c tb) rest D σ H:=h
def hid2 (a b:Addr) (H:Hp):Hp:=hide a (hide b H)
theorem zdi {a b:Addr} {H H':Hp} (s:Same H H'):Same (hid2 a b H) (hid2 a b H'):=z4v (z4v s)
theorem hid2_same {a b:Addr} {H:Hp}:Same (hid2 a b H) H:=hide_same.trans hide_same
theorem hid2_b {a b:Addr} {H:Hp} {o:HO}:hid2 a b (upd H b o)=hid2 a b H:=by unfold hid2;rw [z5f]
theorem hid2_a {a b:Addr} {H:Hp} {o:HO}:hid2 a b (upd H a o)=hid2 a b H:=by
 funext p;unfold hid2 hide;by_cases z:p=a
 ·rw [if_pos z,if_pos z]
 ·rw [if_neg z,if_neg z,upd_ne z]
theorem z5v {a b p:Addr} {H:Hp} {o:HO} (n1:p≠a) (n2:p≠b) (e:H p=some o):hid2 a b H p=some o:=z1j n1 (z1j n2 e)
theorem zls {a b:Addr} {H H':Hp} (n1:H a=none) (n2:H b=none) (s:Same H H'):Same H (hid2 a b H'):=λ p o e=>z5v (λ z=>by rw [z,n1] at e;cases e) (λ z=>by rw [z,n2] at e;cases e) (s _ _ e)
theorem zht {K:c0} {a b:Addr} {H:Hp} {f:Heap->Prop} {xs:List V} (ea:H a=some (.ext f)) (eb:H b=some (.lst xs)):Tups K H (hid2 a b H):=λ p xs h=>by
 rcases h with (h|⟨ob,h⟩)|h
 ·exact .inl (.inl (z5v (λ z=>by rw [z,ea] at h;cases h) (λ z=>by rw [z,eb] at h;cases h) h))
 ·exact .inl (.inr ⟨ob,z5v (λ z=>by rw [z,ea] at h;cases h) (λ z=>by rw [z,eb] at h;cases h) h⟩)
 ·exact .inr h
theorem wk_pos :∀n,1<=wkN n
 | 0=>B0 _
 | n + 1=>by unfold wkN;omega
theorem zk1 {N:Nat} :∀ws:List Pl,ws.length<=wkP N ws
 | []=>R1 _
 | w :: ws=>by
  have b:=zk1 (N:=N) ws;have a:wkP N (w :: ws)=wkN (N - w.1.length) + wkP N ws:=by
   have:=zh6 (N:=N) (xs:=[w]) (ys:=ws)
   rwa [zdl] at this
  have c:=wk_pos (N - w.1.length);rw [X0];omega
theorem zmq :∀{n j:Nat},j<=n->j * wkN (n - 1) + j < wkN n
 | 0,j,h=>by rw [Nat.le_zero.mp h];decide
 | n + 1,j,h=>by have:=Q5 (wkN n + 1) h;have e:j * (wkN n + 1)=j * wkN n + j:=Nat.mul_succ _ _;show j * wkN n + j < 1 + (n + 1) * (wkN n + 1);omega
def WtAt (K:c0) (H:Hp) (pl:Pl) (y:V):Prop:=∃p l p2 xs,y=.ref p/\H p=some (.tup [.ref l,.ref p2])/\H l=some (.lst xs)/\xs.length=pl.1.length/\PlZ K H p2 pl
theorem WtAt.same {K:c0} {H H':Hp} {pl:Pl} {y:V} (s:Same H H') (h:WtAt K H pl y):WtAt K H' pl y:=by obtain ⟨p,l,g,e,d,f,c,a,b⟩:=h;exact ⟨p,l,g,e,d,s _ _ f,s _ _ c,a,b.tups (.of s)⟩
def TlP (K:c0) (H:Hp) (t:Addr) (ts:List (Str×Str)) (es:List Ev) (ps:List DD):Prop:=TaleAt K H t ts es/\ThW ts/\es.length<=63/\EWf [] es/\All2 (RcGd K H ts) (dAll 0 [] es) ps/\bgN es<=4
theorem TlP.same {K:c0} {H H':Hp} {t:Addr} {ts:List (Str×Str)} {es:List Ev} {ps:List DD} (s:Same H H') (h:TlP K H t ts es ps):TlP K H' t ts es ps:=⟨h.1.tt (.of s),h.2.1,h.2.2.1,h.2.2.2.1,z03 (λ _ _ z=>RcGd.tt (.of s) z) h.2.2.2.2.1,h.2.2.2.2.2⟩
theorem TlP.n4 {K:c0} {H:Hp} {t:Addr} {ts:List (Str×Str)} {es:List Ev} {ps:List DD} (h:TlP K H t ts es ps):(dAll 0 [] es).length<=4:=by rw [zk7];have:=h.2.2.2.2.2;simp only [d7,Z8];exact this
theorem zcd {i:Nat} {rest:TS} {D:Ends} {σ:L2.St} {H:Hp} {t:Addr} {ts:List (Str×Str)} {es:List Ev} {ps:List DD} {m:Nat} (tp:TlP (kx w) H t ts es ps) (h0:σ[0]? = some (some (.ref t))) (h1:σ[1]? = some (some (.str (z0x m))))
  (q :∀x dx fs H1 rs,Same H H1->rs.length<=4->ThW ts->All2 (RcGd (kx w) H1 ts) rs ps->H1 x=some (.ins 385 dx fs)->BoF (kx w) H1 m rs ts ps fs->rest D (σ.set i (some (.ref x))) H1):tSeq (tAsg (tMake 385 (z0r (kx w)) [] E0 (tCons (tVar 0) (tCons (tVar 1) tNil))) (gName i)) rest D σ H:=by
 have k:=tp.n4;obtain ⟨l,ok,o,p,b,r⟩:=tp;refine ⟨_,h0,_,h1,λ x dx e d g=>?_⟩;have n:Same H (upd (upd H dx (.own x)) x (.ins 385 dx [])):=(Same.upd d).trans (Same.upd (by rw [upd_ne g.symm];exact e));have a:Tt (kx w) H (upd (upd H dx (.own x)) x (.ins 385 dx [])):=.of n;refine ⟨x,dx,t,ts,es,ps,m,rfl,z01,l.tt a,ok,o,p,z03 (λ _ _ z=>RcGd.tt a z) b,λ fs H1 j h f=>⟨rfl,?_⟩⟩;have c:Same H H1:=zd5 e d j;exact q x dx fs H1 _ c k ok (z03 (λ _ _ z=>RcGd.tt (.of c) z) b) h f
theorem zi9 {α β:Type} {R:α->β->Prop} {xs:List α} {ys:List β} {y:β} (h:All2 R xs (ys++[y])) :∃xr x,xs=xr++[x]/\All2 R xr ys/\R x y:=by
 induction ys generalizing xs with
 | nil=>
  cases h with
  | cons a r=>cases r;exact ⟨[],_,rfl,.nil,a⟩
 | cons z ys ih=>
  cases h with
  | cons a r=>obtain ⟨xr,x,rfl,c,b⟩:=ih r;exact ⟨_ :: xr,x,rfl,.cons a c,b⟩
def z95 (K:c0):Sp:=λ vs H Q _=>∃(t:Addr) (ts:List (Str×Str)) (es:List Ev) (ps:List DD) (m:Nat),vs=[.ref t,.str (z0x m)]/\TlP K H t ts es ps/\∀v H',Same H H'->(v=.non\/∃l,v=.ref l)->Q v H'
theorem zj3 (T:TX (kx w) mg) (c0:Fo P w mg base (CXE P w base) 5 363 y00 ["self","tale","strictness"] (z0r (kx w))) (c1:Fo P w mg base CX0 2 377 y04 ["self","place"] (z1y (kx w))) (c2:Fo P w mg base CX0 7 370 y01 ["self","place"] (z0w (kx w))):Fo P w mg base CX0 8 432 y1h ["tale","strictness"] (z95 (kx w)):=by
 refine (z6r w.params).ok sc_judged (λ vs H Q E h=>?_) (λ h7 A h6 s H vs Q E hr h=>?_)
 ·obtain ⟨t,ts,es,ps,m,rfl,_⟩:=h;rfl
 ·obtain ⟨t,ts,es,ps,m,rfl,tp,q⟩:=h;refine ⟨_,(z02 (ps_set (i:=2) sc_judged.nd rfl (C1 rfl) (z82 (z6o _) c0 (hr.mono (by decide)) rfl (T.of (zal _)) (z0y _) .nil passN (z00 (pv 0) (z00 (pv 1) pa_nil))))
   (z02 (ps_set (i:=3) sc_judged.nd rfl (C1 rfl) zfe)
   (z02 (ps_set (i:=4) sc_judged.nd rfl (C1 rfl) (pe_lst (z00 (pe_tup (z00 (pe_lst pa_nil) (z00 (pe_fld (pv 2) rfl) pa_nil))) pa_nil)))
   (z02 (zfx S1 (z0a op_gt (z09 z2m rfl (T.no (n_len _)) L5 (z00 (pv 4) pa_nil)) pe_int (nomark _))
   (z02 (ps_set (i:=5) sc_judged.nd rfl (C1 rfl) (zma (pv 4)))
   (z02 (ps_if (pt_val (z78 (pv 2) (z0p _) (z3q _) c1 (hr.mono (by decide)) (z47 _) .nil pass0 (z00 (pe_ix ix_seq (pv 5) pe_int (λ _ _=>rfl)) pa_nil)) (λ _=>rfl))
   (z04 (ps_ret (pe_ix ix_seq (pv 5) pe_int (λ _ _=>rfl))))
   z0b)
   (z04 (ps_for S1 rfl (zly rfl (T.no (zgt _)) (z78 (pv 2) (z0p _) (z13 _) c2 (hr.mono (by decide)) (z1c _) .nil pass0 (z00 (pe_ix ix_seq (pv 5) pe_int (λ _ _=>rfl)) pa_nil))) (pg_tup rfl (z0h (z0j (i:=6) sc_judged.nd rfl (C1 rfl)) (z0h (z0j (i:=7) sc_judged.nd rfl (C1 rfl)) (z0h (z0j (i:=8) sc_judged.nd rfl (C1 rfl)) z19))))
   (z04 (ps_if (z0a (zd4 hr) (pv 8) (pv 3) (by with_unfolding_all rfl))
   (z02 (zkj hr (pv 3) (pv 8) pe_bl rfl)
   (z04 (z1a (z21 (pv 4) (z00 (pe_tup (z00 (pe_op opAdd (pe_ix ix_seq (pv 5) pe_int (λ _ _=>rfl)) (pe_lst (z00 (pe_tup (z00 (pv 6) (z00 (pv 7) pa_nil))) pa_nil))) (z00 (pv 8) pa_nil))) pa_nil)))))
   z0b)))))))
   (z04 (ps_ret pe_non)))))),?_⟩
  refine zcd tp rfl rfl λ x dx fs G g s1 rl ok d5 e1 bf=>?_;have bo:BoAt (kx w) G m g ts ps x:=⟨dx,fs,e1,bf⟩
  obtain ⟨p0,f5,f2⟩:=bf.first;refine z0o ?_;intro c c5;refine g_name ?_;have Y:=Same.upd (o:=NsO c []) c5;have W:upd G c (NsO c []) c=some (NsO c []):=z01;have h2:Same G (hide c (upd G c (NsO c []))):=λ p o e=>z1j (λ z=>by rw [z,c5] at e;cases e) (Y _ _ e);generalize upd G c (NsO c [])=H2 at Y W h2⊢;refine z0o ?_;refine ⟨w_0,λ C U=>⟨_,rfl,x,_,dx,fs,_,rfl,(Y.trans (Same.upd U)) _ _ e1,z0p _,z1p _,f5,w_2,λ u a5=>⟨w_1,λ d J=>?_⟩⟩⟩;refine g_name ?_;have f1:G d=none:=((Y.trans (Same.upd U)).trans (Same.upd a5)).free J;have q0:=Same.upd (o:=.lst []) U;have Z:=Same.upd (o:=.tup [.ref C,.ref p0]) a5;have q2:=Same.upd (o:=.lst [.ref u]) J;have e6:C≠c:=λ z=>by rw [z,W] at U;cases U
  have h4:u≠c:=λ z=>by rw [z,q0 _ _ W] at a5;cases a5
  have b3:c≠d:=λ z=>by rw [<-z,Z _ _ (q0 _ _ W)] at J;cases J
  have f0:C≠d:=λ z=>by rw [<-z,Z _ _ z01] at J;cases J
  have e4:u≠d:=λ z=>by rw [<-z,z01] at J;cases J
  have g0:=q2 _ _ (Z _ _ (z01 (H:=H2) (a:=C) (o:=.lst [])));have g1:=q2 _ _ (z01 (H:=upd H2 C (.lst [])) (a:=u) (o:=.tup [.ref C,.ref p0]));have g2:=z01 (H:=upd (upd H2 C (.lst [])) u (.tup [.ref C,.ref p0])) (a:=d) (o:=.lst [.ref u]);have g3:=q2 _ _ (Z _ _ (q0 _ _ W));have s3:=zls c5 f1 (Y.trans ((q0.trans Z).trans q2));generalize upd (upd (upd H2 C (.lst [])) u (.tup [.ref C,.ref p0])) d (.lst [.ref u])=H3 at g0 g1 g2 g3 s3⊢;refine zg0 (zcq (λ k σ n=>∃ks zs ws x5 x6 x7 x8,k=wkP g.length ws/\Same G (hid2 c d n)/\n c=some (NsO c ks)/\n d=some (.lst zs)/\KeyI (kx w) (hid2 c d n) (λ _=>True) ks/\All2 (WtAt (kx w) (hid2 c d n)) ws zs/\(∀f∈ws,PlOk ts g.length f.1.length f)/\ks.length + wkP g.length ws<=129/\σ=[some (.ref t),some (.str (z0x m)),some (.ref x),some (.ref c),some (.ref d),x5,x6,x7,x8])
   (λ k σ n=>∃ks zs y ws f x5 x6 x7 x8,k=wkP g.length (ws++[f])/\Same G (hid2 c d n)/\n c=some (NsO c ks)/\n d=some (.lst (zs++[y]))/\KeyI (kx w) (hid2 c d n) (λ _=>True) ks/\All2 (WtAt (kx w) (hid2 c d n)) ws zs/\WtAt (kx w) (hid2 c d n) f y/\(∀f∈ws,PlOk ts g.length f.1.length f)/\PlOk ts g.length f.1.length f/\ks.length + wkP g.length (ws++[f])<=129/\σ=[some (.ref t),some (.str (z0x m)),some (.ref x),some (.ref c),some (.ref d),x5,x6,x7,x8])
   (wkP g.length [([],ts.map λ t=>zeroK t.2)]) ⟨[],[.ref u],[([],ts.map λ t=>zeroK t.2)],_,_,_,_,rfl,s3,g3,g2,λ k hk=>absurd hk A0,.cons ⟨u,C,p0,[],rfl,z5v h4 e4 g1,z5v e6 f0 g0,rfl,f2.tups (.of s3)⟩ .nil,λ f hp=>by rw [List.mem_singleton.mp hp];exact zbv ts _,by rw [zdl];exact F0 (V5 (Z8 _)) (wkN_4 (F0 (Nat.sub_le _ _) rl)),rfl⟩ ?_ ?_)
  ·rintro k σ O ⟨ks,zs,y,ws,f,x5,x6,x7,x8,rfl,s4,es4,ew4,ki,aw,⟨p,l,p2,xs,rfl,ep,el,xl,pz⟩,po,pp,kw,rfl⟩;refine z0o ?_;refine ⟨_,rfl,.inl ⟨rfl,_,SqL.of ew4⟩,d,zs++[.ref p],.ref p,rfl,rfl,ew4,by simp,?_⟩;refine g_name ?_;rw [List.dropLast_concat];have h5:hid2 c d (upd O d (.lst zs))=hid2 c d O:=hid2_b;have b2:upd O d (.lst zs) c=some (NsO c ks):=by rw [upd_ne b3];exact es4
   have b8:upd O d (.lst zs) d=some (.lst zs):=z01;generalize upd O d (.lst zs)=H5 at h5 b2 b8⊢;rw [<-h5] at s4 ki aw ep el pz;have S:Same G H5:=s4.trans hid2_same;have b0 :∀{n:Hp} {R:VK} {x6 x7 x8:Option V} {j:Nat} {v:V},Same (hid2 c d H5) n->([.ref l,.ref p2]:List V)[j]? = some v->R v n->tOp (rIx (kx w)) (tVar 5) (tC (.int j)) [some (.ref t),some (.str (z0x m)),some (.ref x),some (.ref c),some (.ref d),some (.ref p),x6,x7,x8] n R:=λ s' hj h=>⟨_,rfl,.inr (.inl ⟨p,_,_,_,rfl,rfl,SqT.of (s' _ _ ep),z0c hj,h⟩)⟩
   refine sq_if ?_;refine ⟨_,rfl,x,dx,fs,rfl,S _ _ e1,bf.nm _ (by simp),b0 (j:=1) hid2_same rfl ⟨x,p2,m,g,ts,ps,f,rfl,bo.same S,by omega,pz.tups (.of hid2_same),λ b6 H6 I=>⟨_,rfl,?_⟩⟩⟩;have b1:Same (hid2 c d H5) H6:=hid2_same.trans I;refine ite2 (λ _=>?_) λ _=>?_
   ·exact b0 (j:=0) b1 rfl (q _ _ (s1.trans (S.trans I)) (.inr ⟨l,rfl⟩))
   refine tn_x (t_nx ?_);have e0:=bo.same (S.trans I);have h3:=z03 (λ _ _ z=>RcGd.tt (.of (S.trans I)) z) d5;refine ⟨_,rfl,x,dx,fs,rfl,(S.trans I) _ _ e1,bf.nm _ (by simp),b0 (j:=1) b1 rfl ⟨x,p2,m,_,g,ts,ps,f,rfl,e0,h3,ok,pz.tups (.of b1),pp,by omega,λ l7 y7 H7 s7 a4 d3 d1=>⟨l7,y7,rfl,d3,?_⟩⟩⟩;have c3:=I.trans s7;have c7:=c3 _ _ b2;have d6:=c3 _ _ b8;have a8:Same (hid2 c d H5) (hid2 c d H7):=zdi c3;have g7:l7≠c:=λ z=>by rw [z,I _ _ b2] at a4;cases a4
   have f3:l7≠d:=λ z=>by rw [z,I _ _ b8] at a4;cases a4
   have g5:=z03 (λ _ _ z=>StpZ.tups (zht c7 d6) z) d1;have nx:=zk5 d5 ok pp (by omega) (m:=m);have h8:=zcw (m:=m) (ts:=ts) (ps:=ps) pp.nd pp.lt;have f9:y7.length<=g.length - f.1.length:=by rw [z05 d1];omega
   have c4:wkN (g.length - f.1.length - 1)<=129:=wkN_4 (by omega);have e7:wkP g.length (ws++[f])=wkP g.length ws + wkN (g.length - f.1.length):=by rw [zh6,zdl]
   refine zm1 (a:=l7) (xs:=y7) (λ j σ n=>∃ks' zs' ws' jj,jj<=j/\Same (hid2 c d H7) (hid2 c d n)/\n c=some (NsO c ks')/\n d=some (.lst zs')/\KeyI (kx w) (hid2 c d n) (λ _=>True) ks'/\All2 (WtAt (kx w) (hid2 c d n)) ws' zs'/\(∀f∈ws',PlOk ts g.length f.1.length f)/\ks'.length<=ks.length + jj/\wkP g.length ws'=wkP g.length ws + jj * wkN (g.length - f.1.length - 1)/\∃x6 x7 x8,σ=[some (.ref t),some (.str (z0x m)),some (.ref x),some (.ref c),some (.ref d),some (.ref p),x6,x7,x8])
    ⟨ks,zs,ws,0,B0 _,Same.refl _,c7,d6,ki.same a8,z03 (λ _ _ z=>z.same a8) aw,po,B0 _,by rw [Nat.zero_mul];rfl,_,_,_,rfl⟩ (λ j σ n h=>?_) ?_ ?_
   ·obtain ⟨_,_,_,_,_,h,_⟩:=h;exact hid2_same _ _ (h _ _ (z5v g7 f3 d3))
   ·rintro j y σ K hy ⟨ks',zs',ws',jj,lj,s8,es8,ew8,ki8,aw8,po8,kl8,wk8,x6,x7,x8,rfl⟩;have jl:j < y7.length:=by have:=(List.getElem?_eq_some_iff.mp hy).1;rwa [List.length_reverse] at this
    obtain ⟨i0,f6⟩:=List.mem_iff_getElem?.mp (List.mem_reverse.mp (Q0 hy));obtain ⟨r,e9,b9,B,rfl,d9,g9⟩:=z0i g5 f6;have b4:=nx r (Q0 e9);have g8:Same (hid2 c d H7) K:=s8.trans hid2_same;have a6:=g9.tups (.of s8);have i1:jj * wkN (g.length - f.1.length - 1)<=4 * 129:=R9 (by omega) c4;have zl:zs'.length < 1000:=by have h1:=zk1 (N:=g.length) ws';rw [z05 aw8];omega
    refine ⟨b9,_,rfl,g8.seqT d9,rfl,_,_,rfl,_,_,rfl,_,_,rfl,rfl,?_⟩;have d0:=(ki8.same hid2_same).at_ (.inl es8);have c8:=plz_pd (a6.tups (.of hid2_same));refine ⟨_,rfl,_,rfl,c,B,ks',plD r.2.2,rfl,rfl,d0,pl_key _,pl_dep _,c8,_,rfl,?_⟩;refine ite2 (λ _=>?_) λ _=>⟨ks',zs',ws',jj,by omega,s8,es8,ew8,ki8,aw8,po8,kl8,wk8,_,_,_,rfl⟩
    refine ⟨_,rfl,_,rfl,c,B,ks',plD r.2.2,rfl,rfl,rfl,es8,d0,T1 kl8 (G1 (m:=200) (by omega) (by decide)),pl_key _,pl_dep _,c8,t_nx ?_⟩;have h9:hid2 c d (upd K c (NsO c (putN ks' (plD r.2.2) B)))=hid2 c d K:=hid2_a;have a7:upd K c (NsO c (putN ks' (plD r.2.2) B)) c=some (NsO c (putN ks' (plD r.2.2) B)):=z01;have a0:upd K c (NsO c (putN ks' (plD r.2.2) B)) d=some (.lst zs'):=by rw [upd_ne b3.symm];exact ew8
    generalize upd K c (NsO c (putN ks' (plD r.2.2) B))=H9 at h9 a7 a0⊢;rw [<-h9] at s8 ki8 aw8 a6;have d7:Same (hid2 c d H5) H9:=(a8.trans s8).trans hid2_same;have f4:=d7 _ _ el;refine ⟨_,rfl,.inl ⟨rfl,_,SqL.of a0⟩,b0 (j:=0) d7 rfl ?_⟩;refine ⟨_,rfl,_,rfl,w_2,λ D e3=>⟨w_1,λ b5 e8=>?_⟩⟩;have h0:=Same.upd (o:=.tup [.int (r.1:Nat),r.2.1]) e3;have g6:=Same.upd (o:=.lst [.ref D]) e8;have c6:=z01 (H:=upd H9 D (.tup [.int (r.1:Nat),r.2.1])) (a:=b5) (o:=.lst [.ref D]);have L:=h0.trans g6;generalize upd (upd H9 D (.tup [.int (r.1:Nat),r.2.1])) b5 (.lst [.ref D])=H11 at c6 L⊢;refine .inr (.inr (.inl ⟨l,b5,xs,[.ref D],rfl,rfl,L _ _ f4,c6,F0 (m:=100) (by have:=pp.nd;have:=z66 _ _ pp.nd pp.lt;show xs.length + 1<=100;omega) (by decide),λ F X=>⟨_,rfl,w_2,λ M a3=>?_⟩⟩));have b7:=Same.upd (o:=.lst (xs++[.ref D])) X;have d2:=Same.upd (o:=.tup [.ref F,.ref B]) a3;have d4:=d2 _ _ (z01 (H:=H11) (a:=F) (o:=.lst (xs++[.ref D])));have c9:=z01 (H:=upd H11 F (.lst (xs++[.ref D]))) (a:=M) (o:=.tup [.ref F,.ref B]);have f8:F≠c:=λ z=>by rw [z,L _ _ a7] at X;cases X
    have f7:F≠d:=λ z=>by rw [z,L _ _ a0] at X;cases X
    have e5:M≠c:=λ z=>by rw [z,b7 _ _ (L _ _ a7)] at a3;cases a3
    have g4:M≠d:=λ z=>by rw [z,b7 _ _ (L _ _ a0)] at a3;cases a3
    have a9:=(L.trans b7).trans d2;generalize upd (upd H11 F (.lst (xs++[.ref D]))) M (.tup [.ref F,.ref B])=H13 at d4 c9 a9⊢;have hm:=zdi (a:=c) (b:=d) a9;refine ⟨d,zs',_,rfl,rfl,a9 _ _ a0,G1 zl (by decide),?_⟩;refine ⟨putN ks' (plD r.2.2) B,zs'++[.ref M],ws'++[r.2.2],jj + 1,by omega,?_,by rw [upd_ne b3];exact a9 _ _ a7,z01,?_,?_,λ d8 hp=>?_,F0 z6n (by omega),?_,_,_,_,rfl⟩
    ·rw [hid2_b];exact s8.trans hm
    ·rw [hid2_b];exact (ki8.same hm).put (a6.tups (.of hm)) trivial
    ·rw [hid2_b];exact z2v (z03 (λ _ _ z=>z.same hm) aw8) ⟨M,F,B,_,rfl,z5v e5 g4 c9,z5v f8 f7 d4,by rw [K0,b4.2];show xs.length + 1=_;omega,a6.tups (.of hm)⟩
    ·rcases List.mem_append.mp hp with z|z
     ·exact po8 d8 z
     ·rw [List.mem_singleton.mp z];exact b4.1
    ·rw [zh6,zdl,wk8,b4.2,Nat.succ_mul,show g.length - (f.1.length + 1)=g.length - f.1.length - 1 by omega];omega
   ·rintro σ K ⟨ks',zs',ws',jj,lj,s8,es8,ew8,ki8,aw8,po8,kl8,wk8,x6,x7,x8,rfl⟩;have r:=zmq (F0 lj f9);exact ⟨wkP g.length ws',by rw [e7,wk8];omega,ks',zs',ws',_,_,_,_,rfl,(s4.trans a8).trans s8,es8,ew8,ki8,aw8,po8,by rw [wk8];omega,rfl⟩
  ·rintro k σ O ⟨ks,zs,ws,x5,x6,x7,x8,rfl,s4,es4,ew4,ki,aw,po,kw,rfl⟩ body;refine ⟨_,rfl,.inl ⟨d,zs,rfl,.inl (SqL.of ew4),_,_,rfl,rfl,_,rfl,?_⟩⟩;refine ite2 (λ h=>?_) λ _=>q _ _ (s1.trans (s4.trans hid2_same)) (.inl rfl);have h:(0:Int) < (zs.length:Int):=of_decide_eq_true h;have hz:zs≠[]:=λ z=>by rw [z] at h;exact absurd h (by decide)
   have ez:=(i7 hz).symm;rw [ez] at aw ew4;obtain ⟨wr,f,rfl,u,a2⟩:=zi9 aw;exact body _ ⟨ks,_,_,wr,f,x5,x6,x7,x8,rfl,s4,es4,ew4,ki,u,a2,λ p hp=>po p (List.mem_append.mpr (.inl hp)),po f (List.mem_append.mpr (.inr (List.mem_singleton.mpr rfl))),kw,rfl⟩
theorem zg5 {K:c0} {H:Hp} {r:Addr} {us:List V} (e:H r=some (.lst us)):Tups K H (hide r H):=λ a b h=>by
 rcases h with (h|⟨ob,h⟩)|h
 ·exact .inl (.inl (z1j (λ z=>by rw [z,e] at h;cases h) h))
 ·exact .inl (.inr ⟨ob,z1j (λ z=>by rw [z,e] at h;cases h) h⟩)
 ·exact .inr h
def z5x (K:c0):Sp:=λ vs H Q _=>∃(t:Addr) (ts:List (Str×Str)) (es:List Ev) (ps:List DD) (m:Nat),vs=[.ref t,.str (z0x m)]/\TlP K H t ts es ps/\∀v H',Same H H'->Q v H'
theorem z9t (T:TX (kx w) mg) (c0:Fo P w mg base (CXE P w base) 5 363 y00 ["self","tale","strictness"] (z0r (kx w))) (c1:Ca P w mg base "next_layer" ["board","layer"] 8 (z5z (kx w))):Fo P w mg base CX0 9 418 y0x ["tale","strictness"] (z5x (kx w)):=by
 refine (z4l w.params).ok sc_all_places (λ vs H Q E h=>?_) (λ b1 A b0 s H vs Q E X h=>?_)
 ·obtain ⟨t,f,es,G,m,rfl,_⟩:=h;rfl
 ·obtain ⟨t,f,es,G,m,rfl,tp,q⟩:=h;refine ⟨_,(z02 (ps_set (i:=2) sc_all_places.nd rfl (C1 rfl) (z82 (z6o _) c0 (X.mono (by decide)) rfl (T.of (zal _)) (z0y _) .nil passN (z00 (pv 0) (z00 (pv 1) pa_nil))))
   (z02 (ps_set (i:=3) sc_all_places.nd rfl (C1 rfl) (pe_lst pa_nil))
   (z02 (ps_set (i:=4) sc_all_places.nd rfl (C1 rfl) (pe_lst (z00 (pe_fld (pv 2) rfl) pa_nil)))
   (z02 (zfx S1 (z0a op_gt (z09 z2m rfl (T.no (n_len _)) L5 (z00 (pv 4) pa_nil)) pe_int (nomark _))
   (z02 (z1a (zf8 (pv 3) (z00 (pv 4) pa_nil)))
   (z04 (ps_set (i:=4) sc_all_places.nd rfl (C1 rfl) (pe_cal c1 (X.mono (by decide)) rfl (z00 (pv 2) (z00 (pv 4) pa_nil)))))))
   (z04 (ps_ret (pv 3))))))),?_⟩
  refine zcd tp rfl rfl λ x W fs j v s1 rl ok a3 U V=>?_;have Z:BoAt (kx w) j m v f G x:=⟨W,fs,U,V⟩
  obtain ⟨c,a1,a8⟩:=V.first;refine z0o ?_;refine ⟨w_0,λ a M=>?_⟩;refine g_name ?_;obtain ⟨D,v_,L,l⟩:=newA (.lst []) M;rw [<-v_];refine z0o ?_;refine ⟨_,rfl,x,_,W,fs,_,rfl,L _ _ U,z0p _,z1p _,a1,w_1,λ g B=>?_⟩;refine g_name ?_;have J:=Same.upd (o:=.lst [.ref c]) B;have I:upd D g (.lst [.ref c]) g=some (.lst [.ref c]):=z01;have a5:g≠a:=λ z=>by rw [z,l] at B;cases B
  have l:=J _ _ l;have C:Same j (hide a (upd D g (.lst [.ref c]))):=λ p o e=>z1j (λ z=>by rw [z,M] at e;cases e) ((L.trans J) _ _ e);generalize upd D g (.lst [.ref c])=H3 at l I C⊢;refine zg0 (zcq (λ k σ b=>∃d pls ys fz l1,k=6 - d/\Same j (hide a b)/\b a=some (.lst fz)/\fz.length<=24 * d/\hide a b l1=some (.lst ys)/\All2 (PlV (kx w) (hide a b)) pls ys/\(∀r∈pls,PlG f v.length d r)/\pls.length<=layN d/\σ=[some (.ref t),some (.str (z0x m)),some (.ref x),some (.ref a),some (.ref l1)])
   (λ k σ b=>∃d pls ys fz l1,d<=4/\k=6 - d/\Same j (hide a b)/\b a=some (.lst fz)/\fz.length<=24 * d/\hide a b l1=some (.lst ys)/\All2 (PlV (kx w) (hide a b)) pls ys/\(∀r∈pls,PlG f v.length d r)/\pls.length<=layN d/\σ=[some (.ref t),some (.str (z0x m)),some (.ref x),some (.ref a),some (.ref l1)])
   6 ⟨0,[([],f.map λ t=>zeroK t.2)],[.ref c],[],g,rfl,C,l,B0 _,z1j a5 I,.cons ⟨c,rfl,a8.tups (.of C)⟩ .nil,λ r hp=>by rw [List.mem_singleton.mp hp];exact ⟨zbv f _,rfl⟩,B0 _,rfl⟩ ?_ ?_)
  ·rintro k σ n ⟨d,pls,ys,fz,l1,d4,rfl,s4,ef,fl,el,al,pg,pn,rfl⟩;have yl:ys.length<=24:=by rw [z05 al];exact F0 pn (zfn d)
   have a9:=hide_same _ _ el;refine ⟨_,rfl,.inl ⟨rfl,_,SqL.of ef⟩,_,rfl,a,l1,fz,ys,rfl,rfl,ef,a9,F0 (m:=1000) (by omega) (by decide),t_nx ?_⟩;have S:hide a (upd n a (.lst (fz++ys)))=hide a n:=z5f;have u:upd n a (.lst (fz++ys)) a=some (.lst (fz++ys)):=z01;generalize upd n a (.lst (fz++ys))=H5 at S u⊢;rw [<-S] at s4 el al;have N:Same j H5:=s4.trans hide_same;refine ⟨_,rfl,_,rfl,x,l1,m,d,v,f,G,pls,ys,rfl,Z.same N,z03 (λ _ _ z=>RcGd.tt (.of N) z) a3,ok,rl,hide_same _ _ el,z03 (λ _ _ z=>z.same hide_same) al,pg,pn,λ R a4 a2 H6 F K a7 a0 a6 Y=>?_⟩;have nl:R≠a:=λ z=>by rw [z,u] at K;cases K
   refine ⟨6 - (d + 1),by omega,d + 1,a2,a4,_,R,rfl,s4.trans (z4v F),F _ _ u,by rw [K0];omega,z1j nl a7,z03 (λ _ _ z=>z.elim λ p y=>⟨p,y.1,y.2.tups (zg5 (F _ _ u))⟩) a0,a6,Y,rfl⟩
  ·rintro k σ n ⟨d,pls,ys,fz,l1,rfl,s4,ef,fl,el,al,pg,pn,rfl⟩ body;refine ⟨_,rfl,.inl ⟨l1,ys,rfl,.inl (SqL.of (hide_same _ _ el)),_,_,rfl,rfl,_,rfl,?_⟩⟩;refine ite2 (λ h=>?_) λ _=>⟨_,rfl,q _ _ (s1.trans (s4.trans hide_same))⟩
   have h:(0:Int) < (ys.length:Int):=of_decide_eq_true h;refine body _ ⟨d,pls,ys,fz,l1,?_,rfl,s4,ef,fl,el,al,pg,pn,rfl⟩;have O:0 < layN d:=by have:=z05 al;omega
   rcases Nat.lt_or_ge d 5 with z|z
   ·omega
   ·obtain ⟨e,rfl⟩:=Nat.exists_eq_add_of_le' z;rw [layN_0] at O;exact absurd O (j4 _)
def z51 (K:c0):Sp:=λ vs H Q _=>∃(t:Addr) (ts:List (Str×Str)) (es:List Ev) (ps:List DD) (m:Nat),vs=[.ref t,.str (z0x m)]/\TlP K H t ts es ps/\∀v H',Same H H'->Q v H'
theorem z91 (T:TX (kx w) mg) (c0:Ca P w mg base "judged" ["tale","strictness"] 8 (z95 (kx w))) (c1:Ca P w mg base "all_places" ["tale","strictness"] 9 (z5x (kx w))):Fo P w mg base CX0 10 439 y08 ["tale","strictness"] (z51 (kx w)):=by
 refine (z1h w.params).ok z4s (λ f H Q E h=>?_) (λ n A k s H f Q E e h=>?_)
 ·obtain ⟨t,b,a,c,m,rfl,_⟩:=h;rfl
 ·obtain ⟨t,b,a,c,m,rfl,tp,q⟩:=h;refine ⟨_,(z02 (ps_if (z0a zdc (pe_cal c0 (e.mono (by decide)) rfl (z00 (pv 0) (z00 (pv 1) pa_nil))) pe_non (nomark _))
   (z04 (ps_ret pe_non))
   z0b)
   (z04 (ps_ret (pe_cal c1 (e.mono (by decide)) rfl (z00 (pv 0) (z00 (pv 1) pa_nil)))))),?_⟩
  refine ⟨_,rfl,_,rfl,t,b,a,c,m,rfl,tp,λ v j d l=>⟨rfl,_,rfl,?_⟩⟩;refine ite2 (λ _=>q _ _ d) λ _=>?_;exact ⟨_,rfl,_,rfl,t,b,a,c,m,rfl,tp.same d,λ v i g=>q _ _ (d.trans g)⟩
theorem zci {K:c0} {H H':Hp} {a:Addr} {ks:List (PyData×Addr)} (s:Same H H') (h:NsAt K H a ks):NsAt K H' a ks:=⟨h.1.imp (λ z=>s _ _ z) λ z=>z.elim λ c z=>⟨c,s _ _ z⟩,λ k b=>⟨(h.2 k b).1,(h.2 k b).2.1,(h.2 k b).2.2.same s⟩⟩
theorem zda {K:c0} {H:Hp} {ys:List V} {pl:Pl} (hy :∀p,V.ref p∈ys->PlZ K H p pl) :∀{is:List Nat} {us:List V},All2 (λ (i:Nat) y=>∃p b,ys[i]? = some (.ref p)/\y=.ref b/\H b=some (.tup [.ref p,.bl true])) is us->∃ks:List (PyData×Addr),All2 (λ (p:PyData×Addr) y=>∃b,y=.ref b/\SqT K H b [.ref p.2,.bl true]/\keyD p.1=true/\p.1.depth<=7/\IsPd K H p.1 (.ref p.2)) ks us/\∀k∈ks,k.1=plD pl/\PlZ K H k.2 pl
 | _,_,.nil=>⟨[],.nil,λ _ h=>absurd h A0⟩
 | _,_,.cons ⟨p,b,h1,h2,h3⟩ r=>by
  obtain ⟨ks,c,e⟩:=zda hy r;have a:=hy p (Q0 h1);refine ⟨(plD pl,p) :: ks,.cons ⟨b,h2,SqT.of h3,pl_key _,pl_dep _,plz_pd a⟩ c,λ k d=>?_⟩;rcases List.mem_cons.mp d with z|z
  ·rw [z];exact ⟨rfl,a⟩
  ·exact e k z
theorem zcy :∀{ps ks:List (PyData×Addr)} {k:PyData×Addr},k∈foldN ps ks->k∈ks\/k∈ps
 | [],_,_,h=>.inl h
 | p :: ps,ks,k,h=>by
  rcases zcy (ps:=ps) (ks:=putN ks p.1 p.2) h with z|z
  ·unfold L2.putN at z;split at z
   ·exact .inl z
   ·rcases List.mem_append.mp z with y|y
    ·exact .inl y
    ·exact .inr (by rw [List.mem_singleton.mp y];exact F1)
  ·exact .inr (E1 _ z)
theorem zn6 {X:Cx} {K:c0} (h:X.K=K) {k:Nat} (hr:Room k X.A):OpR X (J2 .In) (rInN K false):=h ▸ op_inN hr
def z2z (K:c0):Sp:=λ vs H Q _=>∃(b p he:Addr) (m:Nat) (rs:List Rc) (ts:List (Str×Str)) (ps:List DD) (pl:Pl) (ks:List (PyData×Addr)),vs=[.ref b,.ref p,.ref he]/\BoAt K H m rs ts ps b/\All2 (RcGd K H ts) rs ps/\ThW ts/\rs.length<=4/\PlZ K H p pl/\PlOk ts rs.length pl.1.length pl/\NsAt K H he ks/\∀b H',Same H H'->Q (.bl b) H'
theorem z64 (T:TX (kx w) mg) (c0:Fo P w mg base CX0 7 370 y01 ["self","place"] (z0w (kx w))):Fo P w mg base CX0 8 449 y09 ["board","place","held"] (z2z (kx w)):=by
 refine (z1x w.params).ok z63 (λ D H Q E h=>?_) (λ a1 A a0 s H D Q E u h=>?_)
 ·obtain ⟨b,p,r,m,d,f,k,e,n,rfl,_⟩:=h;rfl
 ·obtain ⟨b,p,r,m,d,f,k,e,n,rfl,o,U,ok,L,J,M,B,q⟩:=h;refine ⟨_,(z04 (ps_ret (z09 (z23 rfl) rfl (T.no (n_all _)) x9 (z00 (pe_cg (xs:=["step"]) (g:=gName 0) (fr:=[(2,"held")]) (z22 (z78 (pv 0) (z0p _) (z13 _) c0 (u.mono (by decide)) (z1c _) .nil pass0 (z00 (pv 1) pa_nil))) (λ _ _ _ _ _=>(pg_cn (N:=["step","held"]) 0)) (λ _ _ _ _ _=>pf_nil) (λ _ _ _ _ _=>(z31 (zn6 (K:=KX w.params) rfl u) (pe_ix (zg9 (K:=KX w.params) rfl) (pv 0) pe_int (λ _ _=>rfl)) (pv 1) (by with_unfolding_all rfl)))) pa_nil)))),?_⟩;obtain ⟨X,fs,G,W⟩:=id o;refine sq_ret (e_cb1 ?_);refine zko (K:=KX w.params) (λ a xs c=>Same H c/\c a=some (.lst xs)/\All2 (StpZ (kx w) c) (nexT (cP m d e.1) f d k e d.length) xs) (λ R h=>⟨_,rfl,b,X,fs,rfl,G,W.nm _ (by simp),_,rfl,b,p,m,_,d,f,k,e,rfl,o,U,ok,J,M,by omega,λ l V S s hl I C=>h l V S ⟨s,I,C⟩⟩) (λ a xs c h=>⟨SqL.of h.2.1,F0 (m:=4) (by rw [z05 h.2.2];exact F0 zfr L) (by decide)⟩) (λ _=>true) (λ _ y _=>∃b,y=.bl b) (λ _ _ _ _ _ z=>z) ?_ ?_
  ·rintro a xs c ⟨s1,e1,al1⟩ i hi v H4 s4 hv KT KF k1 k2;obtain ⟨Y,Z,x,t,rfl,O,F⟩:=z0i al1 hv;refine ⟨[some (.ref x)],rfl,rfl,iteT ?_⟩;exact ⟨_,rfl,.inr (.inl ⟨x,_,2,.ref t,rfl,rfl,s4.seqT O,z0c (j:=2) rfl,_,rfl,r,t,n,plD Y.2.2,rfl,rfl,zci (s1.trans s4) B,pl_key _,pl_dep _,plz_pd (F.tups (.of s4)),k1 rfl _ _ (Same.refl _) ⟨_,rfl⟩⟩)⟩
  ·rintro a xs c ⟨s1,e1,al1⟩ l4 H4 us s4 hl4 al4;exact all_bl z01 al4 λ b=>q b _ ((s1.trans s4).trans (Same.upd hl4))
def z89 (K:c0):Sp:=λ vs H Q _=>∃(t lp:Addr) (ts:List (Str×Str)) (es:List Ev) (ps:List DD) (m:Nat) (ys:List V),vs=[.ref t,.str (z0x m),.ref lp]/\TlP K H t ts es ps/\H lp=some (.lst ys)/\(ys=[.non]\/((∀y∈ys,∃p,y=.ref p/\FpAt H p ts)/\ys.length<=10))/\∀v H',Same H H'->Q v H'
theorem ze6 (T:TX (kx w) mg) (c0:Fo P w mg base (CXE P w base) 5 363 y00 ["self","tale","strictness"] (z0r (kx w))) (c1:Fo P w mg base CX0 5 382 y06 ["self","value"] (z2l (kx w))) (c2:Fo P w mg base CX0 2 377 y04 ["self","place"] (z1y (kx w))) (c3:Ca P w mg base "goes_on_within" ["board","place","held"] 8 (z2z (kx w))):Fo P w mg base CX0 9 444 y0p ["tale","strictness","paper"] (z89 (kx w)):=by
 refine (z3r w.params).ok sc_is_stuck (λ vs H Q E h=>?_) (λ c7 A c6 s H vs Q E G h=>?_)
 ·obtain ⟨t,Z,f,es,O,m,d,rfl,_⟩:=h;rfl
 ·obtain ⟨t,Z,f,es,O,m,d,rfl,tp,el,r,q⟩:=h;refine ⟨_,(z02 (ps_set (i:=3) sc_is_stuck.nd rfl (B1 rfl) (z82 (z6o _) c0 (G.mono (by decide)) rfl (T.of (zal _)) (z0y _) .nil passN (z00 (pv 0) (z00 (pv 1) pa_nil))))
   (z02 (ps_if (PW.pt (pw_or (pt_not (pt_val (z09 z0t rfl (T.no (z0g _)) X1 (z00 (pv 2) (z00 (z37 (v:=.ty "list") rfl (T.no (n_list _)) boot_list rfl) pa_nil))) (λ _=>rfl))) (pw_or1 (pt_not (pt_val (z09 (z23 rfl) rfl (T.no (n_all _)) x9 (z00 (pe_cg (xs:=["value"]) (g:=gName 0) (fr:=[(3,"board")]) (z22 (pv 2)) (λ _ _ _ _ _=>(pg_cn (N:=["value","board"]) 0)) (λ _ _ _ _ _=>pf_nil) (λ _ _ _ _ _=>(z78 (pv 1) (z0p _) (z5l _) c1 (G.mono (by decide)) (z62 _) .nil pass0 (z00 (pv 0) pa_nil)))) pa_nil)) (λ _=>rfl))))))
   (z04 (ps_ret pe_bl))
   z0b)
   (z02 (ps_set (i:=4) sc_is_stuck.nd rfl (C1 rfl) (z0z (zfm G) rfl (T.no (n_dict _)) boot_dict (z00 (pe_cg (xs:=["place"]) (g:=gName 0) (fr:=[]) (z22 (pv 2)) (λ _ _ _ _ _=>(pg_cn (N:=["place"]) 0)) (λ _ _ _ _ _=>pf_nil) (λ _ _ _ _ _=>(pe_tup (z00 (pv 0) (z00 pe_bl pa_nil))))) pa_nil)))
   (z02 (ps_if (z0a (zd4 G) (pe_fld (pv 3) rfl) (pv 4) (by with_unfolding_all rfl))
   (z04 (ps_ret pe_bl))
   z0b)
   (z02 (ps_for S1 rfl (zkp (pv 4)) (z0j (i:=5) sc_is_stuck.nd rfl (C1 rfl))
   (z04 (ps_if (PW.pt (pw_or (pt_val (z78 (pv 3) (z0p _) (z3q _) c2 (G.mono (by decide)) (z47 _) .nil pass0 (z00 (pv 5) pa_nil)) (λ _=>rfl)) (pw_or1 (pt_not (pt_val (pe_cal c3 (G.mono (by decide)) rfl (z00 (pv 3) (z00 (pv 5) (z00 (pv 4) pa_nil)))) (λ _=>rfl))))))
   (z04 (ps_ret pe_bl))
   z0b)))
   (z04 (ps_ret pe_bl))))))),?_⟩
  refine zcd tp rfl rfl λ x X fs H1 M u rl ok c5 e1 bf=>?_;have bo:BoAt (kx w) H1 m M f O x:=⟨X,fs,e1,bf⟩
  obtain ⟨p0,b9,b6⟩:=bf.first;have a5:=u _ _ el;have b1:d.length<=10:=by
   rcases r with h|h
   ·rw [h];decide
   ·exact h.2
  refine sq_if (t_or ?_);refine ⟨_,rfl,_,_,"list",rfl,.inl ⟨⟨_,a5⟩,rfl⟩,by decide,_,rfl,iteN (by decide) (nt_cb1 ?_)⟩;refine z7b (K:=KX w.params) (a:=Z) (xs:=d) (H1:=H1) (λ _=>true) (λ _ y _=>∃b,y=.bl b/\(d=[.non]->b=false)) (λ _ _ _ _ _ z=>z) (λ R h=>⟨_,rfl,h⟩) (SqL.of a5) (F0 b1 (by decide)) ?_ ?_
  ·intro i hi v H4 L l KT KF k1 k2;refine ⟨[some v],rfl,rfl,iteT ?_⟩;refine ⟨_,rfl,x,X,fs,rfl,L _ _ e1,bf.nm _ (by simp),_,rfl,x,v,m,M,f,O,rfl,bo.same L,ok.n6,?_⟩;rcases r with h|h
   ·rw [h] at l;have:=Q0 l;exact .inl ⟨List.mem_singleton.mp this,λ I s'=>k1 rfl _ _ s' ⟨false,rfl,λ _=>rfl⟩⟩
   ·obtain ⟨p,rfl,fp⟩:=h.1 v (Q0 l);refine .inr ⟨p,rfl,fp.same (u.trans L),λ b I s'=>k1 rfl _ _ s' ⟨b,rfl,λ z=>?_⟩⟩;rw [z] at l;cases List.mem_singleton.mp (Q0 l)
  intro l4 H4 C L b3 a0;rw [List.filter_eq_self.mpr (λ _ _=>rfl)] at a0;have s5:=L.trans (Same.upd (o:=.lst C) b3);refine ⟨l4,C,rfl,SqL.of z01,λ y r=>?_,_,rfl,?_⟩
  ·obtain ⟨i,hi⟩:=List.mem_iff_getElem?.mp r;obtain ⟨j,_,b,e,_⟩:=z0i a0 hi;exact ⟨b,e⟩
  generalize upd H4 l4 (.lst C)=H5 at s5⊢;refine ite2 (λ _=>q _ _ (u.trans s5)) λ a4=>?_;have a4:C.all (λ y=>decide (y=V.bl true))=true:=by simpa using a4
  have r:(∀y∈d,∃p,y=.ref p/\FpAt H p f):=by
   rcases r with h|h
   ·exfalso;subst h;have lu:=z05 a0;have hu:0 < C.length:=by rw [lu];decide
    have h0:C[0]? = some (C[0]'hu):=N0 hu;obtain ⟨j,_,b,e,hb⟩:=z0i a0 h0;have:=of_decide_eq_true (List.all_eq_true.mp a4 _ (Q0 h0));rw [e,hb rfl] at this;cases this
   ·exact h.1
  refine tn_x (t_nx ?_);have b4:=s5 _ _ a5;refine zlv ?_;refine z7b (K:=KX w.params) (a:=Z) (xs:=d) (H1:=H5) (λ _=>true) (λ i y I=>∃p b,d[i]? = some (.ref p)/\y=.ref b/\I b=some (.tup [.ref p,.bl true])) (λ _ _ _ _ s ⟨p,b,h1,h2,h3⟩=>⟨p,b,h1,h2,s _ _ h3⟩) (λ R h=>⟨_,rfl,h⟩) (SqL.of b4) (F0 b1 (by decide)) ?_ ?_
  ·intro i hi v H6 s6 l KT KF k1 k2;obtain ⟨p,rfl,fp⟩:=r v (Q0 l);refine ⟨[some (.ref p)],rfl,rfl,iteT ?_⟩;exact ⟨_,rfl,w_2,λ b7 h7=>k1 rfl _ _ (Same.upd h7) ⟨p,b7,l,rfl,z01⟩⟩
  intro S H6 F s6 a9 b2;rw [List.filter_eq_self.mpr (λ _ _=>rfl)] at b2;have s7:=s6.trans (Same.upd (o:=.lst F) a9);have e7:upd H6 S (.lst F) S=some (.lst F):=z01;have b0:All2 (λ (i:Nat) y=>∃p b,d[i]? = some (.ref p)/\y=.ref b/\upd H6 S (.lst F) b=some (.tup [.ref p,.bl true])) (K1 d.length) F:=z03 (λ _ _ ⟨p,b,h1,h2,h3⟩=>⟨p,b,h1,h2,(Same.upd a9) _ _ h3⟩) b2;generalize upd H6 S (.lst F)=H7 at s7 e7 b0⊢;have a2:=s5.trans s7;have b8 :∀p,V.ref p∈d->PlZ (kx w) H7 p ([],f.map λ t=>zeroK t.2):=λ p hp=>by obtain ⟨p',e,fp⟩:=r _ hp;cases e;exact (fp.same (u.trans a2)).plz
  obtain ⟨B,ak,kp⟩:=zda b8 b0;refine ⟨S,F,B,rfl,e7,ak,λ c a7=>?_⟩;refine g_name ?_;have f1:H1 c=none:=a2.free a7;have s8:=Same.upd (o:=NsO c (foldN B [])) a7;have W:upd H7 c (NsO c (foldN B [])) c=some (NsO c (foldN B [])):=z01;have D:Same H1 (hide c (upd H7 c (NsO c (foldN B [])))):=λ p o e=>z1j (λ z=>by rw [z,f1] at e;cases e) ((a2.trans s8) _ _ e);have n:KeyI (kx w) (hide c (upd H7 c (NsO c (foldN B [])))) (λ J=>PlOk f M.length J.1.length J) (foldN B []):=λ k hk=>by
   rcases zcy hk with z|z
   ·exact absurd z A0
   ·exact ⟨_,(kp k z).1,((kp k z).2.tups (.of s8)).tups (zdj W),zbv f _⟩
  generalize foldN B []=kf at W D n s8⊢;generalize upd H7 c (NsO c kf)=H8 at W D n s8⊢;refine sq_if ?_;refine ⟨_,rfl,x,_,X,fs,_,rfl,(D.trans hide_same) _ _ e1,z0p _,z1p _,b9,_,rfl,c,p0,kf,_,rfl,rfl,(n.same hide_same).at_ (.inl W),pl_key _,pl_dep _,plz_pd (b6.tups (.of (D.trans hide_same))),_,rfl,?_⟩;refine ite2 (λ _=>q _ _ (u.trans (D.trans hide_same))) λ _=>?_;refine tn_x (t_nx ?_);refine ⟨_,rfl,c,kf,rfl,W,λ U=>?_⟩;have h9:hide c (upd H8 c (.frz U (NsO c kf)))=hide c H8:=z5f;have e9:upd H8 c (.frz U (NsO c kf)) c=some (.frz U (NsO c kf)):=z01;generalize upd H8 c (.frz U (NsO c kf))=H9 at h9 e9⊢;rw [<-h9] at D n;have a8:=D.trans hide_same;have n:=n.same hide_same;have c4:=n.at_ (.inr ⟨U,e9⟩);refine zhx (λ i σ I=>Same H9 I/\∃x5,σ=[some (.ref t),some (.str (z0x m)),some (.ref Z),some (.ref x),some (.ref c),x5]) ⟨Same.refl _,_,rfl⟩ (λ i σ I h=>h.1 _ _ e9) ?_ ?_
  ·rintro i k σ b5 hk ⟨s10,x5,rfl⟩;obtain ⟨J,_,pz,po⟩:=n k (Q0 hk);refine g_name ?_;refine zjb (t_or ?_);have a3:=a8.trans s10;refine ⟨_,rfl,x,X,fs,rfl,a3 _ _ e1,bf.nm _ (by simp),_,rfl,x,k.2,m,M,f,O,J,rfl,bo.same a3,by omega,pz.tups (.of s10),λ c9 d1 a1=>⟨_,rfl,?_⟩⟩;have Y:=a3.trans a1;refine ite2 (λ _=>iteT (q _ _ (u.trans Y))) λ _=>?_;refine ⟨_,rfl,_,rfl,_,rfl,x,k.2,c,m,M,f,O,J,kf,rfl,bo.same Y,z03 (λ _ _ z=>RcGd.tt (.of Y) z) c5,ok,rl,pz.tups (.of (s10.trans a1)),po,zci (s10.trans a1) c4,λ d0 c8 a6=>⟨_,rfl,?_⟩⟩;exact ite2 (λ _=>q _ _ (u.trans (Y.trans a6))) λ _=>⟨(s10.trans a1).trans a6,_,rfl⟩
  ·rintro σ b5 ⟨s10,x5,rfl⟩;exact q _ _ (u.trans (a8.trans s10))
def z75 (K:c0):Sp:=λ vs H Q _=>∃(i:Int),vs=[.int i]/\∀z H',Same H H'->Q (.str z) H'
theorem zbk (T:TX (kx w) mg):Fo P w mg base CX0 1 554 y1c ["cell"] (z75 (kx w)):=by
 refine (z5e w.params).ok sc__law_word (λ G H Q E h=>?_) (λ W A R s H G Q E U h=>?_)
 ·obtain ⟨i,rfl,_⟩:=h;rfl
 ·obtain ⟨i,rfl,q⟩:=h;refine q_of (z0f (qs_set (i:=1) sc__law_word.nd rfl (C1 rfl) (qe_lst (zlx [(_,_,_),(_,_,_),(_,_,_),(_,_,_),(_,_,_),(_,_,_),(_,_,_),(_,_,_),(_,_,_),(_,_,_)])))
   (z0f (qs_set (i:=1) sc__law_word.nd rfl (C1 rfl) (qe_op opAdd (QE.mk (pv 1)) (qe_lst (z08 (QE.mk pe_str) (z08 (QE.mk pe_str) qa_nil)))))
   (z0f (QS.mk (ps_if (z0a op_lt (pe_op op_mod (pv 0) pe_int) pe_int (nomark _))
   (z04 (ps_ret (pe_ix ix_seq (pv 1) (pe_op op_mod (pv 0) pe_int) (λ _ _=>rfl))))
   z0b))
   (z0f (QS.mk (ps_set (i:=2) sc__law_word.nd rfl (C1 rfl) pe_str))
   (z0f (QS.mk (ps_set (i:=3) sc__law_word.nd rfl (C1 rfl) (pe_op op_mod (pe_op z6d (pv 0) pe_int) pe_int)))
   (z0f (QS.mk (ps_set (i:=4) sc__law_word.nd rfl (C1 rfl) (pe_ix ix_seq pe_str (pe_op op_mod (pe_op z6d (pv 0) pe_int) pe_int) (λ _ _=>rfl))))
   (z1g (QS.mk (ps_ret (pe_op opAdd (pe_op opAdd (z1b slSeq (pv 2) z2e (z1m (pv 3))) (pv 4)) (z1b slSeq (pv 2) (z1m (pe_op opAdd (pv 3) pe_int)) z2e))))))))))) ?_
  refine z3e (λ C d=>∃l ws,Same H d/\d l=some (.lst (List.map V.str ws))/\ws.length=10/\C=[some (.int i),some (.ref l),none,none,none]) ?_ (λ M=>?_);rotate_left
  ·exact ⟨w_10,λ t J=>M _ _ ⟨t,_,Same.upd J,z01,rfl,rfl⟩⟩
  rintro C d ⟨t,ws,s1,e1,wl,rfl⟩;refine z0o ?_;refine ⟨_,rfl,w_2,λ p K=>?_⟩;have B:=Same.upd (o:=.lst [.str "bare\n",.str "none"]) K;refine .inr (.inr (.inl ⟨t,p,_,_,rfl,rfl,B _ _ e1,z01,by rw [G0,wl];decide,λ f I=>?_⟩));refine g_name ?_;have r:=(s1.trans B).trans (Same.upd (o:=.lst (ws.map V.str++[.str "bare\n",.str "none"])) I);have D:upd (upd d p (.lst [.str "bare\n",.str "none"])) f (.lst (ws.map V.str++[.str "bare\n",.str "none"])) f=some (.lst (ws.map V.str++[.str "bare\n",.str "none"])):=z01;generalize upd (upd d p (.lst [.str "bare\n",.str "none"])) f (.lst (ws.map V.str++[.str "bare\n",.str "none"]))=H3 at r D⊢;have j :∀(x k:Int),0 < k->0<=x % k/\x % k < k:=λ x k h=>⟨j6 _ (by omega),Y4 _ h⟩
  refine sq_if ?_;refine ⟨_,rfl,_,_,rfl,rfl,(show (0:Int) < 14 by decide),_,_,rfl,rfl,_,rfl,?_⟩;refine ite2 (λ h=>?_) λ _=>?_
  ·have h:=of_decide_eq_true h;obtain ⟨v,L,F⟩:=atI_of (xs:=ws.map V.str++[.str "bare\n",.str "none"]) (j i 14 (by decide)).1 (by rw [K0,G0,wl];exact h);refine ⟨_,rfl,_,rfl,_,_,rfl,rfl,(show (0:Int) < 14 by decide),.inl ⟨f,_,_,v,rfl,rfl,SqL.of D,L,?_⟩⟩;obtain ⟨z,rfl⟩ :∃z,v=.str z:=by
    rcases List.mem_append.mp F with y|y
    ·obtain ⟨z,_,e⟩:=List.mem_map.mp y;exact ⟨z,e.symm⟩
    ·simp only [Y0,A0,or_false] at y;rcases y with rfl|rfl<;>exact ⟨_,rfl⟩
   exact q z _ r
  refine tn_x (t_nx ?_);refine z0o (g_name ?_);refine z0o ?_;refine ⟨_,rfl,_,_,rfl,rfl,⟨by decide,by decide⟩,_,_,rfl,rfl,(show (0:Int) < 6 by decide),?_⟩;refine g_name ?_;refine z0o ?_;obtain ⟨c,N,_⟩:=atI_of (xs:=("abcdefghijklmnopqrstuvwxyz ~" : Str).cps.toList) (j (i / 84) 28 (by decide)).1 (by rw [show ("abcdefghijklmnopqrstuvwxyz ~" : Str).cps.toList.length=28 by decide +kernel];exact (j (i / 84) 28 (by decide)).2);refine ⟨_,rfl,_,_,rfl,rfl,⟨by decide,by decide⟩,_,_,rfl,rfl,(show (0:Int) < 28 by decide),.inr (.inr ⟨_,_,c,rfl,rfl,by decide +kernel,N,?_⟩)⟩;refine g_name ?_;have u:("strict" : Str).length=6:=by decide +kernel
  have g :∀a b,(Txt.slice ("strict" : Str) a b).length<=6:=λ a b=>u ▸ Txt.slice_le _ a b;refine ⟨_,rfl,_,rfl,_,rfl,.inr (.inr ⟨_,rfl,by rw [u];decide,?_⟩)⟩;refine ⟨_,rfl,.inr (.inl ⟨_,_,rfl,rfl,F0 (Nat.add_le_add (g _ _) (B0 1)) (by decide),?_⟩)⟩;refine ⟨_,rfl,_,rfl,.inl ⟨_,_,rfl,rfl,_,rfl,.inr (.inr ⟨_,rfl,by rw [u];decide,.inr (.inl ⟨_,_,rfl,rfl,F0 (m:=100) ?_ (by decide),q _ _ r⟩)⟩)⟩⟩;have S:=g none (some (i / 14 % 6));have O:=g (some (i / 14 % 6 + 1)) none;rw [Str.length_append];show _ + 1 + _<=100;omega
theorem z6g:Gn "ValueError":=λ _=>by kernel_rfl
theorem z41:V6 "ValueError" = some (.type "ValueError"):=by kernel_rfl
theorem try_as {K:c0} {c:Value} {i:Nat} {tb:(L2.St->XK)->TS} {th:TS} {D:Ends} {σ:L2.St} {H:Hp} (h :∀E,tb E D σ H):tTryAs K c i tb th D σ H:=h _
theorem zn5 {K:c0} {c cls:Value} {i:Nat} {tb:(L2.St->XK)->TS} {th:TS} {D:Ends} {σ:L2.St} {H:Hp} (R:Hp->Prop) (exm:j20 K cls c=some true) (hn :∀H1 ea,R H1->H1 ea=none->th { nx:=λ σ2 H2=>D.nx (σ2.set i none) H2,rt:=D.rt,bk:=λ σ2 H2=>D.bk (σ2.set i none) H2,ct:=λ σ2 H2=>D.ct (σ2.set i none) H2 } (σ.set i (some (.ref ea))) (upd H1 ea (ExcO ea cls)))
  (h :∀E:L2.St->XK,(∀H1,R H1->E σ cls none H1)->tb E D σ H):tTryAs K c i tb th D σ H:=h _ λ H1 r=>⟨exm,λ ea a=>hn H1 ea r a⟩
def z4y (K:c0):Sp:=λ vs H Q _=>∃(tu:Int) (t lp:Addr) (ts:List (Str×Str)) (es:List Ev) (ps:List DD) (v:V) (ys:List V),vs=[.int tu,.ref t,v,.ref lp]/\0<=tu/\tu < 3/\TlP K H t ts es ps/\H lp=some (.lst ys)/\(ys=[.non]\/((∀y∈ys,∃p,y=.ref p/\FpAt H p ts)/\ys.length<=10))/\
 (((∃m,v=.str (z0x m))/\∀l H',Same H H'->H' l=some (.lst [])->Q (.ref l) H')\/(BadS H v/\∀l H',Same H H'->H' l=some (.lst [.bl true,.bl true,.bl false])->Q (.ref l) H'))
theorem z93 (T:TX (kx w) mg) (c0:Ca P w mg base "judged" ["tale","strictness"] 8 (z95 (kx w))) (c1:Ca P w mg base "stuck_paper" ["tale","strictness"] 10 (z51 (kx w))) (c2:Ca P w mg base "is_stuck" ["tale","strictness","paper"] 9 (z89 (kx w))) (c3:CaE P w mg base "judged" ["tale","strictness"] 5 z6k) (c4:CaE P w mg base "stuck_paper" ["tale","strictness"] 6 z44) (c5:CaE P w mg base "is_stuck" ["tale","strictness","paper"] 5 z7h):Fo P w mg base CX0 11 561 y0o ["turn","tale","word","paper"] (z4y (kx w)):=by
 refine (z3c w.params).ok sc__law_caught (λ vs H Q E h=>?_) (λ a8 A a6 s H vs Q E n h=>?_)
 ·obtain ⟨f,t,j,C,x,D,v,Z,rfl,_⟩:=h;rfl
 ·obtain ⟨f,t,j,C,x,D,v,Z,rfl,a7,a5,tp,el,O,h⟩:=h;rcases h with ⟨⟨m,rfl⟩,q⟩|⟨bad,q⟩
  ·refine ⟨_,(z02 (ps_set (i:=4) sc__law_caught.nd rfl (C1 rfl) (pe_lst pa_nil))
   (z02 (zh1 (i:=5) rfl rfl rfl (T.of (z8e _)) sc__law_caught.nd rfl rfl (λ _ _=>(z02 (ps_if (z0a opEq (pv 0) pe_int (nomark _))
   (z04 (z1a (pe_cal c0 (n.mono (by decide)) rfl (z00 (pv 1) (z00 (pv 2) pa_nil)))))
   z0b)
   (z02 (ps_if (z0a opEq (pv 0) pe_int (nomark _))
   (z04 (z1a (pe_cal c1 (n.mono (by decide)) rfl (z00 (pv 1) (z00 (pv 2) pa_nil)))))
   z0b)
   (z04 (ps_if (z0a opEq (pv 0) pe_int (nomark _))
   (z04 (z1a (pe_cal c2 (n.mono (by decide)) rfl (z00 (pv 1) (z00 (pv 2) (z00 (pv 3) pa_nil))))))
   z0b))))) (λ _=>(z02 (ps_set (i:=4) sc__law_caught.nd rfl (C1 rfl) (pe_lst (z00 (z09 (z2t (kx w)) rfl (T.no (z0g _)) X1 (z00 (pv 5) (z00 (z0m (v:=.ref 99) rfl (T.of (z2w _)) rfl) pa_nil))) (z00 (z09 (z2t (kx w)) rfl (T.no (z0g _)) X1 (z00 (pv 5) (z00 (z37 (v:=.ty "ValueError") rfl (T.no (z6g _)) z41 rfl) pa_nil))) pa_nil))))
   (z02 (ps_set (i:=6) sc__law_caught.nd rfl (C1 rfl) (z09 (z27 (kx w)) rfl (T.no (z0g _)) X1 (z00 (pv 5) (z00 (pe_tup (z00 (z0m (v:=.ref 171) rfl (T.of (z72 _)) rfl) (z00 (z0m (v:=.ref 75) rfl (T.of (zgg _)) rfl) (z00 (z0m (v:=.ref 135) rfl (T.of (zge _)) rfl) (z00 (z0m (v:=.ref 123) rfl (T.of (zd9 _)) rfl) (z00 (z0m (v:=.ref 159) rfl (T.of (zfy _)) rfl) pa_nil)))))) pa_nil))))
   (z04 (z1a (zax (K:=KX w.params) rfl (pv 4) (z00 (by exact (pe_or (pv 6) (pe_one (z09 (z27 (kx w)) rfl (T.no (z0g _)) X1 (z00 (pv 5) (z00 (pe_tup (z00 (z0m (v:=.ref 183) rfl (T.of (zk9 _)) rfl) (z00 (z0m (v:=.ref 87) rfl (T.of (zf6 _)) rfl) (z00 (z0m (v:=.ref 111) rfl (T.of (zd2 _)) rfl) (z00 (z0m (v:=.ref 147) rfl (T.of (za7 _)) rfl) pa_nil))))) pa_nil)))))) pa_nil))))))))
   (z04 (ps_ret (pv 4))))),?_⟩
   refine z0o ?_;refine ⟨w_0,λ B I=>?_⟩;refine g_name ?_;obtain ⟨r,u,g,U⟩:=newA (.lst []) I;rw [<-u];have R:=tp.same g;refine z3e (λ e a=>Same r a/\e=[some (.int f),some (.ref t),some (.str (z0x m)),some (.ref j),some (.ref B),none,none]) ?_ (λ F=>?_);rotate_left
   ·refine try_as λ E=>?_;refine z3e (λ e a=>Same r a/\e=[some (.int f),some (.ref t),some (.str (z0x m)),some (.ref j),some (.ref B),none,none]) ?_ (λ Y=>?_);rotate_left
    ·refine ⟨_,rfl,rfl,_,rfl,ite2 (λ _=>?_) λ _=>Y _ _ ⟨Same.refl _,rfl⟩⟩;exact ⟨_,rfl,_,rfl,t,C,x,D,m,rfl,R,λ v a b _=>Y _ _ ⟨b,rfl⟩⟩
    rintro e a ⟨b,rfl⟩;refine z3e (λ e a=>Same r a/\e=[some (.int f),some (.ref t),some (.str (z0x m)),some (.ref j),some (.ref B),none,none]) ?_ (λ a2=>?_);rotate_left
    ·refine ⟨_,rfl,rfl,_,rfl,ite2 (λ _=>?_) λ _=>a2 _ _ ⟨b,rfl⟩⟩;exact ⟨_,rfl,_,rfl,t,C,x,D,m,rfl,R.same b,λ v J d=>a2 _ _ ⟨b.trans d,rfl⟩⟩
    rintro σ2 J ⟨d,rfl⟩;refine ⟨_,rfl,rfl,_,rfl,ite2 (λ _=>?_) λ _=>F _ _ ⟨d,rfl⟩⟩;exact ⟨_,rfl,_,rfl,_,rfl,t,j,C,x,D,m,Z,rfl,R.same d,(g.trans d) _ _ el,O.imp id (λ z=>⟨λ y O=>(z.1 y O).elim λ p w=>⟨p,w.1,w.2.same (g.trans d)⟩,z.2⟩),λ v H3 k=>F _ _ ⟨d.trans k,rfl⟩⟩
   rintro e a ⟨b,rfl⟩;exact ⟨_,rfl,q _ _ (g.trans b) (b _ _ U)⟩
  ·have c0:=c3;have c1:=c4;have c2:=c5;refine ⟨_,(z02 (ps_set (i:=4) sc__law_caught.nd rfl (C1 rfl) (pe_lst pa_nil))
   (z02 (zh1 (i:=5) rfl rfl rfl (T.of (z8e _)) sc__law_caught.nd rfl rfl (λ _ _=>(z02 (ps_if (z0a opEq (pv 0) pe_int (nomark _))
   (z04 (z1a (zfj passX c0 (n.mono (by decide)) rfl (z00 (pv 1) (z00 (pv 2) pa_nil)))))
   z0b)
   (z02 (ps_if (z0a opEq (pv 0) pe_int (nomark _))
   (z04 (z1a (zfj passX c1 (n.mono (by decide)) rfl (z00 (pv 1) (z00 (pv 2) pa_nil)))))
   z0b)
   (z04 (ps_if (z0a opEq (pv 0) pe_int (nomark _))
   (z04 (z1a (zfj passX c2 (n.mono (by decide)) rfl (z00 (pv 1) (z00 (pv 2) (z00 (pv 3) pa_nil))))))
   z0b))))) (λ _=>(z02 (ps_set (i:=4) sc__law_caught.nd rfl (C1 rfl) (pe_lst (z00 (z09 (z2t (kx w)) rfl (T.no (z0g _)) X1 (z00 (pv 5) (z00 (z0m (v:=.ref 99) rfl (T.of (z2w _)) rfl) pa_nil))) (z00 (z09 (z2t (kx w)) rfl (T.no (z0g _)) X1 (z00 (pv 5) (z00 (z37 (v:=.ty "ValueError") rfl (T.no (z6g _)) z41 rfl) pa_nil))) pa_nil))))
   (z02 (ps_set (i:=6) sc__law_caught.nd rfl (C1 rfl) (z09 (z27 (kx w)) rfl (T.no (z0g _)) X1 (z00 (pv 5) (z00 (pe_tup (z00 (z0m (v:=.ref 171) rfl (T.of (z72 _)) rfl) (z00 (z0m (v:=.ref 75) rfl (T.of (zgg _)) rfl) (z00 (z0m (v:=.ref 135) rfl (T.of (zge _)) rfl) (z00 (z0m (v:=.ref 123) rfl (T.of (zd9 _)) rfl) (z00 (z0m (v:=.ref 159) rfl (T.of (zfy _)) rfl) pa_nil)))))) pa_nil))))
   (z04 (z1a (zax (K:=KX w.params) rfl (pv 4) (z00 (by exact (pe_or (pv 6) (pe_one (z09 (z27 (kx w)) rfl (T.no (z0g _)) X1 (z00 (pv 5) (z00 (pe_tup (z00 (z0m (v:=.ref 183) rfl (T.of (zk9 _)) rfl) (z00 (z0m (v:=.ref 87) rfl (T.of (zf6 _)) rfl) (z00 (z0m (v:=.ref 111) rfl (T.of (zd2 _)) rfl) (z00 (z0m (v:=.ref 147) rfl (T.of (za7 _)) rfl) pa_nil))))) pa_nil)))))) pa_nil))))))))
   (z04 (ps_ret (pv 4))))),?_⟩
   have a4:j20 (kx w) (.ref 99) (.ref 62)=some true:=by kernel_rfl
   refine z0o ?_;refine ⟨w_0,λ B I=>?_⟩;refine g_name ?_;obtain ⟨r,u,g,U⟩:=newA (.lst []) I;rw [<-u];refine z3e (λ e a=>∃lk x4,Same H a/\a lk=some (.lst [.bl true,.bl true,.bl false])/\e=[some (.int f),some (.ref t),some v,some (.ref j),some (.ref lk),none,x4]) ?_ (λ F=>?_);rotate_left
   ·refine zn5 (cls:=.ref 99) (λ a=>Same r a) a4 (λ Ha c sa a3=>?_) λ E N=>?_
    ·have b:=sa.trans (Same.upd (o:=ExcO c (.ref 99)) a3);have l:upd Ha c (ExcO c (.ref 99)) c=some (ExcO c (.ref 99)):=z01;generalize upd Ha c (ExcO c (.ref 99))=a at b l⊢;refine ⟨_,rfl,c,99,.ref 99,.ref 99,true,rfl,l,z1e _,rfl,λ _ h=>h,by kernel_rfl,?_⟩;refine ⟨_,rfl,c,99,.ty "ValueError",.type "ValueError",true,rfl,l,z1e _,rfl,λ _ h=>h,by kernel_rfl,w_2,λ G a0=>?_⟩;obtain ⟨J,u,d,a1⟩:=newA (.lst [.bl true,.bl true]) a0;rw [<-u];refine ⟨_,rfl,w_5,λ X W=>?_⟩;refine ⟨c,99,X,[171,75,135,123,159],false,rfl,(Same.upd W) _ _ (d _ _ l),z1e _,z01,by kernel_rfl,?_⟩;have k:=Same.upd (o:=.tup [.ref 171,.ref 75,.ref 135,.ref 123,.ref 159]) W;generalize upd J X (.tup [.ref 171,.ref 75,.ref 135,.ref 123,.ref 159])=H3 at k⊢;refine ⟨_,rfl,.inl ⟨rfl,_,SqL.of (k _ _ a1)⟩,?_⟩;refine ⟨_,rfl,false,rfl,iteF ⟨_,rfl,w_4,λ V S=>?_⟩⟩;refine ⟨c,99,V,[183,87,111,147],false,rfl,(Same.upd S) _ _ (k _ _ (d _ _ l)),z1e _,z01,by kernel_rfl,?_⟩;have L:=Same.upd (o:=.tup [.ref 183,.ref 87,.ref 111,.ref 147]) S;generalize upd H3 V (.tup [.ref 183,.ref 87,.ref 111,.ref 147])=H4 at L⊢;refine ⟨G,_,_,rfl,rfl,L _ _ (k _ _ a1),(show (2:Nat) < sizeLine by decide),F _ _ ⟨G,_,?_,z01,rfl⟩⟩;have f2:H G=none:=(g.trans b).free a0;exact Same.keep ((((g.trans b).trans d).trans k).trans L) f2
    ·have M:=bad.same g;rcases (show f=0\/f=1\/f=2 by omega) with rfl|rfl|rfl
     ·exact ⟨_,rfl,rfl,_,rfl,iteP (by decide) ⟨_,rfl,_,rfl,.ref t,v,rfl,M,N⟩⟩
     ·refine ⟨_,rfl,rfl,_,rfl,iteN (by decide) ?_⟩;exact ⟨_,rfl,rfl,_,rfl,iteP (by decide) ⟨_,rfl,_,rfl,.ref t,v,rfl,M,N⟩⟩
     ·refine ⟨_,rfl,rfl,_,rfl,iteN (by decide) ?_⟩;refine ⟨_,rfl,rfl,_,rfl,iteN (by decide) ?_⟩;exact ⟨_,rfl,rfl,_,rfl,iteP (by decide) ⟨_,rfl,_,rfl,_,rfl,.ref t,v,.ref j,rfl,M,N⟩⟩
   rintro e a ⟨lk,x4,b,l,rfl⟩;exact ⟨_,rfl,q _ _ b l⟩
theorem zds {X:Cx} {pos:Pos} {tg iter:Expr} {body:List Stmt} {tl:TE} {g:TG} {tb:TS} (hp:PassesOwn (j1 X.prog X.w) X.A X.env X.xe) (hc:X.calm=true) (hi:QE X iter tl) (hg:PG X tg g) (hb:QSs X body tb)
  (hs :∀x,L4 iter X.env x=d3 x:=by intro _;rfl):QS X (.For tg iter body [] pos) (tFor (iList X.K tl) g tb):=⟨ps_for hp hc (z22 hi.run) hg hb.run hs⟩
def z3g (K:c0):Sp:=λ vs H Q _=>∃(a:Addr) (ns:List Int) (k:Nat),vs=[.ref a,.int (k:Nat)]/\SqL K H a (ns.map V.int)/\∀i,Q (.int i) H
theorem z6e (T:TX (kx w) mg):Fo P w mg base CX0 1 456 y07 ["script","k"] (z3g (kx w)):=by
 refine (z15 w.params).ok z43 (λ d H Q E h=>?_) (λ g A i s H d Q E f h=>?_)
 ·obtain ⟨a,b,k,rfl,_⟩:=h;rfl
 ·obtain ⟨a,b,k,rfl,c,q⟩:=h;refine ⟨_,(z02 (ps_if (z0a op_lt (pv 1) (z09 z2m rfl (T.no (n_len _)) L5 (z00 (pv 0) pa_nil)) (nomark _))
   (z04 (ps_ret (pe_ix ix_seq (pv 0) (pv 1) (λ _ _=>rfl))))
   z0b)
   (z04 (ps_ret pe_int))),?_⟩
  refine ⟨_,rfl,_,rfl,.inl ⟨a,_,rfl,.inl c,_,_,rfl,rfl,_,rfl,?_⟩⟩;refine ite2 (λ h=>?_) λ _=>q 0;have h:=of_decide_eq_true h;rw [G0] at h;have e:k < b.length:=by omega
  exact ⟨_,rfl,_,rfl,.inl ⟨a,_,k,.int b[k],rfl,rfl,c,z0c (by rw [W0,N0 e];rfl),q _⟩⟩
theorem zlc (ns:List Int) (a b:Option Int) :∃ms:List Int,cutV (ns.map V.int) a b=ms.map V.int:=by refine ⟨(ns.drop (HT.sIx (ns.map V.int).length 0 a)).take (HT.sIx (ns.map V.int).length (ns.map V.int).length b - HT.sIx (ns.map V.int).length 0 a),?_⟩;unfold cutV;rw [List.map_take,List.map_drop]
theorem zdu {z:Str} (h:z∈(["strict","hands","bare"]:List Str)) :∃m,z=z0x m:=by
 simp only [Y0,A0,or_false] at h;rcases h with rfl|rfl|rfl
 ·exact ⟨0,rfl⟩
 ·exact ⟨1,rfl⟩
 ·exact ⟨2,rfl⟩
theorem ne_bls {K:c0} {H:Hp} {a b:Addr} {bs:List Bool} {R:VK} (ea:H a=some (.lst (bs.map V.bl))) (eb:H b=some (.lst (bs.map V.bl))) (q:R (.bl false) H):rNeC K (.ref a) (.ref b) H R:=by
 have c :∀bs:List Bool,IsPds K H (bs.map P3) (bs.map V.bl):=λ bs=>by
  induction bs with
  | nil=>exact (rfl:([]:List V)=[])
  | cons x r ih=>exact ⟨_,_,rfl,rfl,ih⟩
 have d :∀bs:List Bool,y6 (bs.map P3)=true:=λ bs=>by
  induction bs with
  | nil=>rfl
  | cons x r ih=>exact ih
 have f :∀bs:List Bool,Q1 (bs.map P3)=0:=λ bs=>by
  induction bs with
  | nil=>rfl
  | cons x r ih=>show max 0 (Q1 (r.map P3))=0;rw [ih];rfl
 have g :∀bs:List Bool,P9 (bs.map P3) (bs.map P3)=true:=λ bs=>by
  induction bs with
  | nil=>rfl
  | cons x r ih=>show ((P3 x).eqv (P3 x) && P9 (r.map P3) (r.map P3))=true;rw [ih];cases x<;>rfl
 refine ⟨.list (bs.map P3),.list (bs.map P3),⟨a,_,rfl,SqL.of ea,c bs⟩,⟨b,_,rfl,SqL.of eb,c bs⟩,d bs,d bs,by show Q1 _ + 1<=60;rw [f];decide,?_⟩;have e:(PyData.list (bs.map P3)).eqv (.list (bs.map P3))=true:=g bs;rw [e];exact q
def sp_law (K:c0):Sp:=λ vs H Q _=>∃(a:Addr) (ns:List Int),vs=[.ref a]/\SqL K H a (ns.map V.int)/\ns.length<=63/\∀H',Q (.bl true) H'
theorem ok_law (T:TX (kx w) mg) (c0:Ca P w mg base "_law_tale" ["script","most"] 4 (z7m (kx w))) (c1:Ca P w mg base "_law_cell_at" ["script","k"] 1 (z3g (kx w))) (c2:Ca P w mg base "_law_word" ["cell"] 1 (z75 (kx w))) (c3:Ca P w mg base "_law_first" ["things"] 1 (z3k (kx w))) (c4:Ca P w mg base "_law_caught" ["turn","tale","word","paper"] 11 (z4y (kx w))):Fo P w mg base CX0 12 568 fd_law ["script"] (sp_law (kx w)):=by
 refine (F_law w.params).ok sc_law (λ vs H Q E h=>?_) (λ f8 A f7 s H vs Q E x h=>?_)
 ·obtain ⟨a,ns,rfl,_⟩:=h;rfl
 ·obtain ⟨d,ns,rfl,sq,nl,q⟩:=h;refine q_of (z0f (QS.mk (ps_set (i:=1) sc_law.nd rfl (C1 rfl) (pe_cal c0 (x.mono (by decide)) rfl (z00 (pv 0) (z00 pe_int pa_nil)))))
   (z0f (zds S1 rfl (qe_lst (z08 (QE.mk (pe_cal c1 (x.mono (by decide)) rfl (z00 (pv 0) (z00 pe_int pa_nil)))) (z08 (QE.mk (pe_cal c1 (x.mono (by decide)) rfl (z00 (pv 0) (z00 pe_int pa_nil)))) (z08 (QE.mk (z09 (zcl rfl) rfl (T.no (n_sum _)) boot_sum (z00 (z1b slSeq (pv 0) z2e (z1m pe_int)) pa_nil))) qa_nil)))) (z0j (i:=2) sc_law.nd rfl (C1 rfl))
   (z0f (QS.mk (ps_set (i:=3) sc_law.nd rfl (C1 rfl) (pe_cal c2 (x.mono (by decide)) rfl (z00 (pv 2) pa_nil))))
   (z1g (qs_for S1 rfl (z6a rfl (T.no (zck _)) (z00 pe_int pa_nil)) (z0j (i:=4) sc_law.nd rfl (C1 rfl))
   (z1g (zds S1 rfl (qe_lst (z08 (QE.mk (pe_lst pa_nil)) (z08 (qe_lst (z08 (QE.mk pe_non) qa_nil)) (z08 (QE.mk (pe_lst (z00 (pe_tup (z00 (pe_tup pa_nil) (z00 (pe_cal c3 (x.mono (by decide)) rfl (z00 (pe_ix ix_seq (pv 1) pe_int (λ _ _=>rfl)) pa_nil)) pa_nil))) pa_nil))) qa_nil)))) (z0j (i:=5) sc_law.nd rfl (C1 rfl))
   (z0f (qs_set (i:=6) sc_law.nd rfl (C1 rfl) (qe_lst (z08 (QE.mk pe_bl) (z08 (QE.mk pe_bl) (z08 (QE.mk pe_bl) qa_nil)))))
   (z0f (QS.mk (ps_if (z0a z28 (pv 3) (pe_lst (z00 pe_str (z00 pe_str (z00 pe_str pa_nil)))) (by with_unfolding_all rfl))
   (z04 (ps_set (i:=6) sc_law.nd rfl (C1 rfl) (pe_lst pa_nil)))
   z0b))
   (z1g (QS.mk (ps_if (z0a (op_neC x) (pe_cal c4 (x.mono (by decide)) rfl (z00 (pv 4) (z00 (pv 1) (z00 (pv 3) (z00 (pv 5) pa_nil))))) (pv 6) (nomark _))
   (z04 (ps_ret pe_bl))
   z0b)))))))))))
   (z0f (qs_for S1 rfl (z6a rfl (T.no (zck _)) (z00 pe_int pa_nil)) (z0j (i:=4) sc_law.nd rfl (C1 rfl))
   (z0f (zds S1 rfl (qe_lst (z08 (QE.mk pe_non) (z08 (QE.mk pe_int) (z08 (QE.mk pe_bl) (z08 (QE.mk pe_bl) (z08 (qe_lst (z08 (QE.mk pe_str) qa_nil)) (z08 (qe_tup (z08 (QE.mk pe_str) qa_nil)) (z08 (QE.mk z8z) (z08 (QE.mk (pe_tup pa_nil)) (z08 (QE.mk (pe_lst pa_nil)) (z08 (QE.mk pe_int) qa_nil))))))))))) (z0j (i:=7) sc_law.nd rfl (C1 rfl))
   (z1g (QS.mk (ps_if (z0a (op_neC x) (pe_cal c4 (x.mono (by decide)) rfl (z00 (pv 4) (z00 (pv 1) (z00 (pv 7) (z00 (pe_lst (z00 pe_non pa_nil)) pa_nil))))) (pe_lst (z00 pe_bl (z00 pe_bl (z00 pe_bl pa_nil)))) (nomark _))
   (z04 (ps_ret pe_bl))
   z0b))))
   (z1g (zds S1 rfl (qe_lst (z08 (QE.mk pe_str) (z08 (QE.mk pe_str) (z08 (QE.mk pe_str) qa_nil)))) (z0j (i:=8) sc_law.nd rfl (C1 rfl))
   (z1g (QS.mk (ps_if (z0a (op_neC x) (pe_cal c4 (x.mono (by decide)) rfl (z00 (pv 4) (z00 (pv 1) (z00 (pv 8) (z00 (pe_lst pa_nil) pa_nil))))) (pe_lst pa_nil) (nomark _))
   (z04 (ps_ret pe_bl))
   z0b)))))))
   (z1g (QS.mk (ps_ret pe_bl)))))) ?_
  refine ⟨_,rfl,d,ns,rfl,sq,nl,λ t pt te ys es M H1 s1 et d1 th ok f9 al J wf bg=>?_⟩;refine g_name (t_nx ?_);have eg :∀e∈es,EvGd (kx w) H1 M e:=λ e he=>by obtain ⟨i,hi⟩:=List.mem_iff_getElem?.mp he;obtain ⟨y,_,z⟩:=z34 al hi;exact z.n
  obtain ⟨ps,gd⟩:=rc_gd (i:=0) (rs:=[]) (ps:=[]) eg .nil;have tp:TlP (kx w) H1 t M es ps:=⟨⟨pt,te,ys,et,th,d1,z03 (λ _ _ z=>z.a) al⟩,ok.thw,by omega,wf,gd,bg⟩
  have b0:=s1.seq sq;clear eg gd al;refine z3e (λ g b=>Same H1 b/\∃x2 x3 x4 x5 x6 x7 x8,g=[some (.ref d),some (.ref t),x2,x3,x4,x5,x6,x7,x8]) ?_ (λ tl=>?_);rotate_left
  ·refine ⟨_,rfl,d,ns,0,rfl,b0,λ i0=>⟨_,rfl,d,ns,1,rfl,b0,λ i1=>⟨_,rfl,_,rfl,.inl ⟨d,_,rfl,b0,λ p2 f4=>?_⟩⟩⟩⟩;obtain ⟨D,em⟩:=zlc ns none (some 63);rw [em];have s2:=Same.upd (o:=.lst (D.map V.int)) f4;refine ⟨p2,D,rfl,SqL.of z01,w_3,λ l3 d5=>?_⟩;have Z:=s2.trans (Same.upd (o:=.lst [.int i0,.int i1,.int D.sum]) d5);have f:upd (upd H1 p2 (.lst (D.map V.int))) l3 (.lst [.int i0,.int i1,.int D.sum]) l3=some (.lst ([i0,i1,D.sum].map V.int)):=z01;generalize upd (upd H1 p2 (.lst (D.map V.int))) l3 (.lst [.int i0,.int i1,.int D.sum])=H3 at Z f⊢;refine ⟨l3,rfl,⟨_,SqL.of f⟩,?_⟩;refine z2o (K:=KX w.params) (a:=l3) (xs:=[i0,i1,D.sum].map V.int) (λ _ σ b=>Same H3 b/\∃x2 x3 x4 x5 x6 x7 x8,σ=[some (.ref d),some (.ref t),x2,x3,x4,x5,x6,x7,x8]) ⟨Same.refl _,_,_,_,_,_,_,_,rfl⟩ (λ _ σ b _ h=>SqL.of (h.1 _ _ f)) ?_ ?_
   ·rintro i y σ O c ⟨s4,x2,x3,x4,x5,x6,x7,x8,rfl⟩;rw [W0] at c;obtain ⟨n,_,rfl⟩:=Option.map_eq_some_iff.mp c;refine g_name ?_;refine z0o ?_;refine ⟨_,rfl,n,rfl,λ z H5 s5=>?_⟩;refine g_name ?_;have c6:=Z.trans (s4.trans s5);clear c b0;refine ⟨3,rfl,by decide,by decide,?_⟩;refine z69 (lo:=0) (n:=3) (λ _ σ b=>Same H5 b/\∃x4 x5 x6 x7 x8,σ=[some (.ref d),some (.ref t),some (.int n),some (.str z),x4,x5,x6,x7,x8]) ⟨Same.refl _,_,_,_,_,_,rfl⟩ ?_ ?_
    ·rintro j σ H6 hj ⟨s6,x4,x5,x6,x7,x8,rfl⟩;have d4:=c6.trans s6;refine g_name ?_;refine ⟨w_0,λ a0 h0=>?_⟩;obtain ⟨Ha,v0,q0,e0⟩:=new1 (.lst []) h0;rw [<-v0];refine ⟨w_1,λ a1 h1=>?_⟩;obtain ⟨Hb,v1,W,G⟩:=new1 (.lst [.non]) h1;rw [<-v1];refine ⟨w_0,λ a2 h2=>?_⟩;obtain ⟨H7,v2,R,N⟩:=new1 (.tup []) h2;rw [<-v2];have c7:=(q0.trans W).trans R;have e0:=(W.trans R) _ _ e0;have G:=R _ _ G;have b7:=d4.trans c7;refine ⟨_,rfl,.inr (.inl ⟨t,_,0,.ref pt,rfl,rfl,SqT.of (b7 _ _ et),z0c (j:=0) rfl,pt,M,rfl,th.tt (.of (K:=KX w.params) b7),ok.n6,λ p8 H8 s8 zr=>⟨w_2,λ a3 h3=>?_⟩⟩)⟩;obtain ⟨Hc,v3,q3,f⟩:=new1 (.tup [.ref a2,.ref p8]) h3;rw [<-v3];refine ⟨w_1,λ a4 h4=>?_⟩;obtain ⟨Hd,v4,U,I⟩:=new1 (.lst [.ref a3]) h4;rw [<-v4];refine ⟨w_3,λ a5 h5=>?_⟩;obtain ⟨H9,v5,B,C⟩:=new1 (.lst [.ref a0,.ref a1,.ref a4]) h5;rw [<-v5];have b8:=(q3.trans U).trans B;have f:=(U.trans B) _ _ f;have I:=B _ _ I;have a9:=s8.trans b8;have d7:=b7.trans a9;have fp:FpAt H9 a3 M:=⟨a2,p8,f,a9 _ _ N,zr.same b8⟩
     have f6 :∀y∈[V.ref a0,.ref a1,.ref a4],∃F X,y=.ref F/\H9 F=some (.lst X)/\(X=[.non]\/((∀y∈X,∃p,y=.ref p/\FpAt H9 p M)/\X.length<=10)):=λ y c=>by
      simp only [Y0,A0,or_false] at c;rcases c with rfl|rfl|rfl
      ·exact ⟨a0,[],rfl,a9 _ _ e0,.inr ⟨λ _ h=>absurd h A0,by decide⟩⟩
      ·exact ⟨a1,_,rfl,a9 _ _ G,.inl rfl⟩
      ·exact ⟨a4,_,rfl,I,.inr ⟨λ y c=>⟨a3,List.mem_singleton.mp c,fp⟩,(show (1:Nat)<=10 by decide)⟩⟩
     have f2:Same H6 H9:=c7.trans a9;clear e0 G N f I q3 U B q0 W R c7 b8 zr fp v0 v1 v2 v3 v4 v5;refine ⟨a5,rfl,⟨_,SqL.of C⟩,?_⟩;refine z2o (K:=KX w.params) (a:=a5) (xs:=[.ref a0,.ref a1,.ref a4]) (λ _ σ b=>Same H9 b/\∃x5 x6 x7 x8,σ=[some (.ref d),some (.ref t),some (.int n),some (.str z),some (.int (0 + (j:Int))),x5,x6,x7,x8]) ⟨Same.refl _,_,_,_,_,rfl⟩ (λ _ σ b _ h=>SqL.of (h.1 _ _ C)) ?_ ?_
     ·rintro k y σ b9 c ⟨s10,x5,x6,x7,x8,rfl⟩;obtain ⟨F,X,rfl,f1,f5⟩:=f6 y (Q0 c);refine g_name ?_;refine z0o ?_;refine ⟨w_3,λ a6 h6=>?_⟩;refine g_name ?_;have S:=Same.upd (o:=.lst [.bl true,.bl true,.bl false]) h6;have e6:upd b9 a6 (.lst [.bl true,.bl true,.bl false]) a6=some (.lst ([true,true,false].map V.bl)):=z01;generalize upd b9 a6 (.lst [.bl true,.bl true,.bl false])=H11 at S e6⊢;have d6:=s10.trans S;refine z3e (λ g b=>∃ld,Same H11 b/\b ld=some (.lst ((if z∈(["strict","hands","bare"]:List Str) then [] else [true,true,false]).map V.bl))/\g=[some (.ref d),some (.ref t),some (.int n),some (.str z),some (.int (0 + (j:Int))),some (.ref F),some (.ref ld),x7,x8]) ?_ (λ c9=>?_);rotate_left
      ·refine ⟨_,rfl,w_3,λ d0 e9=>⟨d0,_,rfl,.inl (SqL.of z01),rfl,rfl,_,rfl,?_⟩⟩;have r:=Same.upd (o:=.lst [.str "strict",.str "hands",.str "bare"]) e9;generalize upd H11 d0 (.lst [.str "strict",.str "hands",.str "bare"])=d9 at r⊢;have iv:inV (.str z) [.str "strict",.str "hands",.str "bare"]=decide (z∈(["strict","hands","bare"]:List Str)):=zfa z ["strict","hands","bare"];by_cases u:z∈(["strict","hands","bare"]:List Str)
       ·refine iteP (by show inV _ _=true;rw [iv];exact decide_eq_true u) ?_;refine ⟨w_0,λ f3 d2=>c9 _ _ ⟨f3,r.trans (Same.upd d2),?_,rfl⟩⟩;rw [if_pos u];exact z01
       ·refine iteN (by show ¬ inV _ _=true;rw [iv,decide_eq_false u];decide) (c9 _ _ ⟨a6,r,?_,rfl⟩);rw [if_neg u];exact r _ _ e6
      rintro g d9 ⟨ld,s12,eld,rfl⟩;have a7:=d6.trans s12;refine ⟨_,rfl,_,rfl,_,rfl,_,rfl,0 + (j:Int),t,F,M,es,ps,.str z,X,rfl,by omega,by omega,tp.same (d7.trans a7),a7 _ _ f1,f5.imp id (λ h=>⟨λ y c=>(h.1 y c).elim λ p w=>⟨p,w.1,w.2.same a7⟩,h.2⟩),?_⟩;by_cases u:z∈(["strict","hands","bare"]:List Str)
      ·obtain ⟨m,Y⟩:=zdu u;refine .inl ⟨⟨m,by rw [Y]⟩,λ l d8 L J=>⟨_,rfl,ne_bls (bs:=[]) J (by have:=L _ _ eld;rw [if_pos u] at this;exact this) ⟨false,rfl,iteF ⟨a7.trans L,_,_,_,_,rfl⟩⟩⟩⟩
      ·refine .inr ⟨⟨"str",rfl,λ y e=>by cases e;exact u⟩,λ l d8 L J=>⟨_,rfl,ne_bls (bs:=[true,true,false]) J (by have:=L _ _ eld;rw [if_neg u] at this;exact this) ⟨false,rfl,iteF ⟨a7.trans L,_,_,_,_,rfl⟩⟩⟩⟩
     ·rintro σ b9 ⟨s10,x5,x6,x7,x8,rfl⟩;exact ⟨s6.trans (f2.trans s10),_,_,_,_,_,rfl⟩
    ·rintro σ H6 ⟨s6,x4,x5,x6,x7,x8,rfl⟩;exact ⟨s4.trans (s5.trans s6),_,_,_,_,_,_,_,rfl⟩
   ·rintro σ O ⟨s4,x2,x3,x4,x5,x6,x7,x8,rfl⟩;exact tl _ _ ⟨Z.trans s4,_,_,_,_,_,_,_,rfl⟩
  rintro g H2 ⟨s2,x2,x3,x4,x5,x6,x7,x8,rfl⟩;refine z3e (λ g b=>Same H1 b/\∃x2 x3 x4 x5 x6 x7 x8,g=[some (.ref d),some (.ref t),x2,x3,x4,x5,x6,x7,x8]) (λ g b _=>q _) (λ tl=>?_);refine ⟨3,rfl,by decide,by decide,?_⟩;refine z69 (lo:=0) (n:=3) (λ _ σ b=>Same H2 b/\∃x2 x3 x4 x5 x6 x7 x8,σ=[some (.ref d),some (.ref t),x2,x3,x4,x5,x6,x7,x8]) ⟨Same.refl _,_,_,_,_,_,_,_,rfl⟩ ?_ (λ σ H3 h=>tl _ _ ⟨s2.trans h.1,h.2⟩);rintro j σ H3 hj ⟨Z,x2,x3,x4,x5,x6,x7,x8,rfl⟩;have L:=s2.trans Z;refine g_name ?_;refine z3e (λ g b=>Same H3 b/\∃x7,g=[some (.ref d),some (.ref t),x2,x3,some (.int (0 + (j:Int))),x5,x6,x7,x8]) ?_ (λ d3=>?_);rotate_left
  ·refine ⟨w_1,λ b1 h1=>?_⟩;obtain ⟨Ha,v1,W,G⟩:=new1 (.lst [.str "strict"]) h1;rw [<-v1];refine ⟨w_1,λ b2 h2=>?_⟩;obtain ⟨Hb,v2,R,N⟩:=new1 (.tup [.str "strict"]) h2;rw [<-v2];intro b3 h3;obtain ⟨Hc,v3,q3,f⟩:=new1 (.dK []) h3;rw [<-v3];refine ⟨w_0,λ b4 h4=>?_⟩;obtain ⟨Hd,v4,U,I⟩:=new1 (.tup []) h4;rw [<-v4];refine ⟨w_0,λ b5 h5=>?_⟩;obtain ⟨He,v5,B,C⟩:=new1 (.lst []) h5;rw [<-v5];refine ⟨w_10,λ b6 h6=>?_⟩;obtain ⟨O,v6,S,e6⟩:=new1 (.lst [.non,.int 0,.bl true,.bl false,.ref b1,.ref b2,.ref b3,.ref b4,.ref b5,.int 1]) h6;rw [<-v6];have r5:=B.trans S;have r4:=U.trans r5;have r3:=q3.trans r4;have r2:=R.trans r3;have G:=r2 _ _ G;have N:=r3 _ _ N;have f:=r4 _ _ f;have I:=r5 _ _ I;have C:=S _ _ C;have c8:=W.trans r2;have e8 :∀v∈[V.non,.int 0,.bl true,.bl false,.ref b1,.ref b2,.ref b3,.ref b4,.ref b5,.int 1],BadS O v:=λ v Y=>by
    simp only [Y0,A0,or_false] at Y;rcases Y with rfl|rfl|rfl|rfl|rfl|rfl|rfl|rfl|rfl|rfl
    ·exact ⟨"NoneType",rfl,λ z e=>by cases e⟩
    ·exact ⟨"int",rfl,λ z e=>by cases e⟩
    ·exact ⟨"bool",rfl,λ z e=>by cases e⟩
    ·exact ⟨"bool",rfl,λ z e=>by cases e⟩
    ·exact ⟨"list",.inl ⟨⟨_,G⟩,rfl⟩,λ z e=>by cases e⟩
    ·exact ⟨"tuple",.inr (.inl ⟨⟨_,N⟩,rfl⟩),λ z e=>by cases e⟩
    ·exact ⟨"dict",.inr (.inr ⟨⟨_,f⟩,rfl⟩),λ z e=>by cases e⟩
    ·exact ⟨"tuple",.inr (.inl ⟨⟨_,I⟩,rfl⟩),λ z e=>by cases e⟩
    ·exact ⟨"list",.inl ⟨⟨_,C⟩,rfl⟩,λ z e=>by cases e⟩
    ·exact ⟨"int",rfl,λ z e=>by cases e⟩
   clear G N f I C W R q3 U B S r2 r3 r4 r5 v1 v2 v3 v4 v5 v6;refine ⟨b6,rfl,⟨_,SqL.of e6⟩,?_⟩;refine z2o (K:=KX w.params) (a:=b6) (xs:=[V.non,.int 0,.bl true,.bl false,.ref b1,.ref b2,.ref b3,.ref b4,.ref b5,.int 1]) (λ _ σ b=>Same O b/\∃x7,σ=[some (.ref d),some (.ref t),x2,x3,some (.int (0 + (j:Int))),x5,x6,x7,x8]) ⟨Same.refl _,_,rfl⟩ (λ _ σ b _ h=>SqL.of (h.1 _ _ e6)) ?_ (λ σ H5 h=>d3 _ _ ⟨c8.trans h.1,h.2⟩);rintro k v σ H6 c ⟨s6,x7,rfl⟩;have bv:=e8 v (Q0 c);refine g_name ?_;refine ⟨_,rfl,_,rfl,_,rfl,w_1,λ F c5=>?_⟩;obtain ⟨H7,v_,r,e7⟩:=newA (.lst [.non]) c5;rw [<-v_];refine ⟨0 + (j:Int),t,F,M,es,ps,v,[.non],rfl,by omega,by omega,tp.same (L.trans (c8.trans (s6.trans r))),e7,.inl rfl,.inr ⟨bv.same (s6.trans r),λ l H8 s8 J=>⟨w_3,λ l9 a8=>?_⟩⟩⟩;exact ne_bls (bs:=[true,true,false]) ((Same.upd a8) _ _ J) z01 ⟨false,rfl,iteF ⟨s6.trans (r.trans (s8.trans (Same.upd a8))),_,rfl⟩⟩
  rintro g O ⟨s4,x7,rfl⟩;refine ⟨w_3,λ l5 f0=>?_⟩;have B:=Same.upd (o:=.lst [.str "strict",.str "hands",.str "bare"]) f0;have C:upd O l5 (.lst [.str "strict",.str "hands",.str "bare"]) l5=some (.lst ((["strict","hands","bare"]:List Str).map V.str)):=z01;generalize upd O l5 (.lst [.str "strict",.str "hands",.str "bare"])=H5 at B C⊢;have c6:=L.trans (s4.trans B);refine ⟨l5,rfl,⟨_,SqL.of C⟩,?_⟩;refine z2o (K:=KX w.params) (a:=l5) (xs:=(["strict","hands","bare"]:List Str).map V.str) (λ _ σ b=>Same H5 b/\∃x8,σ=[some (.ref d),some (.ref t),x2,x3,some (.int (0 + (j:Int))),x5,x6,x7,x8]) ⟨Same.refl _,_,rfl⟩ (λ _ σ b _ h=>SqL.of (h.1 _ _ C)) ?_ ?_
  ·rintro k y σ H6 c ⟨s6,x8,rfl⟩;obtain ⟨z,u,rfl⟩:=List.mem_map.mp (Q0 c);obtain ⟨m,Y⟩:=zdu u;refine g_name ?_;refine ⟨_,rfl,_,rfl,_,rfl,w_0,λ F c5=>?_⟩;obtain ⟨H7,v_,r,e7⟩:=newA (.lst []) c5;rw [<-v_];refine ⟨0 + (j:Int),t,F,M,es,ps,.str z,[],rfl,by omega,by omega,tp.same (c6.trans (s6.trans r)),e7,.inr ⟨λ _ h=>absurd h A0,by decide⟩,.inl ⟨⟨m,by rw [Y]⟩,λ l H8 s8 J=>⟨w_0,λ l9 a8=>?_⟩⟩⟩;exact ne_bls (bs:=[]) ((Same.upd a8) _ _ J) z01 ⟨false,rfl,iteF ⟨s6.trans (r.trans (s8.trans (Same.upd a8))),_,rfl⟩⟩
  ·rintro σ H6 ⟨s6,x8,rfl⟩;exact ⟨Z.trans (s4.trans (B.trans s6)),_,_,_,_,_,_,_,rfl⟩
end
theorem all_law {P:Program} {w:V0} {mg:Str->Option Value} {base:Heap} (T:TX (kx w) mg):Fo P w mg base CX0 12 568 fd_law ["script"] (sp_law (kx w)):=by have m:=@cal_mk P w (kx w) mg base;have a:=@zlu P w (kx w) mg base;have c:=m T (z6j _) (zgs _) (zfd _) (zeg T );have K:=m T (z5b _) (zef _) (ze8 _) (zbo T c);have a9:=m T (z7j _) (zgd _) (zg3 _) (ze0 T K);have k:=m T (z3o _) (zat _) (z9x _) (z8s T );have i:=m T (z97 _) (zik _) (zi8 _) (zgj T );have U:=m T (z92 _) (zix _) (zit _) (zhe T i a9 k);have Y:=m T (z4g _) (z77 _) (zbh _) (z9n T );have A:=m T (z3l _) (z61 _) (zau _) (z8v T );have a7:=m T (z2b _) (z46 _) (z7z _) (z7l T );have a6:=m T (z4b _) (z79 _) (zbq _) (zaf T );have O:=m T (z4h _) (z7c _) (zb8 _) (zb0 T );have y:=m T (z4q _) (z6x _) (zc9 _) (z9o T );have s:=m T (z2x _) (z54 _) (z99 _) (z7r T );have a2:=m T (z2q _) (z4x _) (z96 _) (z7y T );have a4:=m T (z49 _) (z73 _) (zbw _) (zak T );have q:=m T (F_do _) (g_do _) (b_do _) (ok_do T U Y A a7 O y s a2 a4 a6);have B:=m T (z39 _) (zaw _) (zaz _) (z8j T i);have h:=m T (zfg _) (zmm _) (zn8 _) (zlp T );have V:=m T (z4m _) (zc0 _) (zbg _) (za5 T );have L:=m T (z0n _) (z2k _) (z2j _) (z4w T );have a0:=m T (z7a _) (zff _) (zgm _) (zi4 T h L V);have G:=zc5 (P:=P) (w:=w) (base:=base) T;have D:=z38 (P:=P) (w:=w) (base:=base) T;have a5:=m T (z8m _) (ziu _) (zhk _) (zf1 T q);have u:=m T (z29 _) (z7n _) (z7t _) (z6i T );have b0:=m T (z5g _) (zdx _) (zej _) (zc1 T );have J:=m T (z3i _) (z9m _) (z9p _) (z8i T B);have e:=zkn (P:=P) (w:=w) (base:=base) T a0 h J u G;have d:=z58 (P:=P) (w:=w) (base:=base) T D a5;have v:=m T (z15 _) (z55 _) (z57 _) (z7o T );have b:=m T (z5k _) (zep _) (zen _) (zbn T );have a8:=m T (z4p _) (zca _) (zbl _) (z9u T b);have W:=m T (z5o _) (zdv _) (ze4 _) (zc6 T b a8);have M:=m T (z9c _) (zj9 _) (zid _) (zhf T );have o:=m T (z4e _) (zb6 _) (zbc _) (zad T );have S:=m T (z2s _) (z98 _) (z8y _) (z7q T M);have a1:=m T (z3a _) (z9q _) (zaa _) (z8u T b);have X:=m T (z5i _) (zei _) (ze5 _) (zc2 T v b a1 o S W);have f:=m T (z59 _) (zeh _) (zea _) (zbz T c);have g:=m T (z5a _) (zeo _) (ze9 _) (zbi T f);have C:=m T (z76 _) (zga _) (zgb _) (zem T f g c);have n:=z6t (P:=P) (w:=w) (base:=base) T b0;have Z:=z5h (P:=P) (w:=w) (base:=base) T k g C;have H:=a T (z0n _) (z2k _) (z2j _) (z4c T );have r:=a T (z7a _) (zff _) (zgm _) (zfs T H);have l:=zij (P:=P) (w:=w) (base:=base) T r;have j:=a T (z6r _) (zgo _) (zfl _) (zh7 T l);have E:=a T (z1h _) (z5s _) (z5y _) (z7p T j);have z:=a T (z3r _) (za6 _) (z9i _) (zbb T l);have t:=m T (z4k _) (zb9 _) (zbu _) (zaq T d);have p:=m T (z6r _) (zgo _) (zfl _) (zj3 T e n d);have x:=m T (z4l _) (zce _) (zb7 _) (z9t T e t);have Q:=m T (z1h _) (z5s _) (z5y _) (z91 T p x);have R:=m T (z1x _) (z6m _) (z70 _) (z64 T d);have N:=m T (z3r _) (za6 _) (z9i _) (ze6 T e Z n R);have I:=m T (z5e _) (ze7 _) (zdw _) (zbk T );have a3:=m T (z3c _) (zab _) (zao _) (z93 T p Q N j E z);have F:=m T (z15 _) (z55 _) (z57 _) (z6e T );exact ok_law T X F I o a3
end K63
open PySem PySem.W PyProof.Rows
set_option maxRecDepth 100000 in
set_option maxHeartbeats 0 in
theorem PySem.Challenge.cw_talejudge_k63_no_strictness_holds : PySem.Challenge.rw_talejudge_k63_no_strictness.Holds := by
 w_on;o_law
 refine holds_open (q:=K63.viewX) (loose:=K63.looseX) (Xt:=K63.XtX) (XP:=XL K63.viewX []) (Yf:=Hook.obs K63.HX) (Ya:=Hook.val K63.HX) (YP:=Hook.says K63.HX) (N:=200000) K63.leftX (Hook.of K63.HX) (Hook.keeps K63.HX) (λ s e=>xl_of s (Bool.and_eq_true_iff.mp e).1) XL.keeps (by rfl) (by rfl) (by rfl) (λ s e=>recFacts_of (Bool.and_eq_true_iff.mp e).2) (by rfl) (by assumption) (by decide +kernel) ⟨rfl,rfl,rfl,rfl,rfl,by decide +kernel⟩ ?hw ?hc
 case hw=>w_witness2
 case hc=>
  refine L2.walk_of (l:=PySem.Challenge.rw_talejudge_k63_no_strictness) (n:=63) (k:=12) (x:="script") (K:=K63.KX) (CX:=λ _=>L2.CX0) (sp:=λ w=>K63.sp_law (K63.KX w.params)) rfl (by decide) rfl ⟨rfl,by decide,by decide,rfl⟩ (λ w h Y=>PySem.W.kIn_of Y) ?F ?S ?C
  case F=>intro w j m h KX G g;have T:=L2.TX.mk' KX G;have b:=g.symm.trans (T.of (K63.g_law _));cases b;exact ⟨K63.fd_law,λ s u=>.of_eq rfl,λ p o r=>K63.all_law T⟩
  case S=>exact λ w H a f d i c=>⟨a,f,rfl,c,d,λ _=>rfl⟩
  case C=>exact λ _ _ _ _ _ z=>z
