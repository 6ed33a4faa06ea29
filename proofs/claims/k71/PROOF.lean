import PyProof.Rows.All
import Wide.All
import OpenK.AllK
import Wide.FinOn
import Lean
import PyProof.EqAt
import PyProof.EqKinds
import PyProof.TupleCall
import Open.Tops
import KE.KIntText
import PyProof.ZipIter
import PyProof.ReprRoads
import PyProof.Draws
import KE.KDictSum
import KE.KSortedM
import OpenK.KRaise
import OpenK.KOwn
import PyProof.ExcBaseAll.ValueError
import KE.KTryMore
import PyProof.NsDelKeeps
import KE.KDictOf
import KE.KEqDict
import PyProof.DictWalks
import PyProof.TupleKey
import PyProof.MinMaxWalk
import KE.KSortTup
import PyProof.StrWalks
import KE.KRevIter
import KE.KListMore
import PyProof.StrLawsTight
import PyProof.StrLawsChain
import PySem.Challenge.RW_talejudge_k71_what_may_be_answered
open PySem.W renaming Frag->b0,kia_one->W2,keepIn->u3,findIn->A3,instObj->V3,fnOf->Q5,KasT->R5,kas_sort->c6,nsIn->N6,callWith_K->S6,plainGet->K7,lookIn->B8,codeIn->C8,plainGet_of->R8,methodObj->z9,hasDictIn->A9,kas_desc->S9,takerIn->j06,kas_rev->j07,isFn->j1j,cellsFrom_some->j20,kdu_collect->j3a,specialIn->j45,plainOver->j46,kitx_list->j47,kitx_dict->j48
open PySem.PyData renaming keyHash->c0,depthAll->O1,str->J4,canLayAll0->V4,eqvAll->C7,strOk->V7,depth->j2a
open PySem renaming wpAny_bind->d0,Shared->u0,wpAny_pure->F0,Params->M0,World->R0,wpAny->W0,model->u1,reduceHash->G1,starEach->N1,Around->V1,compareOp->B2,OsState->Q2,sliceBounds->T2,wpAny_newObj_type->X2,mainGlobals->Y2,treeTable->d3,wpAny_mono->j3,sysModules->m3,wpAny_call_entry->B3,eval->C3,attributeBase->U3,boot_len->X3,eqIsQuiet->u4,wpAny_truthy_bool->y4,foldedSetIterable->A4,wpAny_holding->D4,backTo->F4,wpAny_callSpecial?_slot->P4,binaryOp->Q4,wpAny_typeNameOfWhole_keyiter->X4,wpAny_passesOwn->B5,mem_of_lookup->K5,NameKind->M5,wpAny_pyIter_tuple->Y5,wpAny_Call_Name_kw->Z5,tupleKind->m6,placesWithHash->B6,Keyword->E6,swapsWith->R6,wpAny_field->X6,keywordEach->Y6,callSpecialIfBoundUnlessNone?->Z6,ReadsAll->c7,importedModules->o7,bootBuiltins->F7,tupleKind_room_in1->Q7,Fin->S7,wpAny_pyIter_enum->g8,relabel->i8,behindInMarks->t8,Paired->E8,wpAny_isInstance->P8,atKey->Q8,strKind_is->X8,assignEach->Z8,wpAny_execs_nil->d9,typeNameOfWhole->g9,letOwnedTupleGo->j9,wpAny_setField->M9,wpAny_pyIter_keyiter->N9,richCompare->O9,firstArgMember->Q9,backToKw->R9,valueAt->V9,getItem->W9,codeAny->X9,Builtin->j04,wpAny_newList->j08,wpAny_tupleItemsOf->j0d,IsPart->j0f,wpAny_typeOf->j11,wpAny_pyIter_list->j12,wpAny_dictEntries->j13,wpAny_collect_seq->j14,holding->j15,codeAny_mono->j16,callerA->j17,rawInt->j1h,noFill_tuple_add->j1i,subscripted->j25,wpAny_specialOf->j2j,wpAny_dictEpoch->j30,Within->j32,standAt->j38,wpAny_seqItems->j3e,wpAny_letOwnedTupleGo_enum->j3f,pyNext->j3i,call_meets->j3j,Thread->j43
open List renaming not_mem_nil->j0,length_map->o0,getElem?_eq_getElem->B0,length_append->D0,mem_of_getElem?->G0,size_toArray->K0,mem_cons_self->L0,getElem?_map->O0,length_cons->P0,mem_cons_of_mem->V0,map_cons->X0,range->j1,mem_cons->B1,map_append->E1,mem_append_right->J1,replicate->R1,getElem?_cons_succ->S1,getD_eq_getElem?_getD->T1,getElem?_append_right->W1,forall_mem_cons->X1,length_range->Y1,getElem?_cons_zero->Z1,filter_cons_of_pos->C2,filter_cons_of_neg->D2,getElem?_append_left->F2,getElem?_modify->G2,length_filter_le->K2,append_nil->N2,map_map->S2,nodup_append->E3,length_replicate->G3,getElem?_eq_none->J3,take_length->K3,length_take->L3,take_add_one->P3,take_zero->S3,find?_cons->Y3,length_filterMap_le->j4,lookup_cons->B4,filter_cons->C4,take_of_length_le->K4,map_nil->L4,length_modify->M4,filter_append->N4,length_nil->R4,forIn_cons->S4,dropLast_concat_getLast->T4,nodup_iff_pairwise_ne->E5,forIn_nil->F5,nodup_cons->O5,length->S5,drop_zero->V5,length_drop->u6,getElem_mem->z6,ext_getElem->A6,take_append_of_le_length->G6,mem_append_left->K6,lookup->L6,exists_mem_of_length_pos->M6,mem_append->P6,ext_getElem?->M7,any_cons->O7,getElem?_replicate->W7,any_eq_true->X7,all_eq_true->Y7,length_pos_of_mem->j8,range_succ->F8,of_mem_zip->G8,getElem?_toArray->M8,getElem?_range->o9,filterMap_cons->u9,zip_cons_cons->F9,mem_filterMap->G9,getElem_range->K9,set_eq_take_append_cons_drop->U9,pairwise_map->Z9,getElem?_inj->j00,foldl_append->j01,append_assoc->j02,getElem_map->j0a,getElem_inj->j0b,length_set->j0h,filter_map->j0i,drop_eq_getElem_cons->j23,length_erase_of_mem->j2b,getElem?_take_of_lt->j2c,filterMap_cons_some->j2d,filterMap_cons_none->j2e,pairwise_mergeSort->j36,range_succ_eq_map->j3b,getElem?_set_self->j3c,any_map->j3d,length_dropLast->j4a,getElem?_set_ne->j4b
open PySem.Builtin.Tuple renaming tupleHashOf->l0,tupleExact->i5
open Nat renaming le_refl->t0,le_trans->A0,lt_of_le_of_lt->A1,ne_of_lt->C1,lt_of_lt_of_le->F1,zero_le->Q1,lt_succ_of_lt->j2,lt_succ_self->O2,le_of_lt->V2,le_succ->F3,not_lt_zero->R3,ne_of_gt->i4,lt_irrefl->o4,le_succ_of_le->A5,lt_trichotomy->d6,le_of_eq->i6,succ_le_succ->C6,mul_le_mul_right->O6,zero_add->d7,min_le_left->L8,le_of_not_lt->j0e,min_eq_left->j18,mul_le_mul->j22,add_assoc->j35
open PySem.Heap renaming get?_push_of_some->C0,lt_size->Q0,get?_push_size->Y0,size_push->T3,SameBut->X5,get?_update_other->m8,get?_update_self->N8
open Bool renaming false_ne_true->N0,and_eq_true->A2,false_eq_true->M3,false_and->i7,not_true->P7,and_false->W8,true_and->E9,not_eq_true->j0c,false_or->j2g,and_true->j2h
open Or renaming inr->S0,inl->U0
open PySem.Value renaming ref->Z0,none->U2,bool->Z3,str->r6,type->b7,isStrOf->G7,int->R7,float->j42
open PySem.PassesOwn renaming never->K1
open Option.some renaming inj->P1
open PySem.NameKind renaming free->U1
open Array renaming getElem?_eq_getElem->E2,length_toList->P2,getElem?_toList->o6,getD_eq_getD_getElem?->V6,map->j2i,getElem?_eq_none->j37
open ForInStep renaming yield->J2,done->d8
open Pure renaming pure->Z2,pure->j33
open PyProof.Rows renaming boot_isinstance->i3,callWith_type1->O3,boot_tuple->E4,boot_sorted->Y4,seqObj->m7,sortedS->N7,AllBare->o8,slot_tuple_getitem->S8,envOfC->Y8,IntsAre->c9,subscriptTail->j09,entry_list_sort->j31,StrsAre->j39,tail_any->j3g,slot_list_sort->j3h,boot_str->j40,args_list_sort->j41,Subscript_->j44
open Classical renaming propDecidable->N3
open False renaming elim->Q3
open Ne renaming symm->W3
open PySem.Builtin.SmallTypes renaming nextOf->G4,ownedTupleFields->O4
open PySem.Builtin.Slice renaming slicePlaces->U4,sliceAdjust->F6,sliceApplied->C9
open PySem.Heap.SameBut renaming update->Z4
open PySem.F renaming slot_dict_keyiterator_next->c5,slot_tuple_iterator_next->L5,plainAttrs_list->N5,args_tuple_add_2->z7,entry_tuple_add->L7,slot_tuple_add->U7,slot_dict_get->a8,args_dict_keyiterator_next_1->j1a,plainAttrs_dict->j1c,args_dict_get_3->j1d,entry_dict_keyiterator_next->j1g,entry_dict_get->j21,args_tuple_iterator_next_1->j24,slot_dict_pop->j29,entry_tuple_iterator_next->j2f
open PySem.W.Fast renaming tw16697807410369149715->j5,tw13926502685295537346->o5,tw13383273872528276517->u5,te14364793385576792824->z5,tw4214721358667687652->C5,tw14364793385576792824->Z7
open PySem.Obj renaming mapSeq->G5,mapDictKeys->K8,mapFields->j34
open PySem.Calls renaming spliced_cons->P5,callWith_builtin->U5,call_function_entry->B7,spliced_nil->E7,evalArgs_plain->U8,Name_function_global->j1b
open Int renaming emod_lt_of_pos->T5,toNat_natCast->j6,emod_nonneg->U6,zero_add->g7,le_refl->j0j,le_antisymm->j19
open PySem.Builtin.List renaming listTooLong->Q6,listLengthHint->D9
open PySem.Builtin.Dict renaming notOrdered->W6
open Option renaming isSome_map->A7,map_some->c8,toList_none->m9,getD_some->Y9,map->j0g
open PySem.Builtin.Dict_items renaming ownsTuple->n8,isOneOf->O8,slot0->V8
open Sum.inr renaming inj->u8
open Sum.inl renaming inj->z8
open PySem.Str renaming ofString->A8
open PUnit renaming unit->B9
open PySem.Around renaming under->L9
open ForIn renaming forIn->P9
open PySem.Code renaming isFrame->j03,frames->j4d
open PySem.SeqAt renaming eqAt_reads->j05
open PySem.Heap.IsSliceOf renaming new->j10
open PySem.Paired renaming length->j1e
open List.Pairwise renaming nil->j1f
open PySem.SeqAt.EqAt renaming str_str->j26,str_int->j27,int_str->j28
open Prod renaming ext->j49
open PySem.Data renaming fields->j4c
set_option maxRecDepth 100000
set_option maxHeartbeats 0
namespace PySem.W.Fast
def tw18070951470440983220:=0
def tw6287246884348468138:=0
def tw1945869413174556322:=0
def tw17481903126985616542:=0
def tw7417410347828316317:=0
def tw10098160974882202584:=0
def tw5521122661391255155:=0
def tw18270402469945684911:=0
def tw10396014148140265863:=0
def tw12505062045656464950:=0
def tw8729846793425851480:=0
def tw15682935372232317989:=0
def tw17620035360957294084:=0
def tw15356574751065374502:=0
def tw1610146714127611313:=0
end PySem.W.Fast
namespace K71
open_shared pre for PySem.Challenge.pw_talejudge_k71_what_may_be_answered leaving 46
end K71
set_option maxHeartbeats 200000
-- CHANGE: your row's module here,as the last of these rows
set_option Elab.async false
set_option linter.all false
namespace L2
open PySem PySem.Spec PyProof.Rows
abbrev Key:=Sum Int Str
def keyIs:Key->Value->Bool
 | .inl k,v=>Value.isInt k v
 | .inr x,v=>G7 x v
def keyH (w:R0):Key->Int
 | .inl k=>hashInt k
 | .inr x=>hashStr w x
theorem z0n :∀{k:Key} {v:Value},keyIs k v=true->(∃i t,k=Sum.inl i/\v=R7 i t)\/(∃x t,k=Sum.inr x/\v=r6 x t)
 | .inl i,v,h=>by obtain ⟨t,e⟩:=Value.isInt_shape (k:=i) (v:=v) h;exact .inl ⟨i,t,rfl,e⟩
 | .inr x,v,h=>by obtain ⟨t,e⟩:=Value.isStrOf_shape (x:=x) (v:=v) h;exact .inr ⟨x,t,rfl,e⟩
theorem zii (i:Int) (t:Tok):keyIs (.inl i) (.int i t)=true:=by simp [keyIs,Value.isInt]
theorem zjo (x:Str) (t:Tok):keyIs (.inr x) (.str x t)=true:=by simp [keyIs,G7]
theorem key_ll (a b:Int):decide ((Sum.inl a:Key)=Sum.inl b)=(a == b):=by
 by_cases e:a=b
 ·subst e;simp
 ·have h:¬ (Sum.inl a:Key)=Sum.inl b:=λ q=>e (z8 q);rw [decide_eq_false h];exact (beq_eq_false_iff_ne.mpr e).symm
theorem key_rr (a b:Str):decide ((Sum.inr a:Key)=Sum.inr b)=decide (a=b):=by
 by_cases e:a=b
 ·subst e;simp
 ·have h:¬ (Sum.inr a:Key)=Sum.inr b:=λ q=>e (u8 q);rw [decide_eq_false h,decide_eq_false e]
theorem key_lr (a:Int) (b:Str):decide ((Sum.inl a:Key)=Sum.inr b)=false:=decide_eq_false (λ q=>nomatch q)
theorem key_rl (a:Str) (b:Int):decide ((Sum.inr a:Key)=Sum.inl b)=false:=decide_eq_false (λ q=>nomatch q)
noncomputable def z13 (prog:Program) (w:R0):PySem.KeyKind prog w Key where
 is:=keyIs
 hash:=keyH w
 inj:=λ v a b ha hb=>by
  rcases z0n ha with ⟨i,t,rfl,rfl⟩|⟨x,t,rfl,rfl⟩
  ·rcases z0n hb with ⟨j,u,rfl,e⟩|⟨y,u,rfl,e⟩
   ·injection e with e1 _;rw [e1]
   ·exact nomatch e
  ·rcases z0n hb with ⟨j,u,rfl,e⟩|⟨y,u,rfl,e⟩
   ·exact nomatch e
   ·injection e with e1 _;rw [e1]
 byValue:=λ k v h=>by rcases z0n h with ⟨i,t,rfl,rfl⟩|⟨x,t,rfl,rfl⟩<;>rfl
 pyHash:=λ hv h=>by
  rcases z0n hv with ⟨i,t,rfl,rfl⟩|⟨x,t,rfl,rfl⟩
  ·exact wpAny_pyHash_int h
  ·exact wpAny_pyHash_str h
 eqBool:=λ hu hv h=>by
  rcases z0n hu with ⟨i,t,rfl,rfl⟩|⟨x,t,rfl,rfl⟩
  ·rcases z0n hv with ⟨j,u,rfl,rfl⟩|⟨y,u,rfl,rfl⟩
   ·rw [key_ll] at h;exact wpAny_eqBool_int h
   ·rw [key_lr] at h;exact j28 i t y u _ _ _ _ h
  ·rcases z0n hv with ⟨j,u,rfl,rfl⟩|⟨y,u,rfl,rfl⟩
   ·rw [key_rl] at h;exact j27 x t j u _ _ _ _ h
   ·rw [key_rr] at h;exact wpAny_eqBool_str h
 «strs»:=λ k x t v h=>by
  rcases z0n h with ⟨i,u,rfl,e⟩|⟨y,u,rfl,e⟩
  ·exact nomatch e
  ·injection e with e1 _;subst e1;cases v<;>rfl
theorem zem (prog:Program) (w:R0) (i:Int) (t:Tok):(z13 prog w).is (.inl i) (.int i t)=true:=zii i t
theorem zed (prog:Program) (w:R0) (x:Str) (t:Tok):(z13 prog w).is (.inr x) (.str x t)=true:=zjo x t
inductive V where
 | non|bl (b:Bool)|int (i:Int)|str (x:Str)|byt (b:Array UInt8)|flt (b:UInt64)|ref (a:Addr)|ty (n:String)
 deriving DecidableEq
noncomputable def RelV:V->Value->Prop
 | .non,u=>u=U2
 | .bl b,u=>u=Z3 b
 | .int i,u=>∃t,u=R7 i t
 | .str x,u=>∃t,u=r6 x t
 | .byt b,u=>∃t,u=Value.bytes b t
 | .flt b,u=>∃t,u=j42 b t
 | .ref a,u=>u=Z0 a
 | .ty n,u=>u=b7 n
abbrev Vals:List V->List Value->Prop:=E8 RelV
theorem Vals.length {xs:List V} {us:List Value} (r:Vals xs us):xs.length=us.length:=j1e r
theorem Vals.get :∀{xs:List V} {us:List Value} {i:Nat} {x:V},Vals xs us->xs[i]? = some x->∃u,us[i]? = some u/\RelV x u
 | _,_,_,_,.nil,e=>by simp at e
 | _,_,0,_,.cons r _,e=>by simp at e;subst e;exact ⟨_,rfl,r⟩
 | _,_,i + 1,x,.cons _ t,e=>by obtain ⟨u,b,a⟩:=Vals.get (i:=i) (x:=x) t (by simpa using e);exact ⟨u,by simpa using b,a⟩
theorem Vals.set {x:V} {u:Value} (r:RelV x u) :∀{xs:List V} {us:List Value} (i:Nat),Vals xs us->Vals (xs.set i x) (us.set i u)
 | _,_,_,.nil=>.nil
 | _,_,0,.cons _ t=>.cons r t
 | _,_,i + 1,.cons q t=>.cons q (Vals.set r i t)
theorem Vals.append :∀{xs ys:List V} {us ws:List Value},Vals xs us->Vals ys ws->Vals (xs++ys) (us++ws)
 | _,_,_,_,.nil,s=>s
 | _,_,_,_,.cons r t,s=>.cons r (Vals.append t s)
theorem Vals.take :∀{xs:List V} {us:List Value} (n:Nat),Vals xs us->Vals (xs.take n) (us.take n)
 | _,_,0,_=>.nil
 | _,_,_ + 1,.nil=>.nil
 | _,_,n + 1,.cons r t=>.cons r (Vals.take n t)
theorem Vals.drop :∀{xs:List V} {us:List Value} (n:Nat),Vals xs us->Vals (xs.drop n) (us.drop n)
 | _,_,0,r=>r
 | _,_,_ + 1,.nil=>.nil
 | _,_,n + 1,.cons _ t=>Vals.drop n t
noncomputable def RelO:Option V->Option Value->Prop
 | some v,some u=>RelV v u
 | none,none=>True
 | _,_=>False
def KV {κ:Type}:List (κ×V)->List (κ×Value)->Prop:=E8 λ (p:κ×V) (q:κ×Value)=>p.1=q.1/\RelV p.2 q.2
def kV:Key->V
 | .inl i=>.int i
 | .inr x=>.str x
abbrev zK:=List (Key×V)
abbrev zV:=List (Str×V)
inductive HO where
 | lst (xs:List V)
 | tup (xs:List V)
 | dK (kvs:zK)|dT (kvs:List (List Key×V))
 | set (S:Int->Bool) (n:Nat)
 | ins (C dx:Addr) (fs:zV)
 | own (x:Addr)
 | xd (fs:zV)
 | met (f x:Addr)
 | rng (lo hi:Int)
 | frz (o:Obj) (u:HO)
 | tbl (ps:Array Value)
 | ext (φ:Heap->Prop)
abbrev Hp:=Addr->Option HO
def upd (H:Hp) (a:Addr) (o:HO):Hp:=λ b=>if b=a then some o else H b
theorem upd_same {H:Hp} {a:Addr} {o:HO}:upd H a o a=some o:=by unfold upd;rw [if_pos rfl]
theorem upd_ne {H:Hp} {a b:Addr} {o:HO} (h:b≠a):upd H a o b=H b:=by unfold upd;rw [if_neg h]
theorem ne_of {H:Hp} {a b:Addr} {o u:HO} (h:H a=some o) (h':H b=some u) (d:o≠u):a≠b:=by intro e;subst e;rw [h] at h';exact d (P1 h')
theorem z07 {H:Hp} {a b:Addr} {o:HO} (h:H a=some o) (h':H b=none):a≠b:=by intro e;subst e;rw [h] at h';cases h'
section
variable (P:Program) (w:R0)
def IsTupN (h:Heap) (a:Addr) (items:Array Value):Prop:=IsTup h a items/\∃o,h.get? a=some o/\o.dict=none
theorem IsTupN.new (h:Heap) (items:Array Value):IsTupN (h.push { cls:=.type "tuple",data:=.seq items }) h.objs.size items:=⟨IsTup.new _ _,_,Y0 _ rfl,rfl⟩
noncomputable def ObjOk (H:Hp) (h:Heap) (a:Addr):HO->Prop
 | .lst xs=>xs.length<=sizeLine/\∃(its:List Value) (n:Nat),Vals xs its/\h.get? a=some { cls:=.type "list",data:=.seq its.toArray n }
 | .tup xs=>xs.length<=sizeLine/\∃its:List Value,Vals xs its/\IsTupN h a its.toArray
 | .dK kvs=>kvs.length<=sizeLine/\(a == m3)=false/\∃vs,KV kvs vs/\h.DictOf (z13 P w) a vs
 | .dT kvs=>kvs.length<=sizeLine/\(a == m3)=false/\∃xs:List (List Key×Addr×Value),
   E8 (λ (p:List Key×V) (q:List Key×Addr×Value)=>p.1=q.1/\H q.2.1=some (.tup (p.1.map kV))/\RelV p.2 q.2.2) kvs xs/\
   ∃o es ep,h.get? a=some o/\o.ExactDict/\o.data=.dict es ep/\es.toList=xs.map (entryOfKey (m6 (z13 P w)))/\(xs.map (·.1)).Nodup
 | .set S n=>h.SetOf (intKind P w) a S n
 | .ins C dx fs=>H dx=some (.own a)/\fs.length<=1000/\dx≠a/\h.get? a=some (V3 C dx)/\
   ∃mA,h.Ns1 dx mA/\(∀f,RelO (fs.lookup f) (mA f))/\j32 mA (fs.map (·.1))
 | .own _=>∃o,h.get? a=some o
 | .xd fs=>∃mA,h.Ns1 a mA/\∀f,RelO (fs.lookup f) (mA f)
 | .rng lo hi=>∃t u v,h.get? a=some { cls:=.type "range",data:=.fields #[.int lo t,.int hi u,.int 1 v] }
 | .frz o u=>h.get? a=some o/\ObjOk H h a u
 | .tbl ps=>h.get? a=some { cls:=.none,data:=.fields ps }
 | .met f x=>h.get? a=some (z9 (.ref f) (.ref x))
 | .ext φ=>φ h/\(∃o,h.get? a=some o)/\∀h1 h2:Heap,φ h1->(∀o,h1.get? a=some o->h2.get? a=some o)->φ h2
def HOk (H:Hp) (h:Heap):Prop:=∀a o,H a=some o->ObjOk P w H h a o
end
section
variable {P:Program} {w:R0} {H H':Hp} {h h':Heap} {a:Addr} {o:HO}
theorem ObjOk.lt (x:ObjOk P w H h a o):a < h.objs.size:=by
 cases o with
 | lst xs=>obtain ⟨_,_,_,_,e⟩:=x;exact Q0 e
 | tup xs=>obtain ⟨_,_,_,p⟩:=x;exact p.1.lt
 | dK kvs=>obtain ⟨_,_,_,_,o,_,_,e,_⟩:=x;exact Q0 e
 | dT kvs=>obtain ⟨_,_,_,_,o,_,_,e,_⟩:=x;exact Q0 e
 | set S n=>obtain ⟨o,_,_,_,e,_⟩:=x;exact Q0 e
 | ins C dx fs=>obtain ⟨_,_,_,e,_⟩:=x;exact Q0 e
 | own y=>obtain ⟨_,e⟩:=x;exact Q0 e
 | xd fs=>obtain ⟨_,⟨_,_,_,e,_⟩,_⟩:=x;exact Q0 e
 | rng lo hi=>obtain ⟨_,_,_,e⟩:=x;exact Q0 e
 | frz ob u=>obtain ⟨e,_⟩:=x;exact Q0 e
 | tbl ps=>exact Q0 (show h.get? a=some _ from x)
 | met f y=>exact Q0 (show h.get? a=some _ from x)
 | ext φ=>obtain ⟨_,⟨_,e⟩,_⟩:=x;exact Q0 e
theorem Paired.mapP {α β:Type} {F G:α->β->Prop} :∀{l₁:List α} {l₂:List β},E8 F l₁ l₂->(∀a b,F a b->G a b)->E8 G l₁ l₂
 | _,_,.nil,_=>.nil
 | _,_,.cons r t,f=>.cons (f _ _ r) (Paired.mapP t f)
theorem ObjOk.stay (x:ObjOk P w H h a o) (k :∀b u,(b=a\/H b=some (.own a))->h.get? b=some u->h'.get? b=some u)
  (ho :∀b,H b=some (.own a)->H' b=some (.own a)) (ht :∀b xs,H b=some (.tup xs)->H' b=some (.tup xs)):ObjOk P w H' h' a o:=by
 induction o with
 | lst xs=>obtain ⟨z,m,n,r,e⟩:=x;exact ⟨z,m,n,r,k _ _ (.inl rfl) e⟩
 | tup xs=>obtain ⟨z,m,r,⟨g,e,c⟩,F,A,D⟩:=x;exact ⟨z,m,r,⟨g,k _ _ (.inl rfl) e,c⟩,F,k _ _ (.inl rfl) A,D⟩
 | dK kvs=>obtain ⟨z,y,E,r,g,i,j,e,c⟩:=x;exact ⟨z,y,E,r,g,i,j,k _ _ (.inl rfl) e,c⟩
 | dT kvs=>obtain ⟨z,y,xs,r,g,i,j,e,c⟩:=x;exact ⟨z,y,xs,Paired.mapP r λ p q z=>⟨z.1,ht _ _ z.2.1,z.2.2⟩,g,i,j,k _ _ (.inl rfl) e,c⟩
 | set S n=>obtain ⟨g,i,j,t,e,c⟩:=x;exact ⟨g,i,j,t,k _ _ (.inl rfl) e,c⟩
 | ins C dx fs=>obtain ⟨d,z,ne,e,s,⟨l,i,j,A,c⟩,r⟩:=x;exact ⟨ho _ d,z,ne,k _ _ (.inl rfl) e,s,⟨l,i,j,k _ _ (.inr d) A,c⟩,r⟩
 | own y=>obtain ⟨g,e⟩:=x;exact ⟨g,k _ _ (.inl rfl) e⟩
 | xd fs=>obtain ⟨s,⟨l,i,j,e,c⟩,r⟩:=x;exact ⟨s,⟨l,i,j,k _ _ (.inl rfl) e,c⟩,r⟩
 | rng lo hi=>obtain ⟨t,u,v,e⟩:=x;exact ⟨t,u,v,k _ _ (.inl rfl) e⟩
 | frz g u ih=>obtain ⟨e,q⟩:=x;exact ⟨k _ _ (.inl rfl) e,ih q⟩
 | tbl ps=>have e:h.get? a=some { cls:=.none,data:=.fields ps }:=x;show h'.get? a=some { cls:=.none,data:=.fields ps };exact k a _ (.inl rfl) e
 | met f y=>have e:h.get? a=some (z9 (.ref f) (.ref y)):=x;show h'.get? a=some (z9 (.ref f) (.ref y));exact k a _ (.inl rfl) e
 | ext φ=>obtain ⟨p,⟨o,e⟩,B⟩:=x;exact ⟨B _ _ p λ o q=>k _ _ (.inl rfl) q,⟨o,k _ _ (.inl rfl) e⟩,B⟩
theorem HOk.lt (x:HOk P w H h) (e:H a=some o):a < h.objs.size:=(x a o e).lt
theorem HOk.fresh (x:HOk P w H h) (e:h.objs.size<=a):H a=none:=by
 cases q:H a with
 | none=>rfl
 | some u=>exact absurd (F1 (x.lt q) e) (o4 _)
theorem HOk.kept (x:HOk P w H h) (k :∀b u,h.get? b=some u->h'.get? b=some u):HOk P w H h':=λ a o e=>(x a o e).stay (λ b u _ q=>k b u q) (λ _ q=>q) λ _ _ q=>q
theorem HOk.laid (x:HOk P w H h) (k :∀b u,h.get? b=some u->h'.get? b=some u) (hp:h.objs.size<=a) (new:ObjOk P w (upd H a o) h' a o):HOk P w (upd H a o) h':=λ b u e=>by
 have d:=x.fresh hp;by_cases hb:b=a
 ·subst hb;rw [upd_same] at e;cases e;exact new
 ·rw [upd_ne hb] at e;exact (x b u e).stay (λ c v _ q=>k c v q) (λ c q=>by rw [upd_ne (z07 q d)];exact q) λ c f q=>by rw [upd_ne (z07 q d)];exact q
end
def Rd (H:Hp) (a:Addr) (u:HO):Prop:=H a=some u\/∃o,H a=some (.frz o u)
theorem Rd.ok {P:Program} {w:R0} {H:Hp} {h:Heap} {a:Addr} {u:HO} (r:Rd H a u) (x:HOk P w H h):ObjOk P w H h a u:=by
 rcases r with r|⟨o,r⟩
 ·exact x a u r
 ·obtain ⟨_,q⟩:=x a _ r;exact q
noncomputable def Mut:Option HO->Prop
 | some (.lst _)=>True
 | some (.dK _)=>True
 | some (.dT _)=>True
 | some (.set _ _)=>True
 | some (.ins _ _ _)=>True
 | some (.ext _)=>True
 | _=>False
section
variable {P:Program} {w:R0} {H:Hp} {h h':Heap} {x e:Addr} {o':HO}
theorem HOk.write (ok:HOk P w H h) (mu:Mut (H x)) (he:e=x\/H e=some (.own x)) (k :∀b u,b≠e->h.get? b=some u->h'.get? b=some u) (heo :∃u,h'.get? e=some u)
  (new:ObjOk P w (upd H x o') h' x o'):HOk P w (upd H x o') h':=λ b u q=>by
 have g :∀c y,H c=some (.own y)->c≠x:=λ c y r z=>by subst z;rw [r] at mu;exact mu
 have i :∀c a,H c=some (.tup a)->c≠x:=λ c a r z=>by subst z;rw [r] at mu;exact mu
 by_cases hb:b=x
 ·subst hb;rw [upd_same] at q;cases q;exact new
 ·rw [upd_ne hb] at q;by_cases hbe:b=e
  ·have f:H b=some (.own x):=by
    rcases he with z|z
    ·exact absurd (hbe.trans z) hb
    ·rw [hbe];exact z
   rw [q] at f;cases f;obtain ⟨v,j⟩:=heo;exact ⟨v,by rw [hbe];exact j⟩
  ·refine (ok b u q).stay (λ c v d r=>k c v ?_ r) (λ c r=>by rw [upd_ne (g c b r)];exact r) λ c a r=>by rw [upd_ne (i c a r)];exact r
   rcases d with rfl|d
   ·exact hbe
   ·rintro rfl;rcases he with z|z
    ·exact g c b d z
    ·rw [d] at z;cases z;exact hb rfl
end
structure Un (fs ex:List Addr) (H H':Hp) (h h':Heap):Prop where
 keep :∀b o,h.get? b=some o->H b=none->b∉fs->b∉ex->h'.get? b=some o
 slot :∀b o,h.get? b=some o->H b=none->b∈fs->b∉ex->∃sl,h'.get? b=some { o with slots:=sl }
 free :∀b o,h.get? b=some o->H b=none->b∉ex->H' b=none
 there :∀b o,h.get? b=some o->b∉ex->∃o',h'.get? b=some o'
 tups :∀b xs,H b=some (.tup xs)->H' b=some (.tup xs)
 frzs :∀b o u,H b=some (.frz o u)->H' b=some (.frz o u)
 tbls :∀b ps,H b=some (.tbl ps)->∃more,H' b=some (.tbl (ps++more))
section
variable {fs fs' ex ex':List Addr} {H H1 H2:Hp} {h h1 h2 h':Heap} {a x e:Addr} {o:HO}
theorem Un.any (u:Un fs ex H H1 h h1) {b:Addr} {ob:Obj} (q:h.get? b=some ob) (n:H b=none) (hx:b∉ex) :∃sl,h1.get? b=some { ob with slots:=sl }:=by
 by_cases hb:b∈fs
 ·exact u.slot b ob q n hb hx
 ·exact ⟨ob.slots,u.keep b ob q n hb hx⟩
theorem Un.kept (k :∀b u,h.get? b=some u->h'.get? b=some u):Un fs ex H H h h':=
 ⟨λ b a q _ _ _=>k b a q,λ b a q _ _ _=>⟨a.slots,k b a q⟩,λ _ _ _ n _=>n,λ b a q _=>⟨a,k b a q⟩,λ _ _ q=>q,λ _ _ _ q=>q,λ _ c q=>⟨#[],by rw [q];simp⟩⟩
theorem Un.refl:Un fs ex H H h h:=Un.kept λ _ _ q=>q
theorem Un.laid (k :∀b u,h.get? b=some u->h'.get? b=some u) (hp:h.objs.size<=a) (hn:H a=none):Un fs ex H (upd H a o) h h' where
 keep:=λ b u q _ _ _=>k b u q
 slot:=λ b u q _ _ _=>⟨u.slots,k b u q⟩
 free:=λ b u q n _=>by rw [upd_ne (C1 (F1 (Q0 q) hp))];exact n
 there:=λ b u q _=>⟨u,k b u q⟩
 tups:=λ b c q=>by rw [upd_ne (z07 q hn)];exact q
 frzs:=λ b u c q=>by rw [upd_ne (z07 q hn)];exact q
 tbls:=λ b d q=>⟨#[],by rw [upd_ne (z07 q hn),q];simp⟩
theorem Un.write (mu:Mut (H x)) (he:e=x\/H e=some (.own x)) (k :∀b u,b≠e->h.get? b=some u->h'.get? b=some u) (heo :∃u,h'.get? e=some u):Un fs ex H (upd H x o) h h':=by
 have d :∀b,H b=none->b≠x:=λ b n z=>by subst z;rw [n] at mu;exact mu
 have c :∀b,H b=none->b≠e:=λ b n z=>by
  subst z;rcases he with r|r
  ·exact d b n r
  ·rw [n] at r;cases r
 have a :∀b u,H b=some u->¬ Mut (some u)->b≠x:=λ b u q f z=>by subst z;rw [q] at mu;exact f mu
 refine ⟨λ b u q n _ _=>k b u (c b n) q,λ b u q n _ _=>⟨u.slots,k b u (c b n) q⟩,λ b u q n _=>by rw [upd_ne (d b n)];exact n,λ b u q _=>?_,
  λ b g q=>by rw [upd_ne (a b _ q λ z=>z)];exact q,λ b u g q=>by rw [upd_ne (a b _ q λ z=>z)];exact q,λ b i q=>⟨#[],by rw [upd_ne (a b _ q λ z=>z),q];simp⟩⟩
 by_cases hbe:b=e
 ·subst hbe;exact heo
 ·exact ⟨u,k b u hbe q⟩
end
def trk (h:Heap) (H:Hp):List Addr:=(j1 h.objs.size).filter λ a=>(H a).isSome
def hidT (h:Heap) (H:Hp):Heap:=PySem.W.hideAll h (trk h H)
theorem zib (h:Heap) (H:Hp):(hidT h H).objs.size=h.objs.size:=PySem.W.hideAll_size _ _
theorem zl7 {h:Heap} {H:Hp} {b:Addr} {o:Obj} (e:h.get? b=some o) (n:H b=none):(hidT h H).get? b=some o:=
 PySem.W.hideAll_get _ e λ a=>by have q:(H b).isSome=true:=(List.mem_filter.mp a).2;rw [n] at q;simp at q
theorem zm9 {h:Heap} {H:Hp} {b:Addr} {o:Obj} (e:(hidT h H).get? b=some o):h.get? b=some o/\H b=none:=by
 have a:h.get? b=some o:=PySem.W.of_hideAll (trk h H) e;refine ⟨a,?_⟩;cases q:H b with
 | none=>rfl
 | some x=>have c:b∈trk h H:=List.mem_filter.mpr ⟨List.mem_range.mpr (Q0 a),by simp [q]⟩;have z:(hidT h H).get? b=none:=PySem.W.hideAll_none (trk h H) c;rw [z] at e;cases e
abbrev zP:=List (Addr×Obj)
def zm1 (g h:Heap) (L:Addr):zP:=(j1 h.objs.size).filterMap λ a=>if a=L\/(g.get? a).isSome=true then none else (h.get? a).map λ o=>(a,o)
def rest (g h:Heap) (L d:Addr):zP:=(zm1 g h L).filter λ p=>decide (p.1≠d)
structure Mod (K:b0) (mg:Str->Option Value) (base:Heap):Prop where
 kin:K.In base
 glob:base.Ns Y2 mg
 blt :∃mb,base.Ns builtinsNs mb/\∀x:Str,x≠"__name__"->mb x=F7 x
 nolimit:base.NoLimit
structure Cx where
 prog:Program
 w:R0
 K:b0
 mg:Str->Option Value
 base:Heap
 A:V1
 N:List Str
 s₀:u0
 H₀:Hp
 env:Env
 outer:List Env
 stack:List Env
 ex:List Addr
 fn:Str->Bool
 calm:Bool
 pn:zP
 xe:Value->u0->Prop
def frs (l:List Env):List Addr:=l.filterMap (·.frame)
abbrev Cx.fs (X:Cx):List Addr:=frs X.outer
def Vis (sc:Scope) (x:Str):Prop:=sc.names.lookup x=some .local\/sc.names.lookup x=some .cell\/sc.names.lookup x=some .free
def Loc (sc:Scope) (x:Str):Prop:=sc.names.lookup x=some .local\/sc.names.lookup x=some .cell
def Look (env:Env) (h:Heap) (m:Str->Option Value) (x:Str) (u:Value):Prop:=
 (env.kindOf x=some .local/\m x=some u)\/((env.kindOf x=some .cell\/env.kindOf x=some .free)/\∃c,env.cells.lookup x=some c/\h.IsCell c (some u))
structure Cx.Ok (X:Cx):Prop where
 mod:Mod X.K X.mg X.base
 kind:X.env.scope.kind=.function
 glob:X.env.globals=Y2
 blt:X.env.builtins=builtinsNs
 above:X.s₀.heap.objs.size<=X.env.locals
 inj :∀x y c,X.env.cells.lookup x=some c->X.env.cells.lookup y=some c->x=y
 has :∀x,(X.env.kindOf x=some .cell\/X.env.kindOf x=some .free)->∃c,X.env.cells.lookup x=some c
 cab :∀x c,X.fn x=true->X.env.cells.lookup x=some c->X.s₀.heap.objs.size<=c
 hd:X.calm=true->X.A.handled=none
 frames:X.A.frames=some X.stack
 stk:X.stack=X.outer\/(X.stack=X.env :: X.outer/\X.env.frame=some X.env.locals)
 exf :∀b∈X.ex,b≠X.env.locals/\∀x c,X.env.cells.lookup x=some c->c≠b
 bs :∀b o,X.base.get? b=some o->X.s₀.heap.get? b=some o/\X.H₀ b=none
 bsz:X.base.objs.size<=X.s₀.heap.objs.size
 noex :∀b o,X.base.get? b=some o->b∉X.ex
 exfs :∀b∈X.ex,b∉X.fs
 funs:X.s₀.heap.FunFrames X.base X.outer
 frf :∀b∈X.fs,X.H₀ b=none
structure Inv (X:Cx) (pins:zP) (σ:List (Option V)) (H:Hp) (s:u0):Prop where
 ok:X.Ok
 os:s.os=X.s₀.os
 bare:o8 s.gens
 base:Un X.fs X.ex X.H₀ H X.s₀.heap s.heap
 loc :∃m,s.heap.Ns X.env.locals m/\∀(i:Nat) (x:Str) (v:V),X.N[i]? = some x->σ[i]? = some (some v)->Vis X.env.scope x->∃u,RelV v u/\Look X.env s.heap m x u
 cell :∀x c,X.env.cells.lookup x=some c->∃v,s.heap.IsCell c v
 free:H X.env.locals=none
 freeC :∀x c,X.env.cells.lookup x=some c->H c=none
 pin :∀p∈X.pn++pins,s.heap.get? p.1=some p.2/\H p.1=none/\p.1≠X.env.locals/\p.1∉X.fs/\∀v,p.2.data≠.cell v
 hok:HOk X.prog X.w H s.heap
 len:σ.length=X.N.length
section
variable {X:Cx} {pins:zP} {σ:List (Option V)} {H H':Hp} {s:u0} {h':Heap}
theorem Cx.Ok.nofr (ok:X.Ok) {b:Addr} {o:Obj} (e:X.base.get? b=some o):b∉X.fs:=λ a=>by have:=(ok.funs.mem a).1;rw [e] at this;cases this
theorem Inv.bs (I:Inv X pins σ H s) :∀b o,X.base.get? b=some o->s.heap.get? b=some o/\H b=none:=λ b o e=>⟨I.base.keep b o (I.ok.bs b o e).1 (I.ok.bs b o e).2 (I.ok.nofr e) (I.ok.noex b o e),I.base.free b o (I.ok.bs b o e).1 (I.ok.bs b o e).2 (I.ok.noex b o e)⟩
theorem Inv.bk (I:Inv X pins σ H s) :∀b o,X.base.get? b=some o->s.heap.get? b=some o:=λ b o e=>(I.bs b o e).1
theorem Inv.mod (I:Inv X pins σ H s):Mod X.K X.mg X.base:=I.ok.mod
theorem Inv.kIn (I:Inv X pins σ H s):X.K.In s.heap:=I.ok.mod.kin.keeps I.bk
theorem Inv.lt (I:Inv X pins σ H s):X.env.locals < s.heap.objs.size:=let ⟨_,hn,_⟩:=I.loc;hn.lt
theorem Inv.sz (I:Inv X pins σ H s):X.s₀.heap.objs.size<=s.heap.objs.size:=A0 I.ok.above (V2 I.lt)
theorem Inv.nofs (I:Inv X pins σ H s) {a:Addr} (h:s.heap.objs.size<=a):a∉X.fs:=λ c=>by obtain ⟨_,o,b,_⟩:=I.ok.funs.mem c;exact absurd (F1 (Q0 b) (A0 I.sz h)) (o4 _)
theorem Inv.cne (I:Inv X pins σ H s) :∀x c,X.env.cells.lookup x=some c->c≠X.env.locals:=λ x c e z=>by obtain ⟨v,o,b,a⟩:=I.cell x c e;obtain ⟨m,⟨g,h,i,d,f,_⟩,_⟩:=I.loc;rw [z,d] at b;cases b;rw [f] at a;cases a
theorem Inv.funs (I:Inv X pins σ H s):s.heap.FunFrames X.base X.outer:=by
 have all :∀(l:List Env),(∀b∈frs l,b∈X.fs)->X.s₀.heap.FunFrames X.base l->s.heap.FunFrames X.base l:=by
  intro l;induction l with
  | nil=>intro _ _;trivial
  | cons env r ih=>intro f m;obtain ⟨g,⟨L,o,a,h,j,i⟩,k⟩:=m;have c:L∈X.fs:=f L (by unfold frs;rw [u9,a];exact L0);obtain ⟨n,e⟩:=I.base.slot L o j (I.ok.frf L c) c λ z=>I.ok.exfs L z c;exact ⟨g,⟨L,_,a,h,e,i⟩,ih (λ b d=>f b (by unfold frs;rw [u9,a];exact V0 _ d)) k⟩
 exact all X.outer (λ _ d=>d) I.ok.funs
theorem Inv.stack (I:Inv X pins σ H s):s.heap.FunFrames X.base X.stack:=by
 rcases I.ok.stk with e|⟨e,hf⟩
 ·rw [e];exact I.funs
 ·rw [e];obtain ⟨m,a,_⟩:=I.loc;refine .cons (by rw [I.ok.kind];decide) hf a ?_ I.funs;exact Heap.get?_none_of_le (A0 I.ok.bsz I.ok.above)
theorem Inv.stkSub (I:Inv X pins σ H s) :∀b∈frs X.stack,b∈X.env.locals :: X.fs:=λ b a=>by
 rcases I.ok.stk with e|⟨e,hf⟩
 ·rw [e] at a;exact V0 _ a
 ·rw [e] at a;unfold frs at a;rw [u9,hf] at a;exact a
theorem Inv.stkFree (I:Inv X pins σ H s) :∀b∈frs X.stack,H b=none:=λ b a=>by
 rcases List.mem_cons.mp (I.stkSub b a) with e|a
 ·rw [e];exact I.free
 ·obtain ⟨_,o,c,_⟩:=I.ok.funs.mem a;exact I.base.free b o c (I.ok.frf b a) λ z=>I.ok.exfs b z a
theorem Inv.step {g':Array GenState} {t':Nat} {d':Drawn} {ch:List Addr} (I:Inv X pins σ H s)
  (hch :∀b∈ch,(b∈X.ex\/X.s₀.heap.objs.size<=b)/\b≠X.env.locals/\(∀x c,X.env.cells.lookup x=some c->c≠b)/\∀p∈X.pn++pins,p.1≠b)
  (keep :∀b o,b≠X.env.locals->b∉X.fs->b∉ch->s.heap.get? b=some o->H b=none->h'.get? b=some o)
  (slot :∀b o,b≠X.env.locals->b∈X.fs->b∉ch->s.heap.get? b=some o->H b=none->∃sl,h'.get? b=some { o with slots:=sl }) (free :∀b o,b∉ch->s.heap.get? b=some o->H b=none->H' b=none)
  (there :∀b o,b∉ch->s.heap.get? b=some o->∃o',h'.get? b=some o')
  (tups :∀b xs,H b=some (.tup xs)->H' b=some (.tup xs)) (frzs :∀b o u,H b=some (.frz o u)->H' b=some (.frz o u)) (tbls :∀b ps,H b=some (.tbl ps)->∃more,H' b=some (.tbl (ps++more)))
  (ns :∀m,s.heap.Ns X.env.locals m->h'.Ns X.env.locals m) (hok:HOk X.prog X.w H' h') (hg:o8 g') :
  Inv X pins σ H' { s with heap:=h',gens:=g',drawn:=d',toks:=t' }:=by
 have D :∀b o,X.s₀.heap.get? b=some o->b≠X.env.locals:=λ b o e=>C1 (F1 (Q0 e) I.ok.above);have y :∀b o,X.s₀.heap.get? b=some o->b∉X.ex->b∉ch:=λ b o e a g=>by
  rcases (hch b g).1 with z|z
  ·exact a z
  ·exact absurd (F1 (Q0 e) z) (o4 _)
 have E :∀x c,X.env.cells.lookup x=some c->∀v,s.heap.IsCell c v->h'.IsCell c v:=λ x c e v ⟨o,h,A⟩=>by
  have j:c∉ch:=λ z=>(hch c z).2.2.1 x c e rfl;by_cases hc:c∈X.fs
  ·obtain ⟨sl,q⟩:=slot c o (I.cne x c e) hc j h (I.freeC x c e);exact ⟨_,q,A⟩
  ·exact ⟨o,keep c o (I.cne x c e) hc j h (I.freeC x c e),A⟩
 refine ⟨I.ok,I.os,hg,⟨λ b o e n g a=>?_,λ b o e n g a=>?_,λ b o e n a=>?_,λ b o e a=>?_,λ b xs e=>tups b xs (I.base.tups b xs e),λ b o xs e=>frzs b o xs (I.base.frzs b o xs e),λ b ps e=>?_⟩,?_,λ x c e=>?_,?_,λ x c e=>?_,λ p B=>?_,hok,I.len⟩
 ·exact keep b o (D b o e) g (y b o e a) (I.base.keep b o e n g a) (I.base.free b o e n a)
 ·obtain ⟨sl,f⟩:=I.base.slot b o e n g a;obtain ⟨K,t⟩:=slot b _ (D b o e) g (y b o e a) f (I.base.free b o e n a);exact ⟨K,t⟩
 ·obtain ⟨o',f⟩:=I.base.there b o e a;exact free b o' (y b o e a) f (I.base.free b o e n a)
 ·obtain ⟨o',f⟩:=I.base.there b o e a;exact there b o' (y b o e a) f
 ·obtain ⟨J,f⟩:=I.base.tbls b ps e;obtain ⟨M,t⟩:=tbls b _ f;exact ⟨J++M,by rw [t,Array.append_assoc]⟩
 ·obtain ⟨m,F,L⟩:=I.loc;refine ⟨m,ns m F,λ i x v f t G=>?_⟩;obtain ⟨u,r,l⟩:=L i x v f t G;refine ⟨u,r,?_⟩;rcases l with l|⟨k,c,e,z⟩
  ·exact .inl l
  ·exact .inr ⟨k,c,e,E x c e _ z⟩
 ·obtain ⟨v,z⟩:=I.cell x c e;exact ⟨v,E x c e v z⟩
 ·obtain ⟨m,⟨o,_,_,h,_⟩,_⟩:=I.loc;exact free _ o (λ z=>(hch _ z).2.1 rfl) h I.free
 ·obtain ⟨v,o,h,A⟩:=I.cell x c e;exact free c o (λ z=>(hch c z).2.2.1 x c e rfl) h (I.freeC x c e)
 ·obtain ⟨e,n,ne,C,d⟩:=I.pin p B;have j:p.1∉ch:=λ z=>(hch p.1 z).2.2.2 p B rfl;exact ⟨keep p.1 p.2 ne C j e n,free p.1 p.2 j e n,ne,C,d⟩
theorem Inv.un {t':Nat} (I:Inv X pins σ H s) (u:Un X.fs [] H H' s.heap h') (hok:HOk X.prog X.w H' h'):Inv X pins σ H' { s with heap:=h',toks:=t' }:=by obtain ⟨m,⟨o,l,q,c,r⟩,_⟩:=id I.loc;obtain ⟨k,j⟩:=u.any c I.free (by simp);exact I.step (g':=s.gens) (d':=s.drawn) (ch:=[]) (λ _ z=>nomatch z) (λ b o _ a _ e n=>u.keep b o e n a (by simp)) (λ b o _ a _ e n=>u.slot b o e n a (by simp)) (λ b o _ e n=>u.free b o e n (by simp)) (λ b o _ e=>u.there b o e (by simp)) u.tups u.frzs u.tbls (λ t i=>by obtain ⟨p,f,h,d,g⟩:=i;rw [c] at d;cases d;exact ⟨_,f,h,j,g⟩) hok I.bare
theorem Inv.call {g':Array GenState} {t':Nat} {d':Drawn} {ch:List Addr} (I:Inv X pins σ H s) (u:Un (frs X.stack) ch H H' s.heap h') (hok:HOk X.prog X.w H' h') (hg:o8 g')
  (hch :∀b∈ch,(b∈X.ex\/X.s₀.heap.objs.size<=b)/\b≠X.env.locals/\(∀x c,X.env.cells.lookup x=some c->c≠b)/\∀p∈X.pn++pins,p.1≠b) :
  Inv X pins σ H' { s with heap:=h',gens:=g',drawn:=d',toks:=t' }:=by
 obtain ⟨m,⟨o,t,y,f,r⟩,_⟩:=id I.loc;obtain ⟨q,d⟩:=u.any f I.free λ z=>(hch _ z).2.1 rfl;exact I.step (ch:=ch) hch (λ b o d l a e n=>u.keep b o e n (λ z=>(List.mem_cons.mp (I.stkSub b z)).elim d l) a) (λ b o _ _ a e n=>u.any e n a) (λ b o a e n=>u.free b o e n a) (λ b o a e=>u.there b o e a) u.tups u.frzs u.tbls (λ A k=>by obtain ⟨v,h,j,g,i⟩:=k;rw [f] at g;cases g;exact ⟨_,h,j,d,i⟩) hok hg
theorem Inv.turned {t':Nat} {it:Addr} (I:Inv X pins σ H s) (k :∀b o,b≠it->s.heap.get? b=some o->h'.get? b=some o) (hn:H it=none) (hL:it≠X.env.locals)
  (h1:it∈X.ex\/X.s₀.heap.objs.size<=it) (h2 :∀x c,X.env.cells.lookup x=some c->c≠it) (h3 :∀p∈X.pn++pins,p.1≠it):Inv X pins σ H { s with heap:=h',toks:=t' }:=by
 have d :∀b u,H b=some u->b≠it:=λ b u e z=>by rw [z,hn] at e;cases e
 refine I.step (g':=s.gens) (d':=s.drawn) (ch:=[it]) (λ b j=>?_) (λ b o _ _ a e _=>k b o (λ z=>a (by simp [z])) e) (λ b o _ _ a e _=>⟨o.slots,k b o (λ z=>a (by simp [z])) e⟩) (λ _ _ _ _ n=>n)
  (λ b o a e=>⟨o,k b o (λ z=>a (by simp [z])) e⟩) (λ _ _ e=>e) (λ _ _ _ e=>e) (λ b l e=>⟨#[],by rw [e];simp⟩) (λ m f=>?_) (λ b u e=>?_) I.bare
 ·have e:b=it:=by simpa using j
  subst e;exact ⟨h1,hL,h2,h3⟩
 ·obtain ⟨o,h,g,i,r⟩:=f;exact ⟨o,h,g,k _ o (W3 hL) i,r⟩
 ·refine (I.hok b u e).stay (λ c v a q=>k c v ?_ q) (λ _ q=>q) λ _ _ q=>q;rcases a with z|z
  ·rw [z];exact d b u e
  ·exact d c _ z
theorem Inv.tok (I:Inv X pins σ H s) (t:Nat):Inv X pins σ H { s with toks:=t }:=I.un (h':=s.heap) (t':=t) Un.refl I.hok
theorem Inv.kept {t':Nat} (I:Inv X pins σ H s) (k :∀b u,s.heap.get? b=some u->h'.get? b=some u):Inv X pins σ H { s with heap:=h',toks:=t' }:=I.un (Un.kept k) (I.hok.kept k)
theorem Inv.laid {a:Addr} {o:HO} {t':Nat} (I:Inv X pins σ H s) (k :∀b u,s.heap.get? b=some u->h'.get? b=some u) (hp:s.heap.objs.size<=a) (new:ObjOk X.prog X.w (upd H a o) h' a o) :
  Inv X pins σ (upd H a o) { s with heap:=h',toks:=t' }:=I.un (Un.laid k hp (I.hok.fresh hp)) (I.hok.laid k hp new)
theorem Inv.write {x e:Addr} {o:HO} {t':Nat} (I:Inv X pins σ H s) (mu:Mut (H x)) (he:e=x\/H e=some (.own x)) (k :∀b u,b≠e->s.heap.get? b=some u->h'.get? b=some u) (heo :∃u,h'.get? e=some u)
  (new:ObjOk X.prog X.w (upd H x o) h' x o):Inv X pins σ (upd H x o) { s with heap:=h',toks:=t' }:=I.un (Un.write mu he k heo) (I.hok.write mu he k heo new)
theorem Inv.weak {σ':List (Option V)} (I:Inv X pins σ H s) (hl:σ'.length=σ.length) (w :∀(i:Nat) v,σ'[i]? = some (some v)->σ[i]? = some (some v)):Inv X pins σ' H s:=
 ⟨I.ok,I.os,I.bare,I.base,let ⟨m,hn,hl'⟩:=I.loc;⟨m,hn,λ i x v b c a=>hl' i x v b (w i v c) a⟩,I.cell,I.free,I.freeC,I.pin,I.hok,hl.trans I.len⟩
theorem Inv.pins_of {pins':zP} (I:Inv X pins σ H s) (h :∀p∈pins',s.heap.get? p.1=some p.2/\H p.1=none/\p.1≠X.env.locals/\p.1∉X.fs/\∀v,p.2.data≠.cell v):Inv X pins' σ H s:=
 ⟨I.ok,I.os,I.bare,I.base,I.loc,I.cell,I.free,I.freeC,λ p a=>(List.mem_append.mp a).elim (λ z=>I.pin p (K6 _ z)) (h p),I.hok,I.len⟩
theorem zhp {N:List Str} (hN:N.Nodup) {i j:Nat} {x:Str} (a:N[i]? = some x) (b:N[j]? = some x):i=j:=by obtain ⟨f,c⟩:=List.getElem?_eq_some_iff.mp a;obtain ⟨e,d⟩:=List.getElem?_eq_some_iff.mp b;exact (j0b hN).mp (c.trans d.symm)
theorem zih {M:Model} {A:V1} {E:Value->u0->Prop} {i:Nat} {x:Str} {v:V} {u:Value} {Q:Unit->u0->Prop} (I:Inv X pins σ H s) (hN:X.N.Nodup) (hi:X.N[i]? = some x) (hx:Loc X.env.scope x) (r:RelV v u)
  (h :∀s',Inv X pins (σ.set i (some v)) H s'->(∃a,X5 a s.heap s'.heap/\(a=X.env.locals\/X.env.cells.lookup x=some a))->Q () s') (hf:X.fn x=true\/X.env.scope.names.lookup x=some .local:=by first|exact .inl rfl|exact .inr rfl|assumption):W0 M A (storeName X.env x u) Q E s:=by
 obtain ⟨m,P,Z⟩:=id I.loc;have a3:(X.env.scope.kind == .class || (X.env.scope.kind == .module && X.env.locals != X.env.globals))=false:=by rw [I.ok.kind];rfl
 have a0:i < σ.length:=by rw [I.len];exact (List.getElem?_eq_some_iff.mp hi).1
 have cne:=I.cne;have W :∀{a:Addr} {C:Heap},(∃o,s.heap.get? a=some o/\H a=none)->X5 a s.heap C->HOk X.prog X.w H C:=λ {a C} ha f b ob e=>by
  obtain ⟨_,_,a1⟩:=ha;refine (I.hok b ob e).stay (λ c F l q=>(f.2 c ?_).trans q) (λ _ q=>q) λ _ _ q=>q;rintro rfl;rcases l with rfl|l
  ·rw [a1] at e;cases e
  ·rw [a1] at l;cases l
 rcases hx with hk|hk
 ·refine wpAny_storeName_local hk P (λ C a6 f=>?_) a3;obtain ⟨oL,_,_,a5,_⟩:=id P;refine h _ ⟨I.ok,I.os,I.bare,⟨λ b o e n B hx=>?_,λ b o e n B hx=>?_,I.base.free,λ b o e hx=>?_,I.base.tups,I.base.frzs,I.base.tbls⟩,⟨_,a6,λ j y S g t T=>?_⟩,λ y c e=>?_,I.free,I.freeC,λ p G=>?_,W ⟨oL,a5,I.free⟩ f,by simpa using I.len⟩ ⟨_,f,.inl rfl⟩
  ·exact (f.2 b (C1 (F1 (Q0 e) I.ok.above))).trans (I.base.keep b o e n B hx)
  ·obtain ⟨L,g⟩:=I.base.slot b o e n B hx;exact ⟨L,(f.2 b (C1 (F1 (Q0 e) I.ok.above))).trans g⟩
  ·obtain ⟨O,g⟩:=I.base.there b o e hx;exact ⟨O,(f.2 b (C1 (F1 (Q0 e) I.ok.above))).trans g⟩
  ·by_cases hj:j=i
   ·subst hj;rw [hi] at g;cases g;rw [j3c a0] at t;cases t;exact ⟨u,r,.inl ⟨hk,by simp⟩⟩
   ·rw [j4b (W3 hj)] at t;obtain ⟨R,K,q⟩:=Z j y S g t T;refine ⟨R,K,?_⟩;rcases q with ⟨k,e⟩|⟨k,c,e,z⟩
    ·refine .inl ⟨k,?_⟩;have:y≠x:=λ e=>hj (zhp hN g (e ▸ hi));simp [this,e]
    ·exact .inr ⟨k,c,e,z.sameBut f (cne y c e)⟩
  ·obtain ⟨F,z⟩:=I.cell y c e;exact ⟨F,z.sameBut f (cne y c e)⟩
  ·obtain ⟨e,n,ne,J,d⟩:=I.pin p G;exact ⟨(f.2 p.1 ne).trans e,n,ne,J,d⟩
 ·have U:X.fn x=true:=by
   rcases hf with z|z
   ·exact z
   ·rw [z] at hk;cases hk
  obtain ⟨c,l⟩:=I.ok.has x (.inl hk);obtain ⟨F,z⟩:=I.cell x c l;refine wpAny_storeName_cell I.ok.kind hk l z (λ C Y f=>?_);obtain ⟨oc,a2,a4⟩:=id z;refine h { s with heap:=C } ⟨I.ok,I.os,I.bare,⟨λ b o e n B hx=>?_,λ b o e n B hx=>?_,I.base.free,λ b o e hx=>?_,I.base.tups,I.base.frzs,I.base.tbls⟩,⟨m,P.sameBut f (W3 (cne x c l)),λ j y S g t T=>?_⟩,λ y D e=>?_,I.free,I.freeC,λ p G=>?_,W ⟨oc,a2,I.freeC x c l⟩ f,by simpa using I.len⟩ ⟨c,f,.inr l⟩
  ·exact (f.2 b (C1 (F1 (Q0 e) (I.ok.cab x c U l)))).trans (I.base.keep b o e n B hx)
  ·obtain ⟨L,g⟩:=I.base.slot b o e n B hx;exact ⟨L,(f.2 b (C1 (F1 (Q0 e) (I.ok.cab x c U l)))).trans g⟩
  ·obtain ⟨O,g⟩:=I.base.there b o e hx;exact ⟨O,(f.2 b (C1 (F1 (Q0 e) (I.ok.cab x c U l)))).trans g⟩
  ·by_cases hj:j=i
   ·subst hj;rw [hi] at g;cases g;rw [j3c a0] at t;cases t;exact ⟨u,r,.inr ⟨.inl hk,c,l,Y⟩⟩
   ·rw [j4b (W3 hj)] at t;obtain ⟨R,K,q⟩:=Z j y S g t T;refine ⟨R,K,?_⟩;rcases q with q|⟨k,D,e,z'⟩
    ·exact .inl q
    ·refine .inr ⟨k,D,e,z'.sameBut f ?_⟩;rintro rfl;exact hj (zhp hN g (I.ok.inj _ _ _ e l ▸ hi))
  ·by_cases hcc:D=c
   ·subst hcc;exact ⟨_,Y⟩
   ·obtain ⟨w2,z2⟩:=I.cell y D e;exact ⟨w2,z2.sameBut f hcc⟩
  ·obtain ⟨e,n,ne,J,d⟩:=I.pin p G;refine ⟨(f.2 p.1 ?_).trans e,n,ne,J,d⟩;intro q;rw [q,a2] at e;have q':oc=p.2:=P1 e;exact d F (by rw [<-q'];exact a4)
theorem zi0 {M:Model} {A:V1} {E:Value->u0->Prop} {i:Nat} {x:Str} {v:V} {u:Value} {Q:Unit->u0->Prop} (I:Inv X pins σ H s) (hN:X.N.Nodup) (hi:X.N[i]? = some x) (hx:Loc X.env.scope x) (r:RelV v u)
  (h :∀s',Inv X pins (σ.set i (some v)) H s'->Q () s') (hf:X.fn x=true\/X.env.scope.names.lookup x=some .local:=by first|exact .inl rfl|exact .inr rfl|assumption):W0 M A (storeName X.env x u) Q E s:=
 zih I hN hi hx r (λ s' a _=>h s' a) hf
theorem Inv.call' {s':u0} {ch:List Addr} (I:Inv X pins σ H s) (ho:s'.os=s.os) (u:Un (frs X.stack) ch H H' s.heap s'.heap) (hok:HOk X.prog X.w H' s'.heap) (hg:o8 s'.gens)
  (hch :∀b∈ch,(b∈X.ex\/X.s₀.heap.objs.size<=b)/\b≠X.env.locals/\(∀x c,X.env.cells.lookup x=some c->c≠b)/\∀p∈X.pn++pins,p.1≠b):Inv X pins σ H' s':=by
 obtain ⟨d,g',d',t',a⟩:=s';have e:a=s.os:=ho;subst e;exact I.call (g':=g') (t':=t') (d':=d') u hok hg hch
end
abbrev XK:=Value->Option Addr->Hp->Prop
abbrev St:=List (Option V)
abbrev VK:=V->Hp->Prop
abbrev TE:=St->Hp->VK->Prop
abbrev TT:=St->Hp->(Bool->Hp->Prop)->Prop
abbrev TA:=St->Hp->(List V->Hp->Prop)->Prop
structure Ends where
 nx:St->Hp->Prop
 rt:VK
 bk:St->Hp->Prop:=λ _ _=>False
 ct:St->Hp->Prop:=λ _ _=>False
abbrev TS:=Ends->St->Hp->Prop
def EP (X:Cx) (pins:zP) (σ:St) (Q:VK) (u:Value) (s':u0):Prop:=∃v H',Inv X pins σ H' s'/\RelV v u/\Q v H'
def TP (X:Cx) (pins:zP) (σ:St) (Q:Bool->Hp->Prop) (b:Bool) (s':u0):Prop:=∃H',Inv X pins σ H' s'/\Q b H'
def AP (X:Cx) (pins:zP) (σ:St) (Q:List V->Hp->Prop) (us:List Value) (s':u0):Prop:=∃vs H',Inv X pins σ H' s'/\Vals vs us/\Q vs H'
def SP (X:Cx) (pins:zP) (D:Ends) (f:Flow) (s':u0):Prop:=
 match f with
 | .next=>∃σ' H',Inv X pins σ' H' s'/\D.nx σ' H'
 | .brk=>∃σ' H',Inv X pins σ' H' s'/\D.bk σ' H'
 | .cont=>∃σ' H',Inv X pins σ' H' s'/\D.ct σ' H'
 | .ret u=>∃v σ' H',Inv X pins σ' H' s'/\RelV v u/\D.rt v H'
def PE (X:Cx) (e:Expr) (t:TE):Prop:=
 ∀(pins:zP) (s:u0) (σ:St) (H:Hp) (Q:VK),Inv X pins σ H s->t σ H Q->W0 (u1 X.prog X.w) X.A (C3 e X.env) (EP X pins σ Q) X.xe s
def PT (X:Cx) (e:Expr) (t:TT):Prop:=
 ∀(pins:zP) (s:u0) (σ:St) (H:Hp) (Q:Bool->Hp->Prop),Inv X pins σ H s->t σ H Q->W0 (u1 X.prog X.w) X.A (isTrue e X.env (C3 e X.env)) (TP X pins σ Q) X.xe s
def PW (X:Cx) (e:Expr) (t:TT):Prop:=
 ∀(whole:Sem Value) (pins:zP) (s:u0) (σ:St) (H:Hp) (Q:Bool->Hp->Prop),Inv X pins σ H s->t σ H Q->W0 (u1 X.prog X.w) X.A (isTrue e X.env whole) (TP X pins σ Q) X.xe s
theorem PW.pt {X:Cx} {e:Expr} {t:TT} (h:PW X e t):PT X e t:=h _
def PA (X:Cx) (es:List Expr) (t:TA):Prop:=
 ∀(pos:Pos) (pins:zP) (s:u0) (σ:St) (H:Hp) (Q:List V->Hp->Prop),Inv X pins σ H s->t σ H Q->W0 (u1 X.prog X.w) X.A (spliced (F4 pos (N1 es X.env))) (AP X pins σ Q) X.xe s
def PS (X:Cx) (st:Stmt) (t:TS):Prop:=
 ∀(pins:zP) (s:u0) (σ:St) (H:Hp) (D:Ends),Inv X pins σ H s->t D σ H->W0 (u1 X.prog X.w) X.A (exec st X.env) (SP X pins D) X.xe s
def PSs (X:Cx) (st:List Stmt) (t:TS):Prop:=
 ∀(pins:zP) (s:u0) (σ:St) (H:Hp) (D:Ends),Inv X pins σ H s->t D σ H->W0 (u1 X.prog X.w) X.A (execs st X.env) (SP X pins D) X.xe s
theorem thn {α:Type} {t:Sem α} {Q Q':α->u0->Prop} {M:Model} {A:V1} {E:Value->u0->Prop} {s:u0} (h:W0 M A t Q E s) (hQ :∀a s,Q a s->Q' a s):W0 M A t Q' E s:=j3 h hQ λ _ _ x=>x
section
variable {X:Cx}
def tVar (i:Nat):TE:=λ σ H Q=>∃v,σ[i]? = some (some v)/\Q v H
def tC (v:V):TE:=λ _ H Q=>Q v H
theorem pe_var {i:Nat} {x:Str} {pos:Pos} (hN:X.N[i]? = some x) (hv:Vis X.env.scope x) (hd:(x == ("__debug__" : Str))=false:=by decide) (hcd:(x == ("__classdict__" : Str))=false:=by decide):PE X (.Name x pos) (tVar i):=by
 intro f s σ H Q I h;obtain ⟨v,e,h⟩:=h;obtain ⟨m,g,j⟩:=I.loc;obtain ⟨u,r,l⟩:=j i x v hN e hv;have b:EP X f σ Q u s:=⟨v,H,I,r,h⟩
 rcases l with ⟨a,d⟩|⟨a,c,hc,hcell⟩
 ·exact wpAny_Name (wpAny_loadName_local I.ok.kind a g d b) hd
 ·rcases a with a|a
  ·exact wpAny_Name (wpAny_loadName_cell I.ok.kind a hc hcell b) hd
  ·exact wpAny_Name (wpAny_loadName_free I.ok.kind a hc hcell b hcd) hd
theorem pe_int {i j pos}:PE X (.Constant (.int i) j pos) (tC (.int i)):=λ _ _ _ H _ I h=>wpAny_Constant_int ⟨.int i,H,I.tok _,⟨_,rfl⟩,h⟩
theorem pe_bl {b j pos}:PE X (.Constant (.bool b) j pos) (tC (.bl b)):=λ _ _ _ H _ I h=>Constant_bool ⟨.bl b,H,I,rfl,h⟩
theorem pe_non {j pos}:PE X (.Constant .none j pos) (tC .non):=λ _ _ _ H _ I h=>Constant_none ⟨.non,H,I,rfl,h⟩
theorem pe_str {x j pos}:PE X (.Constant (.str x) j pos) (tC (.str x)):=λ _ _ _ H _ I h=>Calls.Constant_str ⟨.str x,H,I.tok _,⟨_,rfl⟩,h⟩
def Gl (X:Cx) (x:Str):Prop:=X.env.kindOf x=some .globalImplicit
theorem zgs {E:Value->u0->Prop} {pins:zP} {s:u0} {σ:St} {H:Hp} {x:Str} {u:Value} {pos:Pos} {Q:Value->u0->Prop} (I:Inv X pins σ H s) (hg:Gl X x) (hm:X.mg x=some u) (h:Q u s)
  (hd:(x == ("__debug__" : Str))=false:=by decide):W0 (u1 X.prog X.w) X.A (C3 (.Name x pos) X.env) Q E s:=
 j1b I.ok.kind hg (Calls.loadGlobal_global (by rw [I.ok.glob];exact I.mod.glob.keeps I.bk) hm h) hd
theorem ld_blt {E:Value->u0->Prop} {pins:zP} {s:u0} {σ:St} {H:Hp} {x:Str} {u:Value} {pos:Pos} {Q:Value->u0->Prop} (I:Inv X pins σ H s) (hg:Gl X x) (hm:X.mg x=none) (hv:F7 x=some u) (h:Q u s)
  (hn:x≠"__name__":=by decide) (hd:(x == ("__debug__" : Str))=false:=by decide):W0 (u1 X.prog X.w) X.A (C3 (.Name x pos) X.env) Q E s:=by
 obtain ⟨c,b,a⟩:=I.mod.blt;exact j1b I.ok.kind hg (Calls.loadGlobal_builtin (by rw [I.ok.glob];exact I.mod.glob.keeps I.bk) hm (by rw [I.ok.blt];exact b.keeps I.bk) ((a x hn).trans hv) h) hd
theorem z6t {x:Str} {v:V} {u:Value} {pos:Pos} (hg:Gl X x) (hm:X.mg x=some u) (r:RelV v u) (hd:(x == ("__debug__" : Str))=false:=by decide):PE X (.Name x pos) (tC v):=
 λ _ _ _ H _ I h=>zgs I hg hm ⟨v,H,I,r,h⟩ hd
theorem z37 {x:Str} {v:V} {u:Value} {pos:Pos} (hg:Gl X x) (hm:X.mg x=none) (hv:F7 x=some u) (r:RelV v u) (hn:x≠"__name__":=by decide) (hd:(x == ("__debug__" : Str))=false:=by decide):PE X (.Name x pos) (tC v):=
 λ _ _ _ H _ I h=>ld_blt I hg hm hv ⟨v,H,I,r,h⟩ hn hd
variable {a b:Expr} {ta tb:TE} {pos:Pos}
def PC (X:Cx) (op:CmpOp) (a b:Expr) (t:TE):Prop:=
 ∀(pins:zP) (s:u0) (σ:St) (H:Hp) (Q:VK),Inv X pins σ H s->t σ H Q->
  W0 (u1 X.prog X.w) X.A (C3 a X.env) (λ v s₁=>W0 (u1 X.prog X.w) X.A (C3 b X.env) (λ u s₂=>W0 (u1 X.prog X.w) X.A (B2 op v u) (EP X pins σ Q) X.xe s₂) X.xe s₁) X.xe s
def tB (t:TE):TT:=λ σ H Q=>t σ H λ x H1=>∃c,x=.bl c/\Q c H1
theorem pt_cmp {op:CmpOp} {t:TE} (h:PC X op a b t) (h1:t8 op b=false:=by first|exact nobehind _ (by decide) (by decide)|rfl):PT X (.Compare a [op] [b] pos) (tB t):=by intro e s σ H Q I g;refine wpAny_isTrue_Compare1 (thn (h e s σ H _ I g) λ v j h1=>thn h1 λ u i f=>thn f λ c k ⟨x,H1,I1,r1,q1⟩=>?_) h1;obtain ⟨d,rfl,q⟩:=q1;cases r1;exact y4 ⟨H1,I1,q⟩
theorem pt_val {e:Expr} {t:TE} (h:PE X e t) (he :∀whole,isTrue e X.env whole=(do let v <-whole;j38 e.pos;j15 [v] (truthy v)):=by intro _;rfl):PT X e (tB t):=by intro a s σ H Q I b;refine isTrue_plain (thn (h a s σ H _ I b) λ v c ⟨x,H1,I1,r1,q1⟩=>?_) (he _);obtain ⟨d,rfl,q⟩:=q1;cases r1;exact y4 ⟨H1,I1,q⟩
variable {tA tB':TT} {rest:List Expr}
def tAnd (t u:TT):TT:=λ σ H Q=>t σ H λ c H1=>if c=true then u σ H1 Q else Q false H1
def tOr (t u:TT):TT:=λ σ H Q=>t σ H λ c H1=>if c=true then Q true H1 else u σ H1 Q
def tNot (t:TT):TT:=λ σ H Q=>t σ H λ c H1=>Q (!c) H1
theorem zaj (ha:PT X a tA):PW X (.BoolOp .And [a] pos) tA:=by
 intro f b s σ H Q I h;refine isTrue_and (thn (ha b s σ H Q I h) λ c d e=>?_);cases c with
 | true=>exact isTrue_and_nil e
 | false=>exact e
theorem pw_or1 (ha:PT X a tA):PW X (.BoolOp .Or [a] pos) tA:=by
 intro f b s σ H Q I h;refine isTrue_or (thn (ha b s σ H Q I h) λ c d e=>?_);cases c with
 | false=>exact isTrue_or_nil e
 | true=>exact e
theorem pw_and (ha:PT X a tA) (hb:PW X (.BoolOp .And (b :: rest) pos) tB'):PW X (.BoolOp .And (a :: b :: rest) pos) (tAnd tA tB'):=by
 intro f d s σ H Q I h;refine isTrue_and (thn (ha d s σ H _ I h) λ c e ⟨H1,I1,q1⟩=>?_);cases c with
 | true=>exact hb f d e σ H1 Q I1 q1
 | false=>exact ⟨H1,I1,q1⟩
theorem pw_or (ha:PT X a tA) (hb:PW X (.BoolOp .Or (b :: rest) pos) tB'):PW X (.BoolOp .Or (a :: b :: rest) pos) (tOr tA tB'):=by
 intro f d s σ H Q I h;refine isTrue_or (thn (ha d s σ H _ I h) λ c e ⟨H1,I1,q1⟩=>?_);cases c with
 | true=>exact ⟨H1,I1,q1⟩
 | false=>exact hb f d e σ H1 Q I1 q1
theorem pt_not (ha:PT X a tA):PT X (.UnaryOp .Not a pos) (tNot tA):=by intro d s σ H Q I h;exact isTrue_not (ha d s σ H (λ c b=>Q (!c) b) I h)
def tAndV (ta tb:TE):TE:=λ σ H Q=>ta σ H λ x H1=>∃c,x=.bl c/\if c=true then tb σ H1 Q else Q (.bl false) H1
def tNotV (ta:TE):TE:=λ σ H Q=>ta σ H λ x H1=>∃c,x=.bl c/\Q (.bl (!c)) H1
theorem pe_one {op} {t:TE} (h:PE X a t):PE X (.BoolOp op [a] pos) t:=λ b s σ H Q I c=>BoolOp_one (h b s σ H Q I c)
theorem pe_and (ha:PE X a ta) (hb:PE X (.BoolOp .And (b :: rest) pos) tb):PE X (.BoolOp .And (a :: b :: rest) pos) (tAndV ta tb):=by
 intro e s σ H Q I h;refine BoolOp_and (thn (ha e s σ H _ I h) λ v f ⟨x,H1,I1,r1,d⟩=>?_);obtain ⟨c,rfl,d⟩:=d;cases r1;refine y4 ?_;cases c with
 | true=>exact hb e f σ H1 Q I1 d
 | false=>exact ⟨.bl false,H1,I1,rfl,d⟩
theorem pe_not (ha:PE X a ta):PE X (.UnaryOp .Not a pos) (tNotV ta):=by intro d s σ H Q I h;refine UnaryOp_ (thn (ha d s σ H _ I h) λ v e ⟨x,H1,I1,r1,b⟩=>?_);obtain ⟨c,rfl,b⟩:=b;cases r1;exact not_of (y4 ⟨.bl (!c),H1,I1,rfl,b⟩)
def tIf (t:TT) (ta tb:TE):TE:=λ σ H Q=>t σ H λ c H1=>if c=true then ta σ H1 Q else tb σ H1 Q
theorem zls {c:Expr} (hc:PT X c tA) (ha:PE X a ta) (hb:PE X b tb):PE X (.IfExp c a b pos) (tIf tA ta tb):=by
 intro e s σ H Q I h;refine wpAny_IfExp (thn (hc e s σ H _ I h) λ d f ⟨H1,I1,q1⟩=>?_);cases d with
 | true=>exact ha e f σ H1 Q I1 q1
 | false=>exact hb e f σ H1 Q I1 q1
end
def SqL (K:b0) (H:Hp) (a:Addr) (xs:List V):Prop:=
 Rd H a (.lst xs)\/
  ∃(o:Obj) (its:Array Value) (n:Nat),K.lookup a=some o/\o.cls=.type "list"/\o.dict=none/\o.data=.seq its n/\its.size<=sizeLine/\Vals xs its.toList
def SqT (K:b0) (H:Hp) (a:Addr) (xs:List V):Prop:=
 Rd H a (.tup xs)\/
  ∃(o:Obj) (its:Array Value) (n:Nat),K.lookup a=some o/\o.cls=.type "tuple"/\o.data=.seq its n/\its.size<=sizeLine/\Vals xs its.toList
noncomputable def absV:Value->Option V
 | .none=>some .non
 | .bool b=>some (.bl b)
 | .int i _=>some (.int i)
 | .str x _=>some (.str x)
 | .bytes b _=>some (.byt b)
 | .float b _=>some (.flt b)
 | .ref a=>some (.ref a)
 | .type n=>some (.ty n)
 | _=>none
theorem RelV.abs {x:V} {u:Value} (r:RelV x u):absV u=some x:=by
 cases x with
 | non=>cases r;rfl
 | bl _=>cases r;rfl
 | int _=>obtain ⟨t,rfl⟩:=r;rfl
 | str _=>obtain ⟨t,rfl⟩:=r;rfl
 | byt _=>obtain ⟨t,rfl⟩:=r;rfl
 | flt _=>obtain ⟨t,rfl⟩:=r;rfl
 | ref _=>cases r;rfl
 | ty _=>cases r;rfl
theorem RelV.inj {x y:V} {u:Value} (r:RelV x u) (q:RelV y u):x=y:=P1 (r.abs.symm.trans q.abs)
theorem Vals.inj :∀{xs ys:List V} {us:List Value},Vals xs us->Vals ys us->xs=ys
 | _,_,_,.nil,.nil=>rfl
 | _,_,_,.cons r t,.cons r' t'=>by rw [r.inj r',Vals.inj t t']
section
variable {X:Cx} {pins:zP} {σ:St} {H:Hp} {s:u0} {a:Addr} {xs ys:List V}
theorem SqL.of {K:b0} (h:H a=some (.lst xs)):SqL K H a xs:=.inl (.inl h)
theorem SqT.of {K:b0} (h:H a=some (.tup xs)):SqT K H a xs:=.inl (.inl h)
theorem Inv.list (I:Inv X pins σ H s) (h:SqL X.K H a xs) :∃its:List Value,Vals xs its/\PlainL s.heap a its.toArray/\xs.length<=sizeLine:=by
 rcases h with h|⟨o,its,n,hk,hc,hd,hs,hz,r⟩
 ·obtain ⟨z,its,n,r,e⟩:=h.ok I.hok;exact ⟨its,r,⟨_,n,e,rfl,rfl,rfl⟩,z⟩
 ·refine ⟨its.toList,r,⟨o,n,I.kIn a o hk,hc,hd,by simpa using hs⟩,?_⟩;have e:=r.length;simp only [P2] at e;omega
theorem Inv.tuple (I:Inv X pins σ H s) (h:SqT X.K H a xs) :∃its:List Value,Vals xs its/\IsTup s.heap a its.toArray/\xs.length<=sizeLine:=by
 rcases h with h|⟨o,its,n,hk,hc,hs,hz,r⟩
 ·obtain ⟨z,its,r,p⟩:=h.ok I.hok;exact ⟨its,r,p.1,z⟩
 ·refine ⟨its.toList,r,⟨o,I.kIn a o hk,hc,n,by simpa using hs⟩,?_⟩;have e:=r.length;simp only [P2] at e;omega
theorem Inv.list_inj (I:Inv X pins σ H s) (h:SqL X.K H a xs) (h':SqL X.K H a ys):xs=ys:=by
 obtain ⟨g,r,⟨o,n,e,_,_,d⟩,_⟩:=I.list h;obtain ⟨i,f,⟨j,k,c,_,_,b⟩,_⟩:=I.list h';rw [e] at c;cases c;rw [d] at b;injection b with d1 _;have:g=i:=by simpa using congrArg Array.toList d1
 subst this;exact r.inj f
theorem Inv.tuple_inj (I:Inv X pins σ H s) (h:SqT X.K H a xs) (h':SqT X.K H a ys):xs=ys:=by
 obtain ⟨g,r,⟨o,e,_,n,d⟩,_⟩:=I.tuple h;obtain ⟨i,f,⟨j,c,_,k,b⟩,_⟩:=I.tuple h';rw [e] at c;cases c;rw [d] at b;injection b with d1 _;have:g=i:=by simpa using congrArg Array.toList d1
 subst this;exact r.inj f
end
abbrev Cx.wish (X:Cx) (E:Value->u0->Prop):Cx:={ X with xe:=E }
abbrev Cx.nox (X:Cx):Cx:=X.wish λ _ _=>False
theorem Cx.Ok.wish {X:Cx} (ok:X.Ok) (E:Value->u0->Prop):(X.wish E).Ok:=
 ⟨ok.mod,ok.kind,ok.glob,ok.blt,ok.above,ok.inj,ok.has,ok.cab,ok.hd,ok.frames,ok.stk,ok.exf,ok.bs,ok.bsz,ok.noex,ok.exfs,ok.funs,ok.frf⟩
theorem Cx.Ok.unwish {X:Cx} {E:Value->u0->Prop} (ok:(X.wish E).Ok):X.Ok:=
 ⟨ok.mod,ok.kind,ok.glob,ok.blt,ok.above,ok.inj,ok.has,ok.cab,ok.hd,ok.frames,ok.stk,ok.exf,ok.bs,ok.bsz,ok.noex,ok.exfs,ok.funs,ok.frf⟩
section
variable {X:Cx} {pins:zP} {σ:St} {H:Hp} {s:u0} {E:Value->u0->Prop}
theorem Inv.wish (I:Inv X pins σ H s) (E:Value->u0->Prop):Inv (X.wish E) pins σ H s:=⟨I.ok.wish E,I.os,I.bare,I.base,I.loc,I.cell,I.free,I.freeC,I.pin,I.hok,I.len⟩
theorem Inv.unwish (I:Inv (X.wish E) pins σ H s):Inv X pins σ H s:=⟨I.ok.unwish,I.os,I.bare,I.base,I.loc,I.cell,I.free,I.freeC,I.pin,I.hok,I.len⟩
theorem SP.unwish {D:Ends} {f:Flow} {s':u0} (h:SP (X.wish E) pins D f s'):SP X pins D f s':=by
 cases f with
 | next=>obtain ⟨a,b,I,q⟩:=h;exact ⟨a,b,I.unwish,q⟩
 | brk=>obtain ⟨a,b,I,q⟩:=h;exact ⟨a,b,I.unwish,q⟩
 | cont=>obtain ⟨a,b,I,q⟩:=h;exact ⟨a,b,I.unwish,q⟩
 | ret u=>obtain ⟨v,a,b,I,r,q⟩:=h;exact ⟨v,a,b,I.unwish,r,q⟩
theorem PSs.nox {st:List Stmt} {t:TS} (h:PSs X.nox st t):PSs X st t:=λ a s σ H D I b=>j3 (h a s σ H D (I.wish _) b) (λ _ _ q=>q.unwish) λ _ _ z=>Q3 z
end
section
variable {X:Cx} {st:Stmt} {rest:List Stmt} {t u:TS} {e:Expr} {te:TE} {pos:Pos}
def tNext:TS:=λ D σ H=>D.nx σ H
def tSeq (t u:TS):TS:=λ D σ H=>t { D with nx:=u D } σ H
theorem z0e:PSs X [] tNext:=λ _ _ σ H _ I h=>d9 ⟨σ,H,I,h⟩
theorem z02 (h1:PS X st t) (h2:PSs X rest u):PSs X (st :: rest) (tSeq t u):=by
 intro a s σ H D I h;refine wpAny_execs_cons (thn (h1 a s σ H { D with nx:=u D } I h) λ f d q=>?_);cases f with
 | next=>obtain ⟨c,e,b,q⟩:=q;exact h2 a d c e D b q
 | ret v=>exact q
 | brk=>exact q
 | cont=>exact q
theorem z04 (h1:PS X st t):PSs X [st] t:=by
 intro a s σ H D I h;refine wpAny_execs_cons (thn (h1 a s σ H D I h) λ f b q=>?_);cases f with
 | next=>exact d9 q
 | ret v=>exact q
 | brk=>exact q
 | cont=>exact q
theorem Inv.quiet {pins:zP} {σ:St} {H:Hp} {s:u0} (I:Inv X pins σ H s):interactive X.env=false:=by simp [interactive,I.ok.kind]
def tDrop (te:TE):TS:=λ D σ H=>te σ H λ _ H1=>D.nx σ H1
theorem z2b (he:PE X e te) (hs:R6 e none pos.line X.env=Z2 false:=by rfl):PS X (.Expr e pos) (tDrop te):=by intro a s σ H D I h;exact wpAny_Expr_any (thn (he a s σ H _ I h) λ v b ⟨x,H1,I1,r1,q1⟩=>⟨σ,H1,I1,q1⟩) I.quiet hs
def tRet (te:TE):TS:=λ D σ H=>te σ H D.rt
theorem ps_ret (he:PE X e te):PS X (.Return (some e) pos) (tRet te):=by intro a s σ H D I h;exact wpAny_Return_some (thn (he a s σ H _ I h) λ v b ⟨x,H1,I1,r1,q1⟩=>⟨x,σ,H1,I1,r1,q1⟩)
def tIfS (c:TT) (t u:TS):TS:=λ D σ H=>c σ H λ b H1=>if b=true then t D σ H1 else u D σ H1
theorem ps_if {c:Expr} {a b:List Stmt} {tc:TT} (hc:PT X c tc) (ha:PSs X a t) (hb:PSs X b u):PS X (.If c a b pos) (tIfS tc t u):=by
 intro e s σ H D I h;refine wpAny_If (thn (hc e s σ H _ I h) λ d f ⟨H1,I1,q1⟩=>?_);cases d with
 | true=>exact ha e f σ H1 D I1 q1
 | false=>exact hb e f σ H1 D I1 q1
def tNever:TS:=λ _ _ _=>False
theorem z92:PS X st tNever:=λ _ _ _ _ _ _ h=>h.elim
end
abbrev TG:=V->St->Hp->(St->Hp->Prop)->Prop
abbrev TGs:=List V->St->Hp->(St->Hp->Prop)->Prop
def PG (X:Cx) (target:Expr) (t:TG):Prop:=
 ∀(pins:zP) (s:u0) (σ:St) (H:Hp) (v:V) (u:Value) (Q:St->Hp->Prop),Inv X pins σ H s->RelV v u->t v σ H Q->
  W0 (u1 X.prog X.w) X.A (assign target X.env u) (λ _ s'=>∃σ' H',Inv X pins σ' H' s'/\Q σ' H') X.xe s
def PGs (X:Cx) (ts:List Expr) (t:TGs):Prop:=
 ∀(pins:zP) (s:u0) (σ:St) (H:Hp) (vs:List V) (us:List Value) (Q:St->Hp->Prop),Inv X pins σ H s->Vals vs us->t vs σ H Q->
  W0 (u1 X.prog X.w) X.A (assignInOrder ((Z8 ts X.env).map (·.2)) us) (λ _ s'=>∃σ' H',Inv X pins σ' H' s'/\Q σ' H') X.xe s
abbrev TSet:=V->V->V->Hp->(Hp->Prop)->Prop
def PSet (X:Cx) (t:TSet):Prop:=
 ∀(pins:zP) (s:u0) (σ:St) (H:Hp) (o i v:V) (ov iv u:Value) (Q:Hp->Prop),Inv X pins σ H s->RelV o ov->RelV i iv->RelV v u->t o i v H Q->
  W0 (u1 X.prog X.w) X.A (setItem ov iv u) (λ _ s'=>∃H',Inv X pins σ H' s'/\Q H') X.xe s
section
variable {X:Cx} {pos:Pos}
def gName (i:Nat):TG:=λ v σ H Q=>Q (σ.set i (some v)) H
theorem z0g {i:Nat} {x:Str} (hN:X.N.Nodup) (hi:X.N[i]? = some x) (hx:Loc X.env.scope x) (hf:X.fn x=true\/X.env.scope.names.lookup x=some .local:=by first|exact .inl rfl|exact .inr rfl|assumption):PG X (.Name x pos) (gName i):=by intro b s σ H v u Q I r h;exact wpAny_assign_Name (zi0 I hN hi hx r (λ c a=>⟨_,H,a,h⟩) hf)
def gNil:TGs:=λ vs σ H Q=>vs=[]/\Q σ H
def gCons (t:TG) (u:TGs):TGs:=λ vs σ H Q=>∃v r,vs=v :: r/\t v σ H λ σ' H'=>u r σ' H' Q
theorem z0x:PGs X [] gNil:=by intro b s σ H c a Q I r h;obtain ⟨e,h⟩:=h;subst e;cases r;exact assignInOrder_nil ⟨σ,H,I,h⟩
theorem z0d {e:Expr} {es:List Expr} {t:TG} {u:TGs} (h1:PG X e t) (h2:PGs X es u)
  (hs:(Z8 (e :: es) X.env).map (·.2)=assign e X.env :: (Z8 es X.env).map (·.2):=by rfl):PGs X (e :: es) (gCons t u):=by
 intro a s σ H g d Q I r h;obtain ⟨v,f,c,h⟩:=h;subst c;cases r with
 | cons r rr=>rw [hs];refine assignInOrder_cons (thn (h1 a s σ H _ _ _ I r h) λ _ b ⟨σ1,H1,I1,q1⟩=>?_);exact h2 a b σ1 H1 _ _ Q I1 rr q1
def gTup (K:b0) (n:Nat) (t:TGs):TG:=λ v σ H Q=>∃a xs,v=.ref a/\SqT K H a xs/\xs.length=n/\t xs σ H Q
theorem pg_tup {es:List Expr} {k:Nat} {t:TGs} {n:Nat} (hc:X.calm=true) (h:PGs X es t)
  (hn:(Z8 es X.env).length=n:=by rfl) (hst:(Z8 es X.env).findIdx? (·.1)=none:=by rfl):PG X (.Tuple es k pos) (gTup X.K n t):=by
 intro f s σ H v u Q I r c;obtain ⟨a,w,p,q,l,c⟩:=c;subst p;cases r;obtain ⟨y,d,j,x⟩:=I.tuple q;refine assign_Tuple_tuple (I.ok.hd hc) j (by simp [hn,<-l,d.length]) hst λ g i=>?_;have m:Inv X f σ H { s with heap:=g }:=I.kept (t':=s.toks) λ b o e=>i b o (C1 (Q0 e)) e;exact h f _ σ H w _ Q m (by simpa using d) c
def gSub (to ti:TE) (t:TSet):TG:=λ v σ H Q=>to σ H λ o H1=>ti σ H1 λ i H2=>t o i v H2 λ H3=>Q σ H3
theorem pg_sub {o i:Expr} {to ti:TE} {t:TSet} (ho:PE X o to) (hi:PE X i ti) (hs:PSet X t)
  (ha :∀v,assign (.Subscript o i pos) X.env v=(do
   let ov <-j15 [v] (C3 o X.env)
   let iv <-j15 [v,ov] (C3 i X.env)
   j38 pos
   j15 [v,ov,iv] (setItem ov iv v)
   release [v,ov,iv] []):=by intro _;rfl):PG X (.Subscript o i pos) (gSub to ti t):=by
 intro a s σ H v u Q I r h;rw [ha];refine d0 (D4 (thn (ho a s σ H _ I h) λ ov c ⟨x,H1,I1,r1,q1⟩=>?_));refine d0 (D4 (thn (hi a c σ H1 _ I1 q1) λ iv b ⟨y,H2,I2,r2,q2⟩=>?_));refine d0 (wpAny_standAt (d0 (D4 (thn (hs a b σ H2 x y v ov iv u _ I2 r1 r2 r q2) λ _ d ⟨H3,I3,q3⟩=>?_))));exact wpAny_release ⟨σ,H3,I3,q3⟩
def tAsg (te:TE) (g:TG):TS:=λ D σ H=>te σ H λ x H1=>g x σ H1 D.nx
theorem ps_asg {tg e:Expr} {te:TE} {g:TG} (he:PE X e te) (hg:PG X tg g) (hs:swapsWithSole [tg] e pos.line X.env=Z2 false:=by rfl) (hw:swappedStores [tg] e X.env=Z2 none:=by rfl)
  (h1:(Z8 [tg] X.env).map (·.2)=[assign tg X.env]:=by rfl):PS X (.Assign [tg] e pos) (tAsg te g):=by
 intro a s σ H D I h;refine wpAny_Assign_stores (thn (he a s σ H _ I h) λ v b ⟨x,H1,I1,r1,q1⟩=>?_) hs hw;rw [h1];exact thn (hg a b σ H1 x v _ I1 r1 q1) λ _ c q=>q
theorem ps_set {i:Nat} {x:Str} {e:Expr} {te:TE} {pos':Pos} (hN:X.N.Nodup) (hi:X.N[i]? = some x) (hx:Loc X.env.scope x) (he:PE X e te) (hs:R6 e (some (.Name x pos')) pos.line X.env=Z2 false:=by rfl) (hf:X.fn x=true\/X.env.scope.names.lookup x=some .local:=by first|exact .inl rfl|exact .inr rfl|assumption) :
  PS X (.Assign [.Name x pos'] e pos) (tAsg te (gName i)):=by
 intro a s σ H D I h;refine wpAny_Assign_Name (thn (he a s σ H _ I h) λ v d ⟨y,H1,I1,r1,q1⟩=>?_) hs;exact zi0 I1 hN hi hx r1 (λ c b=>⟨_,H1,b,q1⟩) hf
noncomputable def tWhile (c:TT) (tb:TS):TS:=λ D σ H=>∃W:Nat->St->Hp->Prop,(∃m,W m σ H)/\∀m σ H,W m σ H->
 c σ H λ b H1=>if b=true then∃N:St->Hp->Prop,(∀σ' H',N σ' H'->∃m',m' < m/\W m' σ' H')/\tb { D with nx:=N,ct:=N,bk:=D.nx } σ H1 else D.nx σ H1
theorem zfk {c:Expr} {body:List Stmt} {tc:TT} {tb:TS} (hp:PassesOwn (u1 X.prog X.w) X.A X.env X.xe) (hc:PT X c tc) (hb:PSs X body tb):PS X (.While c body [] pos) (tWhile tc tb):=by
 intro m s σ H D I h;obtain ⟨W,⟨t,x⟩,r⟩:=h;refine wpAny_While (codeAny_whileLoop (λ n y=>∃σ' H',Inv X m σ' H' y/\W n σ' H') ?_ t ⟨σ,H,I,x⟩);rintro n u ⟨σ1,H1,I1,w1⟩;refine B5 hp (thn (hc m u σ1 H1 _ I1 (r n σ1 H1 w1)) λ b q ⟨H2,I2,g⟩=>?_);cases b with
 | true=>
  obtain ⟨N,p,g⟩:=g;rw [if_pos rfl];refine B5 hp (thn (hb m q σ1 H2 _ I2 g) λ f z e=>?_);cases f with
  | next=>obtain ⟨a,d,i,j⟩:=e;obtain ⟨l,k,o⟩:=p a d j;exact ⟨l,k,a,d,i,o⟩
  | cont=>obtain ⟨a,d,i,j⟩:=e;obtain ⟨l,k,o⟩:=p a d j;exact ⟨l,k,a,d,i,o⟩
  | brk=>exact e
  | ret v=>exact e
 | false=>rw [if_neg N0];exact d9 ⟨σ1,H2,I2,g⟩
end
structure It where
 go:Nat->Hp->Prop
 yld:Nat->Hp->V->Hp->Prop
 stop:Nat->Hp->Prop
def FpOk (X:Cx) (pins:zP) (H:Hp) (b:Addr):Prop:=
 H b=none/\b≠X.env.locals/\b∉X.fs/\(b∈X.ex\/X.s₀.heap.objs.size<=b)/\(∀x c,X.env.cells.lookup x=some c->c≠b)/\∀p∈X.pn++pins,p.1≠b
theorem Inv.fpOk {X:Cx} {pins:zP} {σ:St} {H H':Hp} {s:u0} {b:Addr} (I:Inv X pins σ H s) (hb:s.heap.objs.size<=b) (hn:H' b=none):FpOk X pins H' b:=by
 refine ⟨hn,i4 (F1 I.lt hb),I.nofs hb,.inr (A0 I.sz hb),λ x c e z=>?_,λ p a z=>?_⟩
 ·obtain ⟨v,q⟩:=I.cell x c e;exact absurd (F1 q.lt (by rw [z];exact hb)) (o4 _)
 ·exact absurd (F1 (Q0 (I.pin p a).1) (by rw [z];exact hb)) (o4 _)
structure Turn (P:Program) (w:R0) (K:b0) (tg:Expr) (J:It) (fp:List Addr) (it:Addr) (tn:Nat->Heap->Prop):Prop where
 mem:it∈fp
 obj :∀i h,tn i h->∀b∈fp,∃o,h.get? b=some o/\∀v,o.data≠.cell v
 keep :∀i h h',tn i h->(∀b∈fp,∀o,h.get? b=some o->h'.get? b=some o)->tn i h'
 item :∀(X:Cx),X.prog=P->X.w=w->X.K=K->X.calm=true->∀(i:Nat) (pins:zP) (s:u0) (σ:St) (H:Hp) (E:Value->u0->Prop),Inv X pins σ H s->(∀b∈fp,FpOk X pins H b)->tn i s.heap->J.go i H->
  W0 (u1 P w) X.A (j3i (.ref it)) (λ r s1=>∃u,r=some u/\
   W0 (u1 P w) X.A (j9 tg (.ref it) u) (λ _ s2=>∃x H',Inv X pins σ H' s2/\RelV x u/\J.yld i H x H'/\tn (i + 1) s2.heap/\∀b∈fp,H' b=none) E s1) E s
 done :∀(X:Cx),X.prog=P->X.w=w->X.K=K->X.calm=true->∀(i:Nat) (pins:zP) (s:u0) (σ:St) (H:Hp) (E:Value->u0->Prop),Inv X pins σ H s->(∀b∈fp,FpOk X pins H b)->tn i s.heap->J.stop i H->
  W0 (u1 P w) X.A (j3i (.ref it)) (λ r s1=>r=none/\Inv X pins σ H s1) E s
 self :∀(A:V1) (i:Nat) (s:u0) (Q:Value->u0->Prop) (E:Value->u0->Prop),tn i s.heap->Q (.ref it) s->W0 (u1 P w) A (pyIter (.ref it)) Q E s
abbrev TI:=St->Hp->(It->Hp->Prop)->Prop
def PIE (X:Cx) (pins:zP) (σ:St) (tg:Expr) (R:It->Hp->Prop) (itv:Value) (s2:u0):Prop:=
 ∃(it:Addr) (fp:List Addr) (tn:Nat->Heap->Prop) (J:It) (H':Hp),itv=.ref it/\Inv X pins σ H' s2/\Turn X.prog X.w X.K tg J fp it tn/\tn 0 s2.heap/\(∀b∈fp,FpOk X pins H' b)/\R J H'
def PI (X:Cx) (tg iter:Expr) (wi:TI):Prop:=
 ∀(pins:zP) (s:u0) (σ:St) (H:Hp) (R:It->Hp->Prop),Inv X pins σ H s->wi σ H R->
  W0 (u1 X.prog X.w) X.A (C3 iter X.env) (λ v s1=>W0 (u1 X.prog X.w) X.A (pyIter v) (PIE X pins σ tg R) X.xe s1) X.xe s
theorem go_of {M:Model} {A:V1} {E:Value->u0->Prop} {s:u0} {tg:Expr} {it:Addr} {u:Value} {o:Obj} {n:String} {vs:Array Value} {Q:Unit->u0->Prop} (ho:s.heap.get? it=some o) (hc:o.cls=.type n) (hd:o.data=.fields vs)
    (hn:["enumerate","zip","dict_itemiterator","dict_reverseitemiterator","odict_iterator","itertools.zip_longest","itertools.pairwise"].contains n=false) (hQ:Q () s):W0 M A (j9 tg (.ref it) u) Q E s:=by
  unfold j9;cases tg<;>first
    | exact F0 hQ
    | (cases u<;>first
        | exact F0 hQ
        | (refine d0 (wpAny_load ho ?_)
           rw [hc,hd];show W0 M A (if (["enumerate","zip","dict_itemiterator","dict_reverseitemiterator","odict_iterator","itertools.zip_longest","itertools.pairwise"].contains n && vs[0]? == some (j1h _))=true then _ else _) Q E s;rw [if_neg (by intro h;rw [hn,i7] at h;cases h)];exact F0 hQ))
def Itl (K:b0) (a:Addr):It:=
 ⟨λ i H=>∃xs x,SqL K H a xs/\xs[i]? = some x,λ i H x H'=>H'=H/\∀xs,SqL K H a xs->xs[i]? = some x,λ i H=>∃xs,SqL K H a xs/\xs.length<=i⟩
def Itt (K:b0) (a:Addr):It:=
 ⟨λ i H=>∃xs x,SqT K H a xs/\xs[i]? = some x,λ i H x H'=>H'=H/\∀xs,SqT K H a xs->xs[i]? = some x,λ i H=>∃xs,SqT K H a xs/\xs.length<=i⟩
def Itr (lo:Int) (n:Nat):It:=⟨λ i _=>i < n,λ i H x H'=>H'=H/\x=.int (lo + i),λ i _=>n<=i⟩
theorem zir {P:Program} {w:R0} {K:b0} {tg:Expr} (a it:Addr):Turn P w K tg (Itl K a) [it] it (λ i h=>h.IsListIter it a i) where
 mem:=by simp
 obj:=λ i h f b g=>by
  have e:b=it:=by simpa using g
  subst e;obtain ⟨o,e,c,d⟩:=f;exact ⟨o,e,λ v z=>by rw [d] at z;cases z⟩
 keep:=λ i h j f k=>f.at λ o e=>k it (by simp) o e
 item:=by intro X C y D L i M s σ H E I l f n;subst C y D;obtain ⟨Y,x,m,B⟩:=n;obtain ⟨T,A,p,Q⟩:=I.list m;obtain ⟨u,S,R⟩:=A.get B;obtain ⟨G,r,N,t,F,q⟩:=l it (by simp);refine wpAny_pyNext_list_item f p.isList (x:=u) (by simpa using S) λ j J O=>?_;have U:Inv X M σ H { s with heap:=j }:=I.turned (t':=s.toks) (λ b o g e=>(O.2 b g).trans e) G r t F q;obtain ⟨o,e,c,d⟩:=id J;exact ⟨u,rfl,go_of (s:={ s with heap:=j }) e c d (by decide) ⟨x,H,U,R,⟨rfl,λ Z V=>by rw [I.list_inj V m];exact B⟩,J,λ b g=>(l b g).1⟩⟩
 done:=by intro X C y D L i M s σ H E I l f n;subst C y D;obtain ⟨Y,m,B⟩:=n;obtain ⟨T,A,p,Q⟩:=I.list m;obtain ⟨G,r,N,t,F,q⟩:=l it (by simp);have hl:=A.length;exact wpAny_pyNext_list_end (I.ok.hd L) f p.isList (by simp;omega) λ j W=>⟨rfl,I.turned (t':=s.toks) (λ b o g e=>W b o g e) G r t F q⟩
 self:=λ _ _ _ _ _ f h=>wpAny_pyIter_listiter f h
theorem zgq {P:Program} {w:R0} {K:b0} {tg:Expr} (a it:Addr):Turn P w K tg (Itt K a) [it] it (λ i h=>h.IsTupleIter it a i) where
 mem:=by simp
 obj:=λ i h f b g=>by
  have e:b=it:=by simpa using g
  subst e;obtain ⟨o,e,c,d⟩:=f;exact ⟨o,e,λ v z=>by rw [d] at z;cases z⟩
 keep:=λ i h j f k=>f.at λ o e=>k it (by simp) o e
 item:=by intro X C y D M i N s σ H E I l f n;subst C y D;obtain ⟨Y,x,m,B⟩:=n;obtain ⟨F,A,p,R⟩:=I.tuple m;obtain ⟨u,T,S⟩:=A.get B;obtain ⟨J,r,O,t,G,q⟩:=l it (by simp);refine wpAny_pyNext_tuple_item f (show s.heap.IsTuple a F.toArray from p) (x:=u) (by simpa using T) λ j L Q=>?_;have U:Inv X N σ H { s with heap:=j }:=I.turned (t':=s.toks) (λ b o g e=>(Q.2 b g).trans e) J r t G q;obtain ⟨o,e,c,d⟩:=id L;exact ⟨u,rfl,go_of (s:={ s with heap:=j }) e c d (by decide) ⟨x,H,U,S,⟨rfl,λ Z V=>by rw [I.tuple_inj V m];exact B⟩,L,λ b g=>(l b g).1⟩⟩
 done:=by intro X C y D M i N s σ H E I l f n;subst C y D;obtain ⟨Y,m,B⟩:=n;obtain ⟨F,A,p,R⟩:=I.tuple m;obtain ⟨J,r,O,t,G,q⟩:=l it (by simp);have hl:=A.length;exact wpAny_pyNext_tuple_end (I.ok.hd M) f (show s.heap.IsTuple a F.toArray from p) (by simp;omega) λ j W=>⟨rfl,I.turned (t':=s.toks) (λ b o g e=>W b o g e) J r t G q⟩
 self:=λ _ _ _ _ _ f h=>wpAny_pyIter_tupleiter f h
theorem zfl {P:Program} {w:R0} {K:b0} {tg:Expr} (it:Addr) (lo:Int) (n:Nat):Turn P w K tg (Itr lo n) [it] it (λ i h=>IsRangeIter h it (lo + (i:Nat) * 1) ((n:Int) - (i:Nat)) 1) where
 mem:=by simp
 obj:=λ i h a b c=>by
  have e:b=it:=by simpa using c
  subst e;exact ⟨_,a,λ v z=>by have L:j4c _=Data.cell v:=z;cases L⟩
 keep:=λ i h d a k=>k it (by simp) _ a
 item:=by intro X r p u q i C s σ H E I f a g;subst r p u;obtain ⟨y,l,D,m,x,j⟩:=f it (by simp);have W:=Walks.range (prog:=X.prog) (w:=X.w) (I.ok.hd q) it lo 1 n;refine W.item i s _ _ g a λ v d B G A F=>?_;obtain ⟨t,rfl⟩:=G;have J:Inv X C σ H { s with heap:=d,toks:=B }:=I.turned (λ b o c e=>F b o (by simpa using c) e) y l m x j;refine ⟨_,rfl,go_of (s:={ s with heap:=d,toks:=B }) (n:="range_iterator") A rfl rfl (by decide) ⟨.int (lo + i),H,J,⟨t,?_⟩,⟨rfl,rfl⟩,A,λ b c=>(f b c).1⟩⟩;rw [Int.mul_one]
 done:=by intro X r p u q i C s σ H E I f a g;subst r p u;obtain ⟨y,l,D,m,x,j⟩:=f it (by simp);exact wpAny_pyNext_range_end (I.ok.hd q) a (by have:n<=i:=g;omega) λ d M=>⟨rfl,I.turned (t':=s.toks) (λ b o c e=>M b o c e) y l m x j⟩
 self:=λ _ _ _ _ _ a h=>wpAny_pyIter_rangeiter a h
section
variable {X:Cx} {tg:Expr}
def iList (K:b0) (tl:TE):TI:=λ σ H R=>tl σ H λ x H1=>∃a,x=.ref a/\(∃xs,SqL K H1 a xs)/\R (Itl K a) H1
def iTup (K:b0) (tl:TE):TI:=λ σ H R=>tl σ H λ x H1=>∃a,x=.ref a/\(∃xs,SqT K H1 a xs)/\R (Itt K a) H1
theorem z17 {l:Expr} {tl:TE} (hl:PE X l tl):PI X tg l (iList X.K tl):=by
 intro g s σ H R I h;refine thn (hl g s σ H _ I h) λ v c ⟨x,H1,I1,r1,q1⟩=>?_;obtain ⟨a,e,⟨m,f⟩,q⟩:=q1;subst e;cases r1;obtain ⟨k,j,p,i⟩:=I1.list f;refine j12 p.isList ?_;refine ⟨c.heap.objs.size,[c.heap.objs.size],_,_,H1,rfl,I1.kept (t':=c.toks) λ b o e=>C0 _ e,zir a _,⟨_,Y0 _ rfl,rfl,rfl⟩,λ b d=>?_,q⟩;have e:b=c.heap.objs.size:=by simpa using d
 subst e;exact I1.fpOk (t0 _) (I1.hok.fresh (t0 _))
theorem pi_tup {l:Expr} {tl:TE} (hl:PE X l tl):PI X tg l (iTup X.K tl):=by
 intro i s σ H R I h;refine thn (hl i s σ H _ I h) λ v c ⟨x,H1,I1,r1,q1⟩=>?_;obtain ⟨a,e,⟨m,g⟩,q⟩:=q1;subst e;cases r1;obtain ⟨d,k,p,j⟩:=I1.tuple g;refine Y5 (show c.heap.IsTuple a d.toArray from p) ?_;refine ⟨c.heap.objs.size,[c.heap.objs.size],_,_,H1,rfl,I1.kept (t':=c.toks) λ b o e=>C0 _ e,zgq a _,⟨_,Y0 _ rfl,rfl,rfl⟩,λ b f=>?_,q⟩;have e:b=c.heap.objs.size:=by simpa using f
 subst e;exact I1.fpOk (t0 _) (I1.hok.fresh (t0 _))
theorem zkz {pins:zP} {σ:St} {H:Hp} {s:u0} {R:It->Hp->Prop} {E:Value->u0->Prop} {lo hi:Int} {t u v:Tok} {tk:Nat} (I:Inv X pins σ H s) (h1:-(2 ^ 62)<=lo) (h2:lo < 2 ^ 62) (h3:-(2 ^ 62)<=hi) (h4:hi < 2 ^ 62)
  (q:R (Itr lo (hi - lo).toNat) H):W0 (u1 X.prog X.w) X.A (pyIter (.ref s.heap.objs.size)) (PIE X pins σ tg R) E { s with heap:=s.heap.push { cls:=.type "range",data:=.fields #[.int lo t,.int hi u,.int 1 v] },toks:=tk }:=by
 refine wpAny_pyIter_range (IsRange.new ..) (small_one h1 h2 h3 h4) ?_;have a:Inv X pins σ H { s with heap:=s.heap.push { cls:=.type "range",data:=.fields #[.int lo t,.int hi u,.int 1 v] },toks:=tk }:=I.kept λ b o e=>C0 _ e;refine ⟨(s.heap.push { cls:=.type "range",data:=.fields #[.int lo t,.int hi u,.int 1 v] }).objs.size,[(s.heap.push { cls:=.type "range",data:=.fields #[.int lo t,.int hi u,.int 1 v] }).objs.size],_,_,H,rfl,
  a.kept (t':=tk) λ b o e=>C0 _ e,zfl _ lo (hi - lo).toNat,?_,λ b c=>?_,q⟩
 ·have d:lo + ((0:Nat):Int) * 1=lo:=by simp
  have f:(((hi - lo).toNat:Nat):Int) - ((0:Nat):Int)=Builtin.Range.rangeSize lo hi 1:=by rw [rangeSize_one];split<;>omega
  show IsRangeIter _ _ (lo + ((0:Nat):Int) * 1) ((((hi - lo).toNat:Nat):Int) - ((0:Nat):Int)) 1;rw [d,f];exact Y0 _ rfl
 ·have e:b=(s.heap.push { cls:=.type "range",data:=.fields #[.int lo t,.int hi u,.int 1 v] }).objs.size:=by simpa using c
  subst e;exact a.fpOk (t0 _) (a.hok.fresh (t0 _))
def iRng1 (ta:TA):TI:=λ σ H R=>ta σ H λ vs H1=>∃j:Int,vs=[.int j]/\-(2 ^ 62)<=j/\j < 2 ^ 62/\R (Itr 0 j.toNat) H1
theorem z2o {a:Expr} {ta:TA} {p pos:Pos} (hg:Gl X "range") (hm:X.mg "range" = none) (ha:PA X [a] ta) (hs:N1 [a] X.env=[(false,C3 a X.env)]:=by rfl):PI X tg (.Call (.Name "range" p) [a] [] pos) (iRng1 ta):=by
 intro d s σ H R I h;refine Call_ (ld_blt I hg hm boot_range (O3 (thn (ha pos d s σ H _ I h) λ f g ⟨vs,H1,I1,r1,b⟩=>?_) hs rfl));obtain ⟨j,e,b,c,q⟩:=b;subst e;cases r1 with
 | cons r rr=>cases rr;obtain ⟨t,rfl⟩:=r;exact call_range_1 (zkz I1 (by omega) (by omega) b c (by simpa using q))
noncomputable def tFor (wi:TI) (g:TG) (tb:TS):TS:=λ D σ H=>wi σ H λ J H1=>∃W:Nat->Nat->St->Hp->Prop,(∃m,W 0 m σ H1)/\∀i m σ H,W i m σ H->
 (J.stop i H/\D.nx σ H)\/(J.go i H/\∃N:St->Hp->Prop,(∀σ' H',N σ' H'->∃m',m' < m/\W (i + 1) m' σ' H')/\∀x H',J.yld i H x H'->g x σ H' λ σ2 H2=>tb { D with nx:=N,ct:=N,bk:=D.nx } σ2 H2)
def pinsAt (fp:List Addr) (h:Heap):zP:=fp.filterMap λ b=>(h.get? b).map λ o=>(b,o)
theorem z4m {fp:List Addr} {h:Heap} {b:Addr} {o:Obj} (hb:b∈fp) (e:h.get? b=some o):(b,o)∈pinsAt fp h:=List.mem_filterMap.mpr ⟨b,hb,by rw [e];rfl⟩
theorem zdy {fp:List Addr} {h:Heap} {p:Addr×Obj} (hp:p∈pinsAt fp h):p.1∈fp/\h.get? p.1=some p.2:=by
 obtain ⟨b,c,e⟩:=List.mem_filterMap.mp hp;cases q:h.get? b with
 | none=>rw [q] at e;cases e
 | some o=>rw [q] at e;have a:(b,o)=p:=P1 e;subst a;exact ⟨c,q⟩
theorem Inv.pinned {pins:zP} {σ:St} {H:Hp} {s:u0} {fp:List Addr} (I:Inv X pins σ H s) (hf :∀b∈fp,FpOk X pins H b) (ho :∀b∈fp,∃o,s.heap.get? b=some o/\∀v,o.data≠.cell v):Inv X (pins++pinsAt fp s.heap) σ H s:=
 I.pins_of λ p f=>(List.mem_append.mp f).elim (λ z=>I.pin p (J1 _ z)) λ z=>by obtain ⟨c,e⟩:=zdy z;obtain ⟨i,h,g,_⟩:=hf p.1 c;obtain ⟨o,a,d⟩:=ho p.1 c;rw [e] at a;cases a;exact ⟨e,i,h,g,d⟩
theorem Inv.unpinned {pins pl:zP} {σ:St} {H:Hp} {s:u0} (I:Inv X (pins++pl) σ H s):Inv X pins σ H s:=I.pins_of λ p a=>I.pin p (J1 _ (K6 _ a))
theorem ps_for {iter:Expr} {body:List Stmt} {wi:TI} {g:TG} {tb:TS} {pos:Pos} (hp:PassesOwn (u1 X.prog X.w) X.A X.env X.xe) (hc:X.calm=true) (hi:PI X tg iter wi) (hg:PG X tg g) (hb:PSs X body tb)
  (hs :∀x,A4 iter X.env x=Z2 x:=by intro _;rfl):PS X (.For tg iter body [] pos) (tFor wi g tb):=by
 intro l s σ H D I h;refine wpAny_For (thn (hi l s σ H _ I h) λ v s1 V=>thn V λ a2 s2 h2=>?_) hs;obtain ⟨it,q,E,J,K,e,O,T,a1,z,W,⟨U,w0⟩,S⟩:=h2;subst e
 -- what stays true of the iterator's objects through the loop
 have y :∀{H':Hp},(∀b∈q,H' b=none)->∀b∈q,FpOk X l H' b:=λ P b hb=>⟨P b hb,(z b hb).2⟩
 refine codeAny_forLoop_any (λ n G=>∃i σ' H',Inv X l σ' H' G/\E i G.heap/\(∀b∈q,H' b=none)/\W i n σ' H') ?_ U ⟨0,σ,K,O,a1,λ b hb=>(z b hb).1,w0⟩;rintro n B ⟨i,σ3,H3,I3,st3,fr3,w3⟩;rcases S i n σ3 H3 w3 with ⟨a0,qn⟩|⟨go,N,hN,step⟩
 ·refine B5 hp (thn (T.done X rfl rfl rfl hc i l B σ3 H3 X.xe I3 (y fr3) st3 a0) λ r L ⟨hr,I4⟩=>?_);subst hr;exact d9 ⟨σ3,H3,I4,qn⟩
 ·refine B5 hp (thn (T.item X rfl rfl rfl hc i l B σ3 H3 X.xe I3 (y fr3) st3 go) λ r L ⟨u,hr,h4⟩=>?_);subst hr;refine B5 hp (thn h4 λ _ F ⟨x,H5,I5,r5,y5,st5,fr5⟩=>?_);have M:=I5.pinned (y fr5) (T.obj _ _ st5);refine B5 hp (thn (hg _ F σ3 H5 x u _ M r5 (step x H5 y5)) λ _ Z ⟨σ6,H6,I6,q6⟩=>?_);refine B5 hp (thn (hb _ Z σ6 H6 _ I6 q6) λ f t k=>?_);have C :∀{c:St} {j:Hp},Inv X (l++pinsAt q F.heap) c j t->N c j->∃m,m < n/\∃i σ' H',Inv X l σ' H' t/\E i t.heap/\(∀b∈q,H' b=none)/\W i m σ' H':=λ {c j} a p=>by obtain ⟨m',Y,R⟩:=hN c j p;refine ⟨m',Y,i + 1,c,j,a.unpinned,T.keep _ _ _ st5 λ b hb o e=>(a.pin (b,o) (J1 _ (J1 _ (z4m hb e)))).1,λ b hb=>?_,R⟩;obtain ⟨o,e,d⟩:=T.obj _ _ st5 b hb;exact (a.pin (b,o) (J1 _ (J1 _ (z4m hb e)))).2.1
  cases f with
  | next=>obtain ⟨c,j,a,p⟩:=k;exact C a p
  | cont=>obtain ⟨c,j,a,p⟩:=k;exact C a p
  | brk=>obtain ⟨c,j,a,k⟩:=k;exact ⟨c,j,a.unpinned,k⟩
  | ret v=>obtain ⟨Q,c,j,a,r7,k⟩:=k;exact ⟨Q,c,j,a.unpinned,r7,k⟩
end
theorem z2e {K:b0} {a:Addr} {xs:List V} {g:TG} {tb:TS} {D:Ends} {σ:St} {H:Hp} (Pv:Nat->St->Hp->Prop) (h0:Pv 0 σ H) (hl :∀i σ H,i<=xs.length->Pv i σ H->SqL K H a xs)
  (hs :∀i x σ H,xs[i]? = some x->Pv i σ H->g x σ H λ σ2 H2=>tb { D with nx:=Pv (i + 1),ct:=Pv (i + 1),bk:=D.nx } σ2 H2) (hd :∀σ H,Pv xs.length σ H->D.nx σ H) :
  ∃W:Nat->Nat->St->Hp->Prop,(∃m,W 0 m σ H)/\∀i m σ H,W i m σ H->
   ((Itl K a).stop i H/\D.nx σ H)\/((Itl K a).go i H/\∃N:St->Hp->Prop,(∀σ' H',N σ' H'->∃m',m' < m/\W (i + 1) m' σ' H')/\∀x H',(Itl K a).yld i H x H'->g x σ H' λ σ2 H2=>tb { D with nx:=N,ct:=N,bk:=D.nx } σ2 H2):=by
 refine ⟨λ i m σ H=>m=xs.length - i/\i<=xs.length/\Pv i σ H,⟨xs.length,by simp,Q1 _,h0⟩,?_⟩;rintro i m σ H ⟨rfl,hi,p⟩;have q:=hl i σ H hi p;by_cases hlt:i < xs.length
 ·refine .inr ⟨⟨xs,xs[i],q,by simp [hlt]⟩,Pv (i + 1),λ σ' H' b=>⟨xs.length - (i + 1),by omega,rfl,hlt,b⟩,λ x H' y=>?_⟩;obtain ⟨e,y⟩:=y;subst e;exact hs i x σ _ (y xs q) p
 ·have e:i=xs.length:=by omega
  subst e;exact .inl ⟨⟨xs,q,t0 _⟩,hd σ H p⟩
theorem z3q {lo:Int} {n:Nat} {g:TG} {tb:TS} {D:Ends} {σ:St} {H:Hp} (Pv:Nat->St->Hp->Prop) (h0:Pv 0 σ H)
  (hs :∀i σ H,i < n->Pv i σ H->g (.int (lo + i)) σ H λ σ2 H2=>tb { D with nx:=Pv (i + 1),ct:=Pv (i + 1),bk:=D.nx } σ2 H2) (hd :∀σ H,Pv n σ H->D.nx σ H) :
  ∃W:Nat->Nat->St->Hp->Prop,(∃m,W 0 m σ H)/\∀i m σ H,W i m σ H->
   ((Itr lo n).stop i H/\D.nx σ H)\/((Itr lo n).go i H/\∃N:St->Hp->Prop,(∀σ' H',N σ' H'->∃m',m' < m/\W (i + 1) m' σ' H')/\∀x H',(Itr lo n).yld i H x H'->g x σ H' λ σ2 H2=>tb { D with nx:=N,ct:=N,bk:=D.nx } σ2 H2):=by
 refine ⟨λ i m σ H=>m=n - i/\i<=n/\Pv i σ H,⟨n,by simp,Q1 _,h0⟩,?_⟩;rintro i m σ H ⟨rfl,hi,p⟩;by_cases hlt:i < n
 ·refine .inr ⟨hlt,Pv (i + 1),λ σ' H' a=>⟨n - (i + 1),by omega,rfl,hlt,a⟩,λ x H' y=>?_⟩;obtain ⟨e,y⟩:=y;subst e y;exact hs i σ _ hlt p
 ·have e:i=n:=by omega
  subst e;exact .inl ⟨t0 _,hd σ H p⟩
abbrev R2:=V->V->Hp->VK->Prop
def OpR (X:Cx) (f:Value->Value->Sem Value) (r:R2):Prop:=
 ∀(pins:zP) (s:u0) (σ:St) (H:Hp) (x y:V) (v u:Value) (Q:VK),Inv X pins σ H s->RelV x v->RelV y u->r x y H Q->
  W0 (u1 X.prog X.w) X.A (f v u) (EP X pins σ Q) X.xe s
def UnR (X:Cx) (f:Value->Sem Value) (r:V->Hp->VK->Prop):Prop:=
 ∀(pins:zP) (s:u0) (σ:St) (H:Hp) (x:V) (v:Value) (Q:VK),Inv X pins σ H s->RelV x v->r x H Q->
  W0 (u1 X.prog X.w) X.A (f v) (EP X pins σ Q) X.xe s
def CallR (X:Cx) (f:Value) (r:List V->Hp->VK->Prop):Prop:=
 ∀(pins:zP) (s:u0) (σ:St) (H:Hp) (xs:List V) (us:List Value) (Q:VK),Inv X pins σ H s->Vals xs us->r xs H Q->
  W0 (u1 X.prog X.w) X.A (call f us) (EP X pins σ Q) X.xe s
def tOp (r:R2) (ta tb:TE):TE:=λ σ H Q=>ta σ H λ x H1=>tb σ H1 λ y H2=>r x y H2 Q
def tUn (r:V->Hp->VK->Prop) (ta:TE):TE:=λ σ H Q=>ta σ H λ x H1=>r x H1 Q
def rI (C:Int->Int->Prop) (g:Int->Int->V):R2:=λ x y H Q=>∃i j,x=.int i/\y=.int j/\C i j/\Q (g i j) H
def rI0 (g:Int->Int->V):R2:=λ x y H Q=>∃i j,x=.int i/\y=.int j/\Q (g i j) H
def rU (g:Int->V):V->Hp->VK->Prop:=λ x H Q=>∃i,x=.int i/\Q (g i) H
section
variable {X:Cx} {a b c:Expr} {ta tb tc:TE} {pos:Pos}
theorem binT (ha:PE X a ta) (hb:PE X b tb) {pins:zP} {s:u0} {σ:St} {H:Hp} {R:V->V->Hp->Prop} (I:Inv X pins σ H s)
  (h:ta σ H λ x H1=>tb σ H1 λ y H2=>R x y H2) {Q:Value->u0->Prop} {f:Value->Value->Sem Value}
  (hf :∀v u s2 x y H2,Inv X pins σ H2 s2->RelV x v->RelV y u->R x y H2->W0 (u1 X.prog X.w) X.A (f v u) Q X.xe s2) :
  W0 (u1 X.prog X.w) X.A (C3 a X.env) (λ v s₁=>W0 (u1 X.prog X.w) X.A (C3 b X.env) (λ u s₂=>W0 (u1 X.prog X.w) X.A (f v u) Q X.xe s₂) X.xe s₁) X.xe s:=by
 refine thn (ha pins s σ H _ I h) λ v c ⟨x,H1,I1,r1,q1⟩=>?_;refine thn (hb pins c σ H1 _ I1 q1) λ u s2 ⟨y,H2,I2,r2,q2⟩=>?_;exact hf v u s2 x y H2 I2 r1 r2 q2
theorem pe_op {op:Operator} {r:R2} (ho:OpR X (Q4 op) r) (ha:PE X a ta) (hb:PE X b tb):PE X (.BinOp a op b pos) (tOp r ta tb):=by intro d s σ H Q I h;exact wpAny_BinOp (binT ha hb I h λ v u c x y e g f i q=>ho d c σ e x y v u Q g f i q)
theorem pe_un {op:UnaryOp} {r:V->Hp->VK->Prop} (ho:UnR X (unaryOp op) r) (ha:PE X a ta):PE X (.UnaryOp op a pos) (tUn r ta):=by intro b s σ H Q I h;exact UnaryOp_ (thn (ha b s σ H _ I h) λ v c ⟨x,H1,I1,r1,q1⟩=>ho b c σ H1 x v Q I1 r1 q1)
theorem opI {f:Value->Value->Sem Value} {C:Int->Int->Prop} {g:Int->Int->Int}
  (rule :∀(i j:Int) (t u:Tok) (s:u0) (Q:Value->u0->Prop) (E:Value->u0->Prop),C i j->Q (.int (g i j) s.toks) { s with toks:=s.toks + 1 }->W0 (u1 X.prog X.w) X.A (f (.int i t) (.int j u)) Q E s) :
  OpR X f (rI C λ i j=>.int (g i j)):=by
 intro e s σ H x y v u Q I c d h;obtain ⟨i,j,rfl,rfl,b,q⟩:=h;obtain ⟨t,rfl⟩:=c;obtain ⟨a,rfl⟩:=d;exact rule i j t a s _ _ b ⟨.int (g i j),H,I.tok _,⟨_,rfl⟩,q⟩
theorem opI0 {f:Value->Value->Sem Value} {g:Int->Int->Int}
  (rule :∀(i j:Int) (t u:Tok) (s:u0) (Q:Value->u0->Prop) (E:Value->u0->Prop),Q (.int (g i j) s.toks) { s with toks:=s.toks + 1 }->W0 (u1 X.prog X.w) X.A (f (.int i t) (.int j u)) Q E s) :
  OpR X f (rI0 λ i j=>.int (g i j)):=by
 intro d s σ H x y v u Q I b c h;obtain ⟨i,j,rfl,rfl,q⟩:=h;obtain ⟨t,rfl⟩:=b;obtain ⟨a,rfl⟩:=c;exact rule i j t a s _ _ ⟨.int (g i j),H,I.tok _,⟨_,rfl⟩,q⟩
theorem opB0 {f:Value->Value->Sem Value} {g:Int->Int->Bool}
  (rule :∀(i j:Int) (t u:Tok) (s:u0) (Q:Value->u0->Prop) (E:Value->u0->Prop),Q (.bool (g i j)) s->W0 (u1 X.prog X.w) X.A (f (.int i t) (.int j u)) Q E s) :
  OpR X f (rI0 λ i j=>.bl (g i j)):=by
 intro d s σ H x y v u Q I b c h;obtain ⟨i,j,rfl,rfl,q⟩:=h;obtain ⟨t,rfl⟩:=b;obtain ⟨a,rfl⟩:=c;exact rule i j t a s _ _ ⟨.bl (g i j),H,I,rfl,q⟩
def CPow (i j:Int):Prop:=0<=j/\j<=1000000/\i.natAbs < 2 ^ 64
def CMul (i j:Int):Prop:=(-(2 ^ 64) < i/\i < 2 ^ 64)\/(-(2 ^ 64) < j/\j < 2 ^ 64)
theorem CMul.ok {i j:Int} (h:CMul i j):IntMulOk i j:=by
 rcases h with ⟨b,a⟩|⟨b,a⟩
 ·exact .of_left (intBits_le_64 b a)
 ·exact .of_right (intBits_le_64 b a)
theorem op_add:OpR X (Q4 .Add) (rI0 λ i j=>.int (i + j)):=opI0 λ _ _ _ _ _ _ _ q=>add_int q
theorem op_sub:OpR X (Q4 .Sub) (rI0 λ i j=>.int (i - j)):=opI0 λ _ _ _ _ _ _ _ q=>sub_int q
theorem op_mul:OpR X (Q4 .Mult) (rI CMul λ i j=>.int (i * j)):=opI λ _ _ _ _ _ _ _ a q=>mul_int q a.ok
theorem op_mod:OpR X (Q4 .Mod) (rI (λ _ j=>0 < j) λ i j=>.int (i % j)):=opI λ i j _ _ _ _ _ a q=>by have b:(0:Int) < j:=a;exact mod_int' (by omega) (by rw [Int.fmod_eq_emod_of_nonneg i (by omega)];exact q)
theorem op_pow:OpR X (Q4 .Pow) (rI CPow λ i j=>.int (i ^ j.toNat)):=opI λ _ _ _ _ _ _ _ a q=>pow_int_small a.1 a.2.1 a.2.2 q
theorem unI {f:Value->Sem Value} {g:Int->Int}
  (rule :∀(i:Int) (t:Tok) (s:u0) (Q:Value->u0->Prop) (E:Value->u0->Prop),Q (.int (g i) s.toks) { s with toks:=s.toks + 1 }->W0 (u1 X.prog X.w) X.A (f (.int i t)) Q E s) :
  UnR X f (rU λ i=>.int (g i)):=by
 intro b s σ H x v Q I a h;obtain ⟨i,rfl,q⟩:=h;obtain ⟨t,rfl⟩:=a;exact rule i t s _ _ ⟨.int (g i),H,I.tok _,⟨_,rfl⟩,q⟩
theorem un_neg:UnR X (unaryOp .USub) (rU λ i=>.int (-i)):=unI λ _ _ _ _ _ q=>neg_int q
end
noncomputable def scal:V->V->Bool
 | .non,.non=>true | .non,.int _=>true | .int _,.non=>true | .non,.bl _=>true | .bl _,.non=>true | .non,.str _=>true | .str _,.non=>true
 | .int _,.int _=>true | .bl _,.bl _=>true | .str _,.str _=>true | .byt _,.byt _=>true
 | .int _,.str _=>true | .str _,.int _=>true | .bl _,.str _=>true | .str _,.bl _=>true
 | _,_=>false
noncomputable def rEq:R2:=λ x y H Q=>scal x y=true/\Q (.bl (decide (x=y))) H
noncomputable def rNe:R2:=λ x y H Q=>scal x y=true/\Q (.bl (!decide (x=y))) H
theorem zjy {i j:Int}:decide (V.int i=V.int j)=(i == j):=by rw [Bool.eq_iff_iff];simp
theorem dec_bl {i j:Bool}:decide (V.bl i=V.bl j)=(i == j):=by rw [Bool.eq_iff_iff];simp
theorem zk1 {i j:Str}:decide (V.str i=V.str j)=(i == j):=by rw [Bool.eq_iff_iff];simp
theorem zkf {i j:Array UInt8}:decide (V.byt i=V.byt j)=(i.toList == j.toList):=by rw [Bool.eq_iff_iff];cases i;cases j;simp
section
variable {X:Cx} {a b c:Expr} {ta tb tc:TE} {pos:Pos}
theorem fin_bl {pins:zP} {σ:St} {H:Hp} {s:u0} {Q:VK} {k k':Bool} (I:Inv X pins σ H s) (q:Q (.bl k) H) (e:k=k'):EP X pins σ Q (.bool k') s:=by subst e;exact ⟨.bl k,H,I,rfl,q⟩
theorem op_eq:OpR X (B2 .Eq) rEq:=by
 intro e s σ H x y v u Q I d a h;obtain ⟨c,q⟩:=h;cases x with
 | non=>
  cases d;cases y with
  | non=>cases a;exact PySem.EqNone.eq_none_none (fin_bl I q (by simp))
  | bl j=>cases a;exact PySem.EqNone.eq_none_bool (fin_bl I q (by simp))
  | int j=>obtain ⟨b,rfl⟩:=a;exact PySem.EqNone.eq_none_int (fin_bl I q (by simp))
  | str j=>obtain ⟨b,rfl⟩:=a;exact PySem.EqNone.eq_none_str (fin_bl I q (by simp))
  | _=>exact absurd (show false=true from c) N0
 | bl i=>
  cases d;cases y with
  | non=>cases a;exact PySem.EqNone.eq_bool_none (fin_bl I q (by simp))
  | bl j=>cases a;exact eq_bool (fin_bl I q dec_bl)
  | str j=>obtain ⟨b,rfl⟩:=a;exact PySem.EqMixed.eq_bool_str (fin_bl I q (by simp))
  | _=>exact absurd (show false=true from c) N0
 | int i=>
  obtain ⟨t,rfl⟩:=d;cases y with
  | non=>cases a;exact PySem.EqNone.eq_int_none (fin_bl I q (by simp))
  | int j=>obtain ⟨b,rfl⟩:=a;exact eq_int (fin_bl I q zjy)
  | str j=>obtain ⟨b,rfl⟩:=a;exact PySem.EqMixed.eq_int_str (fin_bl I q (by simp))
  | _=>exact absurd (show false=true from c) N0
 | str i=>
  obtain ⟨t,rfl⟩:=d;cases y with
  | non=>cases a;exact PySem.EqNone.eq_str_none (fin_bl I q (by simp))
  | bl j=>cases a;exact PySem.EqMixed.eq_str_bool (fin_bl I q (by simp))
  | int j=>obtain ⟨b,rfl⟩:=a;exact PySem.EqMixed.eq_str_int (fin_bl I q (by simp))
  | str j=>obtain ⟨b,rfl⟩:=a;exact eq_str (fin_bl I q zk1)
  | _=>exact absurd (show false=true from c) N0
 | byt i=>
  obtain ⟨t,rfl⟩:=d;cases y with
  | byt j=>obtain ⟨b,rfl⟩:=a;exact PySem.W.eq_bytes (fin_bl I q zkf)
  | _=>exact absurd (show false=true from c) N0
 | _=>cases y<;>exact absurd (show false=true from c) N0
theorem op_ne:OpR X (B2 .NotEq) rNe:=by
 intro e s σ H x y v u Q I d a h;obtain ⟨c,q⟩:=h;cases x with
 | non=>
  cases d;cases y with
  | non=>cases a;exact PySem.EqNone.ne_none_none (fin_bl I q (by simp))
  | bl j=>cases a;exact PySem.EqNone.ne_none_bool (fin_bl I q (by simp))
  | int j=>obtain ⟨b,rfl⟩:=a;exact PySem.EqNone.ne_none_int (fin_bl I q (by simp))
  | str j=>obtain ⟨b,rfl⟩:=a;exact PySem.EqNone.ne_none_str (fin_bl I q (by simp))
  | _=>exact absurd (show false=true from c) N0
 | bl i=>
  cases d;cases y with
  | non=>cases a;exact PySem.EqNone.ne_bool_none (fin_bl I q (by simp))
  | bl j=>cases a;exact ne_bool (fin_bl I q (congrArg not dec_bl))
  | str j=>obtain ⟨b,rfl⟩:=a;exact PySem.EqMixed.ne_bool_str (fin_bl I q (by simp))
  | _=>exact absurd (show false=true from c) N0
 | int i=>
  obtain ⟨t,rfl⟩:=d;cases y with
  | non=>cases a;exact PySem.EqNone.ne_int_none (fin_bl I q (by simp))
  | int j=>obtain ⟨b,rfl⟩:=a;exact ne_int (fin_bl I q (congrArg not zjy))
  | str j=>obtain ⟨b,rfl⟩:=a;exact PySem.EqMixed.ne_int_str (fin_bl I q (by simp))
  | _=>exact absurd (show false=true from c) N0
 | str i=>
  obtain ⟨t,rfl⟩:=d;cases y with
  | non=>cases a;exact PySem.EqNone.ne_str_none (fin_bl I q (by simp))
  | bl j=>cases a;exact PySem.EqMixed.ne_str_bool (fin_bl I q (by simp))
  | int j=>obtain ⟨b,rfl⟩:=a;exact PySem.EqMixed.ne_str_int (fin_bl I q (by simp))
  | str j=>obtain ⟨b,rfl⟩:=a;exact ne_str (fin_bl I q (congrArg not zk1))
  | _=>exact absurd (show false=true from c) N0
 | byt i=>
  obtain ⟨t,rfl⟩:=d;cases y with
  | byt j=>obtain ⟨b,rfl⟩:=a;exact PySem.W.ne_bytes (fin_bl I q (congrArg not zkf))
  | _=>exact absurd (show false=true from c) N0
 | _=>cases y<;>exact absurd (show false=true from c) N0
theorem op_lt:OpR X (B2 .Lt) (rI0 λ i j=>.bl (decide (i < j))):=opB0 λ _ _ _ _ _ _ _ q=>lt_int q
theorem op_le:OpR X (B2 .LtE) (rI0 λ i j=>.bl (decide (i<=j))):=opB0 λ _ _ _ _ _ _ _ q=>le_int q
theorem op_gt:OpR X (B2 .Gt) (rI0 λ i j=>.bl (decide (j < i))):=opB0 λ _ _ _ _ _ _ _ q=>gt_int q
theorem op_isN:OpR X (B2 .Is) (λ x y H Q=>y=.non/\Q (.bl (decide (x=.non))) H):=by
 intro c s σ H x y v u Q I a b h;obtain ⟨rfl,q⟩:=h;cases b;refine is_none_gen (fin_bl I q ?_);cases x<;>first
  | (cases a;rfl)
  | (obtain ⟨t,rfl⟩:=a;rfl)
theorem z9u:OpR X (B2 .IsNot) (λ x y H Q=>y=.non/\Q (.bl (!decide (x=.non))) H):=by
 intro c s σ H x y v u Q I a b h;obtain ⟨rfl,q⟩:=h;cases b;refine isnot_none_gen (fin_bl I q ?_);cases x<;>first
  | (cases a;rfl)
  | (obtain ⟨t,rfl⟩:=a;rfl)
theorem OpR.or {f:Value->Value->Sem Value} {r r':R2} (h:OpR X f r) (h':OpR X f r'):OpR X f (λ x y H Q=>r x y H Q\/r' x y H Q):=by
 intro a s σ H x y v u Q I b c q;rcases q with q|q
 ·exact h a s σ H x y v u Q I b c q
 ·exact h' a s σ H x y v u Q I b c q
theorem nomark (b:Expr) {op:CmpOp} (h:op≠.In:=by decide) (h2:op≠.NotIn:=by decide):t8 op b=false:=by
 have a:(op == CmpOp.In)=false:=by cases op<;>first|rfl|exact absurd rfl h
 have c:(op == CmpOp.NotIn)=false:=by cases op<;>first|rfl|exact absurd rfl h2
 cases b<;>simp [t8,a,c]
theorem z18 {op:CmpOp} {r:R2} (ho:OpR X (B2 op) r) (ha:PE X a ta) (hb:PE X b tb) (hm:t8 op b=false):PE X (.Compare a [op] [b] pos) (tOp r ta tb):=by intro d s σ H Q I h;exact wpAny_Compare1 (binT ha hb I h λ v u c x y e g f i q=>ho d c σ e x y v u Q g f i q) hm
def tTest (t:TE):TT:=λ σ H Q=>t σ H λ x H'=>∃k,x=.bl k/\Q k H'
theorem z08 {op:CmpOp} {r:R2} (ho:OpR X (B2 op) r) (ha:PE X a ta) (hb:PE X b tb) (hm:t8 op b=false):PT X (.Compare a [op] [b] pos) (tTest (tOp r ta tb)):=by
 intro d s σ H Q I h;refine wpAny_isTrue_Compare1 (thn (ha d s σ H _ I h) λ v g ⟨x,H1,I1,r1,q1⟩=>thn (hb d g σ H1 _ I1 q1) λ u f ⟨y,H2,I2,r2,q2⟩=>thn (ho d f σ H2 x y v u _ I2 r1 r2 q2) λ c i ⟨z,H3,I3,r3,k,e,q3⟩=>?_) hm;subst e;cases r3;exact y4 ⟨H3,I3,q3⟩
noncomputable def tChain (r r':R2) (ta tb tc:TE):TE:=λ σ H Q=>ta σ H λ x H1=>tb σ H1 λ y H2=>r x y H2 λ z H3=>∃k,z=.bl k/\
 (if k=true then tc σ H3 λ w' H4=>r' y w' H4 Q else Q (.bl false) H3)
theorem zlg {op op':CmpOp} {r r':R2} (ho:OpR X (B2 op) r) (ho':OpR X (B2 op') r') (ha:PE X a ta) (hb:PE X b tb) (hc:PE X c tc)
  (hm:lastMarks [op,op'] [b,c]=false:=by with_unfolding_all rfl):PE X (.Compare a [op,op'] [b,c] pos) (tChain r r' ta tb tc):=by
 intro f s σ H Q I h;refine Compare_chain (thn (ha f s σ H _ I h) λ v l ⟨x,H1,I1,r1,q1⟩=>chain_link (thn (hb f l σ H1 _ I1 q1) λ u i ⟨y,H2,I2,r2,q2⟩=>thn (ho f i σ H2 x y v u _ I2 r1 r2 q2) λ d m ⟨z,H3,I3,r3,k,e,q3⟩=>?_)) hm;subst e;cases r3;refine y4 ?_;cases k with
 | false=>exact ite_ff ⟨.bl false,H3,I3,rfl,q3⟩
 | true=>exact ite_tt (chain_last (thn (hc f m σ H3 _ I3 q3) λ g j ⟨z',H4,I4,r4,q4⟩=>ho' f j σ H4 y z' u g Q I4 r2 r4 q4))
theorem line63:(sizeLine:Nat) < 2 ^ 63:=by rw [sizeLine_eq];decide
theorem op_add_str:OpR X (Q4 .Add) (λ x y H Q=>∃i j,x=.str i/\y=.str j/\i.length + j.length<=sizeLine/\Q (.str (i++j)) H):=by intro e s σ H x y v u Q I c d h;obtain ⟨i,j,rfl,rfl,b,q⟩:=h;obtain ⟨t,rfl⟩:=c;obtain ⟨a,rfl⟩:=d;exact add_str (λ a f=>⟨.str (i++j),H,I.tok _,⟨_,rfl⟩,q⟩) b
theorem vals1 {x:V} {us:List Value} (r:Vals [x] us) :∃u,us=[u]/\RelV x u:=by
 cases r with
 | cons r1 r2=>cases r2;exact ⟨_,rfl,r1⟩
theorem vals2 {x y:V} {us:List Value} (r:Vals [x,y] us) :∃u w',us=[u,w']/\RelV x u/\RelV y w':=by
 cases r with
 | cons r1 r2=>
  cases r2 with
  | cons r3 r4=>cases r4;exact ⟨_,_,rfl,r1,r3⟩
theorem zjc (hc:X.calm=true):CallR X (.builtin "max") (λ xs H Q=>∃i j,xs=[.int i,.int j]/\Q (.int (if j > i then j else i)) H):=by
 intro d s σ H xs c Q I r h;obtain ⟨i,j,rfl,q⟩:=h;obtain ⟨u,a,rfl,⟨t,rfl⟩,⟨b,rfl⟩⟩:=vals2 r;refine max_two_ints (I.ok.hd hc) λ f e k=>⟨_,H,I.kept k,?_,q⟩
 by_cases hj:j > i
 ·rw [if_pos hj,if_pos hj];exact ⟨_,rfl⟩
 ·rw [if_neg hj,if_neg hj];exact ⟨_,rfl⟩
theorem ziq (hc:X.calm=true):CallR X (.builtin "min") (λ xs H Q=>∃i j,xs=[.int i,.int j]/\Q (.int (if j < i then j else i)) H):=by
 intro d s σ H xs c Q I r h;obtain ⟨i,j,rfl,q⟩:=h;obtain ⟨u,a,rfl,⟨t,rfl⟩,⟨b,rfl⟩⟩:=vals2 r;refine min_two_ints (I.ok.hd hc) λ f e k=>⟨_,H,I.kept k,?_,q⟩
 by_cases hj:j < i
 ·rw [if_pos hj,if_pos hj];exact ⟨_,rfl⟩
 ·rw [if_neg hj,if_neg hj];exact ⟨_,rfl⟩
theorem call_int1:CallR X (.type "int") (λ xs H Q=>(∃i,xs=[.int i]/\Q (.int i) H)\/∃k,xs=[.bl k]/\Q (.int (if k then 1 else 0)) H):=by
 intro c s σ H xs b Q I r h;rcases h with ⟨i,rfl,q⟩|⟨k,rfl,q⟩
 ·obtain ⟨u,rfl,t,rfl⟩:=vals1 r;exact call_int_int ⟨.int i,H,I,⟨_,rfl⟩,q⟩
 ·obtain ⟨u,rfl,a⟩:=vals1 r;cases a;exact call_int_bool ⟨.int (if k then 1 else 0),H,I.tok _,⟨_,rfl⟩,q⟩
end
structure ObjM (h:Heap) (x dx C:Addr) (mA:Str->Option Value):Prop where
 obj:h.get? x=some (V3 C dx)
 ns:h.Ns1 dx mA
 ne:dx≠x
theorem zit {h:Heap} {dx:Addr} {mA:Str->Option Value} (n:h.Ns1 dx mA) :∃od,h.get? dx=some od/\∀name,B8 name od=some (mA name):=by
 obtain ⟨o,b,l,j,g,i,_,c⟩:=n;refine ⟨o,j,λ name=>?_⟩;have e:=c name;unfold nsFind findBy at e;rw [<-Array.find?_toList] at e;unfold B8;rw [g];dsimp only;split
 ·rename_i y q;rw [q] at e;exact congrArg some e
 ·rename_i q;rw [q] at e;have a:b.toList.any (·.refKey)=false:=by rw [List.any_eq_false];intro y f;obtain ⟨z,t,k⟩:=i y (Array.mem_toList_iff.mp f);simp [DictEntry.refKey,k]
  have d:¬ b.toList.any (·.refKey)=true:=by rw [a];exact N0
  rw [if_neg d];exact congrArg some e
theorem ObjM.look {h:Heap} {x dx C:Addr} {mA:Str->Option Value} (I:ObjM h x dx C mA) :∃od,PySem.W.InstAt h x (V3 C dx) C (some od)/\∀name,B8 name od=some (mA name):=
 let ⟨od,ho,hl⟩:=zit I.ns
 ⟨od,⟨I.obj,rfl,rfl,ho⟩,hl⟩
section
variable {prog:Program} {w:R0} {A:V1} {E:Value->u0->Prop} {s:u0} {K:b0} {x dx C f:Addr} {mA:Str->Option Value} {name:Str} {v:Value}
theorem zmz {expr:Bool} {Q:Value->u0->Prop} (X:K.In s.heap) (I:ObjM s.heap x dx C mA) (hg:K7 K C name=true) (hh:A9 K C=true)
  (ha:A3 K (.ref C) name=some none) (hv:mA name=some v) (hv':PySem.W.handedIn v=true) (h:Q v { s with toks:=s.toks + 1 }) :
  W0 (u1 prog w) A (getAttr (.ref x) name expr) Q E s:=by
 obtain ⟨b,J,a⟩:=I.look;exact PySem.W.get_value X J (R8 hg).1 (PySem.W.findObj_own hh ha rfl (by rw [a,hv])) hv' h
theorem zlh {pl:Sem Bool} {Q:Value×List Value->u0->Prop} (X:K.In s.heap) (I:ObjM s.heap x dx C mA) (hg:K7 K C name=true)
  (hf:A3 K (.ref C) name=some (some (.ref f))) (ht:j1j K (.ref f)=true) (hv:mA name=none) (h:Q (.ref f,[.ref x]) s) :
  W0 (u1 prog w) A (getMethod (.ref x) name pl) Q E s:=by
 obtain ⟨b,J,a⟩:=I.look;exact PySem.W.method_fn X J (R8 hg).1 (R8 hg).2 hf (beq_iff_eq.mp ht) (by show (B8 name b).map (·.isSome)=some false;rw [a,hv];rfl) h
theorem zmn {ns:List Str} {Q:Unit->u0->Prop} (X:K.In s.heap) (I:ObjM s.heap x dx C mA)
  (hs:A3 K (.ref C) "__setattr__" = some (some (.builtin "object.__setattr__"))) (hp:j46 K C=true) (ht:j06 K C name=some none) (hh:A9 K C=true)
  (hw:j32 mA ns) (hsz:ns.length<=sizeLine)
  (h :∀h',ObjM h' x dx C (λ y=>if y=name then some v else mA y)->X5 dx s.heap h'->Q () { s with heap:=h',toks:=s.toks + 2 }) :
  W0 (u1 prog w) A (setAttr (.ref x) name v) Q E s:=by
 obtain ⟨o,J,q⟩:=I.look;refine PySem.W.set_plain X J hs (PySem.W.osa_open (s:={ s with toks:=s.toks + 1 }) (r:=none) X J hp ht λ b=>?_);obtain ⟨l,j,g⟩:=PySem.W.any_some hh;have e:s.heap.get? x=some ⟨.ref C,some dx,.plain,#[]⟩:=I.obj;refine d0 (F0 (d0 (d0 (wpAny_loadPart e (d0 (PySem.W.Looks.here (s:={ s with toks:=s.toks + 1 }) (PySem.W.looks_clsIn X j) ?_))))));rw [g];refine F0 (a:=some dx) (d0 (F0 (d0 ?_)));refine wpAny_nsSet1 (s:={ s with toks:=s.toks + 1 }) I.ns λ h' d c=>?_;obtain ⟨p,m,n,f,i,k⟩:=d.count (PySem.Within.cons name v hw);refine d0 (wpAny_lookBehind f (by rw [i];exact pastItsLine_dict (A0 k (by rw [P0];omega))) ?_);exact F0 (h _ ⟨(c.2 _ (W3 I.ne)).trans I.obj,d,I.ne⟩ c)
theorem zl3 {R:Result->u0->Prop} {vs:List Value} {kw:List (Str×Value)} (X:K.In s.heap) (hm:PySem.W.makesIn K C=true)
  (hi:A3 K (.ref C) "__init__" = some (some (.ref f))) (hf:PySem.W.typeIn K (.ref f)=some (.type "function"))
  (h:X9 (u1 prog w) (A.under (.builtin "type.__call__" ⟨.ref C :: vs,kw⟩)) (.call (.ref f) ⟨.ref (s.heap.objs.size + 1) :: vs,kw⟩) (PySem.W.InitBack (s.heap.objs.size + 1) R)
   { s with heap:=(s.heap.push PySem.W.emptyDict).push (V3 C s.heap.objs.size) }) :
  X9 (u1 prog w) A (.call (.ref C) ⟨vs,kw⟩) R s:=by
 obtain ⟨c,g,d,t,b⟩:=s;exact PySem.W.make_core (PySem.W.makes_of X hm) (PySem.W.looks_findIn X hi) (λ a=>PySem.W.bind_fn X a hf) (.inl rfl) h
end
def putF (f:Str) (v:V):zV->zV
 | []=>[(f,v)]
 | (g,x) :: r=>if g=f then (g,v) :: r else (g,x) :: putF f v r
theorem z3n (f g:Str) (v:V) :∀fs:zV,(putF f v fs).lookup g=if g=f then some v else fs.lookup g
 | []=>by
  show L6 g [(f,v)]=_;by_cases h:g=f
  ·have a:(g == f)=true:=beq_iff_eq.mpr h;simp only [L6,a,if_pos h]
  ·have a:(g == f)=false:=beq_eq_false_iff_ne.mpr h;simp only [L6,a,if_neg h]
 | (k,x) :: r=>by
  have b:=z3n f g v r;rw [show putF f v ((k,x) :: r)=(if k=f then (k,v) :: r else (k,x) :: putF f v r) from rfl];by_cases hk:k=f
  ·rw [if_pos hk];by_cases h:g=k
   ·have a:(g == k)=true:=beq_iff_eq.mpr h;simp only [L6,a,if_pos (h.trans hk)]
   ·have a:(g == k)=false:=beq_eq_false_iff_ne.mpr h;simp only [L6,a,if_neg (λ e:g=f=>h (e.trans hk.symm))]
  ·rw [if_neg hk];by_cases h:g=k
   ·have a:(g == k)=true:=beq_iff_eq.mpr h;simp only [L6,a,if_neg (λ e:g=f=>hk (h.symm.trans e))]
   ·have a:(g == k)=false:=beq_eq_false_iff_ne.mpr h;simp only [L6,a];exact b
theorem z9g (f:Str) (v:V) :∀fs:zV,f∈(putF f v fs).map (·.1)/\∀g,g∈fs.map (·.1)->g∈(putF f v fs).map (·.1)
 | []=>⟨by simp [putF],λ g h=>by simp at h⟩
 | (k,x) :: r=>by
  obtain ⟨b,a⟩:=z9g f v r;rw [show putF f v ((k,x) :: r)=(if k=f then (k,v) :: r else (k,x) :: putF f v r) from rfl];by_cases hk:k=f
  ·rw [if_pos hk];subst hk;exact ⟨by simp,λ g h=>by simpa using h⟩
  ·rw [if_neg hk];refine ⟨?_,λ g h=>?_⟩
   ·rw [X0];exact V0 _ b
   ·rw [X0] at h⊢;rcases List.mem_cons.mp h with e|e
    ·exact List.mem_cons.mpr (.inl e)
    ·exact V0 _ (a g e)
theorem z8e (f:Str) (v:V) :∀fs:zV,(putF f v fs).length<=fs.length + 1
 | []=>by simp [putF]
 | (k,x) :: r=>by
  have a:=z8e f v r;rw [show putF f v ((k,x) :: r)=(if k=f then (k,v) :: r else (k,x) :: putF f v r) from rfl];by_cases hk:k=f
  ·rw [if_pos hk,P0,P0];omega
  ·rw [if_neg hk,P0,P0];omega
theorem RelO.some_of {v:V} {o:Option Value} (r:RelO (some v) o) :∃u,o=some u/\RelV v u:=by
 cases o with
 | none=>exact (show False from r).elim
 | some u=>exact ⟨u,rfl,r⟩
theorem RelO.none_of {o:Option Value} (r:RelO none o):o=none:=by
 cases o with
 | none=>rfl
 | some u=>exact (show False from r).elim
theorem zj4 {v:V} {u:Value} (r:RelV v u):PySem.W.handedIn u=true:=by
 cases v with
 | non=>cases (show u=U2 from r);rfl
 | bl b=>cases (show u=Z3 b from r);rfl
 | int i=>obtain ⟨t,e⟩:=(show∃t,u=R7 i t from r);cases e;rfl
 | str x=>obtain ⟨t,e⟩:=(show∃t,u=r6 x t from r);cases e;rfl
 | byt b=>obtain ⟨t,e⟩:=(show∃t,u=Value.bytes b t from r);cases e;rfl
 | flt b=>obtain ⟨t,e⟩:=(show∃t,u=j42 b t from r);cases e;rfl
 | ref a=>cases (show u=Z0 a from r);rfl
 | ty n=>cases (show u=b7 n from r);rfl
section
variable {P:Program} {w:R0} {H H':Hp} {h h':Heap} {a C dx:Addr} {fs fs':zV}
theorem zdm (hok:HOk P w H h) (e:H a=some (.ins C dx fs)) :∃mA,ObjM h a dx C mA/\(∀f,RelO (fs.lookup f) (mA f))/\j32 mA (fs.map (·.1))/\fs.length<=1000/\H dx=some (.own a):=by
 obtain ⟨d,z,ne,b,mA,n,r,q⟩:=(show ObjOk P w H h a (.ins C dx fs) from hok a _ e)
 exact ⟨mA,⟨b,n,ne⟩,r,q,z,d⟩
end
structure Cls (K:b0) (C:Addr):Prop where
 pg:K7 K C Str.empty=true
 hd:A9 K C=true
 po:j46 K C=true
 sa:A3 K (.ref C) "__setattr__" = some (some (.builtin "object.__setattr__"))
theorem Cls.get {K:b0} {C:Addr} (c:Cls K C) (f:Str):K7 K C f=true:=c.pg
def NoAttr (K:b0) (C:Addr) (f:Str):Prop:=A3 K (.ref C) f=some none
theorem NoAttr.taker {K:b0} {C:Addr} {f:Str} (n:NoAttr K C f):j06 K C f=some none:=by unfold j06;rw [show A3 K (.ref C) f=some none from n];rfl
structure Con (K:b0) (C:Addr) (f:Str) (v:V) (u:Value):Prop where
 at_:A3 K (.ref C) f=some (some u)
 rel:RelV v u
 get:j45 K u "__get__" = some none
 cp:PySem.W.copiedNames.contains f=false
structure Meth (K:b0) (C:Addr) (m:Str) (f:Addr):Prop where
 at_:A3 K (.ref C) m=some (some (.ref f))
 fn:j1j K (.ref f)=true
 kp:u3 K (.ref f)=true
section
variable {X:Cx} {pins:zP} {σ:St} {H:Hp} {s:u0} {a C dx:Addr} {fs:zV} {f:Str} {v:V} {A:V1} {E:Value->u0->Prop}
theorem zgy {b:Bool} {Q:Value->u0->Prop} (I:Inv X pins σ H s) (e:H a=some (.ins C dx fs)) (c:Cls X.K C) (n:NoAttr X.K C f) (l:fs.lookup f=some v)
  (h :∀u s',Inv X pins σ H s'->RelV v u->Q u s'):W0 (u1 X.prog X.w) A (getAttr (.ref a) f b) Q E s:=by
 obtain ⟨g,O,r,_,_,_⟩:=zdm I.hok e;obtain ⟨u,i,d⟩:=RelO.some_of (v:=v) (o:=g f) (by rw [<-l];exact r f);exact zmz I.kIn O (c.get f) c.hd n i (zj4 d) (h u _ (I.tok _) d)
theorem zfo {m:Str} {g:Addr} {pl:Sem Bool} {Q:Value×List Value->u0->Prop} (I:Inv X pins σ H s) (e:H a=some (.ins C dx fs)) (c:Cls X.K C) (k:Meth X.K C m g) (l:fs.lookup m=none)
  (h:Q (.ref g,[.ref a]) s):W0 (u1 X.prog X.w) A (getMethod (.ref a) m pl) Q E s:=by
 obtain ⟨b,O,r,_,_,_⟩:=zdm I.hok e;have d:b m=none:=RelO.none_of (by rw [<-l];exact r m);exact zlh I.kIn O (c.get m) k.at_ k.fn d h
theorem zhu {y:V} {u:Value} {Q:Unit->u0->Prop} (I:Inv X pins σ H s) (e:H a=some (.ins C dx fs)) (c:Cls X.K C) (n:NoAttr X.K C f) (hl:fs.length < 1000) (ry:RelV y u)
  (h :∀s',Inv X pins σ (upd H a (.ins C dx (putF f y fs))) s'->Q () s'):W0 (u1 X.prog X.w) A (setAttr (.ref a) f u) Q E s:=by
 obtain ⟨j,O,r,i,_,k⟩:=zdm I.hok e;have p:(fs.map (·.1)).length<=sizeLine:=by rw [o0,sizeLine_eq];omega
 refine zmn I.kIn O c.sa c.po n.taker c.hd i p λ v d t=>h _ ?_;have m :∃o,v.get? dx=some o:=let ⟨o,_,_,e',_⟩:=d.ns;⟨o,e'⟩;refine I.write (x:=a) (e:=dx) (by rw [e];exact True.intro) (.inr k) (λ b q B z=>(t.2 b B).trans z) m ?_;refine ⟨by rw [upd_ne O.ne];exact k,?_,O.ne,d.obj,_,d.ns,λ g=>?_,λ g l=>?_⟩
 ·have:=z8e f y fs;omega
 ·show RelO ((putF f y fs).lookup g) (if g=f then some u else j g);rw [z3n];by_cases q:g=f
  ·rw [if_pos q,if_pos q];exact ry
  ·rw [if_neg q,if_neg q];exact r g
 ·by_cases q:g=f
  ·rw [q];exact (z9g f y fs).1
  ·refine (z9g f y fs).2 g (i g λ z=>l ?_);show (if g=f then some u else j g)=none;rw [if_neg q];exact z
theorem Inv.made (I:Inv X pins σ H s):Inv X pins σ (upd (upd H s.heap.objs.size (.own (s.heap.objs.size + 1))) (s.heap.objs.size + 1) (.ins C s.heap.objs.size []))
  { s with heap:=(s.heap.push PySem.W.emptyDict).push (V3 C s.heap.objs.size) }:=by
 have c:(s.heap.push PySem.W.emptyDict).get? s.heap.objs.size=some PySem.W.emptyDict:=Y0 s.heap rfl;have i:((s.heap.push PySem.W.emptyDict).push (V3 C s.heap.objs.size)).get? (s.heap.objs.size + 1)=some (V3 C s.heap.objs.size):=by
  have:=Y0 (s.heap.push PySem.W.emptyDict) (o:=V3 C s.heap.objs.size) rfl
  rwa [T3] at this
 have h:(s.heap.push PySem.W.emptyDict).Ns s.heap.objs.size (λ _=>none):=⟨PySem.W.emptyDict,#[],_,c,rfl,(λ e d=>absurd d (by simp)),λ _=>rfl⟩
 have g:=I.laid (a:=s.heap.objs.size) (o:=.own (s.heap.objs.size + 1)) (h':=s.heap.push PySem.W.emptyDict) (t':=s.toks) (λ b u q=>C0 _ q) (t0 _) ⟨_,c⟩;refine g.laid (a:=s.heap.objs.size + 1) (o:=.ins C s.heap.objs.size []) (t':=s.toks) (λ b u q=>C0 _ q) (i6 (T3 _ _)) ?_;have ne:s.heap.objs.size≠s.heap.objs.size + 1:=C1 (O2 _);refine ⟨by rw [upd_ne ne,upd_same],Q1 _,ne,i,λ _=>none,(Heap.Ns1.of_empty h).at λ o q=>C0 _ q,λ _=>True.intro,λ y f=>absurd rfl f⟩
theorem zn4 {prog:Program} {w:R0} {env:Env} {e:Expr} {f:Str} {pos:Pos} {s:u0} {Q:Value->u0->Prop} (hb:U3 e f env (C3 e env)=C3 e env)
  (h:W0 (u1 prog w) A (C3 e env) (λ o s₁=>W0 (u1 prog w) A (getAttr o f true) Q E s₁) E s):W0 (u1 prog w) A (C3 (.Attribute e f pos) env) Q E s:=
 Attribute_any_ h (by rw [arm_eval_Attribute,hb])
end
def tFld (K:b0) (ta:TE) (f:Str):TE:=λ σ H Q=>ta σ H λ x H1=>∃a C dx fs v,x=.ref a/\H1 a=some (.ins C dx fs)/\Cls K C/\NoAttr K C f/\fs.lookup f=some v/\Q v H1
noncomputable def sFld (K:b0) (ta tv:TE) (f:Str):TS:=λ D σ H=>tv σ H λ y H1=>ta σ H1 λ x H2=>∃a C dx fs,x=.ref a/\H2 a=some (.ins C dx fs)/\Cls K C/\NoAttr K C f/\fs.length < 1000/\
 D.nx σ (upd H2 a (.ins C dx (putF f y fs)))
section
variable {X:Cx} {o e value:Expr} {f:Str} {pos pos' tpos:Pos} {ta tv:TE}
theorem pe_fld (he:PE X e ta) (hb:U3 e f X.env (C3 e X.env)=C3 e X.env):PE X (.Attribute e f pos) (tFld X.K ta f):=by intro b s σ H Q I h;refine zn4 hb (thn (he b s σ H _ I h) λ u j ⟨x,H1,I1,rx,a,C,dx,fs,v,ex,ea,c,n,l,q⟩=>?_);subst ex;obtain rfl:u=Z0 a:=rx;exact zgy I1 ea c n l λ k i g d=>⟨v,H1,g,d,q⟩
theorem ps_fld (ha:PE X o ta) (hv:PE X value tv) (hs:R6 value (some (.Attribute o f pos')) pos.line X.env=Z2 false):PS X (.Assign [.Attribute o f pos'] value pos) (sFld X.K ta tv f):=by intro b s σ H D I h;refine plainObj_wpAny_Assign_Attribute (thn (hv b s σ H _ I h) λ u e ⟨y,H1,I1,ry,q⟩=>thn (ha b e σ H1 _ I1 q) λ g i ⟨x,H2,I2,rx,a,C,dx,fs,ex,ea,c,n,l,q2⟩=>?_) hs;subst ex;obtain rfl:g=Z0 a:=rx;exact zhu I2 ea c n l ry λ j d=>⟨σ,_,d,q2⟩
end
section
variable {X:Cx} {pins:zP} {σ:St} {H:Hp} {s:u0} {A:V1} {E:Value->u0->Prop} {Q:Value->u0->Prop} {c:Value} {b:Bool}
inductive TyOf (K:b0) (H:Hp):V->Value->Prop where
 | non:TyOf K H .non (.type "NoneType")
 | bl (x:Bool):TyOf K H (.bl x) (.type "bool")
 | int (i:Int):TyOf K H (.int i) (.type "int")
 | str (x:Str):TyOf K H (.str x) (.type "str")
 | flt (x:UInt64):TyOf K H (.flt x) (.type "float")
 | lst {a:Addr} {xs:List V} (e:H a=some (.lst xs)):TyOf K H (.ref a) (.type "list")
 | frz {a:Addr} {o:Obj} {xs:List V} (e:H a=some (.frz o (.lst xs))):TyOf K H (.ref a) (.type "list")
 | tup {a:Addr} {xs:List V} (e:H a=some (.tup xs)):TyOf K H (.ref a) (.type "tuple")
 | dK {a:Addr} {kvs:zK} (e:H a=some (.dK kvs)):TyOf K H (.ref a) (.type "dict")
 | dT {a:Addr} {kvs:List (List Key×V)} (e:H a=some (.dT kvs)):TyOf K H (.ref a) (.type "dict")
 | ins {a C dx:Addr} {fs:zV} (e:H a=some (.ins C dx fs)) (cl:Cls K C) (ha:A3 K (.ref C) "__class__" = some (some (.builtin "object.__class__")))
   (hn:j45 K (.builtin "object.__class__") "__get__" = some (some (.builtin "getset_descriptor.__get__"))) (htk:PySem.W.takesIn K (.builtin "object.__class__")=some true)
   (hm:PySem.W.mroIn K C (.type "object")=some true):TyOf K H (.ref a) (.ref C)
theorem zj6 {x:V} {u t:Value} (I:Inv X pins σ H s) (rx:RelV x u) (ty:TyOf X.K H x t) (e:PySem.W.kitOne X.K t c=some b) (h :∀tk,Q (.bool b) { s with toks:=tk }) :
  W0 (u1 X.prog X.w) A (call (.builtin "isinstance") [u,c]) Q E s:=by
 cases ty with
 | non=>cases (show u=U2 from rx);exact W2 PySem.W.kitx_none I.kIn True.intro e (λ z=>nomatch z) h
 | bl y=>cases (show u=Z3 y from rx);exact W2 PySem.W.kitx_bool I.kIn True.intro e (λ z=>nomatch z) h
 | int i=>obtain ⟨t,q⟩:=(show∃t,u=R7 i t from rx);cases q;exact W2 PySem.W.kitx_int I.kIn True.intro e (λ z=>nomatch z) h
 | str y=>obtain ⟨t,q⟩:=(show∃t,u=r6 y t from rx);cases q;exact W2 PySem.W.kitx_str I.kIn True.intro e (λ z=>nomatch z) h
 | flt y=>obtain ⟨t,q⟩:=(show∃t,u=j42 y t from rx);cases q;exact W2 PySem.W.kitx_float I.kIn True.intro e (λ z=>nomatch z) h
 | @lst a f ea=>
  cases (show u=Z0 a from rx);obtain ⟨_,_,n,_,d⟩:=(show ObjOk X.prog X.w H s.heap a (.lst f) from I.hok a _ ea)
  exact W2 j47 I.kIn ⟨_,d,rfl⟩ e (λ z=>nomatch z) h
 | @frz a ob f ea=>
  cases (show u=Z0 a from rx);obtain ⟨_,_,_,n,_,d⟩:=(show ObjOk X.prog X.w H s.heap a (.frz ob (.lst f)) from I.hok a _ ea)
  exact W2 j47 I.kIn ⟨_,d,rfl⟩ e (λ z=>nomatch z) h
 | @tup a f ea=>
  cases (show u=Z0 a from rx);obtain ⟨_,_,_,p,_⟩:=(show ObjOk X.prog X.w H s.heap a (.tup f) from I.hok a _ ea)
  obtain ⟨o,d,g,_⟩:=p;exact W2 PySem.W.kitx_tuple I.kIn ⟨o,d,g⟩ e (λ z=>nomatch z) h
 | @dK a kvs ea=>
  cases (show u=Z0 a from rx);obtain ⟨_,_,m,_,p⟩:=(show ObjOk X.prog X.w H s.heap a (.dK kvs) from I.hok a _ ea)
  obtain ⟨o,k,j,d,g,_⟩:=p;exact W2 j48 I.kIn ⟨o,d,g.1⟩ e (λ z=>nomatch z) h
 | @dT a kvs ea=>
  cases (show u=Z0 a from rx);obtain ⟨_,_,f,_,o,k,j,d,g,_⟩:=(show ObjOk X.prog X.w H s.heap a (.dT kvs) from I.hok a _ ea)
  exact W2 j48 I.kIn ⟨o,d,g.1⟩ e (λ z=>nomatch z) h
 | @ins a C dx fs ea cl ha hn htk hm=>cases (show u=Z0 a from rx);obtain ⟨l,O,_⟩:=zdm I.hok ea;obtain ⟨r,J,_⟩:=O.look;exact W2 (PySem.W.kitx_own (cl.get _) cl.hd ha hn htk hm) I.kIn J e (λ z=>nomatch z) h
end
structure Room (k:Nat) (A:V1):Prop where
 hd:A.handled=none
 dp:A.depth + 3 * k + 5 < recursionLimit
 un:A.units + 16 * k + 200 < cLine
 gd:A.guards=some []
theorem Room.mono {j k:Nat} {A:V1} (r:Room k A) (h:j<=k):Room j A:=⟨r.hd,by have:=r.dp;omega,by have:=r.un;omega,r.gd⟩
theorem Room.deeper {k:Nat} {A:V1} (r:Room (k + 1) A) (env:Env):Room k (A.deeper env):=
 ⟨r.hd,by have:=r.dp;show A.depth + 1 + 3 * k + 5 < _;omega,by have:=r.un;show A.units + 3 + 16 * k + 200 < _;omega,r.gd⟩
theorem zg6 {A:V1} {C:Addr} {us:List Value} {kw:List (Str×Value)}:(A.under (.builtin "type.__call__" ⟨.ref C :: us,kw⟩)).depth=A.depth + 1:=by first|rfl|simp [L9,Code.weight,Code.isCreation,Code.isGuard,Code.isCaller,j4d,j03,guardIds]
theorem zg9 {A:V1} {C:Addr} {us:List Value} {kw:List (Str×Value)}:(A.under (.builtin "type.__call__" ⟨.ref C :: us,kw⟩)).units=A.units + 1:=by first|rfl|simp [L9,Code.cUnits,j4d,j03]
theorem Room.make {k:Nat} {A:V1} (r:Room (k + 1) A) (C:Addr) (us:List Value) (kw:List (Str×Value)):Room k (A.under (.builtin "type.__call__" ⟨.ref C :: us,kw⟩)):=
 ⟨r.hd,by have:=r.dp;rw [zg6];omega,by have:=r.un;rw [zg9];omega,by have h:=r.gd;first|exact h|simp [L9,h,Code.weight,Code.isCreation,Code.isGuard,Code.isCaller,j4d,j03,guardIds]⟩
theorem Room.depth {k:Nat} {A:V1} (r:Room k A):A.depth < recursionLimit:=by have:=r.dp;omega
theorem Room.units {k:Nat} {A:V1} (r:Room k A):A.units + 64 < cLine:=by have:=r.un;omega
def tNil:TA:=λ _ H Q=>Q [] H
def tCons (ta:TE) (tr:TA):TA:=λ σ H Q=>ta σ H λ x H1=>tr σ H1 λ xs H2=>Q (x :: xs) H2
section
variable {X:Cx} {e:Expr} {es:List Expr} {te:TE} {t:TA} {pos:Pos}
theorem pa_nil:PA X [] tNil:=λ _ _ _ _ H Q I h=>E7 ⟨[],H,I,.nil,h⟩
theorem z00 (ha:PE X e te) (hr:PA X es t) (hs:N1 (e :: es) X.env=(false,C3 e X.env) :: N1 es X.env:=by rfl):PA X (e :: es) (tCons te t):=by intro b a s σ H Q I h;rw [hs];show W0 _ _ (spliced ((false,C3 e X.env) :: F4 b (N1 es X.env))) _ _ s;refine P5 (thn (ha a s σ H _ I h) λ u c ⟨x,H1,I1,r1,q1⟩=>?_);exact thn (hr b a c σ H1 _ I1 q1) λ d f ⟨xs,H2,I2,r2,q2⟩=>⟨x :: xs,H2,I2,.cons r1 r2,q2⟩
def tTup (t:TA):TE:=λ σ H Q=>t σ H λ xs H1=>xs.length<=sizeLine/\∀p,H1 p=none->Q (.ref p) (upd H1 p (.tup xs))
def tLst (t:TA):TE:=λ σ H Q=>t σ H λ xs H1=>xs.length<=sizeLine/\∀p,H1 p=none->Q (.ref p) (upd H1 p (.lst xs))
theorem pe_tup {x1} (h:PA X es t):PE X (.Tuple es x1 pos) (tTup t):=by intro g s σ H Q I f;refine wpAny_Tuple_spliced (thn (h pos g s σ H _ I f) λ c a ⟨xs,H1,I1,r,z,q⟩=>⟨by rw [<-r.length];exact z,?_⟩);have d:H1 a.heap.objs.size=none:=I1.hok.fresh (t0 _);refine ⟨.ref a.heap.objs.size,upd H1 a.heap.objs.size (.tup xs),I1.laid (t':=a.toks) (λ b u e=>C0 _ e) (t0 _) ?_,rfl,q _ d⟩;exact ⟨z,c,r,IsTupN.new _ _⟩
theorem pe_lst (h:PA X es t):PE X (.List es pos) (tLst t):=by intro g s σ H Q I f;refine wpAny_List_spliced (thn (h pos g s σ H _ I f) λ c a ⟨xs,H1,I1,r,z,q⟩=>⟨by rw [<-r.length];exact z,?_⟩);have d:H1 a.heap.objs.size=none:=I1.hok.fresh (t0 _);refine ⟨.ref a.heap.objs.size,upd H1 a.heap.objs.size (.lst xs),I1.laid (t':=a.toks) (λ b u e=>C0 _ e) (t0 _) ?_,rfl,q _ d⟩;exact ⟨z,c,0,r,Y0 _ rfl⟩
end
abbrev Sp:=List V->Hp->VK->XK->Prop
abbrev CXT:=List Env->Hp->u0->XK->Value->u0->Prop
structure Env0 (P:Program) (w:R0) (K:b0) (mg:Str->Option Value) (base:Heap) (A:V1) (outer:List Env) (s:u0) (H:Hp):Prop where
 frames:A.frames=some outer
 mod:Mod K mg base
 bs :∀b o,base.get? b=some o->s.heap.get? b=some o/\H b=none
 bsz:base.objs.size<=s.heap.objs.size
 funs:s.heap.FunFrames base outer
 frf :∀b∈frs outer,H b=none
 hok:HOk P w H s.heap
 bare:o8 s.gens
def CE (outer:List Env) (P:Program) (w:R0) (H:Hp) (s:u0) (Q:VK) (u:Value) (s':u0):Prop:=
 ∃v H',s'.os=s.os/\o8 s'.gens/\Un (frs outer) [] H H' s.heap s'.heap/\HOk P w H' s'.heap/\RelV v u/\Q v H'
def CR (CX:CXT) (outer:List Env) (P:Program) (w:R0) (H:Hp) (s:u0) (Q:VK) (E:XK) (r:Result) (s':u0):Prop:=
 match r with
 | .ok (.ret u)=>CE outer P w H s Q u s'
 | .ok _=>False
 | .error e=>CX outer H s E e s'
structure FnOk (P:Program) (w:R0) (K:b0) (mg:Str->Option Value) (base:Heap) (CX:CXT) (k:Nat) (f:Addr) (fd:FuncData) (ps:List Str) (sp:Sp):Prop where
 len :∀vs H Q E,sp vs H Q E->vs.length=ps.length
 run :∀(A:V1) (outer:List Env) (s:u0) (H:Hp) (args:Args) (us:List Value) (vs:List V) (Q:VK) (E:XK),Room k A->Env0 P w K mg base A outer s H->BindsTo s fd args (ps.zip us)->Vals vs us->sp vs H Q E->
  X9 (u1 P w) A (.call (.ref f) args) (CR CX outer P w H s Q E) s
theorem Env0.make {P:Program} {w:R0} {K:b0} {mg:Str->Option Value} {base:Heap} {A:V1} {outer:List Env} {s:u0} {H:Hp} (e:Env0 P w K mg base A outer s H) (C:Addr) (us:List Value) (kw:List (Str×Value)) :
  Env0 P w K mg base (A.under (.builtin "type.__call__" ⟨.ref C :: us,kw⟩)) outer s H:=⟨by first|exact e.frames|(simpa [L9,Code.envs,j03,pushEnvs] using e.frames),e.mod,e.bs,e.bsz,e.funs,e.frf,e.hok,e.bare⟩
section
variable {X:Cx} {pins:zP} {σ:St} {H:Hp} {s s':u0}
theorem Inv.env0 (I:Inv X pins σ H s):Env0 X.prog X.w X.K X.mg X.base X.A X.stack s H:=
 ⟨I.ok.frames,I.ok.mod,I.bs,A0 I.ok.bsz I.sz,I.stack,I.stkFree,I.hok,I.bare⟩
theorem Inv.after {Q:VK} {u:Value} (I:Inv X pins σ H s) (h:CE X.stack X.prog X.w H s Q u s'):EP X pins σ Q u s':=by obtain ⟨v,j,c,i,un,e,r,q⟩:=h;obtain ⟨f,g,d,t,a⟩:=s';obtain rfl:a=s.os:=c;exact ⟨v,j,I.call (h':=f) (g':=g) (d':=d) (t':=t) (ch:=[]) un e i (λ b z=>absurd z (by simp)),r,q⟩
end
def tCall (sp:Sp) (dvs:List V) (E:XK) (t:TA):TE:=λ σ H Q=>t σ H λ vs H1=>sp (vs++dvs) H1 Q E
noncomputable def tMeth (C:Addr) (m:Str) (sp:Sp) (dvs:List V) (E:XK) (ta:TE) (t:TA):TE:=λ σ H Q=>ta σ H λ x H1=>∃a dx fs,x=.ref a/\H1 a=some (.ins C dx fs)/\fs.lookup m=none/\
 t σ H1 λ vs H2=>sp (x :: (vs++dvs)) H2 Q E
noncomputable def tMake (C:Addr) (sp:Sp) (dvs:List V) (E:XK) (t:TA):TE:=λ σ H Q=>t σ H λ vs H1=>∀x dx,H1 x=none->H1 dx=none->dx≠x->
 sp (.ref x :: (vs++dvs)) (upd (upd H1 dx (.own x)) x (.ins C dx [])) (λ v H2=>v=.non/\Q (.ref x) H2) E
def Binds (K:b0) (fd:FuncData) (ps:List Str) (ds:List Value):Prop:=
 ∀(s:u0) (us:List Value),K.In s.heap->(us++ds).length=ps.length->BindsTo s fd ⟨us,[]⟩ (ps.zip (us++ds))
theorem Binds.all {K:b0} {fd:FuncData} {ps:List Str} (h :∀us:List Value,us.length=ps.length->bindArgs fd ⟨us,[]⟩=Z2 (ps.zip us)):Binds K fd ps []:=λ s us _ a=>by rw [N2] at a⊢;exact .of_eq (h us a)
def Passes (CX:CXT) (X:Cx) (E:XK):Prop:=∀(pins:zP) (σ:St) (H:Hp) (s:u0) (e:Value) (s':u0),Inv X pins σ H s->CX X.stack H s E e s'->X.xe e s'
section
variable {X:Cx} {CX:CXT} {k:Nat} {f C:Addr} {fd:FuncData} {ps:List Str} {sp:Sp} {dvs:List V} {ds:List Value} {E:XK} {x m:Str} {p pos apos:Pos} {e o:Expr} {es:List Expr} {ta:TE} {t:TA}
theorem run_fn {pins:zP} {σ:St} {H:Hp} {s:u0} {Q:VK} {us:List Value} {vs:List V} (F:FnOk X.prog X.w X.K X.mg X.base CX k f fd ps sp) (hr:Room k X.A) (hb:Binds X.K fd ps ds) (hd:Vals dvs ds) (hx:Passes CX X E)
  (I:Inv X pins σ H s) (r:Vals vs us) (h:sp (vs++dvs) H Q E):W0 (u1 X.prog X.w) X.A (call (.ref f) us) (EP X pins σ Q) X.xe s:=by
 have b:Vals (vs++dvs) (us++ds):=r.append hd;have d:(us++ds).length=ps.length:=by rw [<-b.length];exact F.len _ _ _ _ h
 refine wpAny_call (j16 (F.run X.A X.stack s H ⟨us,[]⟩ (us++ds) (vs++dvs) Q E hr I.env0 (hb s us I.kIn d) b h) λ r c a=>?_);cases r with
 | error e=>exact hx pins σ H s e c I a
 | ok fl=>
  cases fl with
  | ret u=>exact I.after a
  | next=>exact Q3 a
  | brk=>exact Q3 a
  | cont=>exact Q3 a
theorem zmj (F:FnOk X.prog X.w X.K X.mg X.base CX k f fd ps sp) (hr:Room k X.A) (hg:Gl X x) (hm:X.mg x=some (.ref f)) (hk:u3 X.K (.ref f)=true) (hb:Binds X.K fd ps ds) (hd:Vals dvs ds) (hx:Passes CX X E)
  (ha:PA X (e :: es) t) (hdb:(x == ("__debug__" : Str))=false:=by decide) (he:N1 (e :: es) X.env=(false,C3 e X.env) :: N1 es X.env:=by rfl) (hpl:(F4 pos (N1 es X.env)).any (·.1)=false:=by rfl) :
  PE X (.Call (.Name x p) (e :: es) [] pos) (tCall sp dvs E t):=by
 intro a s σ H Q I h;refine Z5 (zgs I hg hm ?_ hdb);refine S6 (h₀:=X.base) I.ok.mod.kin hk (thn (ha pos a s σ H _ I h) λ b c ⟨vs,H1,I1,r,q⟩=>⟨I1.kIn,?_⟩) he hpl;exact run_fn F hr hb hd hx I1 r q
theorem zda {pl:Sem Bool} (he:PE X o ta) (c:Cls X.K C) (hm:Meth X.K C m f) (F:FnOk X.prog X.w X.K X.mg X.base CX k f fd ps sp) (hr:Room k X.A) (hb:Binds X.K fd ps ds) (hd:Vals dvs ds) (hx:Passes CX X E) (ha:PA X (e :: es) t)
  (hst:N1 (e :: es) X.env=(false,C3 e X.env) :: N1 es X.env:=by rfl) (hpl:(F4 pos (N1 es X.env)).any (·.1)=false:=by rfl)
  (ht:C3 (.Call (.Attribute o m apos) (e :: es) [] pos) X.env=(do
   let ov <-C3 o X.env
   j38 apos.atName
   let (f,first) <-j15 [ov] (getMethod ov m pl)
   callWith pos f first (F4 pos (N1 (e :: es) X.env)) (R9 pos (Y6 [] X.env))):=by rfl) :
  PE X (.Call (.Attribute o m apos) (e :: es) [] pos) (tMeth C m sp dvs E ta t):=by
 intro b s σ H Q I h;refine PySem.W.methodCall_KW (pl:=pl) (thn (he b s σ H _ I h) λ u d ⟨x,H1,I1,rx,a,dx,fs,ex,ea,l,q⟩=>?_) ht;subst ex;obtain rfl:u=Z0 a:=rx;refine zfo I1 ea c hm l ?_;refine S6 (first:=[.ref a]) (h₀:=X.base) I.ok.mod.kin hm.kp (thn (ha pos b d σ H1 _ I1 q) λ us g ⟨vs,H2,I2,r,q2⟩=>⟨I2.kIn,?_⟩) hst hpl;exact run_fn (us:=.ref a :: us) (vs:=.ref a :: vs) F hr hb hd hx I2 (.cons rfl r) q2
structure Mk (K:b0) (C f:Addr):Prop where
 makes:PySem.W.makesIn K C=true
 init:A3 K (.ref C) "__init__" = some (some (.ref f))
 fn:j1j K (.ref f)=true
 kp:u3 K (.ref C)=true
theorem zlj {pins:zP} {σ:St} {H:Hp} {s:u0} {Q:VK} {us:List Value} {vs:List V} (M:Mk X.K C f) (F:FnOk X.prog X.w X.K X.mg X.base CX k f fd ps sp) (hr:Room (k + 1) X.A) (hb:Binds X.K fd ps ds) (hd:Vals dvs ds)
  (hx:Passes CX X E) (I:Inv X pins σ H s) (r:Vals vs us)
  (h :∀x dx,H x=none->H dx=none->dx≠x->sp (.ref x :: (vs++dvs)) (upd (upd H dx (.own x)) x (.ins C dx [])) (λ v H2=>v=.non/\Q (.ref x) H2) E) :
  W0 (u1 X.prog X.w) X.A (call (.ref C) us) (EP X pins σ Q) X.xe s:=by
 have d:=h (s.heap.objs.size + 1) s.heap.objs.size (I.hok.fresh (F3 _)) (I.hok.fresh (t0 _)) (C1 (O2 _));have b:=Inv.made (C:=C) I;have c:Vals (V.ref (s.heap.objs.size + 1) :: (vs++dvs)) (Z0 (s.heap.objs.size + 1) :: (us++ds)):=.cons rfl (r.append hd);have n:(Z0 (s.heap.objs.size + 1) :: us++ds).length=ps.length:=by have e:=c.length;rw [F.len _ _ _ _ d] at e;exact e.symm
 refine wpAny_call (zl3 (f:=f) I.kIn M.makes M.init (beq_iff_eq.mp M.fn) (j16 (F.run _ X.stack _ _ ⟨Z0 (s.heap.objs.size + 1) :: us,[]⟩ (Z0 (s.heap.objs.size + 1) :: (us++ds)) _ _ E (hr.make C us [])
  (b.env0.make C us []) (hb _ (Z0 (s.heap.objs.size + 1) :: us) b.kIn n) c d) λ r m a=>?_))
 cases r with
 | error e=>exact hx pins σ _ _ e m b a
 | ok fl=>
  cases fl with
  | ret u=>obtain ⟨v,o,g,j,i,l⟩:=b.after a;subst i;exact ⟨j,⟨V.ref (s.heap.objs.size + 1),o,g,rfl,l⟩⟩
  | next=>exact Q3 a
  | brk=>exact Q3 a
  | cont=>exact Q3 a
theorem zg3 (M:Mk X.K C f) (F:FnOk X.prog X.w X.K X.mg X.base CX k f fd ps sp) (hr:Room (k + 1) X.A) (hg:Gl X x) (hm:X.mg x=some (.ref C)) (hb:Binds X.K fd ps ds) (hd:Vals dvs ds) (hx:Passes CX X E)
  (ha:PA X (e :: es) t) (hdb:(x == ("__debug__" : Str))=false:=by decide) (he:N1 (e :: es) X.env=(false,C3 e X.env) :: N1 es X.env:=by rfl) (hpl:(F4 pos (N1 es X.env)).any (·.1)=false:=by rfl) :
  PE X (.Call (.Name x p) (e :: es) [] pos) (tMake C sp dvs E t):=by
 intro a s σ H Q I h;refine Z5 (zgs I hg hm ?_ hdb);refine S6 (h₀:=X.base) I.ok.mod.kin M.kp (thn (ha pos a s σ H _ I h) λ b c ⟨vs,H1,I1,r,q⟩=>⟨I1.kIn,?_⟩) he hpl;exact zlj M F hr hb hd hx I1 r q
end
section
variable {X:Cx} {CX:CXT} {k:Nat} {f C:Addr} {fd:FuncData} {ps ks:List Str} {sp:Sp} {E:XK} {x m:Str} {p pos apos kpos:Pos} {e o:Expr} {es:List Expr} {kws:List E6} {te ta:TE} {t tk:TA} {nm:Option Str}
structure KBinds (K:b0) (fd:FuncData) (ps ks:List Str) (g:List Value->List Value->List Value) (gV:List V->List V->List V):Prop where
 to :∀(s:u0) (us ws:List Value),K.In s.heap->(g us ws).length=ps.length->BindsTo s fd ⟨us,ks.zip ws⟩ (ps.zip (g us ws))
 rel :∀{vs:List V} {us:List Value} {zs:List V} {ws:List Value},Vals vs us->Vals zs ws->Vals (gV vs zs) (g us ws)
variable {g:List Value->List Value->List Value} {gV:List V->List V->List V}
end
structure FnScope (N P:List Str) (sc:Scope):Prop where
 kind:sc.kind=.function
 co:sc.isCoroutine=false
 gen:sc.isGenerator=false
 nd:N.Nodup
 pre:N.take P.length=P
 par :∀x∈P,sc.names.lookup x=some .local\/sc.names.lookup x=some .cell
 nofree :∀y∈sc.names,y.2≠.free
theorem zdj {kindOf:Str->Option M5} {x:Str} :∀{binds:List (Str×Value)} {m:Str->Option Value},(∀v,(x,v)∉binds)->bindL kindOf binds m x=m x
 | [],_,_=>rfl
 | (n,v) :: r,m,h=>by
  unfold bindL;rw [zdj λ w a=>h w (V0 _ a)];split
  ·have:x≠n:=by rintro rfl;exact h v L0
   simp [this]
  ·rfl
theorem zdh {kindOf:Str->Option M5} {x:Str} :∀{binds:List (Str×Value)} {m:Str->Option Value},(∀v,(x,v)∉binds)->bindC kindOf binds m x=m x
 | [],_,_=>rfl
 | (n,v) :: r,m,h=>by
  unfold bindC;rw [zdh λ w a=>h w (V0 _ a)];split
  ·rfl
  ·have:x≠n:=by rintro rfl;exact h v L0
   simp [this]
theorem zdg {kindOf:Str->Option M5} {x:Str} {v:Value} :∀{P:List Str} {vs:List Value} {i:Nat} {m:Str->Option Value},P.Nodup->P[i]? = some x->vs[i]? = some v->kindOf x=some .local->
  bindL kindOf (P.zip vs) m x=some v
 | [],_,_,_,_,h,_,_=>by simp at h
 | _ :: _,[],_,_,_,_,h,_=>by simp at h
 | p :: P,w :: vs,0,m,nd,h1,h2,hk=>by simp at h1 h2;subst h1;subst h2;show bindL kindOf ((p,w) :: P.zip vs) m p=_;unfold bindL;rw [zdj λ v a=>(List.nodup_cons.mp nd).1 (G8 a).1,if_pos hk];simp
 | p :: P,w :: vs,i + 1,m,nd,h1,h2,hk=>by show bindL kindOf ((p,w) :: P.zip vs) m x=_;unfold bindL;exact zdg (i:=i) (List.nodup_cons.mp nd).2 (by simpa using h1) (by simpa using h2) hk
theorem ze2 {kindOf:Str->Option M5} {x:Str} {v:Value} :∀{P:List Str} {vs:List Value} {i:Nat} {m:Str->Option Value},P.Nodup->P[i]? = some x->vs[i]? = some v->kindOf x≠some .local->
  bindC kindOf (P.zip vs) m x=some v
 | [],_,_,_,_,h,_,_=>by simp at h
 | _ :: _,[],_,_,_,_,h,_=>by simp at h
 | p :: P,w :: vs,0,m,nd,h1,h2,hk=>by simp at h1 h2;subst h1;subst h2;show bindC kindOf ((p,w) :: P.zip vs) m p=_;unfold bindC;rw [zdh λ v a=>(List.nodup_cons.mp nd).1 (G8 a).1,if_neg hk];simp
 | p :: P,w :: vs,i + 1,m,nd,h1,h2,hk=>by show bindC kindOf ((p,w) :: P.zip vs) m x=_;unfold bindC;exact ze2 (i:=i) (List.nodup_cons.mp nd).2 (by simpa using h1) (by simpa using h2) hk
def start (N:List Str) (vs:List V):St:=vs.map some++R1 (N.length - vs.length) none
noncomputable def cxOf (CX:CXT) (P:Program) (w:R0) (K:b0) (mg:Str->Option Value) (base:Heap) (N:List Str) (qual:Str) (scope:Scope) (f:Addr) (cd:Value) (A:V1) (outer:List Env) (s:u0) (H:Hp) (E:XK):Cx where
 prog:=P
 w:=w
 K:=K
 mg:=mg
 base:=base
 A:=A.deeper (Y8 qual scope s.heap.objs.size f cd)
 N:=N
 s₀:=s
 H₀:=H
 env:=Y8 qual scope s.heap.objs.size f cd
 outer:=outer
 stack:=Y8 qual scope s.heap.objs.size f cd :: outer
 ex:=[]
 calm:=true
 fn:=λ _=>true
 pn:=[]
 xe:=λ e s'=>W0 (u1 P w) (A.deeper (Y8 qual scope s.heap.objs.size f cd)) («leaving» (Y8 qual scope s.heap.objs.size f cd) e) (λ _ s''=>CX outer H s E e s'') (λ e' s''=>CX outer H s E e' s'') s'
theorem zh1 {sc:Scope} {n:Nat} {x:Str} (h:sc.names.lookup x=some .cell) :∃c,(cellsFrom n sc.names []).lookup x=some c:=by have q:=j20 sc.names n [] (.inl h);exact Option.isSome_iff_exists.mp q
theorem zif {CX:CXT} {P:Program} {w:R0} {K:b0} {mg:Str->Option Value} {base:Heap} {N ps:List Str} {qual:Str} {scope:Scope} {f:Addr} {cd:Value} {A:V1} {outer:List Env} {s s1:u0} {H:Hp} {E:XK} {us:List Value} {vs:List V}
  (S:FnScope N ps scope) (hd:A.handled=none) (e0:Env0 P w K mg base A outer s H) (hl:vs.length=ps.length) (r:Vals vs us)
  (x:InCallC s s.heap.objs.size (bindL (Y8 qual scope s.heap.objs.size f cd).kindOf (ps.zip us) λ _=>none) (cellsFrom (s.heap.objs.size + 1) scope.names []) (bindC (Y8 qual scope s.heap.objs.size f cd).kindOf (ps.zip us) λ _=>none) s1) :
  Inv (cxOf CX P w K mg base N qual scope f cd A outer s H E) [] (start N vs) H s1:=by
 have I:ps.length<=N.length:=by have:=congrArg S5 S.pre;rw [L3] at this;omega
 obtain ⟨m,J,rfl,C⟩:=x.done;have o :∀b:Addr,b∉(cxOf CX P w K mg base N qual scope f cd A outer s H E).ex:=λ b z=>absurd (show b∈([]:List Addr) from z) (by simp);refine ⟨⟨e0.mod,S.kind,rfl,rfl,t0 _,λ y z c m d=>?_,λ y g=>?_,λ y c _ h=>?_,λ _=>hd,Around.frames_deeper e0.frames,.inr ⟨rfl,rfl⟩,λ b z=>absurd z (o b),e0.bs,e0.bsz,λ b _ _=>o b,λ b z=>absurd z (o b),e0.funs,e0.frf⟩,
  rfl,e0.bare,Un.kept C,⟨_,x.toInCall.ns,λ i y v m d G=>?_⟩,λ y c h=>⟨_,x.cell y c h⟩,e0.hok.fresh (t0 _),λ y c h=>?_,λ p j=>absurd (show p∈([]:zP) from j) (by simp),e0.hok.kept C,?_⟩
 ·exact name_of_addr x.apart (K5 m) (K5 d)
 ·have g:scope.names.lookup y=some .cell\/scope.names.lookup y=some .free:=g;rcases g with g|g
  ·exact zh1 g
  ·exact absurd rfl (S.nofree _ (K5 g))
 ·exact V2 (x.above y c (K5 h))
 ·have l:i < vs.length:=by
   unfold start at d;by_cases l:i < vs.length
   ·exact l
   ·rw [W1 (by simpa using l)] at d;rw [W7] at d;split at d<;>cases d
  have F:vs[i]? = some v:=by
   unfold start at d;rw [F2 (by simpa using l),O0] at d;cases e:vs[i]? with
   | none=>rw [e] at d;cases d
   | some a=>rw [e] at d;cases d;rfl
  obtain ⟨u,B,D⟩:=r.get F;have j:ps[i]? = some y:=by rw [<-S.pre,j2c (by omega)];exact m
  have t:ps.Nodup:=by rw [<-S.pre];exact S.nd.sublist (List.take_sublist _ _)
  refine ⟨u,D,?_⟩;rcases S.par y (G0 j) with k|k
  ·exact .inl ⟨k,zdg t j B k⟩
  ·obtain ⟨c,e⟩:=zh1 (n:=s.heap.objs.size + 1) k;refine .inr ⟨.inl k,c,e,?_⟩;have q:=x.cell y c e;rw [ze2 t j B (by show scope.names.lookup y≠_;rw [k];decide)] at q;exact q
 ·exact e0.hok.fresh (V2 (x.above y c (K5 h)))
 ·unfold start;show _=N.length;rw [D0,o0,G3];omega
theorem fn_of {CX:CXT} {P:Program} {w:R0} {K:b0} {mg:Str->Option Value} {base:Heap} {k:Nat} {f:Addr} {name qual:Str} {params:Arguments} {body:List Stmt} {scope:Scope} {dV kV doc pm cdv ct oc:Value} {an od:Option Addr}
  {osl:Array (Option Value)} {N ps:List Str} {sp:Sp} (lk:K.lookup f=some ⟨oc,od,.func (Q5 name qual params body scope dV kV doc pm an cdv ct),osl⟩) (hcd:C8 K cdv qual=true) (S:FnScope N ps scope)
  (len :∀vs H Q E,sp vs H Q E->vs.length=ps.length)
  (hbody :∀(A:V1) (outer:List Env) (s:u0) (H:Hp) (vs:List V) (Q:VK) (E:XK),Room k (A.deeper (Y8 qual scope s.heap.objs.size f cdv))->sp vs H Q E->
   ∃t,PSs (cxOf CX P w K mg base N qual scope f cdv A outer s H E) body t/\t { nx:=λ _ H'=>Q .non H',rt:=Q } (start N vs) H) :
  FnOk P w K mg base CX (k + 1) f (Q5 name qual params body scope dV kV doc pm an cdv ct) ps sp:=by
 refine ⟨len,λ A outer s H R G vs Q E i c D r m=>?_⟩;have F:=len _ _ _ _ m;have KX:K.In s.heap:=c.mod.kin.keeps λ b o e=>(c.bs b o e).1;have z:s.heap.NoLimit:=c.mod.nolimit.keeps λ b o e=>(c.bs b o e).1;have M :∀y∈ps.zip G,scope.names.lookup y.1=some .local\/(scope.names.lookup y.1=some .cell/\((cellsFrom (s.heap.objs.size + 1) scope.names []).lookup y.1).isSome=true):=λ ⟨n,v⟩ hy=>by
  rcases S.par n (G8 hy).1 with q|q
  ·exact .inl q
  ·exact .inr ⟨q,j20 _ _ _ (.inl q)⟩
 refine codeAny_call_function i.depth (KX _ _ lk) rfl S.co S.gen rfl (PySem.W.codeRec_of KX hcd) (D _ _ _ _ ?_);refine wpAny_newFunctionEnv_cells S.kind M λ O p l x=>?_;subst p;refine ⟨z.keeps x.toInCall.keep,codeAny_func ?_⟩;obtain ⟨t,B,L⟩:=hbody A outer s H vs Q E (i.deeper _) m;have I:Inv (cxOf CX P w K mg base N qual scope f cdv A outer s H E) [] (start N vs) H l:=zif S i.hd c F r x;refine j3 (B [] l (start N vs) H _ I L) (λ C h a=>?_) λ e h a=>a;have j :∀{d:St} {H':Hp} {v:V} {u:Value},Inv (cxOf CX P w K mg base N qual scope f cdv A outer s H E) [] d H' h->RelV v u->Q v H'->CE outer P w H s Q u h:=
  λ {d H' v u} J g q=>⟨v,H',J.os,J.bare,J.base,J.hok,g,q⟩
 cases C with
 | ret u=>obtain ⟨v,d,H',J,g,q⟩:=a;exact j J g q
 | next=>obtain ⟨d,H',J,q⟩:=a;exact j (v:=V.non) (u:=U2) J rfl q
 | brk=>obtain ⟨_,_,_,q⟩:=a;exact Q3 q
 | cont=>obtain ⟨_,_,_,q⟩:=a;exact Q3 q
section
variable {X:Cx} {x:Str} {p pos:Pos} {e:Expr} {es:List Expr} {t:TA} {id T:String} {r:List V->Hp->VK->Prop}
def tCB (r:List V->Hp->VK->Prop) (t:TA):TE:=λ σ H Q=>t σ H λ vs H1=>r vs H1 Q
theorem z09 (hc:CallR X (.builtin id) r) (hg:Gl X x) (hm:X.mg x=none) (hv:F7 x=some (.builtin id)) (ha:PA X (e :: es) t) (hn:x≠"__name__":=by decide) (hdb:(x == ("__debug__" : Str))=false:=by decide)
  (he:N1 (e :: es) X.env=(false,C3 e X.env) :: N1 es X.env:=by rfl) (hpl:(F4 pos (N1 es X.env)).any (·.1)=false:=by rfl):PE X (.Call (.Name x p) (e :: es) [] pos) (tCB r t):=by
 intro a s σ H Q I h;refine Z5 (ld_blt I hg hm hv ?_ hn hdb);exact PyProof.Rows.callWith_builtin1 (thn (ha pos a s σ H _ I h) λ b c ⟨vs,H1,I1,r1,q1⟩=>hc a c σ H1 vs b Q I1 r1 q1) he hpl
theorem z0t (hc:CallR X (.type T) r) (hg:Gl X x) (hm:X.mg x=none) (hv:F7 x=some (.type T)) (ha:PA X (e :: es) t) (hn:x≠"__name__":=by decide) (hdb:(x == ("__debug__" : Str))=false:=by decide)
  (he:N1 (e :: es) X.env=(false,C3 e X.env) :: N1 es X.env:=by rfl) (hpl:(F4 pos (N1 es X.env)).any (·.1)=false:=by rfl):PE X (.Call (.Name x p) (e :: es) [] pos) (tCB r t):=by
 intro a s σ H Q I h;refine Z5 (ld_blt I hg hm hv ?_ hn hdb);exact O3 (thn (ha pos a s σ H _ I h) λ b c ⟨vs,H1,I1,r1,q1⟩=>hc a c σ H1 vs b Q I1 r1 q1) he hpl
end
end L2
namespace HT
open PySem PyProof.Rows
section
variable {prog:Program} {w:R0} {A:V1} {E:Value->u0->Prop} {s:u0}
theorem cat_tup {t b:Addr} {vs ws:List Value} {Q:Value->u0->Prop} (ht:IsTup s.heap t vs.toArray) (hb:IsTup s.heap b ws.toArray) (hv:vs≠[])
  (h1:ws=[]->Q (.ref t) s) (h2:ws≠[]->Q (.ref s.heap.objs.size) { s with heap:=s.heap.push { cls:=.type "tuple",data:=.seq (vs++ws).toArray } })
  (hsz:vs.length + ws.length<=sizeLine):W0 (u1 prog w) A (Q4 .Add (.ref t) (.ref b)) Q E s:=by
 obtain ⟨⟨cls,g,data,f⟩,c,m,n,h⟩:=id ht;obtain ⟨⟨p,d,o,i⟩,a,j,l,k⟩:=id hb;simp only at m h j k;subst m h j k;have e:vs.toArray++ws.toArray=(vs++ws).toArray:=by simp
 by_cases hw:ws=[]
 ·exact concat_meets ⟨_,c,rfl⟩ ⟨_,a,rfl⟩ j1i seq_tuple_add U7 L7 (z7 _ _)
   (tuple_addW1 t b vs.toArray ws.toArray n l g d f i (by simpa using hv) (by simp [hw])) ⟨c,a,h1 hw⟩
 ·refine concat_meets ⟨_,c,rfl⟩ ⟨_,a,rfl⟩ j1i seq_tuple_add U7 L7 (z7 _ _)
   (tuple_addW2 t b vs.toArray ws.toArray n l g d f i (by simpa using hv) (by simpa using hw) (by rw [K0,K0];exact hsz)) ⟨c,a,?_⟩
  rw [e];exact h2 hw
def sIx (n d:Nat):Option Int->Nat
 | none=>d
 | some v=>if v < 0 then (v + (n:Int)).toNat else min v.toNat n
theorem sIx_none (n d:Nat):sIx n d none=d:=rfl
theorem sIx_nat (n d k:Nat):sIx n d (some (k:Int))=min k n:=by show (if (k:Int) < 0 then ((k:Int) + (n:Int)).toNat else min (k:Int).toNat n)=min k n;rw [if_neg (by omega),j6]
theorem sIx_le (n d:Nat) (hd:d<=n) (o:Option Int):sIx n d o<=n:=by
 cases o with
 | none=>exact hd
 | some v=>
  show (if v < 0 then (v + (n:Int)).toNat else min v.toNat n)<=n;by_cases hv:v < 0
  ·rw [if_pos hv];omega
  ·rw [if_neg hv];exact Nat.min_le_right _ _
theorem zks (v:Int) (n d:Nat):(if v < 0 then max (v + (n:Int)) 0 else min v (n:Int))=((sIx n d (some v):Nat):Int):=by
 show (if v < 0 then max (v + (n:Int)) 0 else min v (n:Int))=(((if v < 0 then (v + (n:Int)).toNat else min v.toNat n):Nat):Int);by_cases hv:v < 0
 ·simp only [if_pos hv];omega
 ·simp only [if_neg hv];omega
theorem zff (lo hi:Option Int) (n:Nat):F6 lo hi 1 (n:Int)=(((sIx n 0 lo:Nat):Int),((sIx n n hi:Nat):Int)):=by
 have a:¬ ((1:Int) < 0):=by omega
 unfold F6;simp only [a,if_false];refine j49 ?_ ?_
 ·cases lo with
  | none=>rfl
  | some v=>exact zks v n 0
 ·cases hi with
  | none=>rfl
  | some v=>exact zks v n n
theorem zf4 (i j:Nat):U4 (i:Int) (j:Int) 1=j - i:=by
 unfold U4;have a:(1:Int) > 0:=by omega
 simp only [a,if_true,Int.ediv_one];split<;>omega
theorem za6 {v:Value} {o:Option Int} {Q:Option Int->u0->Prop} (p:j0f v o) (h:Q o s):W0 (u1 prog w) A (Builtin.Slice.slicePartIndex v) Q E s:=by
 cases p with
 | none=>exact slicePart_none h
 | int i t=>exact slicePart_int h
theorem z71 {sl:Addr} {vl vu:Value} {lo hi:Option Int} {n:Nat} {Q:Int×Int×Nat->u0->Prop} (hs:s.heap.IsSliceOf sl vl vu .none) (pl:j0f vl lo) (pu:j0f vu hi)
  (h:Q (((sIx n 0 lo:Nat):Int),1,sIx n n hi - sIx n 0 lo) s):W0 (u1 prog w) A (C9 (.ref sl) (Z2 (n:Int))) Q E s:=by
 obtain ⟨d,b,c,a⟩:=id hs;unfold C9 Builtin.Slice.sliceFields;refine d0 (d0 (X6 b a (x:=vl) rfl (d0 (X6 b a (x:=vu) rfl (d0 (X6 b a (x:=.none) rfl (F0 ?_)))))));refine d0 (slicePart_none ?_);show W0 _ _ (if ((1:Int) == 0)=true then _ else _) _ _ s;rw [if_neg (by decide)];refine d0 (za6 pl (d0 (za6 pu (d0 (F0 ?_)))));show W0 _ _ (match F6 lo hi 1 (n:Int) with|(lo,hi)=>Z2 (lo,(1:Int),U4 lo hi 1)) _ _ s;rw [zff lo hi n];show W0 _ _ (Z2 (((sIx n 0 lo:Nat):Int),(1:Int),U4 ((sIx n 0 lo:Nat):Int) ((sIx n n hi:Nat):Int) 1)) _ _ s;rw [zf4];exact F0 h
theorem zll (xs:Array Value) (i k:Nat):((j1 k).filterMap λ (m:Nat)=>xs[((i:Int) + (m:Int) * 1).toNat]?).toArray=((xs.toList.drop i).take k).toArray:=by
 have e:(λ (m:Nat)=>xs[((i:Int) + (m:Int) * 1).toNat]?)=λ m=>xs[i + m]?:=by
  funext m;have:((i:Int) + (m:Int) * 1).toNat=i + m:=by omega
  rw [this]
 rw [e];have:=pick_run xs i k;rw [List.filterMap_map] at this;have a:((λ x=>xs[x]?) ∘ λ x=>i + x)=λ m=>xs[i + m]?:=rfl;rw [a] at this;rw [this]
theorem getItem_tuple_cut {t sl:Addr} {items:Array Value} {vl vu:Value} {lo hi:Option Int} {Q:Value->u0->Prop} (ht:IsTup s.heap t items) (hs:s.heap.IsSliceOf sl vl vu .none) (pl:j0f vl lo) (pu:j0f vu hi)
  (hw:¬ (sIx items.size 0 lo=0/\sIx items.size items.size hi=items.size))
  (h:Q (.ref s.heap.objs.size) { s with heap:=s.heap.push { cls:=.type "tuple",data:=.seq ((items.toList.drop (sIx items.size 0 lo)).take (sIx items.size items.size hi - sIx items.size 0 lo)).toArray } })
  (hsz:items.size<=sizeLine):W0 (u1 prog w) A (W9 (.ref t) (.ref sl)) Q E s:=by
 have a:sizeOk (.seq ((items.toList.drop (sIx items.size 0 lo)).take (sIx items.size items.size hi - sIx items.size 0 lo)).toArray):=by show ((items.toList.drop (sIx items.size 0 lo)).take (sIx items.size items.size hi - sIx items.size 0 lo)).toArray.size<=sizeLine;rw [K0,L3,u6,P2];omega
 have i:sIx items.size items.size hi<=items.size:=sIx_le _ _ (t0 _) hi;obtain ⟨e,d,f,j⟩:=id hs;have c:s.TypeIs (.ref sl) "slice":=⟨e,d,f⟩
 unfold W9
 try with_reducible refine D4 ?_
 first|refine d0 (F0 ?_)|skip
 refine d0 (wpAny_sequenceKey ht.typeIs (by decide) ?_);refine d0 (P4 (name:=A8 "__getitem__") ht.typeIs S8
  (B3 S8 ht.typeIs entry_tuple_getitem ?_ (args_tuple_getitem _ _)))
 show W0 _ _ (Builtin.Tuple.tupleItemsOf (.ref t) >>= _) _ _ s;refine d0 (tupleItemsOf_ ht ?_);refine d0 (j11 c ?_);rw [if_pos (by decide)];refine d0 (z71 hs pl pu ?_);have b:¬ ((((sIx items.size 0 lo:Nat):Int) == 0 && (1:Int) == 1 && (sIx items.size items.size hi - sIx items.size 0 lo) == items.size)=true):=by intro q;rw [A2,A2] at q;have k:((sIx items.size 0 lo:Nat):Int)=0:=eq_of_beq q.1.1;have g:sIx items.size items.size hi - sIx items.size 0 lo=items.size:=eq_of_beq q.2;exact hw ⟨by omega,by omega⟩
 show W0 _ _ (if (((sIx items.size 0 lo:Nat):Int) == 0 && (1:Int) == 1 && (sIx items.size items.size hi - sIx items.size 0 lo) == items.size)=true then _ else _) _ _ s;rw [if_neg b,zll];first
  | exact d0 (m:=i5 _) (X2 (F0 ⟨_,rfl,F0 h⟩) a)
  | exact d0 (m:=i5 _) (X2 (d0 (F0 (F0 ⟨_,rfl,F0 h⟩))) a)
  | exact d0 (d0 (m:=i5 _) (X2 (F0 (F0 ⟨_,rfl,F0 h⟩)) a))
  | exact d0 (d0 (m:=i5 _) (X2 (F0 ⟨_,rfl,F0 h⟩) a))
end
end HT
namespace L2
open PySem PySem.Spec PyProof.Rows
abbrev TO:=St->Hp->(Option Int->Hp->Prop)->Prop
def PO (X:Cx) (e:Option Expr) (t:TO):Prop:=
 ∀(pins:zP) (s:u0) (σ:St) (H:Hp) (Q:Option Int->Hp->Prop),Inv X pins σ H s->t σ H Q->
  W0 (u1 X.prog X.w) X.A (evalPart e X.env) (λ u s'=>∃o H',Inv X pins σ H' s'/\j0f u o/\Q o H') X.xe s
def zhr:TO:=λ _ H Q=>Q none H
def tPart (t:TE):TO:=λ σ H Q=>t σ H λ x H1=>∃i,x=.int i/\Q (some i) H1
theorem zay {ns:List Int} :∀{us:List Value},Vals (ns.map V.int) us->c9 us ns:=by
 induction ns with
 | nil=>intro us r;rw [L4] at r;cases r;exact .nil
 | cons n ns ih=>
  intro us r;rw [X0] at r;cases r with
  | cons r1 r2=>obtain ⟨t,e⟩:=r1;subst e;exact .cons n t (ih r2)
section
variable {X:Cx} {e:Expr} {te:TE} {lo hi:Option Expr} {tl th:TO} {pos p2:Pos}
theorem z4s:PO X none zhr:=by intro a s σ H Q I h;rw [evalPart_none];exact F0 ⟨none,H,I,.none,h⟩
theorem z2r (h:PE X e te):PO X (some e) (tPart te):=by intro a s σ H Q I b;rw [evalPart_some];refine thn (h a s σ H _ I b) λ u c ⟨x,H1,I1,r1,q1⟩=>?_;obtain ⟨i,rfl,q⟩:=q1;obtain ⟨t,rfl⟩:=r1;exact ⟨some i,H1,I1,.int i t,q⟩
def SlR (X:Cx) (r:V->Option Int->Option Int->Hp->VK->Prop):Prop:=
 ∀(pins:zP) (s:u0) (σ:St) (H:Hp) (x:V) (v vl vu:Value) (lo hi:Option Int) (sl:Addr) (Q:VK),Inv X pins σ H s->RelV x v->s.heap.IsSliceOf sl vl vu .none->j0f vl lo->j0f vu hi->r x lo hi H Q->
  ∃T id,typeLookup (.type T) "__getitem__" = Z2 (some (.builtin id))/\s.TypeIs v T/\W0 (u1 X.prog X.w) X.A (W9 v (.ref sl)) (EP X pins σ Q) X.xe s
theorem SlR.or {r r':V->Option Int->Option Int->Hp->VK->Prop} (h:SlR X r) (h':SlR X r'):SlR X (λ x lo hi H Q=>r x lo hi H Q\/r' x lo hi H Q):=by
 intro d s σ H x v e c lo hi b Q I f g a i q;rcases q with q|q
 ·exact h d s σ H x v e c lo hi b Q I f g a i q
 ·exact h' d s σ H x v e c lo hi b Q I f g a i q
def tSl (r:V->Option Int->Option Int->Hp->VK->Prop) (te:TE) (tl th:TO):TE:=λ σ H Q=>te σ H λ x H1=>tl σ H1 λ l H2=>th σ H2 λ u H3=>r x l u H3 Q
theorem z2l {r:V->Option Int->Option Int->Hp->VK->Prop} (hr:SlR X r) (he:PE X e te) (hl:PO X lo tl) (hu:PO X hi th):PE X (.Subscript e (.Slice lo hi none p2) pos) (tSl r te tl th):=by intro c s σ H Q I h;refine j44 (thn (he c s σ H _ I h) λ v j ⟨x,H1,I1,r1,q1⟩=>?_);refine wpAny_Slice (thn (hl c j σ H1 _ I1 q1) λ d i ⟨l,H2,I2,pl,q2⟩=>thn (hu c i σ H2 _ I2 q2) λ f a ⟨u,H3,I3,pu,q3⟩=>?_);rw [evalPart_none];refine F0 ?_;have n:Inv X c σ H3 { a with heap:=a.heap.push { cls:=.type "slice",data:=.fields #[d,f,.none] } }:=I3.kept (t':=a.toks) λ b o q=>C0 _ q;obtain ⟨T,id,m,k,g⟩:=hr c { a with heap:=a.heap.push { cls:=.type "slice",data:=.fields #[d,f,.none] } } σ H3 x v d f l u a.heap.objs.size Q n r1 (j10 ..) pl pu q3;show W0 (u1 X.prog X.w) X.A (j09 e (.Slice lo hi none p2) v (.ref a.heap.objs.size)) (EP X c σ Q) X.xe { a with heap:=a.heap.push { cls:=.type "slice",data:=.fields #[d,f,.none] } };exact j3g (ops:=[.ref a.heap.objs.size,v]) k m g (by with_unfolding_all rfl)
def cutV (xs:List V) (lo hi:Option Int):List V:=(xs.drop (HT.sIx xs.length 0 lo)).take (HT.sIx xs.length xs.length hi - HT.sIx xs.length 0 lo)
theorem z83 (xs:List V) (lo hi:Option Int):(cutV xs lo hi).length<=xs.length:=by unfold cutV;rw [L3,u6];omega
def rSlT (K:b0):V->Option Int->Option Int->Hp->VK->Prop:=λ x lo hi H Q=>∃a xs,x=.ref a/\SqT K H a xs/\
 ¬ (HT.sIx xs.length 0 lo=0/\HT.sIx xs.length xs.length hi=xs.length)/\∀p,H p=none->Q (.ref p) (upd H p (.tup (cutV xs lo hi)))
theorem sl_tup:SlR X (rSlT X.K):=by
 intro A s σ H x v w z d f y Q I m j t l h;obtain ⟨a,c,rfl,n,k,q⟩:=h;cases m;obtain ⟨p,r,i,g⟩:=I.tuple n;have e:p.toArray.size=c.length:=by rw [K0];exact r.length.symm
 refine ⟨"tuple",_,PyProof.Rows.slot_tuple_getitem.lookup,i.typeIs,?_⟩;refine HT.getItem_tuple_cut i j t l (by rw [e];exact k) ?_ (by rw [e];exact g);rw [e];refine ⟨.ref s.heap.objs.size,_,I.laid (t':=s.toks) (o:=.tup (cutV c d f)) (λ b u q=>C0 _ q) (t0 _) ?_,rfl,q _ (I.hok.fresh (t0 _))⟩;exact ⟨A0 (z83 c d f) g,_,(r.drop (HT.sIx c.length 0 d)).take (HT.sIx c.length c.length f - HT.sIx c.length 0 d),IsTupN.new _ _⟩
noncomputable def rCatT (K:b0):R2:=λ x y H Q=>∃a b xs ys,x=.ref a/\y=.ref b/\SqT K H a xs/\SqT K H b ys/\xs≠[]/\xs.length + ys.length<=sizeLine/\
 (ys=[]->Q (.ref a) H)/\(ys≠[]->∀p,H p=none->Q (.ref p) (upd H p (.tup (xs++ys))))
theorem Vals.nil_iff {xs:List V} {us:List Value} (r:Vals xs us):us=[]↔xs=[]:=by
 cases r with
 | nil=>simp
 | cons _ _=>simp
theorem z86:OpR X (Q4 .Add) (rCatT X.K):=by intro D s σ H x y v u Q I g f h;obtain ⟨a,b,r,k,rfl,rfl,n,l,i,e,t,p⟩:=h;cases g;cases f;obtain ⟨B,d,m,_⟩:=I.tuple n;obtain ⟨C,c,j,_⟩:=I.tuple l;refine HT.cat_tup m j (λ z=>i (d.nil_iff.mp z)) (λ z=>⟨.ref a,H,I,rfl,t (c.nil_iff.mp z)⟩) (λ z=>?_) (by rw [<-d.length,<-c.length];exact e);refine ⟨.ref s.heap.objs.size,_,I.laid (t':=s.toks) (o:=.tup (r++k)) (λ b A q=>C0 _ q) (t0 _) ?_,rfl,p (λ w=>z (c.nil_iff.mpr w)) _ (I.hok.fresh (t0 _))⟩;exact ⟨by rw [D0];exact e,_,d.append c,IsTupN.new _ _⟩
end
def ixN (n:Nat) (i:Int):Option Nat:=if 0<=i then (if i < n then some i.toNat else none) else if -(n:Int)<=i then some (i + n).toNat else none
def atI {α:Type} (xs:List α) (i:Int):Option α:=(ixN xs.length i).bind λ j=>xs[j]?
theorem zki {n:Nat} {i:Int} {j:Nat} (h:ixN n i=some j):seqIndex? i n=some j/\j < n/\-(n:Int)<=i/\i < n:=by
 unfold ixN at h;by_cases h0:0<=i
 ·rw [if_pos h0] at h;by_cases h1:i < n
  ·rw [if_pos h1] at h;have e:i.toNat=j:=P1 h;exact ⟨by rw [seqIndex_of h0 h1,e],by omega,by omega,h1⟩
  ·rw [if_neg h1] at h;cases h
 ·rw [if_neg h0] at h;by_cases h1:-(n:Int)<=i
  ·rw [if_pos h1] at h;have e:(i + n).toNat=j:=P1 h;exact ⟨by rw [seqIndex_neg (by omega) h1,e],by omega,h1,by omega⟩
  ·rw [if_neg h1] at h;cases h
theorem zhw {α:Type} {xs:List α} {i:Int} {v:α} (h:atI xs i=some v) :∃j,seqIndex? i xs.length=some j/\xs[j]? = some v/\j < xs.length/\-(xs.length:Int)<=i/\i < xs.length:=by
 unfold atI at h;cases e:ixN xs.length i with
 | none=>rw [e] at h;cases h
 | some j=>rw [e] at h;obtain ⟨c,a,d,b⟩:=zki e;exact ⟨j,c,h,a,d,b⟩
theorem z06 {α:Type} {xs:List α} {j:Nat} {v:α} (h:xs[j]? = some v):atI xs (j:Int)=some v:=by
 have a:j < xs.length:=(List.getElem?_eq_some_iff.mp h).1;have e:ixN xs.length (j:Int)=some j:=by unfold ixN;rw [if_pos (by omega),if_pos (by omega)];simp
 unfold atI;rw [e];exact h
def zk5 (b:Expr):Prop:=∀o i,j25 b false o i=operate [o,i] (W9 o i)
def IxR (X:Cx) (r:R2):Prop:=
 ∀(value slice:Expr) (pins:zP) (s:u0) (σ:St) (H:Hp) (x y:V) (v u:Value) (Q:VK),Inv X pins σ H s->RelV x v->RelV y u->r x y H Q->
  j25 slice false v u=operate [v,u] (W9 v u)->W0 (u1 X.prog X.w) X.A (j09 value slice v u) (EP X pins σ Q) X.xe s
def MtR (X:Cx) (id:String) (r:V->List V->Hp->VK->Prop):Prop:=
 ∀(pins:zP) (s:u0) (σ:St) (H:Hp) (x:V) (xs:List V) (v:Value) (us:List Value) (Q:VK),Inv X pins σ H s->RelV x v->Vals xs us->r x xs H Q->
  W0 (u1 X.prog X.w) X.A (call (.builtin id) (v :: us)) (EP X pins σ Q) X.xe s
section
variable {X:Cx} {a b:Expr} {ta tb:TE} {pos:Pos}
theorem IxR.or {r r':R2} (h:IxR X r) (h':IxR X r'):IxR X (λ x y H Q=>r x y H Q\/r' x y H Q):=by
 intro e a b s σ H x y v u Q I c f q d;rcases q with q|q
 ·exact h e a b s σ H x y v u Q I c f q d
 ·exact h' e a b s σ H x y v u Q I c f q d
theorem pe_ix {r:R2} (hr:IxR X r) (ha:PE X a ta) (hb:PE X b tb) (hs:zk5 b):PE X (.Subscript a b pos) (tOp r ta tb):=by intro d s σ H Q I h;exact j44 (binT ha hb I h λ v u c x y e g f i q=>hr a b d c σ e x y v u Q g f i q (hs _ _))
def rIxL (K:b0):R2:=λ x y H Q=>∃p xs i v,x=.ref p/\y=.int i/\SqL K H p xs/\atI xs i=some v/\Q v H
def rIxT (K:b0):R2:=λ x y H Q=>∃p xs i v,x=.ref p/\y=.int i/\SqT K H p xs/\atI xs i=some v/\Q v H
def rIxS:R2:=λ x y H Q=>∃z i c,x=.str z/\y=.int i/\z.length<=sizeLine/\atI z.cps.toList i=some c/\Q (.str ⟨#[c]⟩) H
theorem ix_list:IxR X (rIxL X.K):=by
 intro N J g s σ H x y v u Q I n l h e;obtain ⟨p,O,i,z,rfl,rfl,D,k,q⟩:=h;cases n;obtain ⟨t,rfl⟩:=l;obtain ⟨o,r,c,M⟩:=I.list D;obtain ⟨j,a,A,G,m,E⟩:=zhw k;obtain ⟨w,f,B⟩:=r.get A;have C:=r.length;have L:=line63;have d:EP X g σ Q w s:=⟨z,H,I,B,q⟩
 by_cases h0:0<=i
 ·have b:i.toNat=j:=by rw [seqIndex_of h0 E] at a;exact P1 a
  exact item_listR c.isList h0 (by omega) (by rw [b];simpa using f) d e
 ·have b:(i + (o.toArray.size:Int)).toNat=j:=by rw [seqIndex_neg (by omega) m] at a;rw [K0,<-C];exact P1 a
  exact subscriptTail_builtinR (x:=w) c.isList.typeIs slot_list_getitem.lookup
   (wpAny_getItem_list_neg (Q:=λ r F=>r=w/\EP X g σ Q r F) c.isList (by omega) (by rw [K0]<;>omega) (by omega) (by rw [b];simpa using f) ⟨rfl,d⟩) e
theorem ix_tup:IxR X (rIxT X.K):=by
 intro L E b s σ H x y v u Q I g f h e;obtain ⟨p,N,i,z,rfl,rfl,A,c,q⟩:=h;cases g;obtain ⟨t,rfl⟩:=f;obtain ⟨J,r,a,G⟩:=I.tuple A;obtain ⟨j,l,m,C,D,M⟩:=zhw c;obtain ⟨w,k,n⟩:=r.get m;have o:=r.length;have F:=line63;have d:EP X b σ Q w s:=⟨z,H,I,n,q⟩
 exact subscriptTail_builtinR (x:=w) a.typeIs slot_tuple_getitem.lookup
  (getItem_tuple (j:=j) (Q:=λ r B=>r=w/\EP X b σ Q r B) a (by omega) (by omega) (by rw [K0,<-o];exact l) (by simpa using k) ⟨rfl,d⟩) e
theorem ix_str:IxR X rIxS:=by
 intro B r D s σ H x y v u Q I g e h d;obtain ⟨z,i,c,rfl,rfl,A,b,q⟩:=h;obtain ⟨t,rfl⟩:=g;obtain ⟨C,rfl⟩:=e;obtain ⟨j,a,k,p,f,n⟩:=zhw b;have l:z.cps.toList.length=z.length:=by simp [Str.length]
 rw [l] at a f n;have w:=line63;exact j3g (typeIs_str s z t) slot_str_getitem.lookup (getItem_str (c:=c) (by have m:decide (i < -(2 ^ 63:Int))=false:=decide_eq_false (by omega);have o:decide (i ≥ 2 ^ 63)=false:=decide_eq_false (by omega);rw [m,o,Bool.or_false]) (by rw [a];simpa using k) ⟨.str ⟨#[c]⟩,H,I.tok _,⟨_,rfl⟩,q⟩) d
def rIx (K:b0):R2:=λ x y H Q=>rIxL K x y H Q\/rIxT K x y H Q\/rIxS x y H Q
theorem ix_seq:IxR X (rIx X.K):=ix_list.or (ix_tup.or ix_str)
theorem zgt (its:List Value) (n j:Nat) (u:Value):G5 (·.setIfInBounds j u) { cls:=.type "list",data:=.seq its.toArray n }={ cls:=.type "list",data:=.seq (its.set j u).toArray n }:=by simp [G5]
theorem Inv.lst {pins:zP} {σ:St} {H:Hp} {s:u0} {p:Addr} {xs:List V} (I:Inv X pins σ H s) (h:H p=some (.lst xs)) :
  ∃(its:List Value) (n:Nat),Vals xs its/\s.heap.get? p=some { cls:=.type "list",data:=.seq its.toArray n }/\xs.length<=sizeLine:=by
 obtain ⟨z,its,n,r,e⟩:=I.hok p _ h;exact ⟨its,n,r,e,z⟩
theorem Inv.lstUpd {pins:zP} {σ:St} {H:Hp} {s:u0} {p:Addr} {xs ys:List V} {its its':List Value} {n n':Nat} {f:Obj->Obj} (I:Inv X pins σ H s) (h:H p=some (.lst xs))
  (ho:s.heap.get? p=some { cls:=.type "list",data:=.seq its.toArray n }) (hf:f { cls:=.type "list",data:=.seq its.toArray n }={ cls:=.type "list",data:=.seq its'.toArray n' }) (r:Vals ys its') (hz:ys.length<=sizeLine) (t:Nat) :
  Inv X pins σ (upd H p (.lst ys)) { s with heap:=s.heap.update p f,toks:=t }:=by
 have e:(s.heap.update p f).get? p=some { cls:=.type "list",data:=.seq its'.toArray n' }:=by rw [N8 f ho (by rw [hf]<;>rfl),hf]
 refine I.write (x:=p) (e:=p) (by rw [h];trivial) (.inl rfl) (λ b u a q=>(m8 _ _ (W3 a)).trans q) ⟨_,e⟩ ?_;exact ⟨hz,its',n',r,e⟩
def rSetL:V->V->V->Hp->(Hp->Prop)->Prop:=λ o i v H Q=>∃p xs k j,o=.ref p/\i=.int k/\H p=some (.lst xs)/\ixN xs.length k=some j/\Q (upd H p (.lst (xs.set j v)))
theorem z5t:PSet X rSetL:=by
 intro B s σ H o i v F E u Q I w y A h;obtain ⟨p,C,k,j,rfl,rfl,e,x,q⟩:=h;cases w;obtain ⟨t,rfl⟩:=y;obtain ⟨l,n,r,d,z⟩:=I.lst e;obtain ⟨a,G,f,g⟩:=zki x;have b:=r.length;have D:=line63;have m:Inv X B σ (upd H p (.lst (C.set j v))) { s with heap:=s.heap.update p (G5 (·.setIfInBounds j u)) }:=
  I.lstUpd e d (zgt l n j u) (r.set A j) (by rw [j0h];exact z) s.toks
 by_cases h0:0<=k
 ·have c:k.toNat=j:=by rw [seqIndex_of h0 g] at a;exact P1 a
  exact PySem.W.ki_setAt d h0 (by omega) (by rw [K0,<-b];exact g) (by rw [c];exact ⟨_,m,q⟩)
 ·have c:(k + (l.toArray.size:Int)).toNat=j:=by rw [seqIndex_neg (by omega) f] at a;rw [K0,<-b];exact P1 a
  exact PySem.W.ki_setBack d (by omega) (by rw [K0,<-b];exact f) (by omega) (by rw [c];exact ⟨_,m,q⟩)
theorem zbw (lo hi:Option Int) (n:Nat):(T2 lo hi none n).1=((HT.sIx n 0 lo:Nat):Int)/\(T2 lo hi none n).2.1=((HT.sIx n n hi:Nat):Int)/\(T2 lo hi none n).2.2=1:=by
 refine ⟨?_,?_,rfl⟩
 ·cases lo with
  | none=>simp [T2,HT.sIx]
  | some i=>
   simp only [T2,HT.sIx,Option.getD_none,show (1:Int) > 0 by decide,if_true];by_cases h:i < 0
   ·simp only [h,if_true]<;>omega
   ·simp only [h,if_false]<;>omega
 ·cases hi with
  | none=>simp [T2,HT.sIx]
  | some i=>
   simp only [T2,HT.sIx,Option.getD_none,show (1:Int) > 0 by decide,if_true];by_cases h:i < 0
   ·simp only [h,if_true]<;>omega
   ·simp only [h,if_false]<;>omega
theorem zb0 (its:List Value) (lo hi:Option Int):slicePick its.toArray lo hi none=((its.drop (HT.sIx its.length 0 lo)).take (HT.sIx its.length its.length hi - HT.sIx its.length 0 lo)).toArray:=by obtain ⟨b,a,c⟩:=zbw lo hi its.toArray.size;unfold slicePick;rw [b,a,c];simp only [sliceRange_one,pick_run,K0]<;>rfl
def rSlL (K:b0):V->Option Int->Option Int->Hp->VK->Prop:=λ x lo hi H Q=>∃a xs,x=.ref a/\SqL K H a xs/\∀p,H p=none->Q (.ref p) (upd H p (.lst (cutV xs lo hi)))
theorem sl_list:SlR X (rSlL X.K):=by intro z s σ H x v t y d e u Q I l i n j h;obtain ⟨a,c,rfl,m,q⟩:=h;cases l;obtain ⟨w,r,f,k⟩:=I.list m;have g:=r.length;refine ⟨"list",_,slot_list_getitem.lookup,f.isList.typeIs,?_⟩;refine wpAny_getItem_list_slice f.isList i n j .none (by simp) ?_ (by rw [K0]<;>omega);rw [zb0,<-g];refine ⟨.ref s.heap.objs.size,_,I.laid (t':=s.toks) (o:=.lst (cutV c d e)) (λ b p q=>C0 _ q) (t0 _) ?_,rfl,q _ (I.hok.fresh (t0 _))⟩;exact ⟨A0 (z83 c d e) k,_,0,(r.drop (HT.sIx c.length 0 d)).take (HT.sIx c.length c.length e - HT.sIx c.length 0 d),Y0 _ rfl⟩
def flatV:V->Bool
 | .non=>true
 | .bl _=>true
 | .int _=>true
 | .str _=>true
 | _=>false
noncomputable def eqV:V->V->Bool
 | .non,.non=>true
 | .bl a,.bl b=>a == b
 | .bl a,.int b=>(if a then 1 else 0) == b
 | .int a,.bl b=>a == (if b then 1 else 0)
 | .int a,.int b=>a == b
 | .str a,.str b=>a == b
 | _,_=>false
theorem eqAt_V {A:V1} {s:u0} {y x:V} {u v:Value} (ry:RelV y u) (rx:RelV x v) (fy:flatV y=true) (fx:flatV x=true):SeqAt.EqAt A s u v (eqV y x):=by
 cases y with
 | non=>
  cases ry;cases x with
  | non=>cases rx;exact SeqAt.EqAt.same _
  | bl b=>cases rx;exact SeqAt.EqAt.none_bool b
  | int b=>obtain ⟨t,rfl⟩:=rx;exact SeqAt.EqAt.none_int b t
  | str b=>obtain ⟨t,rfl⟩:=rx;exact SeqAt.EqAt.none_str b t
  | _=>exact absurd (show false=true from fx) N0
 | bl a=>
  cases ry;cases x with
  | non=>cases rx;exact SeqAt.EqAt.bool_none a
  | bl b=>cases rx;exact SeqAt.EqAt.bool_bool a b
  | int b=>obtain ⟨t,rfl⟩:=rx;exact SeqAt.EqAt.bool_int a b t
  | str b=>obtain ⟨t,rfl⟩:=rx;exact SeqAt.EqAt.bool_str a b t
  | _=>exact absurd (show false=true from fx) N0
 | int a=>
  obtain ⟨c,rfl⟩:=ry;cases x with
  | non=>cases rx;exact SeqAt.EqAt.int_none a c
  | bl b=>cases rx;exact SeqAt.EqAt.int_bool a c b
  | int b=>obtain ⟨t,rfl⟩:=rx;exact SeqAt.EqAt.int_int a c b t
  | str b=>obtain ⟨t,rfl⟩:=rx;exact j28 a c b t
  | _=>exact absurd (show false=true from fx) N0
 | str a=>
  obtain ⟨c,rfl⟩:=ry;cases x with
  | non=>cases rx;exact SeqAt.EqAt.str_none a c
  | bl b=>cases rx;exact SeqAt.EqAt.str_bool a c b
  | int b=>obtain ⟨t,rfl⟩:=rx;exact j27 a c b t
  | str b=>obtain ⟨t,rfl⟩:=rx;exact j26 a c b t
  | _=>exact absurd (show false=true from fx) N0
 | _=>exact absurd (show false=true from fy) N0
noncomputable def eqU (x:V) (u:Value):Bool:=match u with
 | .none=>eqV .non x
 | .bool b=>eqV (.bl b) x
 | .int i _=>eqV (.int i) x
 | .str z _=>eqV (.str z) x
 | _=>false
theorem eqU_of {x y:V} {u:Value} (r:RelV y u) (f:flatV y=true):eqU x u=eqV y x:=by
 cases y with
 | non=>cases r;rfl
 | bl b=>cases r;rfl
 | int i=>obtain ⟨t,rfl⟩:=r;rfl
 | str z=>obtain ⟨t,rfl⟩:=r;rfl
 | _=>exact absurd (show false=true from f) N0
theorem zac {x:V} :∀{xs:List V} {us:List Value},Vals xs us->xs.all flatV=true->us.any (eqU x)=xs.any λ y=>eqV y x
 | _,_,.nil,_=>rfl
 | y :: xs,u :: us,.cons r t,f=>by rw [List.all_cons,A2] at f;rw [O7,O7,eqU_of r f.1,zac t f.2]
theorem z6h {A:V1} {s:u0} {x:V} {v:Value} (rx:RelV x v) (fx:flatV x=true) :∀{xs:List V} {us:List Value},Vals xs us->xs.all flatV=true->∀u∈us,SeqAt.EqAt A s u v (eqU x u)
 | _,_,.nil,_=>λ u a=>by cases a
 | y :: xs,u :: us,.cons r t,f=>λ b a=>by
  rw [List.all_cons,A2] at f;rcases List.mem_cons.mp a with rfl|a
  ·rw [eqU_of r f.1];exact eqAt_V r rx f.1 fx
  ·exact z6h rx fx t f.2 b a
noncomputable def inV (x:V) (xs:List V):Bool:=xs.any λ y=>eqV y x
noncomputable def rIn (K:b0) (neg:Bool):R2:=λ x y H Q=>∃p xs,y=.ref p/\(SqL K H p xs\/SqT K H p xs)/\flatV x=true/\xs.all flatV=true/\Q (.bl (if neg then !inV x xs else inV x xs)) H
theorem z1x:OpR X (B2 .In) (rIn X.K false):=by
 intro j s σ H x y v u Q I f g h;obtain ⟨p,k,rfl,b,e,fs,q⟩:=h;cases g;rcases b with b|b
 ·obtain ⟨a,r,d,i⟩:=I.list b;refine SeqAt.in_listAt (eqU x) d.isList (λ w c=>z6h f e r fs w (by simpa using c)) ⟨.bl _,H,I,rfl,?_⟩;rw [show a.toArray.any (eqU x)=a.any (eqU x) by simp,zac r fs];exact q
 ·obtain ⟨a,r,d,i⟩:=I.tuple b;refine SeqAt.in_tupleAt (eqU x) d (λ w c=>z6h f e r fs w (by simpa using c)) ⟨.bl _,H,I,rfl,?_⟩;rw [show a.toArray.any (eqU x)=a.any (eqU x) by simp,zac r fs];exact q
theorem z1b:OpR X (B2 .NotIn) (rIn X.K true):=by
 intro j s σ H x y v u Q I f g h;obtain ⟨p,k,rfl,b,e,fs,q⟩:=h;cases g;rcases b with b|b
 ·obtain ⟨a,r,d,i⟩:=I.list b;refine SeqAt.notIn_listAt (eqU x) d.isList (λ w c=>z6h f e r fs w (by simpa using c)) ⟨.bl _,H,I,rfl,?_⟩;rw [show a.toArray.any (eqU x)=a.any (eqU x) by simp,zac r fs];exact q
 ·obtain ⟨a,r,d,i⟩:=I.tuple b;refine SeqAt.notIn_tupleAt (eqU x) d (λ w c=>z6h f e r fs w (by simpa using c)) ⟨.bl _,H,I,rfl,?_⟩;rw [show a.toArray.any (eqU x)=a.any (eqU x) by simp,zac r fs];exact q
theorem call_len_seq:CallR X (.builtin "len") (λ xs H Q=>∃p ys,xs=[.ref p]/\(SqL X.K H p ys\/SqT X.K H p ys)/\Q (.int ys.length) H):=by
 intro j s σ H xs i Q I r h;obtain ⟨p,ys,rfl,a,q⟩:=h;obtain ⟨u,rfl,g⟩:=vals1 r;cases g;have k:=line63;rcases a with a|a
 ·obtain ⟨e,b,c,f⟩:=I.list a;have d:=b.length;exact Calls.call_len_list c.isList (by simp only [K0]<;>omega) ⟨.int ys.length,H,I.tok _,⟨s.toks + 1,by rw [K0,d]⟩,q⟩
 ·obtain ⟨e,b,c,f⟩:=I.tuple a;have d:=b.length;exact len_tuple c (by simp only [K0]<;>omega) ⟨.int ys.length,H,I.tok _,⟨s.toks + 1,by rw [K0,d]⟩,q⟩
theorem zcn:CallR X (.builtin "len") (λ xs H Q=>∃z,xs=[.str z]/\z.length<=sizeLine/\Q (.int z.length) H):=by intro b s σ H xs a Q I r h;obtain ⟨z,rfl,d,q⟩:=h;obtain ⟨u,rfl,t,rfl⟩:=vals1 r;have c:=line63;exact len_str (by omega) ⟨.int z.length,H,I.tok _,⟨_,rfl⟩,q⟩
theorem CallR.or {f:Value} {r r':List V->Hp->VK->Prop} (h:CallR X f r) (h':CallR X f r'):CallR X f (λ xs H Q=>r xs H Q\/r' xs H Q):=by
 intro c s σ H xs a Q I b q;rcases q with q|q
 ·exact h c s σ H xs a Q I b q
 ·exact h' c s σ H xs a Q I b q
theorem z0j:CallR X (.type "tuple") (λ xs H Q=>∃p ys,xs=[.ref p]/\((SqL X.K H p ys/\∀l,H l=none->Q (.ref l) (upd H l (.tup ys)))\/(SqT X.K H p ys/\Q (.ref p) H))):=by
 intro k s σ H xs x Q I r h;obtain ⟨p,ys,rfl,h⟩:=h;obtain ⟨u,rfl,n⟩:=vals1 r;cases n;rcases h with ⟨g,q⟩|⟨g,q⟩
 ·obtain ⟨d,c,f,i⟩:=I.list g;have v:=c.length;refine call_tuple_list f.isList (λ a t=>?_) (by simp only [K0]<;>omega);have j:Inv X k σ H { s with heap:=a }:=I.kept (t':=s.toks) t;have m:Inv X k σ (upd H a.objs.size (.tup ys)) { s with heap:=a.push { cls:=.type "tuple",data:=.seq d.toArray } }:=
   j.laid (t':=s.toks) (λ b o e=>C0 _ e) (t0 _) (show ObjOk X.prog X.w _ _ _ (.tup ys) from ⟨i,d,c,IsTupN.new _ _⟩)
  exact ⟨.ref a.objs.size,_,m,rfl,q _ (j.hok.fresh (t0 _))⟩
 ·obtain ⟨d,c,f,i⟩:=I.tuple g;exact call_tuple_same f ⟨.ref p,H,I,rfl,q⟩
def tyV (K:b0) (T:String) (x:V) (H:Hp):Prop:=match x with
 | .str _=>T = "str"
 | .int _=>T = "int"
 | .ref p=>(T = "list"/\∃xs,SqL K H p xs)\/(T = "tuple"/\∃o,K.lookup p=some o/\o.cls=.type "tuple"/\o.dict=none)\/
   (T = "dict"/\((∃kvs,H p=some (.dK kvs))\/∃kvs,H p=some (.dT kvs)))\/(T = "set"/\∃S n,H p=some (.set S n))
 | _=>False
theorem tyV_is {pins:zP} {σ:St} {H:Hp} {s:u0} {T:String} {x:V} {v:Value} (I:Inv X pins σ H s) (r:RelV x v) (ty:tyV X.K T x H) :
  s.TypeIs v T/\∀a,v=.ref a->∃ob,s.heap.get? a=some ob/\ob.dict=none:=by
 cases x with
 | str z=>obtain ⟨t,rfl⟩:=r;cases (show T = "str" from ty);exact ⟨typeIs_str s z t,λ _ e=>nomatch e⟩
 | int i=>obtain ⟨t,rfl⟩:=r;cases (show T = "int" from ty);exact ⟨typeIs_int s i t,λ _ e=>nomatch e⟩
 | ref p=>
  cases r;rcases ty with ⟨rfl,m,j⟩|⟨rfl,o,b,hc,f⟩|⟨rfl,b⟩|⟨rfl,S,n,b⟩
  ·obtain ⟨l,_,h,_⟩:=I.list j;refine ⟨h.isList.typeIs,λ a e=>?_⟩;cases e;obtain ⟨o,n,e,c,f,_⟩:=h;exact ⟨o,e,f⟩
  ·refine ⟨⟨o,I.kIn p o b,hc⟩,λ a e=>?_⟩;cases e;exact ⟨o,I.kIn _ o b,f⟩
  ·have z :∃o,s.heap.get? p=some o/\o.ExactDict:=by
    rcases b with ⟨k,b⟩|⟨k,b⟩
    ·obtain ⟨_,_,_,_,o,_,_,e,d,_⟩:=I.hok p _ b;exact ⟨o,e,d⟩
    ·obtain ⟨_,_,_,_,o,_,_,e,d,_⟩:=I.hok p _ b;exact ⟨o,e,d⟩
   obtain ⟨o,e,d⟩:=z;refine ⟨⟨o,e,d.1⟩,λ a g=>?_⟩;cases g;exact ⟨o,e,d.2.1⟩
  ·obtain ⟨o,_,_,_,e,d,_⟩:=I.hok p _ b;refine ⟨⟨o,e,d.1⟩,λ a g=>?_⟩;cases g;exact ⟨o,e,d.2.1⟩
 | _=>exact Q3 ty
def tBM0 (K:b0) (T:String) (r:V->List V->Hp->VK->Prop) (to:TE):TE:=λ σ H Q=>to σ H λ x H1=>tyV K T x H1/\r x [] H1 Q
def tBM (K:b0) (T:String) (r:V->List V->Hp->VK->Prop) (to:TE) (t:TA):TE:=λ σ H Q=>to σ H λ x H1=>tyV K T x H1/\t σ H1 λ xs H2=>r x xs H2 Q
variable {o e:Expr} {es:List Expr} {to:TE} {t:TA} {name:Str} {apos cpos:Pos} {T id:String} {r:V->List V->Hp->VK->Prop}
theorem pe_bm0 (pa:PlainAttrs T) (slot:Slot T name id) (hty:typeOf (.builtin id)=Z2 (.type "method_descriptor")) (hm:MtR X id r) (ho:PE X o to)
  (hbase:U3 o name X.env (C3 o X.env)=C3 o X.env:=by rfl) (hline:(apos.endLine == cpos.line)=true:=by rfl):PE X (.Call (.Attribute o name apos) [] [] cpos) (tBM0 X.K T r to):=by
 intro a s σ H Q I h;refine wpAny_Call_method0_late hbase hline (thn (ho a s σ H _ I h) λ v d ⟨x,H1,I1,r1,ty,q1⟩=>?_);obtain ⟨c,b⟩:=tyV_is I1 r1 ty;exact ⟨T,id,pa,slot,hty,c,b,U5 rfl (PySem.evalArgs_none (hm a d σ H1 x [] v [] Q I1 r1 .nil q1))⟩
theorem pe_bm (pa:PlainAttrs T) (slot:Slot T name id) (hty:typeOf (.builtin id)=Z2 (.type "method_descriptor")) (hm:MtR X id r) (ho:PE X o to) (ha:PA X (e :: es) t)
  (hbase:U3 o name X.env (C3 o X.env)=C3 o X.env:=by rfl)
  (hfew:((F4 cpos (N1 (e :: es) X.env)).all (λ x=>!x.1) && (R9 cpos (Y6 [] X.env)).all (λ x=>x.1.isSome)
   && decide ((e :: es).length + ([]:List E6).length + (if ([]:List E6).isEmpty then 0 else 1) < 30))=true:=by rfl)
  (hline:(apos.endLine == cpos.line)=true:=by rfl) (hs:N1 (e :: es) X.env=(false,C3 e X.env) :: N1 es X.env:=by rfl) (hplain:(F4 cpos (N1 es X.env)).any (·.1)=false:=by rfl) :
  PE X (.Call (.Attribute o name apos) (e :: es) [] cpos) (tBM X.K T r to t):=by
 intro a s σ H Q I h;refine wpAny_Call_method_late hbase hfew hline rfl (thn (ho a s σ H _ I h) λ v i ⟨x,H1,I1,r1,ty,q1⟩=>?_);obtain ⟨g,f⟩:=tyV_is I1 r1 ty;refine ⟨T,id,pa,slot,hty,g,f,?_⟩;have b:=ha cpos a i σ H1 _ I1 q1;rw [hs] at b⊢;refine U5 (by show (false || (F4 cpos (N1 es X.env)).any (·.1))=false;rw [hplain]<;>rfl) (U8 ?_);exact thn b λ c d ⟨vs,H2,I2,r2,q2⟩=>hm a d σ H2 x vs v c Q I2 r1 r2 q2
end
def MtM (X:Cx) (id:String) (r:V->List V->Hp->VK->Prop):Prop:=
 ∀(pins:zP) (s:u0) (σ:St) (H:Hp) (x:V) (xs:List V) (v:Value) (us:List Value) (Q:VK),Inv X pins σ H s->RelV x v->Vals xs us->r x xs H Q->
  W0 (u1 X.prog X.w) X.A (call (.builtin id) (v :: us)) (EP X pins σ Q) X.xe s
theorem Vals.one :∀{x:V} {us:List Value},Vals [x] us->∃u,us=[u]/\RelV x u
 | _,_,.cons r .nil=>⟨_,rfl,r⟩
theorem Vals.zero :∀{us:List Value},Vals [] us->us=[]
 | _,.nil=>rfl
theorem Vals.dropLast {xs:List V} {us:List Value} (h:Vals xs us):Vals xs.dropLast us.dropLast:=by
 induction h with
 | nil=>exact .nil
 | cons r t ih=>
  cases t with
  | nil=>exact .nil
  | cons q t'=>exact .cons r ih
theorem zhi {α:Type} (l:List α):l.eraseIdx (l.length - 1)=l.dropLast:=by
 induction l with
 | nil=>rfl
 | cons a r ih=>
  cases r with
  | nil=>rfl
  | cons b r=>
   have e:(a :: b :: r).length - 1=((b :: r).length - 1) + 1:=by have d:(a :: b :: r).length=r.length + 2:=rfl;have c:(b :: r).length=r.length + 1:=rfl;omega
   rw [e,List.eraseIdx_cons_succ,ih]
   all_goals rfl
section
variable {X:Cx} {pins:zP} {σ:St} {H:Hp} {s:u0} {l b:Addr} {xs ys zs:List V}
theorem Inv.lset {its its':List Value} {n:Nat} {f:Array Value->Array Value} {t':Nat} (I:Inv X pins σ H s) (hH:H l=some (.lst xs))
  (e:s.heap.get? l=some { cls:=.type "list",data:=.seq its.toArray n }) (hf:f its.toArray=its'.toArray) (hv:Vals ys its') (hz:ys.length<=sizeLine) :
  Inv X pins σ (upd H l (.lst ys)) { s with heap:=s.heap.update l (G5 f),toks:=t' }:=by
 have q:=PySem.IsL.update e f;rw [hf] at q;refine I.write (x:=l) (e:=l) (by rw [hH];exact trivial) (.inl rfl) (λ c u b a=>(m8 s.heap (G5 f) (W3 b)).trans a) ⟨_,q⟩ ?_;exact ⟨hz,its',_,hv,q⟩
theorem Inv.lnew {its:List Value} {t':Nat} (I:Inv X pins σ H s) (hv:Vals ys its) (hz:ys.length<=sizeLine) :
  Inv X pins σ (upd H s.heap.objs.size (.lst ys)) { s with heap:=s.heap.push { cls:=.type "list",data:=.seq its.toArray },toks:=t' }:=
 I.laid (λ _ _ q=>C0 _ q) (t0 _) ⟨hz,its,0,hv,Y0 _ rfl⟩
theorem Inv.fresh (I:Inv X pins σ H s):H s.heap.objs.size=none:=I.hok.fresh (t0 _)
theorem Inv.lstM (I:Inv X pins σ H s) (hH:H l=some (.lst xs)):xs.length<=sizeLine/\∃(its:List Value) (n:Nat),Vals xs its/\xs.length=its.length/\s.heap.get? l=some { cls:=.type "list",data:=.seq its.toArray n }:=by obtain ⟨z,its,n,r,e⟩:=I.hok l _ hH;exact ⟨z,its,n,r,r.length,e⟩
theorem zlf {n:Nat} (h:n<=sizeLine):Q6 n=false:=by unfold Q6;exact decide_eq_false (by omega)
end
section
variable {X:Cx}
def zjw:V->List V->Hp->VK->Prop:=λ x vs H Q=>∃l xs y,x=.ref l/\vs=[y]/\H l=some (.lst xs)/\xs.length < sizeLine/\Q .non (upd H l (.lst (xs++[y])))
theorem zjn:MtM X "list.append" zjw:=by intro m s σ H x i v k Q I d c h;obtain ⟨l,o,y,rfl,rfl,b,g,q⟩:=h;cases d;obtain ⟨u,rfl,f⟩:=c.one;obtain ⟨z,a,n,r,j,e⟩:=I.lstM b;refine j3j F.slot_list_append ⟨_,e,rfl⟩ F.entry_list_append (F.args_list_append_2 _ _) (PySem.list_append l a.toArray n u (by rw [K0];omega)) ⟨e,?_⟩;refine ⟨.non,_,I.lset (its':=a++[u]) b e (by simp) (r.append (.cons f .nil)) ?_,rfl,q⟩;rw [D0,List.length_singleton];omega
def zkg:V->List V->Hp->VK->Prop:=λ x vs H Q=>∃l b xs zs,x=.ref l/\vs=[.ref b]/\H l=some (.lst xs)/\H b=some (.lst zs)/\xs.length + zs.length<=sizeLine/\Q .non (upd H l (.lst (xs++zs)))
theorem zia:MtM X "list.extend" zkg:=by
 intro G s σ H x B v D Q I m k h;obtain ⟨l,b,J,w,rfl,rfl,d,f,y,q⟩:=h;cases m;obtain ⟨u,rfl,o⟩:=k.one;cases o;obtain ⟨z,a,n,r,C,e⟩:=I.lstM d;obtain ⟨A,c,j,p,E,t⟩:=I.lstM f;have g:a.toArray.size + c.toArray.size<=sizeLine:=by rw [K0,K0];omega
 have i:¬ (not a.toArray.isEmpty && Q6 (a.toArray.size + c.toArray.size))=true:=by rw [zlf g,W8];exact N0
 refine j3j F.slot_list_extend ⟨_,e,rfl⟩ F.entry_list_extend (F.args_list_extend_2 _ _)
  (AutoSeq1.list_extend_list_list_0 l a.toArray n b c.toArray j i (by rw [K0];omega) (by omega)) ⟨e,t,?_⟩
 refine ⟨.non,_,I.lset (its':=a++c) d e (by simp) (r.append p) ?_,rfl,q⟩;rw [D0];omega
def rPop:V->List V->Hp->VK->Prop:=λ x vs H Q=>∃l xs y,x=.ref l/\vs=[]/\H l=some (.lst xs)/\xs[xs.length - 1]? = some y/\Q y (upd H l (.lst xs.dropLast))
theorem mt_pop:MtM X "list.pop" rPop:=by
 intro t s σ H x o v p Q I d c h;obtain ⟨l,w,y,rfl,rfl,b,k,q⟩:=h;cases d;have m:=c.zero;subst m;obtain ⟨z,a,n,r,j,e⟩:=I.lstM b;obtain ⟨u,g,f⟩:=r.get k;have i:a.toArray[a.toArray.size - 1]? = some u:=by show a.toArray[a.length - 1]? = some u;rw [<-o6,<-j];exact g
 refine j3j F.slot_list_pop ⟨_,e,rfl⟩ F.entry_list_pop (F.args_list_pop_1 _) (MeetsSeq.list_pop_last l a.toArray n u i (by rw [K0];omega)) ⟨e,?_⟩;refine ⟨y,_,I.lset (its':=a.dropLast) b e ?_ r.dropLast ?_,f,q⟩
 ·show a.toArray.eraseIdxIfInBounds (a.toArray.size - 1)=a.dropLast.toArray;rw [K0,List.eraseIdxIfInBounds_toArray,zhi]
 ·rw [j4a];omega
noncomputable def rCat:R2:=λ x y H Q=>∃l b xs zs,x=.ref l/\y=.ref b/\H l=some (.lst xs)/\H b=some (.lst zs)/\xs.length + zs.length<=sizeLine/\∀p,H p=none->Q (.ref p) (upd H p (.lst (xs++zs)))
theorem op_cat:OpR X (Q4 .Add) rCat:=by
 intro C s σ H x y v u Q I g f h;obtain ⟨l,b,D,o,rfl,rfl,k,d,t,q⟩:=h;cases g;cases f;obtain ⟨z,a,n,r,A,e⟩:=I.lstM k;obtain ⟨w,c,p,i,B,m⟩:=I.lstM d;refine PySem.P.add_list e m ?_ (by rw [K0,K0];omega);have j:a.toArray++c.toArray=(a++c).toArray:=by simp
 rw [j];exact ⟨.ref _,_,I.lnew (t':=s.toks) (r.append i) (by rw [D0];omega),rfl,q _ I.fresh⟩
end
section
variable {prog:Program} {w:R0} {A:V1} {E:Value->u0->Prop} {s:u0}
set_option maxRecDepth 100000 in
end
section
variable {κ:Type} [DecidableEq κ]
def valV (kvs:List (κ×V)) (k:κ):Option V:=(kvs.find? λ kv=>decide (kv.1=k)).map (·.2)
def putK (kvs:List (κ×V)) (k:κ) (v:V):List (κ×V):=
 if (kvs.any λ kv=>decide (kv.1=k))=true then kvs.map (λ kv=>if kv.1=k then (kv.1,v) else kv) else kvs++[(k,v)]
def dropK (kvs:List (κ×V)) (k:κ):List (κ×V):=kvs.filter λ kv=>decide (kv.1≠k)
theorem z0q {p:κ×V} {r:List (κ×V)} {k:κ} (e:p.1=k):valV (p :: r) k=some p.2:=by simp [valV,Y3,e]
theorem z0p {p:κ×V} {r:List (κ×V)} {k:κ} (e:¬ p.1=k):valV (p :: r) k=valV r k:=by simp [valV,Y3,e]
theorem z4d (k:κ) :∀kvs:List (κ×V),(kvs.any λ kv=>decide (kv.1=k))=(valV kvs k).isSome
 | []=>rfl
 | p :: r=>by
  rw [O7];by_cases e:p.1=k
  ·simp only [z0q e,decide_eq_true e,Bool.true_or,Option.isSome_some]
  ·rw [z0p e,decide_eq_false e,j2g];exact z4d k r
theorem zhd (k j:κ) (y:V) :∀kvs:List (κ×V),valV (kvs.map λ kv=>if kv.1=k then (kv.1,y) else kv) j=(valV kvs j).map λ x=>if j=k then y else x
 | []=>rfl
 | p :: r=>by
  have a:=zhd k j y r;rw [X0];by_cases h:p.1=k
  ·rw [if_pos h];by_cases e:p.1=j
   ·rw [z0q (p:=(p.1,y)) e,z0q e,c8,if_pos (e.symm.trans h)]
   ·rw [z0p (p:=(p.1,y)) e,z0p e,a]
  ·rw [if_neg h];by_cases e:p.1=j
   ·rw [z0q (p:=p) e,z0q e,c8,if_neg (λ z=>h (e.trans z))]
   ·rw [z0p (p:=p) e,z0p e,a]
theorem zdx (k j:κ) (y:V) :∀kvs:List (κ×V),valV kvs k=none->valV (kvs++[(k,y)]) j=if j=k then some y else valV kvs j
 | [],_=>by
  by_cases e:k=j
  ·rw [if_pos e.symm];exact z0q (p:=(k,y)) e
  ·rw [if_neg (λ z=>e z.symm)];exact z0p (p:=(k,y)) e
 | p :: r,hn=>by
  rw [List.cons_append];have a:¬ p.1=k:=λ z=>by rw [z0q z] at hn;cases hn
  rw [z0p a] at hn;have b:=zdx k j y r hn;by_cases e:p.1=j
  ·rw [z0q e,z0q e,if_neg (λ z=>a (e.trans z))]
  ·rw [z0p e,z0p e,b]
theorem z32 (kvs:List (κ×V)) (k j:κ) (y:V):valV (putK kvs k y) j=if j=k then some y else valV kvs j:=by
 unfold putK;by_cases a:(kvs.any λ b=>decide (b.1=k))=true
 ·rw [if_pos a,zhd];rw [z4d] at a;by_cases e:j=k
  ·obtain ⟨x,c⟩:=Option.isSome_iff_exists.mp a;rw [if_pos e,e,c,c8,if_pos rfl]
  ·rw [if_neg e];cases valV kvs j with
   | none=>rfl
   | some x=>rw [c8,if_neg e]
 ·rw [if_neg a];refine zdx k j y kvs ?_;rw [z4d] at a;cases q:valV kvs k with
  | none=>rfl
  | some x=>rw [q] at a;exact (a rfl).elim
theorem z5a (kvs:List (κ×V)) (k:κ) (v:V):(putK kvs k v).length<=kvs.length + 1:=by
 unfold putK;split
 ·rw [o0];omega
 ·rw [D0,P0,R4];omega
theorem zle {kvs:List (κ×V)} {k:κ} (v:V) (h:valV kvs k=none):putK kvs k v=kvs++[(k,v)]:=by unfold putK;rw [z4d,h];exact if_neg (by decide)
theorem RelO.isSome_eq {o:Option V} {u:Option Value} (r:RelO o u):o.isSome=u.isSome:=by
 cases o with
 | none=>cases u with
  | none=>rfl
  | some _=>exact (show False from r).elim
 | some _=>cases u with
  | none=>exact (show False from r).elim
  | some _=>rfl
theorem RelO.getD {o:Option V} {u:Option Value} {d:V} {d':Value} (r:RelO o u) (rd:RelV d d'):RelV (o.getD d) (u.getD d'):=by
 cases o with
 | none=>cases u with
  | none=>exact rd
  | some _=>exact (show False from r).elim
 | some _=>cases u with
  | none=>exact (show False from r).elim
  | some _=>exact r
theorem KV.val {kvs:List (κ×V)} {vs:List (κ×Value)} (r:KV kvs vs) (k:κ):RelO (valV kvs k) (V9 vs k):=by
 unfold KV at r;induction r with
 | nil=>exact True.intro
 | @cons p q ps qs h t ih=>
  obtain ⟨c,d⟩:=h;by_cases e:p.1=k
  ·have a:q.1=k:=c.symm.trans e;have b:V9 (q :: qs) k=some q.2:=by simp [V9,Y3,a]
   rw [z0q e,b];exact d
  ·have a:¬ q.1=k:=λ z=>e (c.trans z);have b:V9 (q :: qs) k=V9 qs k:=by simp [V9,Y3,a]
   rw [z0p e,b];exact ih
theorem KV.any {kvs:List (κ×V)} {vs:List (κ×Value)} (r:KV kvs vs) (k:κ):(kvs.any λ kv=>decide (kv.1=k))=vs.any λ kv=>decide (kv.1=k):=by
 unfold KV at r;induction r with
 | nil=>rfl
 | cons h t ih=>rw [O7,O7,ih,h.1]
theorem KV.repl {kvs:List (κ×V)} {vs:List (κ×Value)} (r:KV kvs vs) (k:κ) {y:V} {u:Value} (ry:RelV y u) :
  KV (kvs.map λ kv=>if kv.1=k then (kv.1,y) else kv) (vs.map λ kv=>if kv.1=k then (kv.1,u) else kv):=by
 unfold KV at r⊢;induction r with
 | nil=>exact .nil
 | @cons p q ps qs h t ih=>
  rw [X0,X0];refine .cons ?_ ih;obtain ⟨a,b⟩:=h;by_cases e:p.1=k
  ·rw [if_pos e,if_pos (a.symm.trans e)];exact ⟨a,ry⟩
  ·rw [if_neg e,if_neg (λ z=>e (a.trans z))];exact ⟨a,b⟩
theorem KV.put {kvs:List (κ×V)} {vs:List (κ×Value)} (r:KV kvs vs) (k:κ) {y:V} {u:Value} (ry:RelV y u):KV (putK kvs k y) (stored vs k u):=by
 unfold putK stored;rw [r.any k];by_cases e:(vs.any λ a=>decide (a.1=k))=true
 ·rw [if_pos e,if_pos e];exact r.repl k ry
 ·rw [if_neg e,if_neg e];exact Paired.snoc r ⟨rfl,ry⟩
theorem KV.drop {kvs:List (κ×V)} {vs:List (κ×Value)} (r:KV kvs vs) (k:κ):KV (dropK kvs k) (without vs k):=by
 unfold KV at r⊢;unfold dropK without;induction r with
 | nil=>exact .nil
 | @cons p q ps qs h t ih=>
  obtain ⟨c,d⟩:=h;rw [C4,C4];by_cases e:p.1=k
  ·have a:¬ decide (p.1≠k)=true:=by simp [e]
   have b:¬ decide (q.1≠k)=true:=by simp [c.symm.trans e]
   rw [if_neg a,if_neg b];exact ih
  ·have f:¬ q.1=k:=λ z=>e (c.trans z);have a:decide (p.1≠k)=true:=by simp [e]
   have b:decide (q.1≠k)=true:=by simp [f]
   rw [if_pos a,if_pos b];exact .cons ⟨c,d⟩ ih
theorem KV.keys {kvs:List (κ×V)} {vs:List (κ×Value)} (r:KV kvs vs):kvs.map (·.1)=vs.map (·.1):=by
 unfold KV at r;induction r with
 | nil=>rfl
 | cons h t ih=>rw [X0,X0,ih,h.1]
theorem KV.length {kvs:List (κ×V)} {vs:List (κ×Value)} (r:KV kvs vs):kvs.length=vs.length:=j1e r
theorem zgu (kvs:List (κ×V)) (k:κ):(dropK kvs k).length<=kvs.length:=K2 _ _
end
theorem kV_is {P:Program} {w:R0} {k:Key} {u:Value} (r:RelV (kV k) u):(z13 P w).is k u=true:=by
 cases k with
 | inl i=>obtain ⟨t,e⟩:=(show∃t,u=R7 i t from r);subst e;exact zem P w i t
 | inr x=>obtain ⟨t,e⟩:=(show∃t,u=r6 x t from r);subst e;exact zed P w x t
theorem ze0 {P:Program} {w:R0} :∀{ks:List Key} {us:List Value},Vals (ks.map kV) us->ItemsAre (z13 P w) ks us
 | [],_,r=>by rw [L4] at r;cases r;exact .nil
 | k :: ks,_,r=>by
  rw [X0] at r;cases r with
  | cons h t=>exact .cons (kV_is h) (ze0 t)
abbrev KT (H:Hp):List (List Key×V)->List (List Key×Addr×Value)->Prop:=E8 λ p q=>p.1=q.1/\H q.2.1=some (.tup (p.1.map kV))/\RelV p.2 q.2.2
theorem KT.val {H:Hp} {kvs:List (List Key×V)} {xs:List (List Key×Addr×Value)} (r:KT H kvs xs) (k:List Key):RelO (valV kvs k) ((Q8 xs k).map (·.2)):=by
 induction r with
 | nil=>exact True.intro
 | @cons p q ps qs h t ih=>
  obtain ⟨c,_,d⟩:=h;by_cases e:p.1=k
  ·have a:q.1=k:=c.symm.trans e;have b:Q8 (q :: qs) k=some q.2:=by simp [Q8,Y3,a]
   rw [z0q e,b];exact d
  ·have a:¬ q.1=k:=λ z=>e (c.trans z);have b:Q8 (q :: qs) k=Q8 qs k:=by simp [Q8,Y3,a]
   rw [z0p e,b];exact ih
theorem KT.repl {H:Hp} {kvs:List (List Key×V)} {xs:List (List Key×Addr×Value)} (r:KT H kvs xs) (k:List Key) {y:V} {u:Value} (ry:RelV y u) :
  KT H (kvs.map λ kv=>if kv.1=k then (kv.1,y) else kv) (xs.map (putAt k u)):=by
 induction r with
 | nil=>exact .nil
 | @cons p q ps qs h t ih=>
  rw [X0,X0];refine .cons ?_ ih;obtain ⟨a,b,c⟩:=h;unfold putAt;by_cases e:p.1=k
  ·rw [if_pos e,if_pos (a.symm.trans e)];exact ⟨a,b,ry⟩
  ·rw [if_neg e,if_neg (λ z=>e (a.trans z))];exact ⟨a,b,c⟩
theorem KT.put {H:Hp} {kvs:List (List Key×V)} {xs:List (List Key×Addr×Value)} (r:KT H kvs xs) (k:List Key) {b:Addr} {y:V} {u:Value} (hb:H b=some (.tup (k.map kV))) (ry:RelV y u) :
  KT H (putK kvs k y) (storedH xs k b u):=by
 have e:(kvs.any λ a=>decide (a.1=k))=(Q8 xs k).isSome:=by rw [z4d,(r.val k).isSome_eq,A7]
 unfold putK storedH;rw [e];by_cases q:(Q8 xs k).isSome=true
 ·rw [if_pos q,if_pos q];exact r.repl k ry
 ·rw [if_neg q,if_neg q];exact Paired.snoc r ⟨rfl,hb,ry⟩
theorem KT.keeps {H H':Hp} {kvs:List (List Key×V)} {xs:List (List Key×Addr×Value)} (r:KT H kvs xs) (ht :∀b ys,H b=some (.tup ys)->H' b=some (.tup ys)):KT H' kvs xs:=
 Paired.mapP r λ _ _ z=>⟨z.1,ht _ _ z.2.1,z.2.2⟩
section
variable {P:Program} {w:R0} {H:Hp} {h:Heap} {a:Addr}
theorem rd_of {u:HO} (ok:HOk P w H h) (e:Rd H a u):ObjOk P w H h a u:=e.ok ok
theorem dk_rd {kvs:zK} (ok:HOk P w H h) (e:Rd H a (.dK kvs)):kvs.length<=sizeLine/\(a == m3)=false/\∃vs,KV kvs vs/\h.DictOf (z13 P w) a vs:=
 show ObjOk P w H h a (.dK kvs) from rd_of ok e
theorem dk_of {kvs:zK} (ok:HOk P w H h) (e:H a=some (.dK kvs)):kvs.length<=sizeLine/\(a == m3)=false/\∃vs,KV kvs vs/\h.DictOf (z13 P w) a vs:=dk_rd ok (.inl e)
theorem key_of {ks:List Key} (ok:HOk P w H h) (e:H a=some (.tup (ks.map kV))):(m6 (z13 P w)).is h ks a:=by
 obtain ⟨_,b,r,⟨o,d,c,n,f⟩,_⟩:=(show ObjOk P w H h a (.tup (ks.map kV)) from ok a _ e)
 exact ⟨o,b.toArray,n,d,c,f,by simpa using ze0 r⟩
theorem dt_rd {kvs:List (List Key×V)} (ok:HOk P w H h) (e:Rd H a (.dT kvs)):kvs.length<=sizeLine/\(a == m3)=false/\
  ∃xs,KT H kvs xs/\h.DictOfH (m6 (z13 P w)) a xs:=by
 obtain ⟨z,y,xs,r,o,f,k,i,d,j,c,g⟩:=(show ObjOk P w H h a (.dT kvs) from rd_of ok e)
 refine ⟨z,y,xs,r,o,f,k,i,d,j,c,λ x b=>?_,g⟩;have all :∀{l:List (List Key×V)} {m:List (List Key×Addr×Value)},KT H l m->∀x∈m,(m6 (z13 P w)).is h x.1 x.2.1:=by
  intro l m q;induction q with
  | nil=>intro x b;exact nomatch b
  | @cons p q ps qs hq t ih=>
   intro x b;rcases List.mem_cons.mp b with e|b
   ·subst e;exact key_of ok (by rw [<-hq.1];exact hq.2.1)
   ·exact ih x b
 exact all r x b
theorem dt_of {kvs:List (List Key×V)} (ok:HOk P w H h) (e:H a=some (.dT kvs)):kvs.length<=sizeLine/\(a == m3)=false/\
  ∃xs,KT H kvs xs/\h.DictOfH (m6 (z13 P w)) a xs:=dt_rd ok (.inl e)
end
def DGet (H:Hp) (a:Addr) (y:V) (r:Option V):Prop:=
 (∃kvs k,Rd H a (.dK kvs)/\y=kV k/\r=valV kvs k)\/∃kvs k b,Rd H a (.dT kvs)/\y=.ref b/\H b=some (.tup (k.map kV))/\r=valV kvs k
def DPut (H:Hp) (a:Addr) (y v:V) (H':Hp):Prop:=
 (∃kvs k,H a=some (.dK kvs)/\y=kV k/\kvs.length < sizeLine/\H'=upd H a (.dK (putK kvs k v)))\/
 ∃kvs k b,H a=some (.dT kvs)/\y=.ref b/\H b=some (.tup (k.map kV))/\kvs.length < sizeLine/\H'=upd H a (.dT (putK kvs k v))
theorem DGet.k {H:Hp} {a:Addr} {kvs:zK} {k:Key} (e:H a=some (.dK kvs)):DGet H a (kV k) (valV kvs k):=.inl ⟨kvs,k,.inl e,rfl,rfl⟩
theorem DPut.k {H:Hp} {a:Addr} {kvs:zK} {k:Key} {v:V} (e:H a=some (.dK kvs)) (hl:kvs.length < sizeLine):DPut H a (kV k) v (upd H a (.dK (putK kvs k v))):=.inl ⟨kvs,k,e,rfl,hl,rfl⟩
section
variable {X:Cx} {pins:zP} {σ:St} {H:Hp} {s:u0} {a:Addr} {y v:V} {u r:Value} {o:Option V} {A:V1} {E:Value->u0->Prop}
theorem Inv.big (I:Inv X pins σ H s):m3 < s.heap.objs.size:=by have h:Y2 < s.heap.objs.size:=(I.mod.glob.keeps I.bk).lt;exact Nat.lt_trans (by decide) h
theorem zjk {Q:Value->u0->Prop} (hu:A.units + 1 < cLine) (I:Inv X pins σ H s) (g:DGet H a y (some v)) (ry:RelV y u) (h :∀w' s',Inv X pins σ H s'->RelV v w'->Q w' s') :
  W0 (u1 X.prog X.w) A (W9 (.ref a) u) Q E s:=by
 rcases g with ⟨m,k,e,i,l⟩|⟨m,k,b,e,i,eb,l⟩
 ·subst i;obtain ⟨z,q,r,c,d⟩:=dk_rd I.hok e;obtain ⟨w',f,j⟩:=RelO.some_of (v:=v) (o:=V9 r k) (by rw [l];exact c.val k);exact wpAny_getItem_of (kV_is ry) d.mapOf f (h w' _ (I.tok _) j)
 ·subst i;cases (show u=Z0 b from ry);obtain ⟨z,q,t,c,d⟩:=dt_rd I.hok e;obtain ⟨w',f,j⟩:=RelO.some_of (v:=v) (o:=(Q8 t k).map (·.2)) (by rw [l];exact c.val k);obtain ⟨p,n,x⟩:=Option.map_eq_some_iff.mp f;refine wpAny_getItem_heap (Q7 hu) (key_of I.hok eb) d n ?_;rw [x];exact h w' _ (I.tok _) j
theorem d_in {Q:Value->u0->Prop} (hu:A.units + 1 < cLine) (I:Inv X pins σ H s) (g:DGet H a y o) (ry:RelV y u) (h :∀s',Inv X pins σ H s'->Q (.bool o.isSome) s') :
  W0 (u1 X.prog X.w) A (B2 .In u (.ref a)) Q E s:=by
 rcases g with ⟨j,k,e,i,l⟩|⟨j,k,b,e,i,eb,l⟩
 ·subst i;obtain ⟨z,f,m,c,d⟩:=dk_rd I.hok e;refine wpAny_in_of (kV_is ry) f d.mapOf ?_;rw [<-(c.val k).isSome_eq,<-l];exact h _ (I.tok _)
 ·subst i;cases (show u=Z0 b from ry);obtain ⟨z,f,n,c,d⟩:=dt_rd I.hok e;refine wpAny_in_heap (Q7 hu) (key_of I.hok eb) f d ?_;have q:=(c.val k).isSome_eq;rw [A7] at q;rw [<-q,<-l];exact h _ (I.tok _)
theorem z88 {h':Heap} {t':Nat} {ob:HO} (I:Inv X pins σ H s) (mu:Mut (H a)) (hs:X5 a s.heap h') (he :∃q,h'.get? a=some q) (new:ObjOk X.prog X.w (upd H a ob) h' a ob) :
  Inv X pins σ (upd H a ob) { s with heap:=h',toks:=t' }:=
 I.write (x:=a) (e:=a) mu (.inl rfl) (λ b q c z=>(hs.2 b c).trans z) he new
theorem dk_new {P:Program} {w:R0} {H':Hp} {h':Heap} {kvs:zK} {vs:List (Key×Value)} (z:kvs.length<=sizeLine) (hd:(a == m3)=false) (rel:KV kvs vs) (dd:h'.DictOf (z13 P w) a vs) :
  ObjOk P w H' h' a (.dK kvs):=⟨z,hd,vs,rel,dd⟩
theorem zj1 {H':Hp} {Q:Unit->u0->Prop} (hu:A.units + 1 < cLine) (I:Inv X pins σ H s) (g:DPut H a y v H') (ry:RelV y u) (rv:RelV v r) (h :∀s',Inv X pins σ H' s'->Q () s') :
  W0 (u1 X.prog X.w) A (setItem (.ref a) u r) Q E s:=by
 rcases g with ⟨f,k,e,p,l,B⟩|⟨f,k,b,e,p,eb,l,B⟩
 ·subst p B;obtain ⟨z,n,L,d,t⟩:=dk_of I.hok e;have o:L.length<=sizeLine:=by rw [<-d.length];exact z
  have x:(putK f k v).length<=sizeLine:=by have:=z5a f k v;omega
  refine wpAny_setItem_pairs (hsz:=o) (kV_is ry) t λ C i m=>h _ ?_;have F :∃q,C.get? a=some q:=let ⟨q,_,_,j,_⟩:=i;⟨q,j⟩;exact z88 I (by rw [e];exact True.intro) m F (dk_new x n (d.put k rv) i)
 ·subst p B;cases (show u=Z0 b from ry);obtain ⟨z,n,P,d,t⟩:=dt_of I.hok e;have o:P.length<=sizeLine:=by rw [<-j1e d];exact z
  have x:(putK f k v).length<=sizeLine:=by have:=z5a f k v;omega
  refine wpAny_setItem_heap (hsz:=o) (Q7 hu) (key_of I.hok eb) t λ C i m=>h _ ?_;obtain ⟨q,K,M,j,N,G,J,_,O⟩:=i;refine z88 I (by rw [e];exact True.intro) m ⟨q,j⟩ ⟨x,n,_,(d.put k eb rv).keeps λ c R D=>?_,q,K,M,j,N,G,J,O⟩;rw [upd_ne (ne_of D e (λ z=>nomatch z))];exact D
end
section
variable {X:Cx} {pins:zP} {σ:St} {H:Hp} {s:u0} {a:Addr} {kvs:zK} {k:Key} {u:Value} {A:V1} {E:Value->u0->Prop}
theorem d_pop {v:V} {more:List Value} {Q:Value->u0->Prop} (I:Inv X pins σ H s) (e:H a=some (.dK kvs)) (ry:RelV (kV k) u) (l:valV kvs k=some v) (hm:more=[]\/∃x,more=[x])
  (h :∀w' s',Inv X pins σ (upd H a (.dK (dropK kvs k))) s'->RelV v w'->Q w' s'):W0 (u1 X.prog X.w) A (call (.builtin "dict.pop") (.ref a :: u :: more)) Q E s:=by
 obtain ⟨z,m,f,b,d⟩:=dk_of I.hok e;obtain ⟨w',r,y⟩:=RelO.some_of (v:=v) (o:=V9 f k) (by rw [<-l];exact b.val k);have j:(keyPart u).isSome=true:=by
  cases k with
  | inl i=>obtain ⟨t,q⟩:=(show∃t,u=R7 i t from ry);subst q;rfl
  | inr x=>obtain ⟨t,q⟩:=(show∃t,u=r6 x t from ry);subst q;rfl
 have B:argsOk "dict.pop" ⟨.ref a :: u :: more,[]⟩:=by
  rcases hm with q|⟨x,q⟩
  ·subst q;exact PySem.F.args_dict_pop_2 _ _
  ·subst q;exact PySem.F.args_dict_pop_3 _ _ _
 refine call_meetsIn j29 d.typeIs PySem.F.entry_dict_pop B (meets_dict_pop_there (z13 X.prog X.w) a (kV_is ry) more hm j)
  ⟨f,w',d,by rw [<-b.length];exact z,r,λ p c n=>h w' _ ?_ y⟩
 have g :∃q,p.get? a=some q:=let ⟨q,_,_,hq,_⟩:=c;⟨q,hq⟩;exact z88 I (by rw [e];exact True.intro) n g (dk_new (A0 (zgu kvs k) z) m (b.drop k) c)
end
def NoSl (i:Expr):Prop:=∀ov iv,j25 i false ov iv=operate [ov,iv] (W9 ov iv)
theorem zmr {prog:Program} {w:R0} {A:V1} {E:Value->u0->Prop} {s:u0} {env:Env} {value slice:Expr} {pos:Pos} {T id:String} {Q:Value->u0->Prop}
  (hl:typeLookup (.type T) "__getitem__" = Z2 (some (.builtin id))) (hs:NoSl slice)
  (h:W0 (u1 prog w) A (C3 value env) (λ o s₁=>W0 (u1 prog w) A (C3 slice env) (λ i s₂=>s₂.TypeIs o T/\W0 (u1 prog w) A (W9 o i) Q E s₂) E s₁) E s) :
  W0 (u1 prog w) A (C3 (.Subscript value slice pos) env) Q E s:=by
 refine j44 (j3 h (λ o s₁ e=>j3 e (λ i s₂ b=>?_) λ _ _ x=>x) λ _ _ x=>x);obtain ⟨c,b⟩:=b;unfold j09;refine d0 ?_;rw [getitemInPython_of_ne c.not_modules];refine d0 (j2j c hl ?_);have a:W0 (u1 prog w) A (j25 slice false o i) (λ r d=>W0 (u1 prog w) A (letTemporaryGo value o r >>= λ _=>Z2 r) Q E d) E s₂:=by rw [hs o i];exact wpAny_operating (j3 b (λ r d f=>d0 (wpAny_letTemporaryGo (F0 f))) λ _ _ x=>x)
 first
  | exact F0 (d0 a)
  | exact d0 (F0 (d0 a))
  | exact d0 a
theorem zeg {X:Cx} {pins:zP} {σ:St} {H:Hp} {s:u0} {a:Addr} {y:V} {o:Option V} (I:Inv X pins σ H s) (g:DGet H a y o):s.TypeIs (.ref a) "dict":=by
 rcases g with ⟨d,k,e,_,_⟩|⟨d,k,b,e,_,_,_⟩
 ·obtain ⟨_,_,f,_,c⟩:=dk_rd I.hok e;exact c.typeIs
 ·obtain ⟨_,_,h,_,c⟩:=dt_rd I.hok e;exact c.typeIs
def tDGet (td ty:TE):TE:=λ σ H Q=>td σ H λ x H1=>ty σ H1 λ y H2=>∃a v,x=.ref a/\DGet H2 a y (some v)/\Q v H2
def tDIn (ty td:TE):TE:=λ σ H Q=>ty σ H λ y H1=>td σ H1 λ x H2=>∃a o,x=.ref a/\DGet H2 a y o/\Q (.bl o.isSome) H2
def sDPut (td ty tv:TE):TS:=λ D σ H=>tv σ H λ v H1=>td σ H1 λ x H2=>ty σ H2 λ y H3=>∃a H4,x=.ref a/\DPut H3 a y v H4/\D.nx σ H4
section
variable {X:Cx} {o i e value:Expr} {pos pos' tpos:Pos} {td ty tv:TE}
theorem z74 (hu:X.A.units + 1 < cLine) (ho:PE X o td) (hi:PE X i ty) (hs:NoSl i):PE X (.Subscript o i pos) (tDGet td ty):=by intro b s σ H Q I h;refine zmr PySem.F.slot_dict_getitem.lookup hs (thn (ho b s σ H _ I h) λ u d ⟨x,H1,I1,rx,q1⟩=>thn (hi b d σ H1 _ I1 q1) λ k j ⟨y,H2,I2,ry,a,v,ex,g,q2⟩=>?_);subst ex;obtain rfl:u=Z0 a:=rx;exact ⟨zeg I2 g,zjk hu I2 g ry λ f l c e=>⟨v,H2,c,e,q2⟩⟩
theorem pc_din (hu:X.A.units + 1 < cLine) (hi:PE X i ty) (ho:PE X o td):PC X .In i o (tDIn ty td):=by intro b s σ H Q I h;refine thn (hi b s σ H _ I h) λ f d ⟨y,H1,I1,ry,q1⟩=>thn (ho b d σ H1 _ I1 q1) λ u e ⟨x,H2,I2,rx,a,ov,ex,g,q2⟩=>?_;subst ex;obtain rfl:u=Z0 a:=rx;exact d_in hu I2 g ry λ j c=>⟨.bl ov.isSome,H2,c,rfl,q2⟩
theorem z6u (hu:X.A.units + 1 < cLine) (ho:PE X o td) (hi:PE X i ty) (hv:PE X value tv) (hs:R6 value (some (.Subscript o i pos')) pos.line X.env=Z2 false) :
  PS X (.Assign [.Subscript o i pos'] value pos) (sDPut td ty tv):=by
 intro b s σ H D I h;refine wpAny_Assign_Subscript (thn (hv b s σ H _ I h) λ r d ⟨v,H1,I1,rv,q1⟩=>thn (ho b d σ H1 _ I1 q1) λ u c ⟨x,H2,I2,rx,q2⟩=>thn (hi b c σ H2 _ I2 q2) λ j k ⟨y,H3,I3,ry,a,H4,ex,g,q3⟩=>?_) hs;subst ex;obtain rfl:u=Z0 a:=rx;exact zj1 hu I3 g ry rv λ f e=>⟨σ,H4,e,q3⟩
end
theorem zgl {P:Program} {w:R0} {H:Hp} (h:Heap) (hb:m3 < h.objs.size):ObjOk P w H (h.push { cls:=.type "dict",data:=.dict #[] }) h.objs.size (.dK []):=
 ⟨Q1 _,beq_eq_false_iff_ne.mpr (W3 (C1 hb)),[],.nil,Heap.DictOf.new h⟩
def tDNewK:TE:=λ _ H Q=>∀p,H p=none->Q (.ref p) (upd H p (.dK []))
section
variable {X:Cx} {pos:Pos}
theorem z5d:PE X (.Dict [] [] pos) tDNewK:=λ b s σ H Q I h=>wpAny_Dict_empty ⟨.ref s.heap.objs.size,_,I.laid (a:=s.heap.objs.size) (o:=.dK []) (t':=s.toks) (λ _ _ q=>C0 _ q) (t0 _) (zgl s.heap I.big),rfl,h _ (I.hok.fresh (t0 _))⟩
end
noncomputable def tPairs:List (TE×TE)->St->Hp->(List (V×V)->Hp->Prop)->Prop
 | [],_,H,Q=>Q [] H
 | (tk,tv) :: r,σ,H,Q=>tk σ H λ x H1=>tv σ H1 λ y H2=>tPairs r σ H2 λ ps H3=>Q ((x,y) :: ps) H3
abbrev VV:List (V×V)->List (Value×Value)->Prop:=E8 λ p q=>RelV p.1 q.1/\RelV p.2 q.2
def PPs (X:Cx) (pos:Pos) (keys:List (Option Expr)) (values:List Expr) (trs:List (TE×TE)):Prop:=
 ∀(pins:zP) (s:u0) (σ:St) (H:Hp) (Q:List (V×V)->Hp->Prop),Inv X pins σ H s->tPairs trs σ H Q->
  W0 (u1 X.prog X.w) X.A (evalPairs (pairTrees keys values X.env pos)) (λ vs s'=>∃ps H',Inv X pins σ H' s'/\VV ps vs/\Q ps H') X.xe s
theorem zjz {X:Cx} {pos:Pos}:PPs X pos [] [] []:=λ a s σ H Q I h=>pairTrees_nil_walk ⟨[],H,I,.nil,h⟩
theorem zbn {X:Cx} {pos:Pos} {k v:Expr} {ks:List (Option Expr)} {vs:List Expr} {tk tv:TE} {trs:List (TE×TE)} (hk:PE X k tk) (hv:PE X v tv) (hr:PPs X pos ks vs trs) :
  PPs X pos (some k :: ks) (v :: vs) ((tk,tv) :: trs):=λ a s σ H Q I h=>
 pairTrees_cons_walk (thn (hk a s σ H _ I h) λ u c ⟨x,H1,I1,rx,q1⟩=>thn (hv a c σ H1 _ I1 q1) λ e b ⟨y,H2,I2,ry,q2⟩=>thn (hr a b σ H2 _ I2 q2) λ d f ⟨ps,H3,I3,rel,q3⟩=>⟨(x,y) :: ps,H3,I3,.cons ⟨rx,ry⟩ rel,q3⟩)
def mergeK (kvs more:zK):zK:=more.foldl (λ acc kv=>putK acc kv.1 kv.2) kvs
theorem KV.merge :∀{more:zK} {rs:List (Key×Value)} {kvs:zK} {vs:List (Key×Value)},KV more rs->KV kvs vs->KV (mergeK kvs more) (merged vs rs):=by
 intro more rs kvs vs r;unfold KV at r;induction r generalizing kvs vs with
 | nil=>intro q;exact q
 | @cons p q ps qs h t ih=>
  intro a;have e:KV (putK kvs p.1 p.2) (stored vs q.1 q.2):=by have:=a.put p.1 h.2;rw [<-h.1];exact this
  exact ih e
theorem z61 :∀(more kvs:zK),(mergeK kvs more).length<=kvs.length + more.length
 | [],kvs=>by show kvs.length<=kvs.length + 0;omega
 | p :: r,kvs=>by have b:=z61 r (putK kvs p.1 p.2);have a:=z5a kvs p.1 p.2;show (mergeK (putK kvs p.1 p.2) r).length<=_;rw [P0];omega
theorem zag {P:Program} {w:R0} :∀{kvs:zK} {ws:List (Value×Value)},VV (kvs.map λ kv=>(kV kv.1,kv.2)) ws->∃rs,Carries (z13 P w) ws rs/\KV kvs rs
 | [],_,r=>by rw [L4] at r;cases r;exact ⟨[],True.intro,.nil⟩
 | p :: kvs,_,r=>by
  rw [X0] at r;cases r with
  | @cons a b as bs h t=>obtain ⟨rs,c,q⟩:=zag (P:=P) (w:=w) t;obtain ⟨e,d⟩:=b;exact ⟨(p.1,d) :: rs,⟨kV_is h.1,rfl,c⟩,.cons ⟨rfl,h.2⟩ q⟩
noncomputable def tDisp (trs:List (TE×TE)):TE:=λ σ H Q=>∀p,H p=none->tPairs trs σ (upd H p (.dK [])) λ ps H2=>H2 p=some (.dK [])/\∃kvs:zK,ps=kvs.map (λ kv=>(kV kv.1,kv.2))/\kvs.length<=15/\Q (.ref p) (upd H2 p (.dK (mergeK [] kvs)))
theorem zjv {X:Cx} {pos:Pos} {keys:List (Option Expr)} {values:List Expr} {trs:List (TE×TE)} (h:PPs X pos keys values trs) (hall:keys.all (·.isSome)=true) (hl:keys.length=values.length) (h0:keys≠[])
  (h15:keys.length<=15):PE X (.Dict keys values pos) (tDisp trs):=by
 intro t s σ H Q I q;have g:=I.hok.fresh (t0 s.heap.objs.size);have p:=I.laid (a:=s.heap.objs.size) (o:=.dK []) (h':=s.heap.push { cls:=.type "dict",data:=.dict #[] }) (t':=s.toks) (λ _ _ q=>C0 _ q) (t0 _) (zgl s.heap I.big);refine wpAny_Dict_walk (knd:=z13 X.prog X.w) hall hl h0 h15 (thn (h t _ σ _ _ p (q _ g)) λ u v ⟨ps,H2,I2,rel,e,kvs,ep,lk,q2⟩=>?_);subst ep;obtain ⟨r,c,n⟩:=zag (P:=X.prog) (w:=X.w) rel;obtain ⟨z,i,x,l,m⟩:=dk_of I2.hok e;cases l;refine ⟨r,c,m,λ h' b f=>⟨.ref s.heap.objs.size,_,?_,rfl,q2⟩⟩;have j:(mergeK [] kvs).length<=sizeLine:=by have k:=z61 kvs [];rw [R4] at k;rw [sizeLine_eq];omega
 have d :∃q,h'.get? s.heap.objs.size=some q:=let ⟨q,_,_,hq,_⟩:=b;⟨q,hq⟩;exact z88 I2 (by rw [e];exact True.intro) f d (dk_new j i (n.merge .nil) b)
structure M1 (X:Cx) (o:Expr) (m:Str) (apos:Pos) (e:Expr) (cpos:Pos):Prop where
 base:U3 o m X.env (C3 o X.env)=C3 o X.env
 few:((F4 cpos (N1 [e] X.env)).all (λ x=>!x.1) && (R9 cpos (Y6 [] X.env)).all (λ x=>x.1.isSome)
  && decide (([e]:List Expr).length + ([]:List E6).length + (if ([]:List E6).isEmpty then 0 else 1) < 30))=true
 line:(apos.endLine == cpos.line)=true
 trees:F4 cpos (N1 [e] X.env)=[(false,C3 e X.env)]
structure M2 (X:Cx) (o:Expr) (m:Str) (apos:Pos) (e f:Expr) (cpos:Pos):Prop where
 base:U3 o m X.env (C3 o X.env)=C3 o X.env
 few:((F4 cpos (N1 [e,f] X.env)).all (λ x=>!x.1) && (R9 cpos (Y6 [] X.env)).all (λ x=>x.1.isSome)
  && decide (([e,f]:List Expr).length + ([]:List E6).length + (if ([]:List E6).isEmpty then 0 else 1) < 30))=true
 line:(apos.endLine == cpos.line)=true
 trees:F4 cpos (N1 [e,f] X.env)=[(false,C3 e X.env),(false,C3 f X.env)]
def IsD (H:Hp) (a:Addr):Prop:=(∃kvs,Rd H a (.dK kvs))\/∃kvs,Rd H a (.dT kvs)
theorem isD_at {X:Cx} {pins:zP} {σ:St} {H:Hp} {s:u0} {a:Addr} (I:Inv X pins σ H s) (d:IsD H a) :
  s.TypeIs (.ref a) "dict"/\(∀b,Z0 a=.ref b->∃ob,s.heap.get? b=some ob/\ob.dict=none)/\(a == m3)=false:=by
 rcases d with ⟨i,e⟩|⟨i,e⟩
 ·obtain ⟨_,g,j,_,c⟩:=dk_rd I.hok e;refine ⟨c.typeIs,λ b q=>?_,g⟩;cases q;obtain ⟨ob,_,_,h,f,_⟩:=c;exact ⟨ob,h,f.2.1⟩
 ·obtain ⟨_,g,k,_,c⟩:=dt_rd I.hok e;refine ⟨c.typeIs,λ b q=>?_,g⟩;cases q;obtain ⟨ob,_,_,h,f,_⟩:=c;exact ⟨ob,h,f.2.1⟩
section
variable {X:Cx} {pins:zP} {σ:St} {H:Hp} {s:u0} {a:Addr} {y d:V} {u r:Value} {o:Option V} {A:V1} {E:Value->u0->Prop}
theorem d_get2 {Q:Value->u0->Prop} (hu:A.units + 1 < cLine) (I:Inv X pins σ H s) (g:DGet H a y o) (ry:RelV y u) (rd:RelV d r) (h :∀w' s',Inv X pins σ H s'->RelV (o.getD d) w'->Q w' s') :
  W0 (u1 X.prog X.w) A (call (.builtin "dict.get") [.ref a,u,r]) Q E s:=by
 rcases g with ⟨m,k,e,j,l⟩|⟨m,k,b,e,j,eb,l⟩
 ·subst j;obtain ⟨z,i,p,f,c⟩:=dk_rd I.hok e;refine call_meetsIn a8 c.typeIs j21 (j1d _ _ _) (meets_dict_get_default (z13 X.prog X.w) a (kV_is ry) i r) ⟨_,c.mapOf,h _ _ (I.tok _) ?_⟩;rw [l];exact (f.val k).getD rd
 ·subst j;cases (show u=Z0 b from ry);obtain ⟨z,i,n,f,c⟩:=dt_rd I.hok e;refine call_meetsIn a8 c.typeIs j21 (j1d _ _ _) (meetsH_dict_get_default (m6 (z13 X.prog X.w)) a b i r) ⟨Q7 hu,k,n,key_of I.hok eb,c,h _ _ (I.tok _) ?_⟩;rw [l];exact (f.val k).getD rd
end
def tDGet2 (td ty tx:TE):TE:=λ σ H Q=>td σ H λ x H1=>∃a,x=.ref a/\IsD H1 a/\ty σ H1 λ y H2=>tx σ H2 λ z H3=>∃o,DGet H3 a y o/\Q (o.getD z) H3
noncomputable def tDPop1 (td ty:TE):TE:=λ σ H Q=>td σ H λ x H1=>∃a,x=.ref a/\IsD H1 a/\ty σ H1 λ y H2=>∃kvs k v,H2 a=some (.dK kvs)/\y=kV k/\valV kvs k=some v/\Q v (upd H2 a (.dK (dropK kvs k)))
section
variable {X:Cx} {o e f:Expr} {apos cpos:Pos} {td ty tx:TE}
theorem zl5 (hu:X.A.units + 1 < cLine) (ho:PE X o td) (he:PE X e ty) (hf:PE X f tx) (m:M2 X o "get" apos e f cpos):PE X (.Call (.Attribute o "get" apos) [e,f] [] cpos) (tDGet2 td ty tx):=by
 intro b s σ H Q I h;refine wpAny_Call_method m.base m.few m.line j1c a8 PySem.F.type_dict_get (thn (ho b s σ H _ I h) λ u j ⟨x,H1,I1,rx,a,ex,d,q1⟩=>?_);subst ex;obtain rfl:u=Z0 a:=rx;obtain ⟨c,k,_⟩:=isD_at I1 d;refine ⟨c,k,?_⟩;rw [m.trees];refine U5 rfl (U8 (P5 (thn (he b j σ H1 _ I1 q1) λ r i ⟨y,H2,I2,ry,q2⟩=>P5 (thn (hf b i σ H2 _ I2 q2) λ t q ⟨z,H3,I3,rz,ov,g,q3⟩=>E7 ?_))));exact d_get2 hu I3 g ry rz λ v p n l=>⟨_,H3,n,l,q3⟩
theorem zlc (ho:PE X o td) (he:PE X e ty) (m:M1 X o "pop" apos e cpos):PE X (.Call (.Attribute o "pop" apos) [e] [] cpos) (tDPop1 td ty):=by intro b s σ H Q I h;refine wpAny_Call_method m.base m.few m.line j1c j29 PySem.F.type_dict_pop (thn (ho b s σ H _ I h) λ u g ⟨x,H1,I1,rx,a,ex,d,q1⟩=>?_);subst ex;obtain rfl:u=Z0 a:=rx;obtain ⟨f,i,_⟩:=isD_at I1 d;refine ⟨f,i,?_⟩;rw [m.trees];refine U5 rfl (U8 (P5 (thn (he b g σ H1 _ I1 q1) λ q p ⟨y,H2,I2,ry,kvs,k,v,ea,ey,l,q2⟩=>E7 ?_)));subst ey;exact d_pop I2 ea ry l (.inl rfl) λ n r c j=>⟨v,_,c,j,q2⟩
end
end L2
namespace Att
open PySem PySem.W PySem.Calls PyProof.Rows
theorem z7t {P:M0} {h:Heap} :∀(ns:List Int) (vs:List Value),WellAll P h vs (ns.map WData.int)->c9 vs ns:=by
 intro ns;induction ns with
 | nil=>intro vs w;rw [L4] at w;cases w;exact .nil
 | cons n ns ih=>
  intro vs w;rw [X0] at w;cases w with
  | cons a b=>cases a;exact .cons _ _ (ih _ b)
theorem zi2 {l:OpenLaw} {n:Nat} (hn:l.most=some n) {P:M0} {h:Heap} {args:List WData} {vals:List Value}
  (hpre:l.row.toRowW.claim.pre args=true) (hwl:WellAll P h vals args) :
  ∃a vs ns,vals=[Z0 a]/\args=[WData.list (ns.map WData.int)]/\h.get? a=some { cls:=.type "list",data:=.seq vs.toArray }/\c9 vs ns/\ns.length<=n:=by
 have g:WShape.hasAll [] args [.list .int]=true:=(pre_splitW hpre).1;have e:l.pre.holds [] { args:=args }=true:=(pre_splitW hpre).2;obtain ⟨d,r,rfl,j,f⟩:=hasAllW_cons g;obtain rfl:=hasAllW_nil f;obtain ⟨o,rfl,k⟩:=hasW_list j;obtain ⟨ns,rfl⟩:=items_int k;have i:ns.length<=n:=by
  unfold OpenLaw.pre at e;have b:(WTm.not (.lt (.lit (.int (n:Int))) (.len (.arg 0)))).holds [] { args:=[.list (ns.map .int)] }=true:=by have b:=(holds_andW e).1;rw [hn] at b;exact b
  have c:=condW_of b (w_not (w_lt w_lit (w_len_list (w_arg rfl))));rw [o0] at c;refine j0e λ q=>?_;have m:(n:Int) < ((ns.length:Nat):Int):=by omega
  first
   | (rw [decide_eq_true m] at c;exact absurd c (by decide))
   | (simp at c;omega)
 cases hwl with
 | cons w1 w2=>
  cases w2;cases w1 with
  | list ho hall=>exact ⟨_,_,ns,rfl,rfl,ho,z7t ns _ hall,i⟩
theorem ziw (l:OpenLaw) (args:List WData):l.row.toRowW.claim.post args (.bool true) args=true:=
 postW_of (r:=l.row.toRowW) (X:=(true == true))
  (show WShape.has [] (.bool true) .bool=true by first|rfl|decide|simp [WShape.has,WShape.arms,WShape.armsAll])
  (show (WTm.eq .res (.lit (.bool true))).value [] { args:=args,res:=some (.bool true),after:=args }=some (.bool (true == true)) from w_eq_bool (w_res rfl) w_lit) rfl
theorem attach_call {l:OpenLaw} {n:Nat} {q:Program} {loose:List Str} {XP:(Str->Option Value)->Heap->Prop} {YP:R0->Heap->Prop} {d:DefRec}
  (hn:l.most=some n) (hdf:d.params.defaults=[])
  (call :∀(w:R0) (s₀ s₁:u0) (mg mb:Str->Option Value) (fa:Addr) (o:Obj) (pm cd doc:Value) (a:Addr) (vs:List Value) (ns:List Int),
   Ground q loose [] XP w s₀ mg mb s₁.heap->YP w s₁.heap->
   s₁.heap.get? fa=some o->o.data=.func (docDef d.name d.params d.body d.scope pm cd doc)->s₁.heap.CodeRec cd d.name->mg d.name=some (.ref fa)->
   s₁.heap.get? a=some { cls:=.type "list",data:=.seq vs.toArray }->c9 vs ns->ns.length<=n->s₁.gens = #[]->
   X9 (u1 l.prog w) j17 (.call (.ref fa) ⟨[.ref a],[]⟩) (λ r s'=>r=.ok (.ret (.bool true))/\OldK s₁.heap s'.heap/\s'.os=s₁.os/\o8 s'.gens) s₁) :
  WalkO q loose XP YP l.row.toRowW d [] (λ f vs=>PySem.call f vs):=by
 intro w s₀ s₁ mg mb G Y fa o pm cd doc v kV z m u b i e E A F p C B c D;obtain rfl:v=.none:=Dflts.none b hdf;obtain rfl:kV=.none:=Dflts.noKw b;obtain ⟨a,vs,ns,rfl,rfl,y,k,g⟩:=zi2 hn p c;refine enter_call (j16 (call w s₀ s₁ mg mb fa o pm cd doc a vs ns G Y z (fd_plain m) u i y k g e) λ r s' x=>?_);obtain ⟨rfl,t,h,j⟩:=x;exact ⟨.inl ⟨.bool true,.bool true,[],rfl,λ _=>rfl,.bool true,ziw l _,λ _=>⟨j1f,λ _ s=>(nomatch s)⟩⟩,t,h,j⟩
end Att
namespace L2
open PySem PySem.Spec PyProof.Rows
theorem z8w :∀{vs:List Value} {ns:List Int},c9 vs ns->Vals (ns.map V.int) vs
 | _,_,.nil=>.nil
 | _,_,.cons n t h=>.cons ⟨t,rfl⟩ (z8w h)
def Only (H:Hp):Prop:=∀b,H b=none\/∃o xs,H b=some (.frz o (.lst xs))
theorem zlq {P:Program} {w:R0} {K:b0} {mg mb:Str->Option Value} {CX:CXT} {k:Nat} {fa a:Addr} {fd:FuncData} {x:Str} {sp:Sp} {s₁:u0} {vs:List Value} {ns:List Int}
  (KX:K.In s₁.heap) (hns:s₁.heap.Ns Y2 mg) (hb:s₁.heap.Ns builtinsNs mb) (hbb :∀x:Str,x≠"__name__"->mb x=F7 x) (hlim:s₁.heap.NoLimit) (hg:s₁.gens = #[])
  (ha:s₁.heap.get? a=some { cls:=.type "list",data:=.seq vs.toArray }) (hi:c9 vs ns) (hl:ns.length<=sizeLine) (hr:Room k j17)
  (F :∀base:Heap,K.In base->base.Ns Y2 mg->FnOk P w K mg base CX k fa fd [x] sp) (hbind :∀(s:u0) (u:Value),BindsTo s fd ⟨[u],[]⟩ [(x,u)])
  (hsp :∀H:Hp,Only H->SqL K H a (ns.map V.int)->sp [.ref a] H (λ v _=>v=.bl true) λ _ _ _=>False)
  (hCX :∀H e s',CX [] H s₁ (λ _ _ _=>False) e s'->False) :
  X9 (u1 P w) j17 (.call (.ref fa) ⟨[.ref a],[]⟩) (λ r s'=>r=.ok (.ret (.bool true))/\OldK s₁.heap s'.heap/\s'.os=s₁.os/\o8 s'.gens) s₁:=by
 have j:=z8w hi;have C:=hi.length
 -- from an abstract heap in which nothing but the script may be tracked
 have t :∀H:Hp,Only H->SqL K H a (ns.map V.int)->HOk P w H s₁.heap->(∀b,H b≠none->b=a)->(H a≠none->K.lookup a=none)->
   X9 (u1 P w) j17 (.call (.ref fa) ⟨[.ref a],[]⟩) (λ r s'=>r=.ok (.ret (.bool true))/\OldK s₁.heap s'.heap/\s'.os=s₁.os/\o8 s'.gens) s₁:=by
  intro H l O i A J;have p :∀{b:Addr} {o:Obj},s₁.heap.get? b=some o->H b=none->(hidT s₁.heap H).get? b=some o:=λ e n=>zl7 e n;have N :∀{b:Addr} {o:Obj} {es:Array DictEntry} {ep:Nat},s₁.heap.get? b=some o->o.data=.dict es ep->H b=none:=λ {b o es ep} e d=>by
   cases q:H b with
   | none=>rfl
   | some u=>have g:b=a:=A b (by rw [q];simp);subst g;rw [ha] at e;cases e;have Q:Data.seq vs.toArray _=Data.dict es ep:=d;cases Q
  have f :∀{b:Addr} {m:Str->Option Value},s₁.heap.Ns b m->(hidT s₁.heap H).Ns b m:=λ {b m} ⟨o,es,ep,e,d,r⟩=>⟨o,es,ep,p e (N e d),d,r⟩
  have B:K.In (hidT s₁.heap H):=λ b o e=>p (KX b o e) (by
   cases q:H b with
   | none=>rfl
   | some u=>have g:b=a:=A b (by rw [q];simp);subst g;rw [J (by rw [q];simp)] at e;cases e)
  have I:Mod K mg (hidT s₁.heap H):=⟨B,f hns,⟨mb,f hb,hbb⟩,let ⟨mc,h1,h2⟩:=hlim;⟨mc,f h1,h2⟩⟩
  have M:Env0 P w K mg (hidT s₁.heap H) j17 [] s₁ H:=⟨rfl,I,λ b o e=>zm9 e,i6 (zib _ _),trivial,λ b hb=>absurd (show b∈([]:List Addr) from hb) (by simp),i,.of_eq hg⟩
  refine j16 ((F _ B (f hns)).run j17 [] s₁ H ⟨[.ref a],[]⟩ [.ref a] [.ref a] _ _ hr M (hbind s₁ (.ref a)) (.cons rfl .nil) (hsp H l O)) λ r s' h=>?_;cases r with
  | error e=>exact (hCX H e s' h).elim
  | ok fl=>
   cases fl with
   | next=>exact Q3 h
   | brk=>exact Q3 h
   | cont=>exact Q3 h
   | ret u=>
    obtain ⟨v,T,os,L,un,E,D,q⟩:=h;have R:v=.bl true:=q;subst R;obtain rfl:u=Z3 true:=D;refine ⟨rfl,OldK.of_keep λ b o e=>?_,os,L⟩;cases q:H b with
    | none=>exact un.keep b o e q (by intro z;exact absurd (show b∈([]:List Addr) from z) (by simp)) (by simp)
    | some u=>
     rcases l b with z|⟨ob,xs,z⟩
     ·rw [q] at z;cases z
     ·have G:=un.frzs b ob _ z;obtain ⟨y,_⟩:=i b _ z;obtain ⟨S,_⟩:=E b _ G;rw [e] at y;cases y;exact S
 cases hk:K.lookup a with
 | some o=>
  -- the script is one of the module's own objects
  have e:=KX a o hk;rw [ha] at e;cases e;refine t (λ _=>none) (λ _=>.inl rfl) (.inr ⟨_,vs.toArray,_,hk,rfl,rfl,rfl,by rw [K0,C];exact hl,by simpa using j⟩) (λ b u z=>by have c:(none:Option HO)=some u:=z;cases c) (λ b z=>absurd rfl z) λ z=>absurd rfl z
 | none=>
  refine t (λ b=>if b=a then some (.frz { cls:=.type "list",data:=.seq vs.toArray } (.lst (ns.map V.int))) else none) (λ b=>?_) (.inl (.inr ⟨{ cls:=.type "list",data:=.seq vs.toArray },if_pos rfl⟩)) (λ b u z=>?_) (λ b z=>?_) λ _=>hk
  ·by_cases hb:b=a
   ·exact .inr ⟨_,_,if_pos hb⟩
   ·exact .inl (if_neg hb)
  ·by_cases hb:b=a
   ·have c:=(if_pos hb).symm.trans z;cases c;subst hb;exact ⟨ha,by rw [o0];exact hl,vs,_,j,ha⟩
   ·have c:=(if_neg hb).symm.trans z;cases c
  ·by_cases hb:b=a
   ·exact hb
   ·exact absurd (if_neg hb) z
theorem walk_of {l:PySem.W.OpenLaw} {n k:Nat} {q:Program} {loose:List Str} {XP:(Str->Option Value)->Heap->Prop} {YP:R0->Heap->Prop} {d:DefRec} {K:M0->b0} {CX:R0->CXT} {sp:R0->Sp} {x:Str}
  (hn:l.most=some n) (hn2:n<=sizeLine) (hdf:d.params.defaults=[]) (hr:Room k j17)
  (hY :∀(w:R0) (h:Heap),YP w h->(K w.params).In h)
  (F :∀(w:R0) (mg:Str->Option Value) (fa:Addr) (h:Heap),(K w.params).In h->h.Ns Y2 mg->mg d.name=some (.ref fa)->
   ∃fd:FuncData,(∀(s:u0) (u:Value),BindsTo s fd ⟨[u],[]⟩ [(x,u)])/\
    ∀base:Heap,(K w.params).In base->base.Ns Y2 mg->FnOk l.prog w (K w.params) mg base (CX w) k fa fd [x] (sp w))
  (hsp :∀(w:R0) (H:Hp) (a:Addr) (ns:List Int),ns.length<=n->Only H->SqL (K w.params) H a (ns.map V.int)->sp w [.ref a] H (λ v _=>v=.bl true) λ _ _ _=>False)
  (hCX :∀(w:R0) (H:Hp) (s:u0) (e:Value) (s':u0),CX w [] H s (λ _ _ _=>False) e s'->False) :
  PySem.W.WalkO q loose XP YP l.row.toRowW d [] (λ f vs=>PySem.call f vs):=by
 refine Att.attach_call hn hdf λ w B y mg M fa o C I D a vs ns G Y L E J j A m c i=>?_;have KX:=hY w _ Y;obtain ⟨fd,t,p⟩:=F w mg fa _ KX G.T.g j;exact zlq KX G.T.g G.T.b G.T.builtins G.T.nolimit i A m (A0 c hn2) hr p t (λ H r z=>hsp w H a ns c r z) λ H e s'=>hCX w H y e s'
noncomputable def zb1 (s:Stmt):Arguments:=match s with
 | .FunctionDef _ a _ _ _ _ _ _ _ _=>a
 | _=>{ posonlyargs:=[],args:=[],vararg:=none,kwonlyargs:=[],kw_defaults:=[],kwarg:=none,defaults:=[] }
def z6f (s:Stmt):List Stmt:=match s with
 | .FunctionDef _ _ b _ _ _ _ _ _ _=>b
 | _=>[]
def z05 (s:Stmt):Scope:=match s with
 | .FunctionDef _ _ _ _ _ _ sc _ _ _=>sc
 | _=>{ kind:=.function,names:=[],isGenerator:=false,isCoroutine:=false }
abbrev CX0:CXT:=λ _ _ _ _ _ _=>False
abbrev E0:XK:=λ _ _ _=>False
theorem pass0 {X:Cx}:Passes CX0 X E0:=λ _ _ _ _ _ _ _ h=>h.elim
structure Fun (K:b0) (x qual:Str) (st:Stmt) (f:Addr) (fd:FuncData):Prop where
 ex :∃(oc:Value) (od:Option Addr) (kV doc pm:Value) (an:Option Addr) (cdv ct:Value) (osl:Array (Option Value)),
  fd=Q5 x qual (zb1 st) (z6f st) (z05 st) .none kV doc pm an cdv ct/\K.lookup f=some ⟨oc,od,.func fd,osl⟩/\C8 K cdv qual=true
 kp:u3 K (.ref f)=true
section
variable {P:Program} {w:R0} {K:b0} {mg:Str->Option Value} {base:Heap}
theorem Fun.ok {x qual:Str} {st:Stmt} {f:Addr} {fd:FuncData} {N ps:List Str} {k:Nat} {sp:Sp} (F:Fun K x qual st f fd) (S:FnScope N ps (z05 st)) (len :∀vs H Q E,sp vs H Q E->vs.length=ps.length)
  (hbody :∀(cdv:Value) (A:V1) (outer:List Env) (s:u0) (H:Hp) (vs:List V) (Q:VK) (E:XK),Room k (A.deeper (Y8 qual (z05 st) s.heap.objs.size f cdv))->sp vs H Q E->
   ∃t,PSs (cxOf CX0 P w K mg base N qual (z05 st) f cdv A outer s H E).nox (z6f st) t/\t { nx:=λ _ H'=>Q .non H',rt:=Q } (start N vs) H):FnOk P w K mg base CX0 (k + 1) f fd ps sp:=by
 obtain ⟨n,m,kV,j,e,g,cdv,l,i,rfl,d,a⟩:=F.ex;refine fn_of d a S len λ A outer s H vs Q E b c=>?_;obtain ⟨t,h,q⟩:=hbody cdv A outer s H vs Q E b c;exact ⟨t,h.nox,q⟩
theorem Fun.binds {x qual:Str} {st:Stmt} {f:Addr} {fd:FuncData} {ps:List Str} (F:Fun K x qual st f fd)
  (h :∀(kV doc pm:Value) (an:Option Addr) (cdv ct:Value) (us:List Value),us.length=ps.length->bindArgs (Q5 x qual (zb1 st) (z6f st) (z05 st) .none kV doc pm an cdv ct) ⟨us,[]⟩=Z2 (ps.zip us)):Binds K fd ps []:=by
 obtain ⟨e,c,kV,doc,pm,an,cdv,ct,b,rfl,d,a⟩:=F.ex;exact .all (h kV doc pm an cdv ct)
theorem fun_mk {x qual:Str} {st:Stmt} {f:Addr} {oc:Value} {od an:Option Addr} {osl:Array (Option Value)} {kV doc pm cdv ct:Value} (l:K.lookup f=some ⟨oc,od,.func (Q5 x qual (zb1 st) (z6f st) (z05 st) .none kV doc pm an cdv ct),osl⟩)
  (c:C8 K cdv qual=true) (k:u3 K (.ref f)=true):Fun K x qual st f (Q5 x qual (zb1 st) (z6f st) (z05 st) .none kV doc pm an cdv ct):=⟨⟨oc,od,kV,doc,pm,an,cdv,ct,osl,rfl,l,c⟩,k⟩
end
theorem hu_of {A:V1} {k:Nat} (hr:Room k A):A.units + 1 < cLine:=A1 (Nat.add_le_add_left (by decide:1<=64) _) hr.units
section
variable {X:Cx}
theorem pv (i:Nat) {x:Str} {pos:Pos} (hN:X.N[i]? = some x:=by rfl) (hv:Vis X.env.scope x:=by first|exact U0 rfl|exact S0 (U0 rfl)|exact S0 (S0 rfl)) (hd:(x == ("__debug__" : Str))=false:=by decide)
  (hcd:(x == ("__classdict__" : Str))=false:=by decide):PE X (.Name x pos) (tVar i):=pe_var hN hv hd hcd
theorem pJ (i:Nat) {x:Str} {pos:Pos} {a b c d} (hN:X.N[i]? = some x:=by rfl) (hv:Vis X.env.scope x:=by first|exact U0 rfl|exact S0 (U0 rfl)|exact S0 (S0 rfl)) (hd:(x == ("__debug__" : Str))=false:=by decide) (hcd:(x == ("__classdict__" : Str))=false:=by decide):PE X (.Subscript (.Name x pos) (.Constant (.int a) b c) d) (tOp (rIx X.K) (tVar i) (tC (.int a))):=pe_ix ix_seq (pv i hN hv hd hcd) pe_int (λ _ _=>rfl)
end
theorem iteF {A B:Prop} (h:B):if false=true then A else B:=by rw [if_neg N0];exact h
theorem iteT {A B:Prop} (h:A):if true=true then A else B:=by rw [if_pos rfl];exact h
theorem ite2 {c A B:Prop} [Decidable c] (h1:c->A) (h2:¬ c->B):if c then A else B:=by
 by_cases h:c
 ·rw [if_pos h];exact h1 h
 ·rw [if_neg h];exact h2 h
def Same (H H':Hp):Prop:=∀b o,H b=some o->H' b=some o
theorem Same.refl (H:Hp):Same H H:=λ _ _ h=>h
theorem Same.trans {H H1 H2:Hp} (a:Same H H1) (b:Same H1 H2):Same H H2:=λ c o h=>b c o (a c o h)
theorem Same.free {H H':Hp} (e:Same H H') {l:Addr} (h:H' l=Option.none):H l=Option.none:=by
 cases q:H l with
 | none=>rfl
 | some o=>rw [e l o q] at h;cases h
theorem Same.seq {K:b0} {H H':Hp} {a:Addr} {xs:List V} (e:Same H H') (h:SqL K H a xs):SqL K H' a xs:=by
 rcases h with (h|⟨o,h⟩)|h
 ·exact .inl (.inl (e _ _ h))
 ·exact .inl (.inr ⟨o,e _ _ h⟩)
 ·exact .inr h
section
variable {κ:Type} [DecidableEq κ]
theorem zlm {kvs:List (κ×V)} {k:κ} (h:valV kvs k=none):¬ k∈kvs.map (·.1):=by intro m;obtain ⟨p,a,e⟩:=List.mem_map.mp m;have q:(kvs.any λ b=>decide (b.1=k))=true:=List.any_eq_true.mpr ⟨p,a,decide_eq_true e⟩;rw [z4d,h] at q;exact absurd q (by simp)
theorem zk7 :∀{l:List κ} {k:κ},l.Nodup->¬ k∈l->(l++[k]).Nodup
 | [],k,_,_=>by simp
 | a :: r,k,h,hk=>by
  obtain ⟨c,b⟩:=List.nodup_cons.mp h;show (a :: (r++[k])).Nodup;refine List.nodup_cons.mpr ⟨λ m=>?_,zk7 b λ m=>hk (List.mem_cons.mpr (S0 m))⟩;rcases List.mem_append.mp m with q|q
  ·exact c q
  ·exact hk (List.mem_cons.mpr (U0 (List.mem_singleton.mp q).symm))
theorem zmd {kvs:List (κ×V)} {k:κ} (v:V) (hn:(kvs.map (·.1)).Nodup) (h:valV kvs k=none):((putK kvs k v).map (·.1)).Nodup:=by rw [zle v h,E1];exact zk7 hn (zlm h)
theorem zdd {p:κ×V} {r:List (κ×V)} {k:κ} (e:p.1=k):dropK (p :: r) k=dropK r k:=by unfold dropK;rw [C4,if_neg (by simp [e])]
theorem zd3 {p:κ×V} {r:List (κ×V)} {k:κ} (e:¬ p.1=k):dropK (p :: r) k=p :: dropK r k:=by unfold dropK;rw [C4,if_pos (by simp [e])]
end
end L2
set_option maxHeartbeats 4000000
namespace L2
open PySem PySem.Spec PyProof.Rows
section
variable {prog:Program} {w:R0} {A:V1} {R:Result->u0->Prop} {s:u0}
theorem zi1 {elt target iter:Expr} {ifs:List Expr} {scope:Scope} {pos:Pos} {it acc:Value} {env:Env} (J:Nat->u0->Prop)
  (turn :∀n s,J n s->W0 (u1 prog w) A (j3i it) (λ r s₁=>match r with
   | none=>R (.ok .next) s₁
   | some v=>W0 (u1 prog w) A (j9 target it v) (λ _ s₂=>W0 (u1 prog w) A (assign target env v) (λ _ s₃=>
     W0 (u1 prog w) A (P9 ifs true λ c r=>if r=true then do let ok <-isTrue c env (C3 c env);Z2 (J2 ok) else Z2 (J2 r)) (λ ok s₄=>
      if ok=true then W0 (u1 prog w) A (C3 elt env) (λ x s₅=>W0 (u1 prog w) A (call (.builtin "list.append") [acc,x]) (λ _ s₆=>∃m,m < n/\J m s₆) (λ _ _=>False) s₅) (λ _ _=>False) s₄
      else∃m,m < n/\J m s₄) (λ _ _=>False) s₃) (λ _ _=>False) s₂) (λ _ _=>False) s₁) (λ _ _=>False) s)
  (n:Nat) (h:J n s):X9 (u1 prog w) A (.compLoop (.ListComp elt [⟨target,iter,ifs,0⟩] scope pos) 0 it acc env) R s:=by
 refine codeAny_loop rfl J (λ n s d=>?_) n h;show W0 _ A ((compTurn (.ListComp elt [⟨target,iter,ifs,0⟩] scope pos) 0 it acc env).onRaise (λ x=>do noteFrame x env;theTreesLotGoes x)) _ _ s;refine wpAny_noted ?_;rw [compTurn_list];refine d0 (wpAny_standAt (d0 (j3 (turn n s d) (λ r s₁ b=>?_) λ _ _ f=>f.elim)));cases r with
 | none=>exact F0 b
 | some v=>
  refine d0 (j3 b (λ _ s₂ g=>d0 (j3 g (λ _ s₃ j=>d0 (j3 j (λ ok s₄ a=>?_) λ _ _ f=>f.elim)) λ _ _ f=>f.elim)) λ _ _ f=>f.elim);cases ok with
  | false=>exact F0 ⟨rfl,a⟩
  | true=>exact d0 (d0 (j3 a (λ x s₅ i=>d0 (j3 i (λ _ s₆ e=>F0 (F0 ⟨rfl,e⟩)) λ _ _ f=>f.elim)) λ _ _ f=>f.elim))
end
theorem z47 {env:Env} :∀(names:List (Str×M5)) (acc:List (Str×Addr)),(∀y∈names,y.2=U1->∃c,env.cells.lookup y.1=some c)->(∀y c,acc.lookup y=some c->env.cells.lookup y=some c)->
  ∃cl,(P9 names acc λ (x:Str×M5) (r:List (Str×Addr))=>(match x with
    | (name,kind)=>if (kind == U1)=true then do let c <-cellOf env name;Z2 (J2 ((name,c) :: r)) else Z2 (J2 r):Sem (ForInStep (List (Str×Addr)))))=Z2 cl/\
   (∀y c,cl.lookup y=some c->env.cells.lookup y=some c)/\(∀y,((y,U1)∈names\/∃c,acc.lookup y=some c)->∃c,cl.lookup y=some c)
 | [],acc,_,ha=>⟨acc,by rw [F5],ha,λ y h=>h.elim (λ z=>nomatch z) id⟩
 | (n,k) :: r,acc,hf,ha=>by
  rw [S4];dsimp only;by_cases hk:k=U1
  ·subst hk;obtain ⟨c,j⟩:=hf (n,.free) L0 rfl;have e:cellOf env n=Z2 c:=by unfold cellOf;rw [j]
   rw [if_pos (by rfl),e];obtain ⟨cl,g,f,i⟩:=z47 r ((n,c) :: acc) (λ y a=>hf y (V0 _ a)) (λ y d b=>by
    rw [B4] at b;by_cases a:(y == n)=true
    ·rw [a] at b;have:=eq_of_beq a;subst this;cases b;exact j
    ·rw [j0c] at a;rw [a] at b;exact ha y d b)
   refine ⟨cl,g,f,λ y a=>i y ?_⟩;rcases a with a|⟨d,b⟩
   ·rcases List.mem_cons.mp a with z|z
    ·cases z;exact .inr ⟨c,by rw [B4];simp⟩
    ·exact .inl z
   ·refine .inr ?_;rw [B4];by_cases a:(y == n)=true
    ·rw [a];exact ⟨c,rfl⟩
    ·rw [j0c] at a;rw [a];exact ⟨d,b⟩
  ·rw [if_neg (by simpa using hk)];obtain ⟨cl,g,f,i⟩:=z47 r acc (λ y a=>hf y (V0 _ a)) ha;refine ⟨cl,g,f,λ y a=>i y ?_⟩;rcases a with a|a
   ·rcases List.mem_cons.mp a with z|z
    ·cases z;exact absurd rfl hk
    ·exact .inl z
   ·exact .inr a
theorem zh5 {scope:Scope} {env:Env} (hf :∀y∈scope.names,y.2=U1->∃c,env.cells.lookup y.1=some c) :
  ∃cl,closureFor scope env=Z2 cl/\(∀y c,cl.lookup y=some c->env.cells.lookup y=some c)/\(∀y,(y,U1)∈scope.names->∃c,cl.lookup y=some c):=by
 obtain ⟨cl,d,b,e⟩:=z47 (env:=env) scope.names [] hf (λ _ _ z=>nomatch z);refine ⟨cl,?_,b,λ y a=>e y (.inl a)⟩;simp only [closureFor];rw [d];rfl
theorem mem_of_lookup {κ:Type} {y:Str} {k:κ} :∀{l:List (Str×κ)},l.lookup y=some k->(y,k)∈l
 | (n,c) :: r,h=>by
  rw [B4] at h;by_cases hy:(y == n)=true
  ·rw [hy] at h;cases h;rw [eq_of_beq hy];exact L0
  ·rw [j0c] at hy;rw [hy] at h;exact V0 _ (mem_of_lookup h)
theorem z79 {scope:Scope} {env:Env} (hcell :∀y∈scope.names,y.2≠NameKind.cell) {y:Str} {k:M5} (h:(i8 scope env).names.lookup y=some k) (hk:k=.cell\/k=.free):(y,U1)∈scope.names:=by
 have m:=mem_of_lookup h;unfold i8 at m;obtain ⟨⟨n,c⟩,a,e⟩:=List.mem_map.mp m;dsimp only at e;by_cases hc:(c == U1)=true
 ·have:=eq_of_beq hc;subst this;split at e<;>(injection e with e1 e2;subst e1;exact a)
 ·rw [if_neg (by simp [hc])] at e;injection e with e1 e2;subst e1 e2;rcases hk with rfl|rfl
  ·exact absurd rfl (hcell _ a)
  ·exact absurd rfl hc
noncomputable abbrev cxComp (X:Cx) (scope:Scope) (cl:List (Str×Addr)) (N:List Str) (C:Addr) (s₂:u0) (H₂:Hp) (fp:List Addr):Cx:=
 { X with N:=N,s₀:=s₂,H₀:=H₂,env:=compEnvC scope cl C X.env,outer:=X.stack,stack:=X.stack,ex:=fp,fn:=λ _=>false,pn:=[],xe:=λ _ _=>False }
def PF (X:Cx) (ifs:List Expr) (t:TT):Prop:=
 ∀(pins:zP) (s:u0) (σ:St) (H:Hp) (Q:Bool->Hp->Prop),Inv X pins σ H s->t σ H Q->
  W0 (u1 X.prog X.w) X.A (P9 ifs true λ c r=>if r=true then do let ok <-isTrue c X.env (C3 c X.env);Z2 (J2 ok) else Z2 (J2 r)) (TP X pins σ Q) X.xe s
theorem pf_nil {X:Cx}:PF X [] (λ _ H Q=>Q true H):=λ _ _ _ H _ I h=>wpAny_tests_nil ⟨H,I,h⟩
theorem pf_one {X:Cx} {c:Expr} {t:TT} (h:PT X c t):PF X [c] t:=λ a s σ H Q I q=>wpAny_tests_one (h a s σ H Q I q)
theorem Vals.snoc {xs:List V} {us:List Value} {x:V} {u:Value} (r:Vals xs us) (q:RelV x u):Vals (xs++[x]) (us++[u]):=Vals.append r (.cons q .nil)
def TagOf (H:Hp) (x:V) (T:String):Prop:=match x with
 | .non=>T = "NoneType"
 | .bl _=>T = "bool"
 | .int _=>T = "int"
 | .str _=>T = "str"
 | .ref a=>((∃xs,H a=some (.lst xs))/\T = "list")\/((∃xs,H a=some (.tup xs))/\T = "tuple")\/((∃kvs,H a=some (.dK kvs))/\T = "dict")
 | _=>False
def instB (T C:String):Bool:=T == C || (T == "bool" && C == "int")
theorem TagOf.ty {K:b0} {H:Hp} {x:V} {T:String} (h:TagOf H x T):TyOf K H x (.type T):=by
 cases x with
 | non=>cases (show T = "NoneType" from h);exact .non
 | bl b=>cases (show T = "bool" from h);exact .bl b
 | int i=>cases (show T = "int" from h);exact .int i
 | str z=>cases (show T = "str" from h);exact .str z
 | ref a=>
  rcases h with ⟨⟨c,e⟩,rfl⟩|⟨⟨c,e⟩,rfl⟩|⟨⟨c,e⟩,rfl⟩
  ·exact .lst e
  ·exact .tup e
  ·exact .dK e
 | _=>exact h.elim
theorem TagOf.one {H:Hp} {x:V} {T:String} (h:TagOf H x T):T = "NoneType"\/T = "bool"\/T = "int"\/T = "str"\/T = "list"\/T = "tuple"\/T = "dict":=by
 cases x with
 | non=>exact .inl h
 | bl b=>exact .inr (.inl h)
 | int i=>exact .inr (.inr (.inl h))
 | str z=>exact .inr (.inr (.inr (.inl h)))
 | ref a=>rcases h with ⟨_,rfl⟩|⟨_,rfl⟩|⟨_,rfl⟩<;>simp
 | _=>exact h.elim
def isiC:List String:=["int","str","bool","tuple","list"]
theorem kit_of (K:b0) {T C:String} (h:T = "NoneType"\/T = "bool"\/T = "int"\/T = "str"\/T = "list"\/T = "tuple"\/T = "dict") (hC:C∈isiC):PySem.W.kitOne K (.type T) (.type C)=some (instB T C):=by
 have hC:C = "int"\/C = "str"\/C = "bool"\/C = "tuple"\/C = "list":=by simpa [isiC] using hC
 rcases h with rfl|rfl|rfl|rfl|rfl|rfl|rfl<;>rcases hC with rfl|rfl|rfl|rfl|rfl<;>kernel_rfl
section
variable {X:Cx}
theorem z0o:CallR X (.builtin "isinstance") (λ xs H Q=>∃x C T,xs=[x,.ty C]/\TagOf H x T/\C∈isiC/\Q (.bl (instB T C)) H):=by intro i s σ H xs g Q I r h;obtain ⟨x,C,T,rfl,a,c,q⟩:=h;obtain ⟨u,b,rfl,e,f⟩:=vals2 r;cases (show b=b7 C from f);exact zj6 I e a.ty (kit_of X.K a.one c) λ d=>⟨.bl _,H,I.tok d,rfl,q⟩
theorem zi6 {ys:List V} {its:List Value} (rv:Vals ys its) (hb :∀y∈ys,∃b,y=V.bl b):((j1 its.length).all λ i=>decide (ys[i]? = some (V.bl true)))=ys.all λ y=>decide (y=V.bl true):=by
 have e:=rv.length;rw [Bool.eq_iff_iff,Y7,Y7];constructor
 ·intro h y d;obtain ⟨i,a,rfl⟩:=List.getElem_of_mem d;have:=h i (List.mem_range.mpr (by omega));simpa [a] using this
 ·intro h i a;have c:i < ys.length:=by have:=List.mem_range.mp a;omega
  have:=h ys[i] (z6 c);simpa [c] using this
theorem zdt (hc:X.calm=true):CallR X (.builtin "all") (λ xs H Q=>∃p ys,xs=[.ref p]/\SqL X.K H p ys/\(∀y∈ys,∃b,y=V.bl b)/\Q (.bl (ys.all λ y=>decide (y=V.bl true))) H):=by
 intro O s σ H xs N Q I r h;obtain ⟨p,ys,rfl,D,j,q⟩:=h;obtain ⟨u,rfl,w⟩:=vals1 r;cases w;obtain ⟨g,d,f,G⟩:=I.list D;have n:p≠s.heap.objs.size:=by obtain ⟨o,e,_⟩:=f.isList;exact C1 (Q0 e)
 refine call_all_walk (j12 f.isList ?_);refine ⟨s.heap.objs.size,_,_,_,_,_,λ i=>decide (ys[i]? = some (V.bl true)),rfl,Walks.list (show X.A.in1.handled=none from I.ok.hd hc) s.heap.objs.size p n g.toArray,⟨⟨_,Y0 _ rfl,rfl,rfl⟩,f.isList.at λ o e=>C0 _ e⟩,?_,?_⟩
 ·intro i v L M P a F;have a:g[i]? = some v:=by simpa using a
  obtain ⟨t,e⟩:=List.getElem?_eq_some_iff.mp a;have c:i < ys.length:=by rw [d.length];exact t
  obtain ⟨b,l⟩:=j ys[i] (z6 c);obtain ⟨u,k,m⟩:=d.get (i:=i) (x:=ys[i]) (by simp [c]);rw [a] at k;cases k;rw [l] at m;cases (show v=Z3 b from m);have:decide (ys[i]? = some (V.bl true))=b:=by rw [B0 c,l];cases b<;>simp
  exact y4 (this ▸ F)
 ·intro J B E;have e:=zi6 d j;rw [<-K0] at e;refine ⟨.bl _,H,I.kept (t':=B) λ b o z=>E b o ?_ (C0 _ z),rfl,e.symm ▸ q⟩;intro C;rw [List.mem_singleton.mp C] at z;exact absurd (Q0 z) (o4 _)
def CDivB (i j:Int):Prop:=0 < j/\j < 2 ^ 64
theorem zc8:OpR X (Q4 .FloorDiv) (rI CDivB λ i j=>.int (i / j)):=opI λ i j _ _ _ _ _ a q=>by
 obtain ⟨b,c⟩:=a;refine floordiv_int (by omega) ?_ (.inl (PyProof.noPylong_of_log2 ?_))
 ·rw [Int.fdiv_eq_ediv_of_nonneg _ (by omega)];exact q
 ·have:j.natAbs.log2 < 64:=(Nat.log2_lt (by omega)).mpr (by omega);omega
structure KDict (K:b0) (P:M0) (a:Addr) (kvs:zV):Prop where
 ex :∃es n,K.lookup a=some ⟨.type "dict",none,.dict es n,#[]⟩/\E8 (λ (p:Str×V) (e:DictEntry)=>(∃t,e.key=.str p.1 t)/\e.hash=c0 P p.1/\RelV p.2 e.val) kvs es.toList
 lo:(a == m3)=false
theorem zi4 {kvs:zV} {P:M0} :∀{es:List DictEntry},E8 (λ (p:Str×V) (e:DictEntry)=>(∃t,e.key=.str p.1 t)/\e.hash=c0 P p.1/\RelV p.2 e.val) kvs es->∀z,
  RelO (kvs.lookup z) (findBy G7 es.toArray z):=by
 intro es r;induction r with
 | nil=>intro z;exact True.intro
 | @cons p e kvs es h t a=>
  intro z;obtain ⟨⟨f,c⟩,g,d⟩:=h;have a:=a z;unfold findBy at a⊢;rw [List.find?_toArray] at a⊢;rw [Y3,B4];have b:G7 z e.key=(z == p.1):=by rw [c];show (p.1 == z)=_;rw [Bool.eq_iff_iff,beq_iff_eq,beq_iff_eq];exact ⟨λ q=>q.symm,λ q=>q.symm⟩
  cases hz:(z == p.1) with
  | true=>rw [b,hz];exact d
  | false=>rw [b,hz];exact a
theorem KDict.mapOf {a:Addr} {kvs:zV} (D:KDict X.K X.w.params a kvs) {h:Heap} (k:X.K.In h) :∃f,h.MapOf (strKind X.prog X.w) a f/\∀z,RelO (kvs.lookup z) (f z):=by
 obtain ⟨c,n,d,r⟩:=D.ex;have b:PySem.W.KeysLit X.w.params c.toList:=by
  clear d D;generalize c.toList=l at r;induction r with
  | nil=>exact True.intro
  | cons h t ih=>obtain ⟨⟨g,b⟩,i,j⟩:=h;exact ⟨⟨_,g,b,i⟩,ih⟩
 have e :∀z,RelO (kvs.lookup z) (findBy G7 c.toList.toArray z):=zi4 r;exact ⟨_,PySem.W.mapOf_K (prog:=X.prog) k d b,λ z=>by simpa using e z⟩
theorem zlo {a:Addr} {kvs:zV} (D:KDict X.K X.w.params a kvs):OpR X (B2 .In) (λ x y H Q=>∃z,x=.str z/\y=.ref a/\Q (.bl (kvs.lookup z).isSome) H):=by intro g s σ H x y v u Q I d e h;obtain ⟨z,rfl,rfl,q⟩:=h;obtain ⟨t,rfl⟩:=d;cases e;obtain ⟨f,b,c⟩:=D.mapOf I.kIn;refine wpAny_in_of (X8 X.prog X.w z t) D.lo b ⟨.bl _,H,I.tok _,rfl,?_⟩;have:=c z;rw [RelO.isSome_eq this] at q;exact q
theorem ix_kd {a:Addr} {kvs:zV} (D:KDict X.K X.w.params a kvs):IxR X (λ x y H Q=>∃z v,x=.ref a/\y=.str z/\kvs.lookup z=some v/\Q v H):=by
 intro l k m s σ H x y v u Q I i g h d;obtain ⟨z,r,rfl,rfl,e,q⟩:=h;cases i;obtain ⟨t,rfl⟩:=g;obtain ⟨f,c,j⟩:=D.mapOf I.kIn;have b:=j z;rw [e] at b;cases ef:f z with
 | none=>rw [ef] at b;exact b.elim
 | some u=>rw [ef] at b;exact j3g c.typeIs slot_dict_getitem.lookup (wpAny_getItem_of (X8 X.prog X.w z t) c ef ⟨r,H,I.tok _,b,q⟩) d
structure KDictT (K:b0) (P:M0) (a:Addr) (kvs:List ((Str×Str)×V)):Prop where
 ex :∃es n,K.lookup a=some ⟨.type "dict",none,.dict es n,#[]⟩/\E8 (λ (p:(Str×Str)×V) (e:DictEntry)=>(∃(b:Addr) (t t':Tok) (m:Nat),e.key=.ref b/\K.lookup b=some ⟨.type "tuple",none,.seq #[.str p.1.1 t,.str p.1.2 t'] m,#[]⟩)/\
  e.hash=G1 (l0 [c0 P p.1.1,c0 P p.1.2])/\RelV p.2 e.val) kvs es.toList
 nd:(kvs.map (·.1)).Nodup
 lo:(a == m3)=false
theorem ziu {prog:Program} {w:R0} {K:b0} {h:Heap} (k:K.In h) :∀{kvs:List ((Str×Str)×V)} {es:List DictEntry},
  E8 (λ (p:(Str×Str)×V) (e:DictEntry)=>(∃(b:Addr) (t t':Tok) (m:Nat),e.key=.ref b/\K.lookup b=some ⟨.type "tuple",none,.seq #[.str p.1.1 t,.str p.1.2 t'] m,#[]⟩)/\
   e.hash=G1 (l0 [c0 w.params p.1.1,c0 w.params p.1.2])/\RelV p.2 e.val) kvs es->
  ∃xs:List (List Str×Addr×Value),es=xs.map (entryOfKey (m6 (strKind prog w)))/\(∀x∈xs,(m6 (strKind prog w)).is h x.1 x.2.1)/\xs.map (·.1)=kvs.map (λ p=>[p.1.1,p.1.2])/\
   ∀a b,RelO (kvs.lookup (a,b)) ((Q8 xs [a,b]).map (·.2)):=by
 intro kvs es r;induction r with
 | nil=>exact ⟨[],rfl,λ x f=>absurd f j0,rfl,λ a b=>True.intro⟩
 | @cons p e kvs es hpe t ih=>
  obtain ⟨xs,q,y,n,o⟩:=ih;obtain ⟨⟨b,B,D,m,j,A⟩,g,s⟩:=hpe;refine ⟨([p.1.1,p.1.2],b,e.val) :: xs,?_,?_,?_,?_⟩
  ·rw [X0,<-q];congr 1;obtain ⟨v,u,C⟩:=e;have j:u=.ref b:=j;have g:v=_:=g;subst j g;rfl
  ·intro x f;rcases List.mem_cons.mp f with rfl|f
   ·exact ⟨_,_,m,k _ _ A,rfl,rfl,.cons (X8 prog w _ _) (.cons (X8 prog w _ _) .nil)⟩
   ·exact y x f
  ·rw [X0,X0,n]
  ·intro c d;have:=o c d;rw [B4];unfold Q8 at this⊢;rw [Y3];by_cases hcd:(c,d)=p.1
   ·have i:((c,d) == p.1)=true:=by rw [beq_iff_eq];exact hcd
    rw [i];have l:decide ([p.1.1,p.1.2]=[c,d])=true:=by rw [<-hcd];simp
    rw [l];exact s
   ·have i:((c,d) == p.1)=false:=by rw [beq_eq_false_iff_ne];exact hcd
    rw [i];have l:decide ([p.1.1,p.1.2]=[c,d])=false:=by rw [decide_eq_false_iff_not];intro z;injection z with z1 z;injection z with z2 _;exact hcd (j49 z1.symm z2.symm)
    rw [l];exact this
abbrev zT:=List (Str×Str)
theorem z81 :∀{l:zT},l.Nodup->(l.map λ p=>[p.1,p.2]).Nodup
 | [],_=>List.nodup_nil
 | p :: r,h=>by obtain ⟨c,b⟩:=List.nodup_cons.mp h;rw [X0];refine List.nodup_cons.mpr ⟨λ m=>c ?_,z81 b⟩;obtain ⟨q,a,e⟩:=List.mem_map.mp m;injection e with e1 e;injection e with e2 _;have:q=p:=j49 e1 e2;exact this ▸ a
theorem KDictT.dict {a:Addr} {kvs:List ((Str×Str)×V)} (D:KDictT X.K X.w.params a kvs) {h:Heap} (k:X.K.In h) :∃xs,h.DictOfH (m6 (strKind X.prog X.w)) a xs/\∀c d,RelO (kvs.lookup (c,d)) ((Q8 xs [c,d]).map (·.2)):=by obtain ⟨f,n,j,r⟩:=D.ex;obtain ⟨xs,g,e,i,b⟩:=ziu (prog:=X.prog) (w:=X.w) k r;refine ⟨xs,⟨_,f,n,k _ _ j,⟨rfl,rfl,rfl⟩,rfl,g,e,?_⟩,b⟩;rw [i];have:=z81 D.nd;rw [S2] at this;exact this
theorem zjx {pins:zP} {σ:St} {H:Hp} {s:u0} {p:Addr} {c d:Str} (I:Inv X pins σ H s) (hp:H p=some (.tup [.str c,.str d])):(m6 (strKind X.prog X.w)).is s.heap [c,d] p:=by
 obtain ⟨_,h,a,⟨o,e,f,n,b⟩,_⟩:=(show ObjOk X.prog X.w H s.heap p (.tup [.str c,.str d]) from I.hok p _ hp)
 cases a with
 | cons r1 a=>
  cases a with
  | cons r2 a=>cases a;obtain ⟨g,rfl⟩:=r1;obtain ⟨i,rfl⟩:=r2;exact ⟨o,_,n,e,f,b,.cons (X8 X.prog X.w _ _) (.cons (X8 X.prog X.w _ _) .nil)⟩
theorem zc3 {a:Addr} {kvs:List ((Str×Str)×V)} (hu:X.A.units + 1 < cLine) (D:KDictT X.K X.w.params a kvs) :
  OpR X (B2 .NotIn) (λ x y H Q=>∃p c d,x=.ref p/\H p=some (.tup [.str c,.str d])/\y=.ref a/\Q (.bl (!(kvs.lookup (c,d)).isSome)) H):=by
 intro j s σ H x y v u Q I g i h;obtain ⟨p,c,d,rfl,f,rfl,q⟩:=h;cases g;cases i;obtain ⟨l,b,e⟩:=D.dict I.kIn;refine wpAny_notIn_heap (k:=[c,d]) hu (zjx I f) D.lo b ⟨.bl _,H,I.tok _,rfl,?_⟩;have:=RelO.isSome_eq (e c d);rw [A7] at this;rw [this] at q;exact q
theorem ix_kdt {a:Addr} {kvs:List ((Str×Str)×V)} (hu:X.A.units + 1 < cLine) (D:KDictT X.K X.w.params a kvs) :
  IxR X (λ x y H Q=>∃p c d v,x=.ref a/\y=.ref p/\H p=some (.tup [.str c,.str d])/\kvs.lookup (c,d)=some v/\Q v H):=by
 intro t o B s σ H x y v u Q I l j h i;obtain ⟨p,c,d,r,rfl,rfl,g,e,q⟩:=h;cases l;cases j;obtain ⟨n,f,m⟩:=D.dict I.kIn;have b:=m c d;rw [e] at b;cases ef:Q8 n [c,d] with
 | none=>rw [ef] at b;exact b.elim
 | some z=>rw [ef] at b;exact j3g f.typeIs slot_dict_getitem.lookup (wpAny_getItem_heap (k:=[c,d]) hu (zjx I g) f ef ⟨r,H,I.tok _,b,q⟩) i
end
structure Cal (P:Program) (w:R0) (K:b0) (mg:Str->Option Value) (base:Heap) (x:Str) (ps:List Str) (k:Nat) (sp:Sp):Prop where
 ex :∃f fd,FnOk P w K mg base CX0 k f fd ps sp/\mg x=some (.ref f)/\u3 K (.ref f)=true/\Binds K fd ps []
section
variable {X:Cx} {x:Str} {ps:List Str} {k:Nat} {sp:Sp} {e:Expr} {es:List Expr} {t:TA} {p pos:Pos}
theorem pe_cal (c:Cal X.prog X.w X.K X.mg X.base x ps k sp) (hr:Room k X.A) (hg:Gl X x) (ha:PA X (e :: es) t) (hn:x≠"__name__":=by decide) (hdb:(x == ("__debug__" : Str))=false:=by decide)
  (he:N1 (e :: es) X.env=(false,C3 e X.env) :: N1 es X.env:=by rfl) (hpl:(F4 pos (N1 es X.env)).any (·.1)=false:=by rfl):PE X (.Call (.Name x p) (e :: es) [] pos) (tCall sp [] E0 t):=by
 obtain ⟨f,g,F,a,b,d⟩:=c.ex;exact zmj F hr hg a b d .nil pass0 ha hdb he hpl
end
structure TX (K:b0) (mg:Str->Option Value):Prop where
 of :∀{n:Str} {v:Value},N6 K Y2 n=some (some v)->mg n=some v
 no :∀{n:Str},N6 K Y2 n=some none->mg n=none
theorem TX.mk' {K:b0} {mg:Str->Option Value} {h:Heap} (X:K.In h) (G:h.Ns Y2 mg):TX K mg:=⟨λ e=>PySem.W.mg_of X G e,λ e=>PySem.W.mg_none_of X G e⟩
section
variable {X:Cx}
noncomputable def rAdd4 (K:b0):R2:=λ x y H Q=>(∃i j,x=.int i/\y=.int j/\Q (.int (i + j)) H)\/(∃i j,x=.str i/\y=.str j/\i.length + j.length<=sizeLine/\Q (.str (i++j)) H)\/rCat x y H Q\/rCatT K x y H Q
theorem opAdd:OpR X (Q4 .Add) (rAdd4 X.K):=op_add.or (op_add_str.or (op_cat.or z86))
theorem opEq:OpR X (B2 .Eq) rEq:=op_eq
theorem opNe:OpR X (B2 .NotEq) rNe:=op_ne
theorem z1h:CallR X (.builtin "len") (λ xs H Q=>(∃p ys,xs=[.ref p]/\(SqL X.K H p ys\/SqT X.K H p ys)/\Q (.int ys.length) H)\/∃z,xs=[.str z]/\z.length<=sizeLine/\Q (.int z.length) H):=call_len_seq.or zcn
end
def z11 (x:V) (g:Int):Bool:=match x with
 | .int i=>decide (-g<=i) && decide (i<=g)
 | _=>false
def tupOf (H:Hp) (x:V):Option (List V):=match x with
 | .ref a=>(match H a with|some (.tup xs)=>some xs|_=>none)
 | _=>none
theorem zfz {H H':Hp} {x:V} {T:String} (t:TagOf H x T) (e:Same H H'):tupOf H' x=tupOf H x:=by
 cases x with
 | ref a=>rcases t with ⟨⟨b,h⟩,_⟩|⟨⟨b,h⟩,_⟩|⟨⟨b,h⟩,_⟩<;>(unfold tupOf;dsimp only;rw [h,e a _ h])
 | _=>rfl
theorem TagOf.same {H H':Hp} {x:V} {T:String} (t:TagOf H x T) (e:Same H H'):TagOf H' x T:=by
 cases x with
 | ref a=>
  rcases t with ⟨⟨b,h⟩,z⟩|⟨⟨b,h⟩,z⟩|⟨⟨b,h⟩,z⟩
  ·exact .inl ⟨⟨b,e a _ h⟩,z⟩
  ·exact .inr (.inl ⟨⟨b,e a _ h⟩,z⟩)
  ·exact .inr (.inr ⟨⟨b,e a _ h⟩,z⟩)
 | _=>exact t
theorem TagOf.tuple {H:Hp} {x:V} (t:TagOf H x "tuple") :∃a xs,x=.ref a/\H a=some (.tup xs):=by
 cases x with
 | ref a=>
  rcases t with ⟨_,z⟩|⟨⟨xs,h⟩,_⟩|⟨_,z⟩
  ·exact absurd z (by decide)
  ·exact ⟨a,xs,rfl,h⟩
  ·exact absurd z (by decide)
 | non=>exact absurd (show "tuple" = "NoneType" from t) (by decide)
 | bl b=>exact absurd (show "tuple" = "bool" from t) (by decide)
 | int i=>exact absurd (show "tuple" = "int" from t) (by decide)
 | str z=>exact absurd (show "tuple" = "str" from t) (by decide)
 | _=>exact t.elim
theorem TagOf.int {H:Hp} {x:V} (t:TagOf H x "int") :∃i,x=.int i:=by
 cases x with
 | ref a=>rcases t with ⟨_,z⟩|⟨_,z⟩|⟨_,z⟩<;>exact absurd z (by decide)
 | non=>exact absurd (show "int" = "NoneType" from t) (by decide)
 | bl b=>exact absurd (show "int" = "bool" from t) (by decide)
 | int i=>exact ⟨i,rfl⟩
 | str z=>exact absurd (show "int" = "str" from t) (by decide)
 | _=>exact t.elim
theorem TagOf.str {H:Hp} {x:V} (t:TagOf H x "str") :∃z,x=.str z:=by
 cases x with
 | ref a=>rcases t with ⟨_,z⟩|⟨_,z⟩|⟨_,z⟩<;>exact absurd z (by decide)
 | non=>exact absurd (show "str" = "NoneType" from t) (by decide)
 | bl b=>exact absurd (show "str" = "bool" from t) (by decide)
 | int i=>exact absurd (show "str" = "int" from t) (by decide)
 | str z=>exact ⟨z,rfl⟩
 | _=>exact t.elim
theorem noInt {H:Hp} {x:V} {T:String} (t:TagOf H x T) (h:T≠"int") (g:Int):z11 x g=false:=by
 cases x with
 | int i=>exact absurd t h
 | _=>rfl
theorem noTup {H:Hp} {x:V} {T:String} (t:TagOf H x T) (h:T≠"tuple"):tupOf H x=none:=by
 cases x with
 | ref a=>
  rcases t with ⟨⟨b,e⟩,_⟩|⟨_,z⟩|⟨⟨b,e⟩,_⟩
  ·unfold tupOf;dsimp only;rw [e]
  ·exact absurd z h
  ·unfold tupOf;dsimp only;rw [e]
 | _=>rfl
theorem z97 {H:Hp} {x:V} {T:String} (t:TagOf H x T) {C:String} (h:C≠"int"):instB T C=decide (T=C):=by
 unfold instB;have:(C == "int")=false:=by simpa using h
 rw [this,W8,Bool.or_false,Bool.beq_eq_decide_eq]
def Flat (H:Hp) (x:V):Prop:=∀xs,tupOf H x=some xs->xs.length<=1000/\∀y∈xs,∃T,TagOf H y T
theorem zbx {α β:Type} [BEq α] [LawfulBEq α] {l:List (α×β)} {a:α} {b:β} (h:l.lookup a=some b):(a,b)∈l:=by
 induction l with
 | nil=>cases h
 | cons p r ih=>
  obtain ⟨c,d⟩:=p;rw [B4] at h;cases hc:(a == c) with
  | true=>rw [hc] at h;cases h;rw [eq_of_beq hc];exact L0
  | false=>rw [hc] at h;exact V0 _ (ih h)
theorem z9o {names:List (Str×M5)} {Q:Str×M5->Prop} (h:(names.all λ y=>y.2 != U1)=true) :∀y∈names,y.2=U1->Q y:=λ y a e=>by have:=List.all_eq_true.mp h y a;rw [e] at this;exact absurd this (by decide)
theorem Same.upd {H:Hp} {p:Addr} {o:HO} (h:H p=none):Same H (upd H p o):=λ b u e=>by rw [upd_ne (z07 e h)];exact e
theorem Same.seqT {K:b0} {H H':Hp} {a:Addr} {xs:List V} (e:Same H H') (h:SqT K H a xs):SqT K H' a xs:=by
 rcases h with (h|⟨o,h⟩)|h
 ·exact .inl (.inl (e _ _ h))
 ·exact .inl (.inr ⟨o,e _ _ h⟩)
 ·exact .inr h
theorem zgn {H:Hp} {x:V} {xs:List V} (h:tupOf H x=some xs) :∃a,x=.ref a/\H a=some (.tup xs):=by
 unfold tupOf at h;cases x with
 | ref a=>
  dsimp only at h;split at h
  ·rename_i ys e;exact ⟨a,rfl,by rw [e,P1 h]⟩
  ·cases h
 | _=>cases h
end L2
namespace L2
open PySem PySem.Spec PyProof.Rows
open Builtin.Str (occurrences partsBetween strKind)
section
variable {X:Cx}
theorem zd2 {vl:Value} {lo:Option Int} (p:j0f vl lo) :∃l:Option (Int×Tok),vl=partValue l/\l.map (·.1)=lo:=by
 cases p with
 | none=>exact ⟨none,rfl,rfl⟩
 | int i t=>exact ⟨some (i,t),rfl,rfl⟩
end
end L2
namespace L2
open PySem PySem.Spec PyProof.Rows
section
variable {X:Cx}
def rSlS:V->Option Int->Option Int->Hp->VK->Prop:=λ x lo hi H Q=>∃z,x=.str z/\z.length<=sizeLine/\Q (.str (Txt.slice z lo hi)) H
theorem sl_str:SlR X rSlS:=by
 intro p s σ H x v j o r n m Q I d a f b h;obtain ⟨z,rfl,c,q⟩:=h;obtain ⟨t,rfl⟩:=d;obtain ⟨l,rfl,g⟩:=zd2 f;obtain ⟨u,rfl,i⟩:=zd2 b;subst g i;refine ⟨"str",_,F.slot_str_getitem.lookup,typeIs_str _ _ _,wpAny_getItem_str_slice (l:=l) (u:=u) (st:=none) a rfl
  (post_val_or_str ⟨A0 (Txt.slice_le z _ _) c,λ e k=>⟨.str (Txt.slice z _ _),H,I.tok k,⟨e,rfl⟩,q⟩⟩)⟩
theorem slSeq:SlR X (λ x lo hi H Q=>rSlL X.K x lo hi H Q\/rSlT X.K x lo hi H Q\/rSlS x lo hi H Q):=sl_list.or (sl_tup.or sl_str)
theorem zi3:CallR X (.type "int") (λ xs H Q=>∃z n,xs=[.str z]/\PySem.intText? z=some n/\z.length<=640/\Q (.int n) H):=by intro d s σ H xs c Q I r h;obtain ⟨z,n,rfl,a,b,q⟩:=h;obtain ⟨u,rfl,t,rfl⟩:=vals1 r;exact PySem.W.KIN.call_text a b ⟨.int n,H,I.tok _,⟨_,rfl⟩,q⟩
theorem zcc:CallR X (.type "int") (λ xs H Q=>((∃i,xs=[.int i]/\Q (.int i) H)\/∃k,xs=[.bl k]/\Q (.int (if k then 1 else 0)) H)\/∃z n,xs=[.str z]/\PySem.intText? z=some n/\z.length<=640/\Q (.int n) H):=call_int1.or zi3
end
def RowAt (H:Hp) (r:Addr):Prop:=∃a b c:Int,H r=some (.lst [.int a,.int b,.int c])/\0<=c/\c < 536870909
def Kept (r:Addr) (H H':Hp):Prop:=∀b o,b≠r->H b=some o->H' b=some o
theorem Kept.refl {r:Addr} {H:Hp}:Kept r H H:=λ _ _ _ h=>h
theorem Kept.trans {r:Addr} {H H1 H2:Hp} (a:Kept r H H1) (b:Kept r H1 H2):Kept r H H2:=λ c o n h=>b c o n (a c o n h)
theorem Same.kept {r:Addr} {H H':Hp} (s:Same H H'):Kept r H H':=λ b o _ h=>s b o h
theorem Kept.set {r:Addr} {H:Hp} {o:HO}:Kept r H (upd H r o):=λ b u n h=>by rw [upd_ne n];exact h
structure Rw (r:Addr) (H H':Hp):Prop where
 k:Kept r H H'
 r:RowAt H' r
theorem atI_of {α:Type} {xs:List α} {t:Int} (h0:0<=t) (h1:t < xs.length) :∃v,atI xs t=some v/\v∈xs:=by
 have a:t.toNat < xs.length:=by omega
 refine ⟨xs[t.toNat],?_,z6 a⟩;have:=z06 (xs:=xs) (j:=t.toNat) (v:=xs[t.toNat]) (by simp [a]);rw [Int.toNat_of_nonneg h0] at this;exact this
section
variable {r:Addr} {σ:St} {H0:Hp} {K:b0}
theorem g_name {i:Nat} {v:V} {σ:St} {H:Hp} {Q:St->Hp->Prop} (h:Q (σ.set i (some v)) H):gName i v σ H Q:=h
theorem t_nx {nx ct bk:St->Hp->Prop} {rt:VK} {σ:St} {H:Hp} (h:nx σ H):Ends.nx { nx:=nx,rt:=rt,bk:=bk,ct:=ct } σ H:=h
theorem t_next {nx ct bk:St->Hp->Prop} {rt:VK} {σ:St} {H:Hp} (h:nx σ H):tNext { nx:=nx,rt:=rt,bk:=bk,ct:=ct } σ H:=h
end
end L2
namespace L2
open PySem
section
variable {prog:Program} {w:R0} {A:V1} {E:Value->u0->Prop} {s:u0}
theorem tupOn {it t:Addr} {i:Nat} {its:Array Value} {x:Value} {Q:Value->u0->Prop} (a:s.heap.IsTupleIter it t i) (b:s.heap.IsTuple t its) (c:its[i]? = some x)
  (q :∀h',h'.IsTupleIter it t (i + 1)->X5 it s.heap h'->Q x { s with heap:=h' }):W0 (u1 prog w) A (G4 (.ref it)) Q E s:=by
 obtain ⟨o,e,g,d⟩:=id a;obtain ⟨p,h,_,n,f⟩:=b;unfold G4;refine d0 (P4 (name:=A8 "__next__") a.typeIs L5 (B3 L5 a.typeIs j2f (show W0 _ _ (field (.ref it) 0 >>= _) _ _ s from d0 (X6 e d (x:=.ref t) rfl ?_)) (j24 _)));show W0 _ _ (if (Z0 t == U2)=true then _ else (field (.ref it) 1 >>= _)) _ _ s;rw [if_neg (by exact N0)];refine d0 (X6 e d (x:=.int i 0) rfl (show W0 _ _ (seqItems? (.ref t) >>= _) _ _ s from d0 (j3e h f ?_)));simp only [j6,c];refine d0 (M9 e d (by simp) (F0 ⟨x,rfl,F0 (q _ ⟨_,N8 _ e (Obj.isFreed_of_fields (Obj.data_mapFields d _)),(Obj.cls_mapFields ..).trans g,?_⟩ (Z4 ..))⟩));rw [Obj.data_mapFields d];simp [j1h]
theorem tupOff {it t:Addr} {i:Nat} {its:Array Value} {Q:Value->u0->Prop} (hh:A.handled=none) (a:s.heap.IsTupleIter it t i) (b:s.heap.IsTuple t its) (c:its[i]? = none)
  (q :∀h' e,Heap.ExtBut it s.heap h'->(∃o,h'.get? e=some o/\o.cls=.type "StopIteration")->E (.ref e) { s with heap:=h' }):W0 (u1 prog w) A (G4 (.ref it)) Q E s:=by
 obtain ⟨o,d,j,f⟩:=id a;obtain ⟨p,h,_,n,g⟩:=b;unfold G4;refine d0 (P4 (name:=A8 "__next__") a.typeIs L5 (B3 L5 a.typeIs j2f (show W0 _ _ (field (.ref it) 0 >>= _) _ _ s from d0 (X6 d f (x:=.ref t) rfl ?_)) (j24 _)));show W0 _ _ (if (Z0 t == U2)=true then _ else (field (.ref it) 1 >>= _)) _ _ s;rw [if_neg (by exact N0)];refine d0 (X6 d f (x:=.int i 0) rfl (show W0 _ _ (seqItems? (.ref t) >>= _) _ _ s from d0 (j3e h g ?_)));simp only [j6,c];refine d0 (wpAny_rule (d0 (M9 d f (by simp) (show W0 _ _ (newExc (.type "StopIteration") [] >>= _) _ _ _ from d0 ?_))));simp only [newExc,newTuple];refine d0 (X2 (d0 (m:=Q9 _ _) (wpAny_of_eq (a:=U2) (by first|rfl|(simp only [Q9];rfl)) (X2 ?_ (by size_fits)))) (by size_fits));simp only [raiseNew];refine d0 (wpAny_handled ?_);first|rw [show A.in1.handled=none from hh]|rw [hh]
 exact d0 (F0 (wpAny_throw (q _ _ (((Z4 ..).extBut.push _).push _) ⟨_,Y0 _ rfl,rfl⟩)))
structure ZApart (z T U i j a b:Addr):Prop where
 dis:[z,T,U,i,j].Nodup
 fa:a∉[z,T,U,i,j]
 fb:b∉[z,T,U,i,j]
structure ZAt (h:Heap) (z T U i j a b:Addr) (n:Nat) (f:Value):Prop where
 z:IsZip h z T U f
 t:IsPair h T (.ref i) (.ref j)
 u :∃p q,IsPair h U p q
 i:h.IsTupleIter i a n
 j:h.IsTupleIter j b n
end
end L2
namespace L2
open PySem PySem.Spec PyProof.Rows
inductive Dt where
 | non|bl (b:Bool)|int (i:Int)|str (z:Str)|tup (ds:List Dt)
mutual
noncomputable def IsDt (K:b0) (H:Hp):Dt->V->Prop
 | .non,v=>v=.non
 | .bl b,v=>v=.bl b
 | .int i,v=>v=.int i
 | .str z,v=>v=.str z
 | .tup ds,v=>∃a xs,v=.ref a/\SqT K H a xs/\IsDts K H ds xs
noncomputable def IsDts (K:b0) (H:Hp):List Dt->List V->Prop
 | [],xs=>xs=[]
 | d :: ds,xs=>∃x r,xs=x :: r/\IsDt K H d x/\IsDts K H ds r
end
mutual
theorem IsDt.same' {K:b0} {H H':Hp} (s:Same H H') :∀(d:Dt) (v:V),IsDt K H d v->IsDt K H' d v
 | .non,v,h=>h
 | .bl b,v,h=>h
 | .int i,v,h=>h
 | .str z,v,h=>h
 | .tup ds,v,h=>by obtain ⟨a,c,rfl,e,r⟩:=h;exact ⟨a,c,rfl,s.seqT e,IsDts.same' s ds c r⟩
theorem IsDts.same' {K:b0} {H H':Hp} (s:Same H H') :∀(d:List Dt) (v:List V),IsDts K H d v->IsDts K H' d v
 | [],xs,h=>h
 | d :: ds,xs,h=>by obtain ⟨x,r,rfl,a,b⟩:=h;exact ⟨x,r,rfl,IsDt.same' s d x a,IsDts.same' s ds r b⟩
end
theorem IsDt.same {K:b0} {H H':Hp} {d:Dt} {v:V} (h:IsDt K H d v) (s:Same H H'):IsDt K H' d v:=IsDt.same' s d v h
theorem IsDts.mk2 {K:b0} {H:Hp} {d e:Dt} {x y:V} (a:IsDt K H d x) (b:IsDt K H e y):IsDts K H [d,e] [x,y]:=⟨x,[y],rfl,a,y,[],rfl,b,rfl⟩
theorem IsDt.mkT {K:b0} {H:Hp} {p:Addr} {xs:List V} {ds:List Dt} (h:H p=some (.tup xs)) (r:IsDts K H ds xs):IsDt K H (.tup ds) (.ref p):=⟨p,xs,rfl,SqT.of h,r⟩
mutual
def Dt.deep:Dt->Nat
 | .tup ds=>Dt.deeps ds + 1
 | _=>0
def Dt.deeps:List Dt->Nat
 | []=>0
 | d :: ds=>max d.deep (Dt.deeps ds)
def Dt.plain:Dt->Bool
 | .int _=>true
 | .str _=>true
 | .tup ds=>Dt.plains ds
 | _=>false
def Dt.plains:List Dt->Bool
 | []=>true
 | d :: ds=>d.plain && Dt.plains ds
end
section
variable {X:Cx}
theorem zm7 {i:Nat} {x:Str} {p pos:Pos} {e:Expr} {es:List Expr} {t:TA} (tb:Addr->Sp->Prop) (hN:X.N[i]? = some x) (hv:Vis X.env.scope x)
  (G :∀f sp,tb f sp->∃k fd ps,FnOk X.prog X.w X.K X.mg X.base CX0 k f fd ps sp/\Room k X.A/\u3 X.K (.ref f)=true/\Binds X.K fd ps [])
  (ha:PA X (e :: es) t) (hd:(x == ("__debug__" : Str))=false:=by decide) (hcd:(x == ("__classdict__" : Str))=false:=by decide)
  (he:N1 (e :: es) X.env=(false,C3 e X.env) :: N1 es X.env:=by rfl) (hpl:(F4 pos (N1 es X.env)).any (·.1)=false:=by rfl) :
  PE X (.Call (.Name x p) (e :: es) [] pos) (λ σ H Q=>∃f sp,σ[i]? = some (some (.ref f))/\tb f sp/\t σ H λ vs H1=>sp vs H1 Q E0):=by
 intro a s σ H Q I h;obtain ⟨f,sp,l,g,h⟩:=h;obtain ⟨k,fd,ps,F,c,b,j⟩:=G f sp g;refine Z5 (thn (pe_var hN hv hd hcd a s σ H (λ v m=>v=.ref f/\m=H) I ⟨_,l,rfl,rfl⟩) λ u d ⟨v,H0,I0,r0,ev,eH⟩=>?_);subst ev eH;obtain rfl:u=Z0 f:=r0;refine S6 (h₀:=X.base) I0.ok.mod.kin b (thn (ha pos a d σ _ _ I0 h) λ n o ⟨vs,H1,I1,r,q⟩=>⟨I1.kIn,?_⟩) he hpl;exact run_fn F c j .nil pass0 I1 r (by rw [N2];exact q)
theorem Inv.turnedL {pins:zP} {σ:St} {H:Hp} {s:u0} {h':Heap} {t':Nat} {fp:List Addr} (I:Inv X pins σ H s) (k :∀b o,b∉fp->s.heap.get? b=some o->h'.get? b=some o) (hf :∀b∈fp,FpOk X pins H b) :
  Inv X pins σ H { s with heap:=h',toks:=t' }:=by
 have f :∀b u,H b=some u->b∉fp:=λ b u e z=>by have:=(hf b z).1;rw [this] at e;cases e
 refine I.step (g':=s.gens) (d':=s.drawn) (ch:=fp) (λ b d=>⟨(hf b d).2.2.2.1,(hf b d).2.1,(hf b d).2.2.2.2.1,(hf b d).2.2.2.2.2⟩) (λ b o _ _ a e _=>k b o a e) (λ b o _ _ a e _=>⟨o.slots,k b o a e⟩) (λ _ _ _ _ n=>n)
  (λ b o a e=>⟨o,k b o a e⟩) (λ _ _ e=>e) (λ _ _ _ e=>e) (λ b l e=>⟨#[],by rw [e];simp⟩) (λ m g=>?_) (λ b u e=>?_) I.bare
 ·obtain ⟨o,i,h,j,r⟩:=g;exact ⟨o,i,h,k _ o (λ z=>(hf _ z).2.1 rfl) j,r⟩
 ·refine (I.hok b u e).stay (λ c v a q=>k c v ?_ q) (λ _ q=>q) λ _ _ q=>q;rcases a with z|z
  ·rw [z];exact f b u e
  ·exact f c _ z
theorem Inv.turnedLaid {pins:zP} {σ:St} {H:Hp} {s:u0} {h':Heap} {t':Nat} {fp:List Addr} {a:Addr} {o:HO} (I:Inv X pins σ H s) (k :∀b o,b∉fp->s.heap.get? b=some o->h'.get? b=some o) (hf :∀b∈fp,FpOk X pins H b)
  (hp:s.heap.objs.size<=a) (new:ObjOk X.prog X.w (upd H a o) h' a o):Inv X pins σ (upd H a o) { s with heap:=h',toks:=t' }:=by
 have j:H a=none:=I.hok.fresh hp;have h :∀b u,H b=some u->b∉fp:=λ b u e z=>by have:=(hf b z).1;rw [this] at e;cases e
 have g :∀b u,H b=some u->upd H a o b=some u:=λ b u e=>by rw [upd_ne (z07 e j)];exact e
 refine I.step (g':=s.gens) (d':=s.drawn) (ch:=fp) (λ b f=>⟨(hf b f).2.2.2.1,(hf b f).2.1,(hf b f).2.2.2.2.1,(hf b f).2.2.2.2.2⟩) (λ b o _ _ d e _=>k b o d e) (λ b o _ _ d e _=>⟨o.slots,k b o d e⟩)
  (λ b u _ e n=>by rw [upd_ne (λ z=>by subst z;exact absurd (Q0 e) (Nat.not_lt.mpr hp))];exact n)
  (λ b o d e=>⟨o,k b o d e⟩) (λ _ _ e=>g _ _ e) (λ _ _ _ e=>g _ _ e) (λ b x e=>⟨#[],by rw [g _ _ e];simp⟩) (λ m p=>?_) (λ b u e=>?_) I.bare
 ·obtain ⟨o,i,l,t,r⟩:=p;exact ⟨o,i,l,k _ o (λ z=>(hf _ z).2.1 rfl) t,r⟩
 ·by_cases f:b=a
  ·subst f;rw [upd_same] at e;cases e;exact new
  ·rw [upd_ne f] at e;refine (I.hok b u e).stay (λ c v d q=>k c v ?_ q) (λ c q=>g _ _ q) λ c y q=>g _ _ q;rcases d with z|z
   ·rw [z];exact h b u e
   ·exact h c _ z
theorem zh8:OpR X (Q4 .Add) (λ x y H Q=>∃a b ys,x=.ref a/\y=.ref b/\SqT X.K H a []/\SqT X.K H b ys/\Q (.ref b) H):=by intro M s σ H x y v u Q I o m h;obtain ⟨a,b,ys,rfl,rfl,A,w,q⟩:=h;cases o;cases m;obtain ⟨F,z,l,_⟩:=I.tuple A;obtain ⟨p,G,k,_⟩:=I.tuple w;cases z;obtain ⟨⟨L,r,D,B⟩,c,g,t,e⟩:=id l;obtain ⟨⟨E,n,J,C⟩,f,i,j,d⟩:=id k;simp only at g e i d;subst g e i d;exact concat_meets ⟨_,c,rfl⟩ ⟨_,f,rfl⟩ j1i seq_tuple_add U7 L7 (z7 _ _) (tuple_addW0 a b ([]:List Value).toArray p.toArray t j r n B C (by simp)) ⟨c,f,⟨.ref b,H,I,rfl,q⟩⟩
noncomputable def rCatS (K:b0):R2:=λ x y H Q=>∃a b xs ys,x=.ref a/\y=.ref b/\SqT K H a xs/\SqT K H b ys/\ys≠[]/\xs.length + ys.length<=sizeLine/\∀p H',Same H H'->SqT K H' p (xs++ys)->Q (.ref p) H'
theorem op_catS:OpR X (Q4 .Add) (rCatS X.K):=by
 intro j s σ H x y v u Q I f e h;obtain ⟨a,b,d,g,rfl,rfl,i,c,l,m,q⟩:=h;cases d with
 | nil=>exact zh8 j s σ H _ _ v u Q I f e ⟨a,b,g,rfl,rfl,i,c,q b H (Same.refl H) c⟩
 | cons x d=>exact z86 j s σ H _ _ v u Q I f e ⟨a,b,x :: d,g,rfl,rfl,i,c,by simp,m,λ z=>absurd z l,λ _ p k=>q p _ (Same.upd k) (SqT.of upd_same)⟩
theorem z14 {o e:Expr} {es:List Expr} {to:TE} {t:TA} {apos cpos:Pos} (ho:PE X o to) (ha:PA X (e :: es) t)
  (hbase:U3 o "append" X.env (C3 o X.env)=C3 o X.env:=by rfl)
  (hfew:((F4 cpos (N1 (e :: es) X.env)).all (λ x=>!x.1) && (R9 cpos (Y6 [] X.env)).all (λ x=>x.1.isSome)
   && decide ((e :: es).length + ([]:List E6).length + (if ([]:List E6).isEmpty then 0 else 1) < 30))=true:=by rfl)
  (hline:(apos.endLine == cpos.line)=true:=by rfl) (hs:N1 (e :: es) X.env=(false,C3 e X.env) :: N1 es X.env:=by rfl) (hplain:(F4 cpos (N1 es X.env)).any (·.1)=false:=by rfl) :
  PE X (.Call (.Attribute o "append" apos) (e :: es) [] cpos) (tBM X.K "list" zjw to t):=pe_bm N5 PySem.F.slot_list_append PySem.F.type_list_append zjn ho ha hbase hfew hline hs hplain
end
def KeptL (L:List Addr) (H H':Hp):Prop:=∀b o,b∉L->H b=some o->H' b=some o
theorem KeptL.refl {L:List Addr} {H:Hp}:KeptL L H H:=λ _ _ _ h=>h
theorem KeptL.trans {L:List Addr} {H H1 H2:Hp} (a:KeptL L H H1) (b:KeptL L H1 H2):KeptL L H H2:=λ c o n h=>b c o n (a c o n h)
theorem Same.keptL {L:List Addr} {H H':Hp} (s:Same H H'):KeptL L H H':=λ b o _ h=>s b o h
theorem KeptL.set {L:List Addr} {H:Hp} {l:Addr} {o:HO} (h:l∈L):KeptL L H (upd H l o):=λ b u n e=>by rw [upd_ne (λ z=>n (by rw [z];exact h))];exact e
mutual
theorem IsDt.mono' {K:b0} {H H':Hp} (s :∀a xs,SqT K H a xs->SqT K H' a xs) :∀(d:Dt) (v:V),IsDt K H d v->IsDt K H' d v
 | .non,v,h=>h
 | .bl b,v,h=>h
 | .int i,v,h=>h
 | .str z,v,h=>h
 | .tup ds,v,h=>by obtain ⟨a,xs,rfl,e,r⟩:=h;exact ⟨a,xs,rfl,s _ _ e,IsDts.mono' s ds xs r⟩
theorem IsDts.mono' {K:b0} {H H':Hp} (s :∀a xs,SqT K H a xs->SqT K H' a xs) :∀(d:List Dt) (v:List V),IsDts K H d v->IsDts K H' d v
 | [],xs,h=>h
 | d :: ds,xs,h=>by obtain ⟨x,r,rfl,a,b⟩:=h;exact ⟨x,r,rfl,IsDt.mono' s d x a,IsDts.mono' s ds r b⟩
end
theorem SqT.wrote {K:b0} {H:Hp} {l a:Addr} {o:HO} {zs xs:List V} (e:H l=some (.lst zs)) (h:SqT K H a xs):SqT K (upd H l o) a xs:=by
 rcases h with (h|⟨ob,h⟩)|h
 ·exact .inl (.inl (by rw [upd_ne (ne_of h e (by intro z;cases z))];exact h))
 ·exact .inl (.inr ⟨ob,by rw [upd_ne (ne_of h e (by intro z;cases z))];exact h⟩)
 ·exact .inr h
section
variable {prog:Program} {w:R0} {A:V1} {E:Value->u0->Prop} {s:u0}
theorem zlr {v:Value} {Q:Value->u0->Prop} {ns:List Int} (hn:ns.length < 64)
  (hc :∀R:List Value->u0->Prop,(∀h' tk vs,(∀b o,s.heap.get? b=some o->h'.get? b=some o)->c9 vs ns->R vs { s with heap:=h',toks:=tk })->W0 (u1 prog w) A.in1 (collect v) R E s)
  (h :∀(h1 h':Heap) (tk:Nat) (out:Array Value) (ns':List Int) (e:Nat),(∀b o,s.heap.get? b=some o->h1.get? b=some o)->(∀b o,h1.get? b=some o->h'.get? b=some o)->h'.get? h1.objs.size=some { cls:=.type "list",data:=.seq out e }->c9 out.toList ns'->ns'.Perm ns->ns'.Pairwise (·<=·)->Q (.ref h1.objs.size) { s with heap:=h',toks:=tk }) :
  W0 (u1 prog w) A (call (.builtin "sorted") [v]) Q E s:=by
 refine B7 kind_sorted plain_sorted entry_sorted (args_sorted1 _) ?_;unfold j04.«sorted»;refine d0 (m:=checkCount "sorted" 1 1 _) (F0 (d0 (hc _ λ h1 tk vs k c=>?_)));have f:vs.length < 64:=by rw [c.length];exact hn
 refine d0 (j08 ?_ (A0 (V2 f) (by decide)));have a:(h1.push (m7 "list" vs.toArray 0)).get? h1.objs.size=some (m7 "list" vs.toArray 0):=Y0 _ rfl;refine d0 (D4 (B3 j3h ⟨_,a,rfl⟩ j31 (list_sort_tree a c f λ out ns' g i l=>⟨_,rfl,?_⟩) (j41 _)));obtain ⟨e,j⟩:=sortedHeap_at (out:=out) a;refine F0 ⟨_,rfl,h h1 _ tk out ns' e k (λ b o d=>?_) j g i l⟩;have lt:=Q0 d;refine (sortedHeap_old (C1 lt) ?_).trans (C0 _ d);rw [size_push'];exact j2 lt
end
section
variable {X:Cx}
def srt (ns:List Int) (H:Hp) (Q:VK):Prop:=∀(l:Addr) (ns':List Int),H l=none->ns'.Perm ns->ns'.Pairwise (·<=·)->Q (.ref l) (upd H l (.lst (ns'.map V.int)))
theorem zmc {pins:zP} {σ:St} {H:Hp} {s:u0} {Q:VK} {ns:List Int} {h1 h':Heap} {tk:Nat} {out:Array Value} {ns':List Int} {e:Nat} (I:Inv X pins σ H s) (hn:ns.length < 64) (q:srt ns H Q)
  (k1 :∀b o,s.heap.get? b=some o->h1.get? b=some o) (k2 :∀b o,h1.get? b=some o->h'.get? b=some o) (g:h'.get? h1.objs.size=some { cls:=.type "list",data:=.seq out e }) (i:c9 out.toList ns') (p:ns'.Perm ns) (r:ns'.Pairwise (·<=·)) :
  EP X pins σ Q (.ref h1.objs.size) { s with heap:=h',toks:=tk }:=by
 have a:Inv X pins σ H { s with heap:=h1 }:=I.kept (t':=s.toks) k1;refine ⟨.ref h1.objs.size,_,a.laid (t':=tk) (o:=.lst (ns'.map V.int)) k2 (t0 _) ⟨?_,out.toList,e,z8w i,by simpa using g⟩,rfl,q _ ns' (a.hok.fresh (t0 _)) p r⟩;rw [o0,p.length_eq];exact A0 (V2 hn) (by decide)
theorem z19:CallR X (.builtin "sorted") (λ xs H Q=>∃a ns,xs=[.ref a]/\(SqL X.K H a (ns.map V.int)\/SqT X.K H a (ns.map V.int))/\ns.length < 64/\srt ns H Q):=by
 intro F s σ H xs E Q I r h;obtain ⟨a,ns,rfl,c,w,q⟩:=h;obtain ⟨u,rfl,z⟩:=vals1 r;cases z;refine zlr w (λ R v=>?_) λ C d D B G e y x g i p r=>zmc I w q y x g i p r;rcases c with c|c
 ·obtain ⟨A,b,m,f⟩:=I.list c;obtain ⟨o,t,l,n,j⟩:=m.isList;exact j14 a (.inl rfl) t l j (λ d k=>v d s.toks _ k (by simpa using zay b)) (by rw [K0,<-b.length];exact f)
 ·obtain ⟨A,b,m,f⟩:=I.tuple c;obtain ⟨o,t,l,n,j⟩:=m;exact j14 a (.inr rfl) t l j (λ d k=>v d s.toks _ k (by simpa using zay b)) (by rw [K0,<-b.length];exact f)
end
theorem iteP {c A B:Prop} [Decidable c] (hc:c) (h:A):if c then A else B:=by rw [if_pos hc];exact h
theorem iteN {c A B:Prop} [Decidable c] (hc:¬ c) (h:B):if c then A else B:=by rw [if_neg hc];exact h
theorem z5h (i:Int) (ns:List Int):inV (.int i) (ns.map V.int)=decide (i∈ns):=by
 unfold inV;rw [j3d,Bool.eq_iff_iff,X7,decide_eq_true_eq];constructor
 ·rintro ⟨x,hx,e⟩;have e:(x == i)=true:=e;rw [beq_iff_eq] at e;exact e ▸ hx
 ·intro h;exact ⟨i,h,by show (i == i)=true;simp⟩
theorem z3m (ns:List Int):(ns.map V.int).all flatV=true:=by rw [Y7];intro x a;obtain ⟨i,_,rfl⟩:=List.mem_map.mp a;rfl
theorem zkw {names:List (Str×M5)} {n:Str} {Q:Str×M5->Prop} (h:(names.all λ y=>y.2 != U1 || y.1 == n)=true) (q :∀k,Q (n,k)) :∀y∈names,y.2=U1->Q y:=λ y c e=>by
 have:=List.all_eq_true.mp h y c;rw [e] at this;have:(y.1 == n)=true:=by simpa using this
 obtain ⟨a,b⟩:=y;rw [beq_iff_eq] at this;have:a=n:=this;subst this;exact q b
noncomputable def CXE (P:Program) (w:R0) (base:Heap):CXT:=λ outer H s E e s'=>∃(ea:Addr) (cls a0:Value) (B:Heap) (H':Hp),e=.ref ea/\s'.os=s.os/\o8 s'.gens/\Un (frs outer) [] H H' s.heap s'.heap/\HOk P w H' s'.heap/\H' ea=none/\
 base.StaysIn B/\Heap.FlyingW B outer ea cls a0 s'.heap/\(∀b o,s'.heap.get? b=some o->b∉frs outer->((∃u,H' b=some u)\/∃u,s.heap.get? b=some u)->B.get? b=some o)/\E cls none H'
theorem passN {X:Cx}:Passes (CXE X.prog X.w X.base) X E0:=λ _ _ _ _ _ _ _ ⟨_,_,_,_,_,_,_,_,_,_,_,_,_,_,z⟩=>z.elim
theorem PS.nox {X:Cx} {st:Stmt} {t:TS} (h:PS X.nox st t):PS X st t:=λ a s σ H D I b=>j3 (h a s σ H D (I.wish _) b) (λ _ _ q=>q.unwish) λ _ _ z=>Q3 z
section
variable {P:Program} {w:R0} {K:b0} {mg:Str->Option Value} {base:Heap} {N:List Str} {qual:Str} {scope:Scope} {f:Addr} {cd:Value} {A:V1} {outer:List Env} {s:u0} {H:Hp} {E:XK}
theorem Fun.okE {x qual:Str} {st:Stmt} {f:Addr} {fd:FuncData} {N ps:List Str} {k:Nat} {sp:Sp} (F:Fun K x qual st f fd) (S:FnScope N ps (z05 st)) (len :∀vs H Q E,sp vs H Q E->vs.length=ps.length)
  (hbody :∀(cdv:Value) (A:V1) (outer:List Env) (s:u0) (H:Hp) (vs:List V) (Q:VK) (E:XK),Room k (A.deeper (Y8 qual (z05 st) s.heap.objs.size f cdv))->sp vs H Q E->
   ∃t,PSs (cxOf (CXE P w base) P w K mg base N qual (z05 st) f cdv A outer s H E) (z6f st) t/\t { nx:=λ _ H'=>Q .non H',rt:=Q } (start N vs) H):FnOk P w K mg base (CXE P w base) (k + 1) f fd ps sp:=by
 obtain ⟨m,l,kV,i,e,g,cdv,j,h,rfl,d,a⟩:=F.ex;exact fn_of d a S len λ A outer s H vs Q E b c=>hbody cdv A outer s H vs Q E b c
end
structure CalE (P:Program) (w:R0) (K:b0) (mg:Str->Option Value) (base:Heap) (x:Str) (ps:List Str) (k:Nat) (sp:Sp):Prop where
 ex :∃f fd,FnOk P w K mg base (CXE P w base) k f fd ps sp/\mg x=some (.ref f)/\u3 K (.ref f)=true/\Binds K fd ps []
end L2
set_option maxHeartbeats 400000
namespace L2
open PySem PySem.Spec PyProof.Rows PySem.W PySem.Calls PySem.Builtin PySem.Builtin.ObjectAttr PySem.Builtin.Getset_descriptor
end L2
namespace L2
open PySem PySem.Spec PyProof.Rows PySem.W
end L2
namespace L2
open PySem PySem.Spec PyProof.Rows
end L2
set_option maxHeartbeats 4000000
namespace L2
open PySem PySem.Spec PyProof.Rows
def cStG (σ:St) (fr:List (Nat×Str)) (us:List (Option V)):St:=us++fr.map λ p=>(σ[p.1]?).join
noncomputable def tCompG (wi:TI) (n:Nat) (fr:List (Nat×Str)) (g:TG) (tc:TT) (te:TE):TE:=λ σ H Q=>wi σ H λ J H1=>∃W:Nat->Nat->List V->Hp->Prop,(∃m,W 0 m [] H1)/\∀i m ys H,W i m ys H->
 (J.stop i H/\ys.length<=sizeLine/\∀p,H p=none->Q (.ref p) (upd H p (.lst ys)))\/
 (J.go i H/\ys.length<=sizeLine/\∀v H',J.yld i H v H'->g v (cStG σ fr (R1 n none)) H' λ σ6 H6=>∃us,us.length=n/\σ6=cStG σ fr us/\tc (cStG σ fr us) H6 λ b H2=>if b=true then te (cStG σ fr us) H2 λ y H3=>∃m',m' < m/\W (i + 1) m' (ys++[y]) H3 else∃m',m' < m/\W (i + 1) m' ys H2)
section
variable {X:Cx}
theorem zld {scope:Scope} {cl:List (Str×Addr)} {N:List Str} {C:Addr} {s₂:u0} {H₂:Hp} {fp:List Addr} {x:Str} {px:Pos} (i:Nat) (hN:N.Nodup) (hi:N[i]? = some x) (hx:scope.names.lookup x=some .local):PG (cxComp X scope cl N C s₂ H₂ fp) (.Name x px) (gName i):=
 z0g hN hi (.inl (lookup_relabel_local hx)) (.inr (lookup_relabel_local hx))
theorem zgk {xs:List Str} {tg:Expr} {g:TG} {pos:Pos} {elt iter:Expr} {ifs:List Expr} {scope:Scope} {fr:List (Nat×Str)} {wi:TI} {tc:TT} {te:TE} {use:Option (Value->Sem Unit)} {QQ:Value->u0->Prop} {pins:zP} {s:u0} {σ:St} {H:Hp} {Q:VK} {pp:Pos} (hcalm:X.calm=true) (hi:PI X tg iter wi)
  (hfr :∀p∈fr,X.N[p.1]? = some p.2/\(X.env.kindOf p.2=some .cell\/X.env.kindOf p.2=some .free))
  (hfree :∀y∈scope.names,y.2=U1->X.env.kindOf y.1=some .cell\/X.env.kindOf y.1=some .free)
  (hfs :∀p∈fr,(p.2,U1)∈scope.names/\((i8 scope X.env).names.lookup p.2=some .cell\/(i8 scope X.env).names.lookup p.2=some .free))
  (hcell :∀y∈scope.names,y.2≠NameKind.cell) (hkind:scope.kind=.function) (hnames :∀y∈scope.names,y.2=NameKind.local->scope.names.lookup y.1=some .local)
  (hg :∀cl C s₂ H₂ fp,PG (cxComp X scope cl (xs++fr.map (·.2)) C s₂ H₂ fp) tg g)
  (ht :∀cl C s₂ H₂ fp,PF (cxComp X scope cl (xs++fr.map (·.2)) C s₂ H₂ fp) ifs tc) (he :∀cl C s₂ H₂ fp,PE (cxComp X scope cl (xs++fr.map (·.2)) C s₂ H₂ fp) elt te)
  (hs :∀x,A4 iter X.env x=Z2 x) (I:Inv X pins σ H s) (h:tCompG wi xs.length fr g tc te σ H Q)
  (hend :∀(D:Addr) (s4:u0) (H4:Hp),Inv X pins σ H4 s4->(∃m,s4.heap.Ns (D + 1) m)->H4 (D + 1)=none->D + 1≠X.env.locals->X.s₀.heap.objs.size<=D + 1->(D + 1∉X.fs/\(∀x c,X.env.cells.lookup x=some c->c≠D + 1)/\∀p∈X.pn++pins,p.1≠D + 1)->Q (.ref D) H4->compPost (u1 X.prog X.w) X.A X.xe use QQ (.ref D) (D + 1) (.ok .next) s4) :
  W0 (u1 X.prog X.w) X.A (comprehension (.ListComp elt [⟨tg,iter,ifs,0⟩] scope pos) scope X.env pp (newList []) false (firstIter [⟨tg,iter,ifs,0⟩] X.env) use) QQ X.xe s:=by
 obtain ⟨cl,e0,U,b5⟩:=zh5 (scope:=scope) (env:=X.env) λ y S hk=>I.ok.has y.1 (hfree y S hk);refine wpAny_comprehension_free (use:=use) rfl hs e0 hkind hnames (thn (hi pins s σ H _ I h) λ xv s₁ h₁=>thn h₁ λ g2 s₂ h₂=>?_);obtain ⟨it,fp,tn,J,O,e,f,T,c0,L,W,⟨m0,w0⟩,f1⟩:=h₂;subst e
 -- the list that is filled,the block's names
 refine X2 (wpAny_newFunctionEnv hcell (by intro y S;simp at S) (λ h₁ a6 a1=>?_) hkind);dsimp only at a6 a1⊢;generalize hD:s₂.heap.objs.size=D at a6 a1⊢;generalize hG:s₂.heap.push { cls:=.type "list",dict:=none,data:=.seq ([]:List Value).toArray }=G at a6 a1⊢;have hC:G.objs.size=D + 1:=by rw [<-hG,T3,hD]
 generalize hCC:G.objs.size=C at a6 a1 hC⊢;subst hC;have b1 :∀b∈fp,b < D:=λ b a=>by obtain ⟨o,e,_⟩:=T.obj _ _ c0 b a;rw [<-hD];exact Q0 e
 have a3 :∀b o,s₂.heap.get? b=some o->h₁.get? b=some o:=λ b o e=>a1.extBut b o (C1 (j2 (by rw [<-hD];exact Q0 e))) (C0 _ (hG ▸ C0 _ e));have e8:G.get? D=some { cls:=.type "list",dict:=none,data:=.seq ([]:List Value).toArray }:=by rw [<-hG,<-hD];exact Y0 _ rfl
 have d5:h₁.PlainList D #[]:=⟨0,a1.extBut _ _ (C1 (O2 D)) (C0 _ e8)⟩
 have f9 :∀y c,cl.lookup y=some c->c < D:=λ y c e=>by obtain ⟨v,q⟩:=f.cell y c (U y c e);rw [<-hD];exact q.lt
 have d7 :∀b∈frs X.stack,b < D:=λ b a=>by
  rcases List.mem_cons.mp (f.stkSub b a) with e|a
  ·rw [e,<-hD];exact f.lt
  ·rw [<-hD];exact Nat.lt_of_not_le λ z=>f.nofs z a
 have c3 :∀b∈fp,b∉frs X.stack:=λ b a g1=>by
  rcases List.mem_cons.mp (f.stkSub b g1) with e|z
  ·exact (L b a).2.1 e
  ·exact (L b a).2.2.1 z
 generalize hX':cxComp X scope cl (xs++fr.map (·.2)) (D + 1) s₂ O fp=X';have e5:X'.Ok:=by
  subst hX';refine ⟨f.ok.mod,hkind,f.ok.glob,f.ok.blt,(by show s₂.heap.objs.size<=D + 1;omega),λ y z c R M=>f.ok.inj y z c (U _ _ R) (U _ _ M),λ y S=>?_,(λ _ _ z=>Bool.noConfusion z),f.ok.hd,f.ok.frames,.inl rfl,λ b a=>⟨?_,λ y c e=>?_⟩,λ b o e=>f.bs b o e,?_,λ b o e a=>?_,c3,f.env0.funs,f.stkFree⟩
  ·rcases S with S|S
   ·exact b5 y (z79 hcell S (.inl rfl))
   ·exact b5 y (z79 hcell S (.inr rfl))
  ·exact C1 (j2 (b1 b a))
  ·exact (L b a).2.2.2.2.1 y c (U y c e)
  ·exact A0 f.ok.bsz f.sz
  ·rcases (L b a).2.2.2.1 with z|z
   ·exact f.ok.noex b o e z
   ·exact absurd (F1 (Q0 (f.ok.bs b o e).1) z) (o4 _)
 have a0:X'.env.locals=D + 1:=by subst hX';rfl
 have a5:X'.env.cells=cl:=by subst hX';rfl
 have a9:X'.fs=frs X.stack:=by subst hX';rfl
 have b8:X'.pn=[]:=by subst hX';rfl
 have a4:X'.s₀=s₂:=by subst hX';rfl
 have c7:X'.H₀=O:=by subst hX';rfl
 have b7:X'.ex=fp:=by subst hX';rfl
 have d2:X'.N=xs++fr.map (·.2):=by subst hX';rfl
 have c2:X'.A=X.A:=by subst hX';rfl
 have E:X'.prog=X.prog/\X'.w=X.w/\X'.K=X.K/\X'.calm=true:=by subst hX';exact ⟨rfl,rfl,rfl,hcalm⟩
 have b4:X'.xe=λ _ _=>False:=by subst hX';rfl
 have c9:X'.env=compEnvC scope cl (D + 1) X.env:=by subst hX';rfl
 have e4:PF X' ifs tc:=hX' ▸ ht cl (D + 1) s₂ O fp;have f7:PE X' elt te:=hX' ▸ he cl (D + 1) s₂ O fp;have d8:PG X' tg g:=hX' ▸ hg cl (D + 1) s₂ O fp;have fresh :∀b,D<=b->O b=none:=λ b a=>f.hok.fresh (by rw [hD];exact a);have start :∀t,Inv X' [] (cStG σ fr (R1 xs.length none)) O { s₂ with heap:=h₁,toks:=t }:=λ t=>by
  refine ⟨e5,by rw [a4],f.bare,?_,⟨_,by rw [a0];exact a6,λ i y v R M e3=>?_⟩,λ y c e=>?_,by rw [a0];exact fresh _ (F3 _),λ y c e=>?_,λ p B=>?_,?_,?_⟩
  ·rw [a9,b7,c7,a4];exact Un.kept a3
  ·rw [d2] at R;by_cases a2:i < xs.length
   ·exfalso;unfold cStG at M;rw [F2 (by rw [G3];exact a2),W7,if_pos a2] at M;cases M
   ·have a2:xs.length<=i:=j0e a2;rw [W1 a2,O0] at R;unfold cStG at M;rw [W1 (by rw [G3];exact a2),G3,O0] at M;generalize i - xs.length=i at R M;cases ej:fr[i]? with
    | none=>rw [ej] at R;cases R
    | some p=>
     rw [ej] at R;obtain rfl:p.2=y:=P1 R;have a7:(σ[p.1]?).join=some v:=by rw [ej] at M;exact P1 M
     have f6:σ[p.1]? = some (some v):=by
      cases q:σ[p.1]? with
      | none=>rw [q] at a7;cases a7
      | some z=>rw [q] at a7;exact congrArg some a7
     have B:=G0 ej;obtain ⟨m,hn,hl⟩:=f.loc;obtain ⟨u,r,l⟩:=hl p.1 p.2 v (hfr p B).1 f6 (by rcases (hfr p B).2 with z|z;exact .inr (.inl z);exact .inr (.inr z));refine ⟨u,r,.inr ⟨?_,?_⟩⟩
     ·rw [c9];exact (hfs p B).2
     ·rcases l with ⟨z,_⟩|⟨_,c,ec,q⟩
      ·exfalso;rcases (hfr p B).2 with z'|z'<;>(rw [z] at z';cases z')
      ·obtain ⟨c',c1⟩:=b5 p.2 (hfs p B).1;have:=U _ _ c1;rw [ec] at this;cases this;obtain ⟨o,ho,hd⟩:=q;exact ⟨c,by rw [a5];exact c1,o,a3 _ _ ho,hd⟩
  ·rw [a5] at e;obtain ⟨v,o,ho,hd⟩:=f.cell y c (U y c e);exact ⟨v,o,a3 _ _ ho,hd⟩
  ·rw [a5] at e;exact f.freeC y c (U y c e)
  ·rw [b8] at B;exact nomatch B
  ·rw [E.1,E.2.1];exact f.hok.kept a3
  ·rw [d2];unfold cStG;simp
 have FP :∀{pins':zP} {H':Hp},(∀b∈fp,H' b=none)->(∀p∈pins',p.1=D)->∀b∈fp,FpOk X' pins' H' b:=λ hn B b a=>by
  refine ⟨hn b a,?_,?_,.inl (by rw [b7];exact a),λ y c e=>?_,λ p c8=>?_⟩
  ·rw [a0];exact C1 (j2 (b1 b a))
  ·rw [a9];exact c3 b a
  ·rw [a5] at e;exact (L b a).2.2.2.2.1 y c (U y c e)
  ·rw [b8] at c8;rw [B p c8];exact i4 (b1 b a)
 -- the turns
 have loop :∀s₃:u0,s₃={ s₂ with heap:=h₁,toks:=s₂.toks + ([]:List (Str×Value)).length }->
   X9 (u1 X.prog X.w) X.A (.compLoop (.ListComp elt [⟨tg,iter,ifs,0⟩] scope pos) 0 (.ref it) (.ref D) (compEnvC scope cl (D + 1) X.env))
    (compPost (u1 X.prog X.w) X.A X.xe use QQ (.ref D) (D + 1)) s₃:=by
  rintro s₃ rfl;rw [<-c9,<-E.1,<-E.2.1,<-c2];refine zi1 (λ k s'=>∃i ys its H',Inv X' [] (cStG σ fr (R1 xs.length none)) H' s'/\tn i s'.heap/\(∀b∈fp,H' b=none)/\s'.heap.PlainList D its.toArray/\Vals ys its/\H' D=none/\W i k ys H') ?_ m0
   ⟨0,[],[],O,start _,T.keep _ _ _ c0 λ b a o e=>a3 b o e,λ b a=>(L b a).1,d5,.nil,fresh _ (t0 _),w0⟩
  rintro n s3 ⟨i,ys,its,H3,I3,st3,fr3,ac3,rv3,hD3,w3⟩;obtain ⟨na,d3⟩:=id ac3;have c4:Inv X' [(D,{ cls:=.type "list",data:=.seq its.toArray na })] (cStG σ fr (R1 xs.length none)) H3 s3:=I3.pins_of λ p B=>by rw [List.mem_singleton] at B;subst B;refine ⟨d3,hD3,by rw [a0];exact C1 (O2 D),by rw [a9];exact λ z=>o4 _ (d7 D z),λ v z=>nomatch z⟩
  have hT:=T;rw [<-E.1,<-E.2.1,<-E.2.2.1] at hT;rcases f1 i n ys H3 w3 with ⟨e7,b6,qn⟩|⟨go,b6,step⟩
  ·refine thn (hT.done X' rfl rfl rfl E.2.2.2 i _ s3 _ H3 _ c4 (FP fr3 (by intro p B;rw [List.mem_singleton.mp B])) st3 e7) λ r s4 ⟨hr,I4⟩=>?_;subst hr;obtain ⟨m4,d4,_⟩:=id I4.loc;obtain ⟨Y,d0⟩ :∃Y,Y=s4.heap:=⟨_,rfl⟩
   have d1:X5 (D + 1) s4.heap Y:=by rw [d0];exact ⟨rfl,λ _ _=>rfl⟩
   have f5:D≠D + 1:=C1 (O2 D);have f3:=(I4.pin (D,_) (J1 _ L0))
   have g0:Y.get? D=some { cls:=.type "list",data:=.seq its.toArray na }:=(d1.2 D f5).trans f3.1;have un:Un (frs X.stack) fp O H3 s₂.heap s4.heap:=by have:=I4.base;rw [a9,b7,c7,a4] at this;exact this
   have kp :∀b o,b≠D + 1->s4.heap.get? b=some o->Y.get? b=some o:=λ b o a e=>(d1.2 b a).trans e;have b0 :∀b o,s₂.heap.get? b=some o->b≠D + 1/\b≠D:=λ b o e=>by have:=Q0 e;rw [hD] at this;exact ⟨C1 (j2 this),C1 this⟩
   have f0:Un (frs X.stack) fp O (upd H3 D (.lst ys)) s₂.heap Y:=by
    refine ⟨λ b o e n a Z=>kp b o (b0 b o e).1 (un.keep b o e n a Z),λ b o e n a Z=>?_,λ b o e n Z=>by rw [upd_ne (b0 b o e).2];exact un.free b o e n Z,λ b o e Z=>?_,λ b xs e=>?_,λ b o u e=>?_,λ b ps e=>?_⟩
    ·obtain ⟨sl,z⟩:=un.slot b o e n a Z;exact ⟨sl,kp _ _ (b0 b o e).1 z⟩
    ·obtain ⟨o',z⟩:=un.there b o e Z;exact ⟨o',kp _ _ (b0 b o e).1 z⟩
    ·rw [upd_ne (z07 e (fresh D (t0 _)))];exact un.tups b xs e
    ·rw [upd_ne (z07 e (fresh D (t0 _)))];exact un.frzs b o u e
    ·rw [upd_ne (z07 e (fresh D (t0 _)))];exact un.tbls b ps e
   have b3:H3 (D + 1)=none:=by have:=I4.free;rw [a0] at this;exact this
   have f8:HOk X.prog X.w (upd H3 D (.lst ys)) Y:=λ b u e=>by
    by_cases a:b=D
    ·subst a;rw [upd_same] at e;cases e;exact ⟨b6,its,na,rv3,g0⟩
    ·rw [upd_ne a] at e;have z:=I4.hok b u e;rw [E.1,E.2.1] at z;refine z.stay (λ c v hc q=>kp c v ?_ q) (λ c q=>by rw [upd_ne (z07 q hD3)];exact q) λ c xs q=>by rw [upd_ne (z07 q hD3)];exact q
     rintro rfl;rcases hc with rfl|hc
     ·rw [b3] at e;cases e
     ·rw [b3] at hc;cases hc
   subst d0;have I5:Inv X pins σ (upd H3 D (.lst ys)) s4:=f.call' (s':=s4) (ch:=fp) (by have:=I4.os;rw [a4] at this;exact this) f0 f8 I4.bare (λ b a=>⟨(L b a).2.2.2.1,(L b a).2.1,(L b a).2.2.2.2.1,(L b a).2.2.2.2.2⟩);show compPost (u1 X'.prog X'.w) X'.A X.xe use QQ (.ref D) (D + 1) (.ok .next) s4;rw [E.1,E.2.1,c2];refine hend D s4 _ I5 ⟨m4,a0 ▸ d4⟩ ?_ ?_ ?_ ?_ (qn D hD3)
   ·rw [upd_ne (i4 (O2 D))];exact b3
   ·exact i4 (j2 (by rw [<-hD];exact f.lt))
   ·exact A0 f.sz (by rw [hD];exact F3 D)
   ·refine ⟨λ z=>f.nofs (by rw [hD];exact F3 D) z,λ y c e=>?_,λ p B=>?_⟩
    ·obtain ⟨v,q⟩:=f.cell y c e;exact C1 (j2 (by rw [<-hD];exact q.lt))
    ·exact C1 (j2 (by rw [<-hD];exact Q0 (f.pin p B).1))
  ·refine thn (hT.item X' rfl rfl rfl E.2.2.2 i _ s3 _ H3 _ c4 (FP fr3 (by intro p B;rw [List.mem_singleton.mp B])) st3 go) λ r s4 ⟨u,hr,h4⟩=>?_;subst hr;refine thn h4 λ _ s5 ⟨v,H5,I5,r5,y5,st5,fr5⟩=>?_;have d9:=I5.pinned (FP fr5 (by intro p B;rw [List.mem_singleton.mp B])) (T.obj _ _ st5);have g5:=d8 _ s5 (cStG σ fr (R1 xs.length none)) H5 v u _ d9 r5 (step v H5 y5);rw [b4] at g5;refine thn g5 λ _ s6 ⟨σ6,H6,I6,us,hus,e6,q6⟩=>?_;subst e6;have t6:=e4 _ s6 _ H6 _ I6 q6;rw [b4] at t6;refine thn t6 λ ok s7 ⟨H7,I7,q7⟩=>?_;have c6 :∀{H8:Hp} {F:u0} {ys':List V} {its':List Value} {pl:zP},Inv X' (pl++pinsAt fp s5.heap) (cStG σ fr us) H8 F->F.heap.PlainList D its'.toArray->Vals ys' its'->H8 D=none->(∃m',m' < n/\W (i + 1) m' ys' H8)->
     ∃m,m < n/\∃i ys its H',Inv X' [] (cStG σ fr (R1 xs.length none)) H' F/\tn i F.heap/\(∀b∈fp,H' b=none)/\F.heap.PlainList D its.toArray/\Vals ys its/\H' D=none/\W i m ys H':=λ {H8 F ys' its' pl} P b9 rv8 a8 ⟨m',hm,w8⟩=>by
    refine ⟨m',hm,i + 1,ys',its',H8,(P.pins_of (pins':=[]) (λ p B=>absurd B j0)).weak (by unfold cStG;simp [hus]) ?_,T.keep _ _ _ st5 λ b a o e=>(P.pin (b,o) (J1 _ (J1 _ (z4m a e)))).1,λ b a=>?_,b9,rv8,a8,w8⟩
    ·intro j z e;unfold cStG at e⊢;by_cases hj:j < xs.length
     ·rw [F2 (by rw [G3];exact hj),W7,if_pos hj] at e;cases e
     ·have hj:xs.length<=j:=j0e hj;rw [W1 (by rw [G3];exact hj),G3] at e;rw [W1 (by rw [hus];exact hj),hus];exact e
    ·obtain ⟨o,e,d⟩:=T.obj _ _ st5 b a;exact (P.pin (b,o) (J1 _ (J1 _ (z4m a e)))).2.1
   have b2 :∀{H8:Hp} {F:u0} {σ8:St},Inv X' ([(D,{ cls:=.type "list",data:=.seq its.toArray na })]++pinsAt fp s5.heap) σ8 H8 F->F.heap.PlainList D its.toArray/\H8 D=none:=λ P=>
    have z:=P.pin (D,_) (J1 _ (K6 _ L0))
    ⟨⟨na,z.1⟩,z.2.1⟩
   cases ok with
   | false=>rw [if_neg N0] at q7⊢;exact c6 I7 (b2 I7).1 rv3 (b2 I7).2 q7
   | true=>
    rw [if_pos rfl] at q7⊢;have t7:=f7 _ s7 _ H7 _ I7 q7;rw [b4] at t7;refine thn t7 λ y F ⟨vy,H8,P,r8,q8⟩=>?_;obtain ⟨b9,a8⟩:=b2 P;refine wpAny_list_append_plain (hsz:=by have:=rv3.length;rw [K0,<-this];exact b6) b9 λ h9 c5 d6=>?_;have I9:Inv X' ([]++pinsAt fp s5.heap) (cStG σ fr us) H8 F:=P.pins_of λ p B=>(P.pin p (J1 _ (J1 _ B)))
    have f4:Inv X' ([]++pinsAt fp s5.heap) (cStG σ fr us) H8 { F with heap:=h9 }:=by
     refine I9.turned (t':=F.toks) (it:=D) (λ b o a e=>(d6.2 b a).trans e) a8 (by rw [a0];exact C1 (O2 D)) (.inr (by rw [a4,hD];exact t0 _)) (λ y' c e=>?_) λ p B=>?_
     ·rw [a5] at e;exact C1 (f9 y' c e)
     ·rw [b8] at B;exact C1 (b1 _ (zdy B).1)
    have e9:its.toArray.push y=(its++[y]).toArray:=by simp
    rw [e9] at c5;exact c6 f4 c5 (rv3.snoc r8) a8 q8
 exact codeAny_compStart_list (loop _ rfl) (T.self _ 0 _ _ _ (T.keep _ _ _ c0 λ b a o e=>a3 b o e) (loop _ rfl))
theorem zf2 {xs:List Str} {tg:Expr} {g:TG} {pos:Pos} {elt iter:Expr} {ifs:List Expr} {scope:Scope} {fr:List (Nat×Str)} {wi:TI} {tc:TT} {te:TE} (hcalm:X.calm=true) (hi:PI X tg iter wi)
  (hfr :∀p∈fr,X.N[p.1]? = some p.2/\(X.env.kindOf p.2=some .cell\/X.env.kindOf p.2=some .free))
  (hfree :∀y∈scope.names,y.2=U1->X.env.kindOf y.1=some .cell\/X.env.kindOf y.1=some .free)
  (hfs :∀p∈fr,(p.2,U1)∈scope.names/\((i8 scope X.env).names.lookup p.2=some .cell\/(i8 scope X.env).names.lookup p.2=some .free))
  (hcell :∀y∈scope.names,y.2≠NameKind.cell) (hkind:scope.kind=.function) (hnames :∀y∈scope.names,y.2=NameKind.local->scope.names.lookup y.1=some .local)
  (hg :∀cl C s₂ H₂ fp,PG (cxComp X scope cl (xs++fr.map (·.2)) C s₂ H₂ fp) tg g)
  (ht :∀cl C s₂ H₂ fp,PF (cxComp X scope cl (xs++fr.map (·.2)) C s₂ H₂ fp) ifs tc) (he :∀cl C s₂ H₂ fp,PE (cxComp X scope cl (xs++fr.map (·.2)) C s₂ H₂ fp) elt te)
  (hs :∀x,A4 iter X.env x=Z2 x:=by intro _;rfl):PE X (.ListComp elt [⟨tg,iter,ifs,0⟩] scope pos) (tCompG wi xs.length fr g tc te):=by
 intro t s σ H Q I h;rw [eval_ListComp];refine zgk hcalm hi hfr hfree hfs hcell hkind hnames hg ht he hs I h λ D f d l a j k i ⟨c,hc,hp⟩ q=>?_;obtain ⟨m,a⟩:=a;exact ⟨m,a,λ r n=>⟨.ref D,d,l.turned (t':=f.toks) (it:=D + 1) (λ b o c e=>(n.2 b c).trans e) j k (.inr i) hc hp,rfl,q⟩⟩
theorem zcw {xs:List Str} {tg:Expr} {g:TG} {pos:Pos} {elt iter:Expr} {ifs:List Expr} {scope:Scope} {fr:List (Nat×Str)} {wi:TI} {tc:TT} {te:TE} {i:Nat} {y:Str} {py spos:Pos} (hNy:X.N.Nodup) (hiy:X.N[i]? = some y) (hy:Loc X.env.scope y) (hcalm:X.calm=true) (hi:PI X tg iter wi)
  (hfr :∀p∈fr,X.N[p.1]? = some p.2/\(X.env.kindOf p.2=some .cell\/X.env.kindOf p.2=some .free))
  (hfree :∀y∈scope.names,y.2=U1->X.env.kindOf y.1=some .cell\/X.env.kindOf y.1=some .free)
  (hfs :∀p∈fr,(p.2,U1)∈scope.names/\((i8 scope X.env).names.lookup p.2=some .cell\/(i8 scope X.env).names.lookup p.2=some .free))
  (hcell :∀y∈scope.names,y.2≠NameKind.cell) (hkind:scope.kind=.function) (hnames :∀y∈scope.names,y.2=NameKind.local->scope.names.lookup y.1=some .local)
  (hg :∀cl C s₂ H₂ fp,PG (cxComp X scope cl (xs++fr.map (·.2)) C s₂ H₂ fp) tg g)
  (ht :∀cl C s₂ H₂ fp,PF (cxComp X scope cl (xs++fr.map (·.2)) C s₂ H₂ fp) ifs tc) (he :∀cl C s₂ H₂ fp,PE (cxComp X scope cl (xs++fr.map (·.2)) C s₂ H₂ fp) elt te)
  (hs :∀x,A4 iter X.env x=Z2 x:=by intro _;rfl) (hw:R6 (.ListComp elt [⟨tg,iter,ifs,0⟩] scope pos) (some (.Name y py)) spos.line X.env=Z2 true:=by rfl) (hf:X.fn y=true\/X.env.scope.names.lookup y=some .local:=by first|exact .inl rfl|exact .inr rfl|assumption) :
  PS X (.Assign [.Name y py] (.ListComp elt [⟨tg,iter,ifs,0⟩] scope pos) spos) (tAsg (tCompG wi xs.length fr g tc te) (gName i)):=by
 intro t s σ H D I h;rw [exec_Assign_Name_used y py _ spos hw];refine d0 (wpAny_standAt (d0 ?_));show W0 _ _ (do let _ <-comprehension (.ListComp elt [⟨tg,iter,ifs,0⟩] scope pos) scope X.env (firstIterPos [⟨tg,iter,ifs,0⟩] pos) (newList []) (firstAsync [⟨tg,iter,ifs,0⟩]) (firstIter [⟨tg,iter,ifs,0⟩] X.env) (some (assign (.Name y py) X.env));Z2 ()) _ _ _;refine d0 (zgk hcalm hi hfr hfree hfs hcell hkind hnames hg ht he hs I h λ A j f r c F n B ⟨d,hc,hp⟩ q=>?_);obtain ⟨m,c⟩:=c;obtain ⟨o,E,G,M,k,L,K⟩:=c;have J:Inv X ((A + 1,o) :: t) σ f j:=r.pins_of λ p a=>by
  rcases List.mem_cons.mp a with rfl|a
  ·exact ⟨M,F,n,d,λ v z=>by rw [k] at z;cases z⟩
  ·exact r.pin p (J1 _ a)
 refine thn (z0g (pos:=py) hNy hiy hy hf _ j σ f (.ref A) (.ref A) D.nx J rfl q) λ _ u ⟨σ5,H5,I6,q6⟩=>?_;have l:=I6.pin (A + 1,o) (J1 _ L0);have w:Inv X t σ5 H5 u:=I6.pins_of λ p a=>I6.pin p (J1 _ (V0 _ a));refine ⟨m,⟨o,E,G,l.1,k,L,K⟩,λ P O=>?_⟩;exact F0 (F0 ⟨σ5,H5,w.turned (t':=u.toks) (it:=A + 1) (λ b o d e=>(O.2 b d).trans e) l.2.1 n (.inr B) hc hp,q6⟩)
end
end L2
set_option maxHeartbeats 400000
namespace L2
open PySem PySem.Spec PyProof.Rows
theorem zde {t rest:TS} {D:Ends} {σ:St} {H:Hp} (R:St->Hp->Prop) (hr :∀σ1 H1,R σ1 H1->rest D σ1 H1) (h:(∀σ1 H1,R σ1 H1->rest D σ1 H1)->t { D with nx:=rest D } σ H):tSeq t rest D σ H:=h hr
theorem z0k {te:TE} {g:TG} {rest:TS} {D:Ends} {σ:St} {H:Hp} (h:te σ H λ x H1=>g x σ H1 (rest D)):tSeq (tAsg te g) rest D σ H:=h
structure Runs (J:It) (H1:Hp) (n:Nat) (Item:Nat->V->Hp->Prop):Prop where
 go :∀i,i < n->∀H,Same H1 H->J.go i H
 stop :∀H,Same H1 H->J.stop n H
 item :∀i,i < n->∀H v H',Same H1 H->J.yld i H v H'->Same H H'/\Item i v H'
theorem z0v (p:Nat->Bool) (n:Nat):(j1 (n + 1)).filter p=(j1 n).filter p++(if p n=true then [n] else []):=by rw [F8,N4,C4];cases p n<;>rfl
inductive All2 {α β:Type} (R:α->β->Prop):List α->List β->Prop
 | nil:All2 R [] []
 | cons {a:α} {b:β} {xs:List α} {ys:List β}:R a b->All2 R xs ys->All2 R (a :: xs) (b :: ys)
theorem z48 {α β:Type} {R:α->β->Prop} :∀{xs:List α} {ys:List β} {x:α} {y:β},All2 R xs ys->R x y->All2 R (xs++[x]) (ys++[y])
 | [],_,x,y,.nil,h=>.cons h .nil
 | _ :: _,_,x,y,.cons a r,h=>.cons a (z48 r h)
theorem z01 {α β:Type} {R S:α->β->Prop} (h :∀a b,R a b->S a b) :∀{xs:List α} {ys:List β},All2 R xs ys->All2 S xs ys
 | [],_,.nil=>.nil
 | _ :: _,_,.cons a r=>.cons (h _ _ a) (z01 h r)
theorem z03 {α β:Type} {R:α->β->Prop} :∀{xs:List α} {ys:List β},All2 R xs ys->ys.length=xs.length
 | [],_,.nil=>rfl
 | _ :: _,_,.cons _ r=>congrArg (· + 1) (z03 r)
theorem z5r {α β:Type} {f:α->β} :∀{xs:List α} {ys:List β},All2 (λ x y=>y=f x) xs ys->ys=xs.map f
 | [],_,.nil=>rfl
 | _ :: _,_,.cons a r=>by rw [X0,z5r r,a]
theorem zhs {J:It} {H1:Hp} {n m:Nat} {Item:Nat->V->Hp->Prop} {fr:List (Nat×Str)} {g:TG} {tc:TT} {te:TE} {σ:St} {Q:VK} (p:Nat->Bool) (R:Nat->V->Hp->Prop) (hR :∀i y H H',Same H H'->R i y H->R i y H') (r:Runs J H1 n Item) (hn:n<=sizeLine)
  (body :∀i,i < n->∀v H,Same H1 H->Item i v H->∀(KT:VK) (KF:Hp->Prop),(p i=true->∀y H',Same H H'->R i y H'->KT y H')->(p i=false->∀H',Same H H'->KF H')->
   g v (cStG σ fr (R1 m none)) H λ σ6 H6=>∃us,us.length=m/\σ6=cStG σ fr us/\tc (cStG σ fr us) H6 λ b H2=>if b=true then te (cStG σ fr us) H2 KT else KF H2)
  (hQ :∀l H' ys,Same H1 H'->H' l=none->All2 (λ i y=>R i y H') ((j1 n).filter p) ys->Q (.ref l) (upd H' l (.lst ys))) :
  ∃W:Nat->Nat->List V->Hp->Prop,(∃m,W 0 m [] H1)/\∀i k ys H,W i k ys H->
   (J.stop i H/\ys.length<=sizeLine/\∀p,H p=none->Q (.ref p) (upd H p (.lst ys)))\/
   (J.go i H/\ys.length<=sizeLine/\∀v H',J.yld i H v H'->g v (cStG σ fr (R1 m none)) H' λ σ6 H6=>∃us,us.length=m/\σ6=cStG σ fr us/\tc (cStG σ fr us) H6 λ b H2=>if b=true then te (cStG σ fr us) H2 λ y H3=>∃m',m' < k/\W (i + 1) m' (ys++[y]) H3 else∃m',m' < k/\W (i + 1) m' ys H2):=by
 refine ⟨λ i k ys H'=>k=n - i/\i<=n/\Same H1 H'/\All2 (λ i y=>R i y H') ((j1 i).filter p) ys,⟨n,by simp,Q1 _,Same.refl H1,.nil⟩,?_⟩;rintro i k ys H' ⟨rfl,hi,sm,fa⟩;have h:ys.length<=sizeLine:=by rw [z03 fa];have:=K2 p (j1 i);rw [Y1] at this;omega
 by_cases hlt:i < n
 ·refine .inr ⟨r.go i hlt H' sm,h,λ v H2 y=>?_⟩;obtain ⟨c,j⟩:=r.item i hlt H' v H2 sm y;refine body i hlt v H2 (sm.trans c) j _ _ (λ f y H3 d q=>⟨n - (i + 1),by omega,rfl,hlt,(sm.trans c).trans d,?_⟩) (λ f H3 d=>⟨n - (i + 1),by omega,rfl,hlt,(sm.trans c).trans d,?_⟩)
  ·rw [z0v,if_pos f];exact z48 (z01 (λ a b z=>hR a b _ _ (c.trans d) z) fa) q
  ·rw [z0v,if_neg (by rw [f];decide),N2];exact z01 (λ a b z=>hR a b _ _ (c.trans d) z) fa
 ·have e:i=n:=by omega
  subst e;exact .inl ⟨r.stop H' sm,h,λ l o=>hQ l H' ys sm o fa⟩
theorem zik {K:b0} {a:Addr} {xs:List V} {H1:Hp} (hq:SqL K H1 a xs):Runs (Itl K a) H1 xs.length (λ i v _=>xs[i]? = some v):=
 ⟨λ i b H s=>⟨xs,xs[i],s.seq hq,by simp [b]⟩,λ H s=>⟨xs,s.seq hq,t0 _⟩,λ i b H v c s y=>by obtain ⟨e,y⟩:=y;subst e;exact ⟨Same.refl _,y xs (s.seq hq)⟩⟩
theorem z6e {α β:Type} (p:α->Bool) (f:α->β) (d:α) :∀xs:List α,((j1 xs.length).filter λ i=>p (xs[i]?.getD d)).map (λ i=>f (xs[i]?.getD d))=(xs.filter p).map f:=by
 intro xs;have h:(j1 xs.length).map (λ i=>xs[i]?.getD d)=xs:=by
  apply A6
  ·simp
  ·intro i b a;simp only [j0a,K9,B0 a,Y9]
 have e:(xs.filter p).map f=((((j1 xs.length).map (λ i=>xs[i]?.getD d))).filter p).map f:=by rw [h]
 rw [e,j0i,S2];rfl
theorem z80 (ns:List Int) :∀j,j<=ns.length->preSum (λ i=>ns[i]?.getD 0) j=(ns.take j).sum
 | 0,_=>by rw [S3];rfl
 | j + 1,h=>by show preSum (λ i=>ns[i]?.getD 0) j + ns[j]?.getD 0=_;rw [z80 ns j (Nat.le_of_succ_le h),List.take_succ_eq_append_getElem h,List.sum_append,B0 h];simp
structure QE (X:Cx) (e:Expr) (t:TE):Prop where
 run:PE X e t
structure QA (X:Cx) (es:List Expr) (t:TA):Prop where
 run:PA X es t
structure QPs (X:Cx) (pos:Pos) (ks:List (Option Expr)) (vs:List Expr) (t:List (TE×TE)):Prop where
 run:PPs X pos ks vs t
structure QS (X:Cx) (st:Stmt) (t:TS):Prop where
 run:PS X st t
structure QSs (X:Cx) (sts:List Stmt) (t:TS):Prop where
 run:PSs X sts t
section
variable {X:Cx} {pos:Pos}
theorem q_of {sts:List Stmt} {t:TS} {G:TS->Prop} (q:QSs X sts t) (g:G t) :∃t,PSs X sts t/\G t:=⟨t,q.run,g⟩
theorem z3i {st:Stmt} {t:TS} (h:QS X st t):QSs X [st] t:=⟨z04 h.run⟩
theorem z0h {st:Stmt} {rest:List Stmt} {t u:TS} (h:QS X st t) (r:QSs X rest u):QSs X (st :: rest) (tSeq t u):=⟨z02 h.run r.run⟩
theorem qs_set {i:Nat} {x:Str} {e:Expr} {te:TE} {pos':Pos} (hN:X.N.Nodup) (hi:X.N[i]? = some x) (hx:Loc X.env.scope x) (he:QE X e te) (hs:R6 e (some (.Name x pos')) pos.line X.env=Z2 false:=by rfl) (hf:X.fn x=true\/X.env.scope.names.lookup x=some .local:=by first|exact .inl rfl|exact .inr rfl|assumption) :
  QS X (.Assign [.Name x pos'] e pos) (tAsg te (gName i)):=⟨ps_set hN hi hx he.run hs hf⟩
theorem zfd {o i value:Expr} {td ty tv:TE} {pos':Pos} (hu:X.A.units + 1 < cLine) (ho:QE X o td) (hi:QE X i ty) (hv:QE X value tv) (hs:R6 value (some (.Subscript o i pos')) pos.line X.env=Z2 false) :
  QS X (.Assign [.Subscript o i pos'] value pos) (sDPut td ty tv):=⟨z6u hu ho.run hi.run hv.run hs⟩
theorem qs_for {tg iter:Expr} {body:List Stmt} {wi:TI} {g:TG} {tb:TS} (hp:PassesOwn (u1 X.prog X.w) X.A X.env X.xe) (hc:X.calm=true) (hi:PI X tg iter wi) (hg:PG X tg g) (hb:QSs X body tb)
  (hs :∀x,A4 iter X.env x=Z2 x:=by intro _;rfl):QS X (.For tg iter body [] pos) (tFor wi g tb):=⟨ps_for hp hc hi hg hb.run hs⟩
theorem qe_lst {es:List Expr} {t:TA} (h:QA X es t):QE X (.List es pos) (tLst t):=⟨pe_lst h.run⟩
theorem qa_nil:QA X [] tNil:=⟨pa_nil⟩
theorem z0c {e:Expr} {es:List Expr} {te:TE} {t:TA} (ha:QE X e te) (hr:QA X es t) (hs:N1 (e :: es) X.env=(false,C3 e X.env) :: N1 es X.env:=by rfl):QA X (e :: es) (tCons te t):=⟨z00 ha.run hr.run hs⟩
theorem zma:QPs X pos [] [] []:=⟨zjz⟩
theorem zbj {k v:Expr} {ks:List (Option Expr)} {vs:List Expr} {tk tv:TE} {trs:List (TE×TE)} (hk:QE X k tk) (hv:QE X v tv) (hr:QPs X pos ks vs trs):QPs X pos (some k :: ks) (v :: vs) ((tk,tv) :: trs):=⟨zbn hk.run hv.run hr.run⟩
theorem zmu {keys:List (Option Expr)} {values:List Expr} {trs:List (TE×TE)} (h:QPs X pos keys values trs) (hall:keys.all (·.isSome)=true) (hl:keys.length=values.length) (h0:keys≠[]) (h15:keys.length<=15):QE X (.Dict keys values pos) (tDisp trs):=⟨zjv h.run hall hl h0 h15⟩
theorem qe_ix {a b:Expr} {ta tb:TE} {r:R2} (hr:IxR X r) (ha:QE X a ta) (hb:QE X b tb) (hs:zk5 b):QE X (.Subscript a b pos) (tOp r ta tb):=⟨pe_ix hr ha.run hb.run hs⟩
end
theorem z8a {X:Cx} {K:b0} (h:X.K=K):IxR X (rIx K):=h ▸ ix_seq
theorem zkh {f:List V->Hp->VK->Prop} {te:TE} {D:Ends} {σ:St} {H:Hp} (h:te σ H λ x H1=>f [x] H1 D.rt):tRet (tCB f (tCons te tNil)) D σ H:=h
theorem zn6 {f:List V->Hp->VK->Prop} {te:TE} {g:TG} {rest:TS} {D:Ends} {σ:St} {H:Hp} (h:te σ H λ x H1=>f [x] H1 λ y H2=>g y σ H2 (rest D)):tSeq (tAsg (tCB f (tCons te tNil)) g) rest D σ H:=h
theorem z0f {α β:Type} {R:α->β->Prop} :∀{xs:List α} {ys:List β} {i:Nat} {y:β},All2 R xs ys->ys[i]? = some y->∃x,xs[i]? = some x/\R x y
 | _,_,i,y,.nil,e=>by simp at e
 | _,_,0,y,.cons a _,e=>by rw [Z1] at e;cases e;exact ⟨_,Z1,a⟩
 | _,_,i + 1,y,.cons _ r,e=>by rw [S1] at e;obtain ⟨x,c,b⟩:=z0f r e;exact ⟨x,by rw [S1];exact c,b⟩
theorem zgi {α:Type} {J:It} {H1:Hp} {rs:List α} {xs:List V} {RA:Hp->α->V->Prop} {m:Nat} {fr:List (Nat×Str)} {g:TG} {tc:TT} {te:TE} {σ:St} {Q:VK} (d:α) (p:α->Bool) (f:α->V) (r:Runs J H1 xs.length (λ i v _=>xs[i]? = some v)) (hm :∀H H' a v,Same H H'->RA H a v->RA H' a v) (al:All2 (RA H1) rs xs) (hn:rs.length<=sizeLine)
  (body :∀a∈rs,∀v H,Same H1 H->RA H a v->∀(KT:VK) (KF:Hp->Prop),(p a=true->∀H',Same H H'->KT (f a) H')->(p a=false->∀H',Same H H'->KF H')->
   g v (cStG σ fr (R1 m none)) H λ σ6 H6=>∃us,us.length=m/\σ6=cStG σ fr us/\tc (cStG σ fr us) H6 λ b H2=>if b=true then te (cStG σ fr us) H2 KT else KF H2)
  (hQ :∀l H',Same H1 H'->H' l=none->Q (.ref l) (upd H' l (.lst ((rs.filter p).map f)))) :
  ∃W:Nat->Nat->List V->Hp->Prop,(∃m,W 0 m [] H1)/\∀i k ys H,W i k ys H->
   (J.stop i H/\ys.length<=sizeLine/\∀p,H p=none->Q (.ref p) (upd H p (.lst ys)))\/
   (J.go i H/\ys.length<=sizeLine/\∀v H',J.yld i H v H'->g v (cStG σ fr (R1 m none)) H' λ σ6 H6=>∃us,us.length=m/\σ6=cStG σ fr us/\tc (cStG σ fr us) H6 λ b H2=>if b=true then te (cStG σ fr us) H2 λ y H3=>∃m',m' < k/\W (i + 1) m' (ys++[y]) H3 else∃m',m' < k/\W (i + 1) m' ys H2):=by
 have n:=z03 al;refine zhs (λ i=>p (rs[i]?.getD d)) (λ i y _=>y=f (rs[i]?.getD d)) (λ _ _ _ _ _ h=>h) r (by rw [n];exact hn) (λ i A v H s u KT KF j c=>?_) λ l H' ys s z t=>?_
 ·obtain ⟨a,o,w⟩:=z0f al u;rw [o] at j c;exact body a (G0 o) v H s (hm _ _ _ _ s w) KT KF (λ q H' x=>j q _ H' x rfl) c
 ·have e:=z5r t;rw [n,z6e p f d rs] at e;rw [e];exact hQ l H' s z
theorem ze9 {α:Type} {K:b0} {l:Addr} {rs:List α} {xs:List V} {RA:Hp->α->V->Prop} {tl te:TE} {tc:TT} {g:TG} {m:Nat} {fr:List (Nat×Str)} {σ:St} {H H1:Hp} {Q:VK} (d:α) (p:α->Bool) (f:α->V) (htl :∀R:VK,R (.ref l) H1->tl σ H R) (hq:SqL K H1 l xs) (hm :∀H H' a v,Same H H'->RA H a v->RA H' a v) (al:All2 (RA H1) rs xs) (hn:rs.length<=sizeLine)
  (body :∀a∈rs,∀v H,Same H1 H->RA H a v->∀(KT:VK) (KF:Hp->Prop),(p a=true->∀H',Same H H'->KT (f a) H')->(p a=false->∀H',Same H H'->KF H')->
   g v (cStG σ fr (R1 m none)) H λ σ6 H6=>∃us,us.length=m/\σ6=cStG σ fr us/\tc (cStG σ fr us) H6 λ b H2=>if b=true then te (cStG σ fr us) H2 KT else KF H2)
  (hQ :∀l H',Same H1 H'->H' l=none->Q (.ref l) (upd H' l (.lst ((rs.filter p).map f)))):tCompG (iList K tl) m fr g tc te σ H Q:=
 htl _ ⟨l,rfl,⟨xs,hq⟩,zgi d p f (zik hq) hm al hn body hQ⟩
end L2
set_option maxHeartbeats 4000000
namespace L2
open PySem PySem.Spec PyProof.Rows
section
variable {prog:Program} {w:R0} {A:V1} {E:Value->u0->Prop} {s:u0}
theorem z8f (hh:A.handled=none) (it t:Addr) (ne:t≠it) (items:Array Value):Draws prog w A it [it,t] items.size (λ i v=>items[i]? = some v) (λ i h=>h.IsTupleIter it t i/\h.IsTuple t items) where
 live:=λ i h a=>a.1.elim λ o z=>⟨o,z.1⟩
 frame:=λ i h b a k=>⟨a.1.elim λ o z=>⟨o,k it (by simp) o z.1,z.2⟩,a.2.elim λ o z=>⟨o,k t (by simp) o z.1,z.2⟩⟩
 item:=λ i s Q E c a q=>tupOn a.1 a.2 (E2 c) λ b f d=>q _ b s.toks (E2 c) ⟨f,a.2.elim λ o z=>⟨o,(d.2 t ne).trans z.1,z.2⟩⟩ d
 done:=λ s Q E a q=>tupOff hh a.1 a.2 (by simp) λ b e x y=>q b e x y
theorem zmi (a:Addr) (xs:Array Value):Meets (j04.«enumerate.__new__» ⟨[.type "enumerate",.ref a],[]⟩) (λ _ R s=>s.heap.IsTuple a xs/\R (.ok (.ret (.ref (s.heap.objs.size + 1))))
  { s with heap:=(s.heap.push { cls:=.type "tuple_iterator",data:=.fields #[.ref a,.int 0 0] }).push { cls:=.type "enumerate",data:=.fields #[.none,.bool false,.ref s.heap.objs.size,j1h 0,.none,.none] } }):=
 .of_wp λ e w A R s h=>by
  obtain ⟨i,g,d,j,f⟩:=s;obtain ⟨k,h⟩:=h;have m:=sub_enumerate;have b:Heap.IsTuple (Shared.heap ⟨i,g,d,j,f⟩) a xs:=k
  wp_walk using Y5 b
  intro Γ p l;show W0 (u1 e w) A.in1 (Z2 _) _ _ _;refine F0 ?_;generalize List.drop 1 ((Γ.code,p) :: Γ.below)=L;split
  ·rename_i c _ _ _ _;cases c == b7 "enumerate" with
   | true=>
    wp_walk using Y5 b
    refine ⟨_,rfl,?_⟩;simpa [T3,O4] using h
   | false=>
    wp_walk using Y5 b
    refine ⟨_,rfl,?_⟩;simpa [T3,O4] using h
  ·wp_walk using Y5 b
   refine ⟨_,rfl,?_⟩;simpa [T3,O4] using h
theorem zl9 {a:Addr} {xs:Array Value} {Q:Value->u0->Prop} (ha:s.heap.IsTuple a xs)
  (q :∀h',IsEnum h' (s.heap.objs.size + 1) s.heap.objs.size 0 .none->h'.IsTupleIter s.heap.objs.size a 0->h'.objs.size=s.heap.objs.size + 2->(∀c o,s.heap.get? c=some o->h'.get? c=some o)->Q (.ref (s.heap.objs.size + 1)) { s with heap:=h' }) :
  W0 (u1 prog w) A (call (.type "enumerate") [.ref a]) Q E s:=by
 refine callType_new F.called_enumerate (by decide) (F.typeCall_enumerate_1 _) (F.newCall_enumerate_1 _) (λ f=>F.args_object_init_2 f _) F.entry_enumerate_new (zmi a xs) ⟨ha,?_⟩;generalize hn:s.heap.objs.size=n at q⊢;generalize h0:s.heap.push { cls:=.type "tuple_iterator",data:=.fields #[.ref a,.int 0 0] }=k0;have d:k0.objs.size=n + 1:=by rw [<-h0,T3,hn]
 have g:k0.get? n=some { cls:=.type "tuple_iterator",data:=.fields #[.ref a,.int 0 0] }:=by rw [<-h0,<-hn];exact Y0 _ rfl
 have b:(k0.push { cls:=.type "enumerate",data:=.fields #[.none,.bool false,.ref n,j1h 0,.none,.none] }).get? (n + 1)=some { cls:=.type "enumerate",data:=.fields #[.none,.bool false,.ref n,j1h 0,.none,.none] }:=by rw [<-d];exact Y0 _ rfl
 exact ⟨⟨_,b,rfl⟩,q _ b ⟨_,C0 _ g,rfl,rfl⟩ (by rw [T3,d]) λ c o e=>C0 _ (by rw [<-h0];exact C0 _ e)⟩
end
noncomputable def IteL (K:b0) (a:Addr):It:=
  ⟨λ i H=>∃xs x,SqL K H a xs/\xs[i]? = some x,
   λ i H v H'=>∃p,H p=none/\v=.ref p/\∀xs,SqL K H a xs->∃x,xs[i]? = some x/\H'=upd H p (.tup [.int i,x]),
   λ i H=>∃xs,SqL K H a xs/\xs.length=i⟩
theorem w_0:(0:Nat)<=sizeLine:=by decide
theorem w_1:(1:Nat)<=sizeLine:=by decide
theorem w_2:(2:Nat)<=sizeLine:=by decide
theorem w_3:(3:Nat)<=sizeLine:=by decide
theorem w_4:(4:Nat)<=sizeLine:=by decide
theorem w_5:(5:Nat)<=sizeLine:=by decide
theorem w_7:(7:Nat)<=sizeLine:=by decide
theorem w_8:(8:Nat)<=sizeLine:=by decide
theorem w_10:(10:Nat)<=sizeLine:=by decide
theorem zfi {P:Program} {w:R0} {K:b0} {elts:List Expr} {x1:Nat} {pos:Pos} {e it a:Addr} (ne:e≠it) (nae:a≠e) (nai:a≠it):Turn P w K (.Tuple elts x1 pos) (IteL K a) [e,it] e (λ n h=>(∃old,IsEnum h e it (n:Nat) old)/\h.IsListIter it a n) where
 mem:=by simp
 obj:=λ n h f c g=>by
  simp only [B1,j0,or_false] at g;rcases g with rfl|rfl
  ·obtain ⟨⟨old,z⟩,_⟩:=f;exact ⟨_,z,λ v z=>by cases (show j4c _=Data.cell v from z)⟩
  ·obtain ⟨_,o,e,_,d⟩:=f;exact ⟨o,e,λ v z=>by rw [d] at z;cases z⟩
 keep:=λ n h N f k=>by obtain ⟨⟨old,z⟩,o,e1,e2⟩:=f;exact ⟨⟨old,k e (by simp) _ z⟩,o,k it (by simp) _ e1,e2⟩
 item:=by
  intro X G C J g n a5 s σ H E I l f r;subst G C J;obtain ⟨V,x,q,Q⟩:=r;obtain ⟨i,L,j,_⟩:=I.list q;have j:s.heap.IsList a i.toArray:=j.isList;obtain ⟨u,O,ru⟩:=L.get Q;have D:=Draws.list (prog:=X.prog) (w:=X.w) (A:=X.A.in1) (I.ok.hd g) it a nai i.toArray;have a4:n < i.toArray.size:=by have:=(List.getElem?_eq_some_iff.mp O).1;simpa using this
  obtain ⟨⟨old,S⟩,M⟩:=f;refine wpAny_pyNext_enum_itemD D S ⟨M,j⟩ a4 ne (by simp [ne,nae.symm]) λ y N t p a0 Y tT hz F=>?_;have p:i[n]? = some y:=by simpa using p
  rw [O] at p;cases p;have a6:e < s.heap.objs.size:=Q0 S;have a2:it < s.heap.objs.size:=by obtain ⟨o,z,_⟩:=M;exact Q0 z
  have U:s.heap.objs.size≠e:=i4 a6;have Z:s.heap.objs.size∉[e,it]:=by simp only [B1,j0,or_false,not_or];exact ⟨U,i4 a2⟩
  refine ⟨_,rfl,j3f a0 λ R a3 B=>?_⟩;have k2 :∀b o,b∉[e,it]->s.heap.get? b=some o->R.get? b=some o:=λ b o m z=>by simp only [B1,j0,or_false,not_or] at m;exact (B.2 b m.1).trans (F b o m.1 m.2 z)
  have T:=(B.2 _ U).trans tT;have a7:=Y.1.elim λ o z=>(⟨o,(B.2 it ne.symm).trans z.1,z.2⟩:R.IsListIter it a (n + 1))
  have fr:H s.heap.objs.size=none:=I.hok.fresh (t0 _);refine ⟨.ref s.heap.objs.size,upd H s.heap.objs.size (.tup [.int n,x]),I.turnedLaid (t':=t + 1) k2 l (t0 _) ⟨w_2,[.int n t,u],.cons ⟨t,rfl⟩ (.cons ru .nil),⟨_,T,rfl,_,rfl⟩,_,T,rfl⟩,rfl,⟨_,fr,rfl,λ a8 a1=>⟨x,?_,rfl⟩⟩,⟨⟨_,a3⟩,a7⟩,λ c g=>?_⟩
  ·rw [I.list_inj a1 q];exact Q
  ·rw [upd_ne (λ (z:c=s.heap.objs.size)=>Z (z ▸ g))];exact (l c g).1
 done:=by
  intro X G C J g n a5 s σ H E I l f r;subst G C J;obtain ⟨V,q,rfl⟩:=r;obtain ⟨i,L,j,_⟩:=I.list q;have j:s.heap.IsList a i.toArray:=j.isList;have D:=Draws.list (prog:=X.prog) (w:=X.w) (A:=X.A.in1) (I.ok.hd g) it a nai i.toArray;have W:=WalksT.enumerateD D e ne (by simp [ne,nae.symm]) (by simp);have la:i.toArray.size=V.length:=by simpa using L.length.symm
  exact W.done s _ E (by rw [la];exact ⟨f.1,f.2,j⟩) λ N tk F=>⟨rfl,I.turnedL (t':=tk) (λ c o g e=>F c o g e) l⟩
 self:=λ _ _ _ _ _ f h=>f.1.elim λ old z=>g8 z h
noncomputable def ieL (K:b0) (ta:TA):TI:=λ σ H R=>ta σ H λ vs H1=>∃a xs,vs=[.ref a]/\SqL K H1 a xs/\R (IteL K a) H1
theorem z69 {X:Cx} {elts:List Expr} {x1:Nat} {tpos:Pos} {e:Expr} {ta:TA} {p pos:Pos} (hg:Gl X "enumerate") (hm:X.mg "enumerate" = none) (ha:PA X [e] ta) (hs:N1 [e] X.env=[(false,C3 e X.env)]:=by rfl) :
  PI X (.Tuple elts x1 tpos) (.Call (.Name "enumerate" p) [e] [] pos) (ieL X.K ta):=by
 intro t s σ H R I h;refine Call_ (ld_blt I hg hm boot_enumerate (O3 (thn (ha pos t s σ H _ I h) λ y d ⟨vs,H1,I1,r1,q1⟩=>?_) (by rw [hs];rfl) rfl));obtain ⟨a,z,n,r,q⟩:=q1;subst n;obtain ⟨u,rfl,l⟩:=vals1 r1;cases (show u=Z0 a from l);obtain ⟨m,x,b,_⟩:=I1.list r;have b:d.heap.IsList a m.toArray:=b.isList;have g:a < d.heap.objs.size:=by obtain ⟨o,e,_⟩:=id b;exact Q0 e
 refine call_enumerate_list b λ w i v _ k=>?_;refine g8 i ?_;refine ⟨_,_,_,_,H1,rfl,I1.kept (t':=d.toks) k,zfi (i4 (O2 _)) (C1 (j2 g)) (C1 g),⟨⟨_,i⟩,v⟩,λ c j=>?_,q⟩;have f:d.heap.objs.size<=c:=by
  simp only [B1,j0,or_false] at j;rcases j with rfl|rfl
  ·exact Nat.le_add_right _ _
  ·exact t0 _
 exact I1.fpOk f (I1.hok.fresh f)
theorem z68 {K:b0} {a:Addr} {xs:List V} {g:TG} {tb:TS} {D:Ends} {σ:St} {H:Hp} (Pv:Nat->St->Hp->Prop) (h0:Pv 0 σ H) (hl :∀i σ H,Pv i σ H->SqL K H a xs)
  (hs :∀i x σ H p,xs[i]? = some x->Pv i σ H->H p=none->g (.ref p) σ (upd H p (.tup [.int i,x])) λ σ2 H2=>tb { D with nx:=Pv (i + 1),ct:=Pv (i + 1),bk:=D.nx } σ2 H2) (hd :∀σ H,Pv xs.length σ H->D.nx σ H) :
  ∃W:Nat->Nat->St->Hp->Prop,(∃m,W 0 m σ H)/\∀i m σ H,W i m σ H->
   ((IteL K a).stop i H/\D.nx σ H)\/((IteL K a).go i H/\∃N:St->Hp->Prop,(∀σ' H',N σ' H'->∃m',m' < m/\W (i + 1) m' σ' H')/\∀x H',(IteL K a).yld i H x H'->g x σ H' λ σ2 H2=>tb { D with nx:=N,ct:=N,bk:=D.nx } σ2 H2):=by
 refine ⟨λ i m σ H=>m=xs.length - i/\i<=xs.length/\Pv i σ H,⟨xs.length,by simp,Q1 _,h0⟩,?_⟩;rintro i m σ H ⟨rfl,hi,p⟩;have b:=hl i σ H p;by_cases hlt:i < xs.length
 ·refine .inr ⟨⟨xs,xs[i],b,by simp [hlt]⟩,Pv (i + 1),λ σ' H' f=>⟨xs.length - (i + 1),by omega,rfl,hlt,f⟩,λ v H' y=>?_⟩;obtain ⟨t,d,rfl,c⟩:=y;obtain ⟨h,j,rfl⟩:=c xs b;exact hs i h σ H t j p d
 ·have e:i=xs.length:=by omega
  subst e;exact .inl ⟨⟨xs,b,rfl⟩,hd σ H p⟩
noncomputable def IteT (K:b0) (a:Addr):It:=
  ⟨λ i H=>∃xs x,SqT K H a xs/\xs[i]? = some x,
   λ i H v H'=>∃p,H p=none/\v=.ref p/\∀xs,SqT K H a xs->∃x,xs[i]? = some x/\H'=upd H p (.tup [.int i,x]),
   λ i H=>∃xs,SqT K H a xs/\xs.length=i⟩
theorem zez {P:Program} {w:R0} {K:b0} {elts:List Expr} {x1:Nat} {pos:Pos} {e it a:Addr} (ne:e≠it) (nae:a≠e) (nai:a≠it):Turn P w K (.Tuple elts x1 pos) (IteT K a) [e,it] e (λ n h=>(∃old,IsEnum h e it (n:Nat) old)/\h.IsTupleIter it a n) where
 mem:=by simp
 obj:=λ n h f c g=>by
  simp only [B1,j0,or_false] at g;rcases g with rfl|rfl
  ·obtain ⟨⟨old,z⟩,_⟩:=f;exact ⟨_,z,λ v z=>by cases (show j4c _=Data.cell v from z)⟩
  ·obtain ⟨_,o,e,_,d⟩:=f;exact ⟨o,e,λ v z=>by rw [d] at z;cases z⟩
 keep:=λ n h N f k=>by obtain ⟨⟨old,z⟩,o,e1,e2⟩:=f;exact ⟨⟨old,k e (by simp) _ z⟩,o,k it (by simp) _ e1,e2⟩
 item:=by
  intro X G C J g n a5 s σ H E I l f r;subst G C J;obtain ⟨V,x,q,Q⟩:=r;obtain ⟨i,L,j,_⟩:=I.tuple q;have j:s.heap.IsTuple a i.toArray:=j;obtain ⟨u,O,ru⟩:=L.get Q;have D:=z8f (prog:=X.prog) (w:=X.w) (A:=X.A.in1) (I.ok.hd g) it a nai i.toArray;have a4:n < i.toArray.size:=by have:=(List.getElem?_eq_some_iff.mp O).1;simpa using this
  obtain ⟨⟨old,S⟩,M⟩:=f;refine wpAny_pyNext_enum_itemD D S ⟨M,j⟩ a4 ne (by simp [ne,nae.symm]) λ y N t p a0 Y tT hz F=>?_;have p:i[n]? = some y:=by simpa using p
  rw [O] at p;cases p;have a6:e < s.heap.objs.size:=Q0 S;have a2:it < s.heap.objs.size:=by obtain ⟨o,z,_⟩:=M;exact Q0 z
  have U:s.heap.objs.size≠e:=i4 a6;have Z:s.heap.objs.size∉[e,it]:=by simp only [B1,j0,or_false,not_or];exact ⟨U,i4 a2⟩
  refine ⟨_,rfl,j3f a0 λ R a3 B=>?_⟩;have k2 :∀b o,b∉[e,it]->s.heap.get? b=some o->R.get? b=some o:=λ b o m z=>by simp only [B1,j0,or_false,not_or] at m;exact (B.2 b m.1).trans (F b o m.1 m.2 z)
  have T:=(B.2 _ U).trans tT;have a7:=Y.1.elim λ o z=>(⟨o,(B.2 it ne.symm).trans z.1,z.2⟩:R.IsTupleIter it a (n + 1))
  have fr:H s.heap.objs.size=none:=I.hok.fresh (t0 _);refine ⟨.ref s.heap.objs.size,upd H s.heap.objs.size (.tup [.int n,x]),I.turnedLaid (t':=t + 1) k2 l (t0 _) ⟨w_2,[.int n t,u],.cons ⟨t,rfl⟩ (.cons ru .nil),⟨_,T,rfl,_,rfl⟩,_,T,rfl⟩,rfl,⟨_,fr,rfl,λ a8 a1=>⟨x,?_,rfl⟩⟩,⟨⟨_,a3⟩,a7⟩,λ c g=>?_⟩
  ·rw [I.tuple_inj a1 q];exact Q
  ·rw [upd_ne (λ (z:c=s.heap.objs.size)=>Z (z ▸ g))];exact (l c g).1
 done:=by
  intro X G C J g n a5 s σ H E I l f r;subst G C J;obtain ⟨V,q,rfl⟩:=r;obtain ⟨i,L,j,_⟩:=I.tuple q;have j:s.heap.IsTuple a i.toArray:=j;have D:=z8f (prog:=X.prog) (w:=X.w) (A:=X.A.in1) (I.ok.hd g) it a nai i.toArray;have W:=WalksT.enumerateD D e ne (by simp [ne,nae.symm]) (by simp);have la:i.toArray.size=V.length:=by simpa using L.length.symm
  exact W.done s _ E (by rw [la];exact ⟨f.1,f.2,j⟩) λ N tk F=>⟨rfl,I.turnedL (t':=tk) (λ c o g e=>F c o g e) l⟩
 self:=λ _ _ _ _ _ f h=>f.1.elim λ old z=>g8 z h
noncomputable def ieT (K:b0) (ta:TA):TI:=λ σ H R=>ta σ H λ vs H1=>∃a xs,vs=[.ref a]/\SqT K H1 a xs/\R (IteT K a) H1
theorem zl0 {X:Cx} {elts:List Expr} {x1:Nat} {tpos:Pos} {e:Expr} {ta:TA} {p pos:Pos} (hg:Gl X "enumerate") (hm:X.mg "enumerate" = none) (ha:PA X [e] ta) (hs:N1 [e] X.env=[(false,C3 e X.env)]:=by rfl) :
  PI X (.Tuple elts x1 tpos) (.Call (.Name "enumerate" p) [e] [] pos) (ieT X.K ta):=by
 intro t s σ H R I h;refine Call_ (ld_blt I hg hm boot_enumerate (O3 (thn (ha pos t s σ H _ I h) λ y d ⟨vs,H1,I1,r1,q1⟩=>?_) (by rw [hs];rfl) rfl));obtain ⟨a,z,n,r,q⟩:=q1;subst n;obtain ⟨u,rfl,l⟩:=vals1 r1;cases (show u=Z0 a from l);obtain ⟨m,x,b,_⟩:=I1.tuple r;have b:d.heap.IsTuple a m.toArray:=b;have g:a < d.heap.objs.size:=by obtain ⟨o,e,_⟩:=id b;exact Q0 e
 refine zl9 b λ w i v _ k=>?_;refine g8 i ?_;refine ⟨_,_,_,_,H1,rfl,I1.kept (t':=d.toks) k,zez (i4 (O2 _)) (C1 (j2 g)) (C1 g),⟨⟨_,i⟩,v⟩,λ c j=>?_,q⟩;have f:d.heap.objs.size<=c:=by
  simp only [B1,j0,or_false] at j;rcases j with rfl|rfl
  ·exact Nat.le_add_right _ _
  ·exact t0 _
 exact I1.fpOk f (I1.hok.fresh f)
theorem zjb {K:b0} {a:Addr} {xs:List V} {g:TG} {tb:TS} {D:Ends} {σ:St} {H:Hp} (Pv:Nat->St->Hp->Prop) (h0:Pv 0 σ H) (hl :∀i σ H,Pv i σ H->SqT K H a xs)
  (hs :∀i x σ H p,xs[i]? = some x->Pv i σ H->H p=none->g (.ref p) σ (upd H p (.tup [.int i,x])) λ σ2 H2=>tb { D with nx:=Pv (i + 1),ct:=Pv (i + 1),bk:=D.nx } σ2 H2) (hd :∀σ H,Pv xs.length σ H->D.nx σ H) :
  ∃W:Nat->Nat->St->Hp->Prop,(∃m,W 0 m σ H)/\∀i m σ H,W i m σ H->
   ((IteT K a).stop i H/\D.nx σ H)\/((IteT K a).go i H/\∃N:St->Hp->Prop,(∀σ' H',N σ' H'->∃m',m' < m/\W (i + 1) m' σ' H')/\∀x H',(IteT K a).yld i H x H'->g x σ H' λ σ2 H2=>tb { D with nx:=N,ct:=N,bk:=D.nx } σ2 H2):=by
 refine ⟨λ i m σ H=>m=xs.length - i/\i<=xs.length/\Pv i σ H,⟨xs.length,by simp,Q1 _,h0⟩,?_⟩;rintro i m σ H ⟨rfl,hi,p⟩;have b:=hl i σ H p;by_cases hlt:i < xs.length
 ·refine .inr ⟨⟨xs,xs[i],b,by simp [hlt]⟩,Pv (i + 1),λ σ' H' f=>⟨xs.length - (i + 1),by omega,rfl,hlt,f⟩,λ v H' y=>?_⟩;obtain ⟨t,d,rfl,c⟩:=y;obtain ⟨h,j,rfl⟩:=c xs b;exact hs i h σ H t j p d
 ·have e:i=xs.length:=by omega
  subst e;exact .inl ⟨⟨xs,b,rfl⟩,hd σ H p⟩
end L2
set_option maxHeartbeats 400000
namespace L2
open PySem PySem.Spec PyProof.Rows
section
variable {X:Cx}
theorem zi8 (hc:X.calm=true):CallR X (.builtin "sum") (λ xs H Q=>∃(p:Addr) (ns:List Int),xs=[.ref p]/\SqL X.K H p (ns.map V.int)/\Q (.int ns.sum) H):=by
 intro G s σ H xs F Q I r h;obtain ⟨p,ns,rfl,D,q⟩:=h;obtain ⟨u,rfl,B⟩:=vals1 r;cases B;obtain ⟨c,k,f,E⟩:=I.list D;have w:p≠s.heap.objs.size:=by obtain ⟨o,e,_⟩:=f.isList;exact C1 (Q0 e)
 have l:c.length=ns.length:=by have:=k.length;rw [o0] at this;exact this.symm
 refine call_sum_walkAnyS (j12 f.isList ?_);refine ⟨s.heap.objs.size,_,_,_,_,_,_,λ i=>ns[i]?.getD 0,rfl,(Walks.list (show X.A.in1.handled=none from I.ok.hd hc) s.heap.objs.size p w c.toArray).toS,⟨⟨_,Y0 _ rfl,rfl,rfl⟩,f.isList.at λ o e=>C0 _ e⟩,?_,?_,?_⟩
 ·intro b d;simp only [B1,j0,or_false] at d;rcases d with rfl|rfl
  ·rw [T3];exact O2 _
  ·obtain ⟨o,e,_⟩:=f.isList;exact Q0 (C0 _ e)
 ·intro i v a;have a:c[i]? = some v:=by simpa using a
  obtain ⟨y,e⟩:=List.getElem?_eq_some_iff.mp a;have j:i < ns.length:=by rw [<-l];exact y
  obtain ⟨u,m,g⟩:=k.get (i:=i) (x:=.int ns[i]) (by simp [j]);rw [a] at m;cases m;obtain ⟨t,g⟩:=g;exact ⟨t,by show v=R7 (ns[i]?.getD 0) t;rw [B0 j];exact g⟩
 ·intro C t' n;have e:preSum (λ i=>ns[i]?.getD 0) c.toArray.size=ns.sum:=by rw [K0,l,z80 ns _ (t0 _),K3]
  rw [e,n.eq_with];refine ⟨.int _,H,I.kept (t':=C.toks) λ b o z=>n.heap b o ?_ (C0 _ z),⟨_,rfl⟩,q⟩;intro d;rw [List.mem_singleton.mp d] at z;exact absurd (Q0 z) (o4 _)
end
mutual
noncomputable def IsPd (K:b0) (H:Hp):PyData->V->Prop
 | .none,v=>v=.non
 | .bool b,v=>v=.bl b
 | .int i,v=>v=.int i
 | .str z,v=>v=.str z
 | .list ds,v=>∃a xs,v=.ref a/\SqL K H a xs/\IsPds K H ds xs
 | .tuple ds,v=>∃a xs,v=.ref a/\SqT K H a xs/\IsPds K H ds xs
 | .dict _,_=>False
noncomputable def IsPds (K:b0) (H:Hp):List PyData->List V->Prop
 | [],xs=>xs=[]
 | d :: ds,xs=>∃x r,xs=x :: r/\IsPd K H d x/\IsPds K H ds r
end
mutual
theorem IsPd.mono' {K:b0} {H H':Hp} (s :∀a xs,SqT K H a xs->SqT K H' a xs) (t :∀a xs,SqL K H a xs->SqL K H' a xs) :∀(d:PyData) (v:V),IsPd K H d v->IsPd K H' d v
 | .none,v,h=>h
 | .bool _,v,h=>h
 | .int _,v,h=>h
 | .str _,v,h=>h
 | .list ds,v,h=>by obtain ⟨a,xs,rfl,e,r⟩:=h;exact ⟨a,xs,rfl,t _ _ e,IsPds.mono' s t ds xs r⟩
 | .tuple ds,v,h=>by obtain ⟨a,xs,rfl,e,r⟩:=h;exact ⟨a,xs,rfl,s _ _ e,IsPds.mono' s t ds xs r⟩
 | .dict _,v,h=>h.elim
theorem IsPds.mono' {K:b0} {H H':Hp} (s :∀a xs,SqT K H a xs->SqT K H' a xs) (t :∀a xs,SqL K H a xs->SqL K H' a xs) :∀(ds:List PyData) (xs:List V),IsPds K H ds xs->IsPds K H' ds xs
 | [],xs,h=>h
 | d :: ds,xs,h=>by obtain ⟨x,r,rfl,a,b⟩:=h;exact ⟨x,r,rfl,IsPd.mono' s t d x a,IsPds.mono' s t ds r b⟩
end
theorem IsPd.same {K:b0} {H H':Hp} {d:PyData} {v:V} (h:IsPd K H d v) (s:Same H H'):IsPd K H' d v:=IsPd.mono' (λ _ _ q=>s.seqT q) (λ _ _ q=>s.seq q) d v h
section
variable {X:Cx} {pins:zP} {σ:St} {H:Hp} {s:u0}
mutual
theorem z4e (I:Inv X pins σ H s) :∀(d:PyData) (v:V) (u:Value),IsPd X.K H d v->RelV v u->∃as,Reads s.heap u d as
 | .none,v,u,h,r=>by cases (show v=.non from h);cases (show u=.none from r);exact ⟨_,.none⟩
 | .bool b,v,u,h,r=>by cases (show v=.bl b from h);cases (show u=.bool b from r);exact ⟨_,.bool b⟩
 | .int i,v,u,h,r=>by cases (show v=.int i from h);obtain ⟨t,rfl⟩:=r;exact ⟨_,.int i t⟩
 | .str z,v,u,h,r=>by cases (show v=.str z from h);obtain ⟨t,rfl⟩:=r;exact ⟨_,.str z t⟩
 | .list ds,v,u,h,r=>by obtain ⟨a,l,rfl,e,g⟩:=h;cases (show u=.ref a from r);obtain ⟨f,j,c,_⟩:=I.list e;obtain ⟨o,p,q,n,k⟩:=c.isList;obtain ⟨as,m⟩:=z9d I ds l f g j;exact ⟨_,.list p q k m⟩
 | .tuple ds,v,u,h,r=>by obtain ⟨a,l,rfl,e,g⟩:=h;cases (show u=.ref a from r);obtain ⟨f,j,c,_⟩:=I.tuple e;obtain ⟨o,p,q,n,k⟩:=c;obtain ⟨as,m⟩:=z9d I ds l f g j;exact ⟨_,.tuple p q k m⟩
 | .dict _,v,u,h,r=>h.elim
theorem z9d (I:Inv X pins σ H s) :∀(ds:List PyData) (xs:List V) (us:List Value),IsPds X.K H ds xs->Vals xs us->∃as,c7 s.heap us ds as
 | [],xs,us,h,r=>by cases (show xs=[] from h);cases r;exact ⟨_,.nil⟩
 | d :: ds,xs,us,h,r=>by
  obtain ⟨x,t,rfl,a,b⟩:=h;cases r with
  | cons r1 r2=>obtain ⟨as,e⟩:=z4e I d x _ a r1;obtain ⟨bs,c⟩:=z9d I ds t _ b r2;exact ⟨_,.cons e c⟩
end
end
mutual
def plainP:PyData->Bool
 | .none=>true
 | .bool _=>false
 | .int _=>true
 | .str z=>(J4 z).canLay0
 | .list ds=>z15 ds
 | .tuple ds=>z15 ds
 | .dict _=>false
def z15:List PyData->Bool
 | []=>true
 | d :: ds=>plainP d && z15 ds
end
mutual
theorem z9f :∀d:PyData,plainP d=true->d.canLay0=true
 | .none,_=>rfl
 | .bool _,h=>by cases h
 | .int _,_=>rfl
 | .str _,h=>h
 | .list ds,h=>z6s ds h
 | .tuple ds,h=>z6s ds h
 | .dict _,h=>by cases h
theorem z6s :∀ds:List PyData,z15 ds=true->V4 ds=true
 | [],_=>rfl
 | d :: ds,h=>by have h:(plainP d && z15 ds)=true:=h;rw [A2] at h;show (d.canLay0 && V4 ds)=true;rw [z9f d h.1,z6s ds h.2];rfl
end
mutual
theorem zkj :∀d e:PyData,plainP d=true->plainP e=true->(d.eqv e=true↔d=e)
 | .none,e,_,he=>by
  cases e with
  | none=>exact ⟨λ _=>rfl,λ _=>rfl⟩
  | bool b=>cases he
  | dict _=>cases he
  | _=>exact ⟨λ z=>(by cases z),λ z=>(by cases z)⟩
 | .bool _,e,hd,_=>by cases hd
 | .int i,e,_,he=>by
  cases e with
  | int j=>exact ⟨λ z=>congrArg _ (eq_of_beq (show (i == j)=true from z)),λ z=>by cases z;exact beq_self_eq_true i⟩
  | bool b=>cases he
  | dict _=>cases he
  | _=>exact ⟨λ z=>(by cases z),λ z=>(by cases z)⟩
 | .str i,e,_,he=>by
  cases e with
  | str j=>exact ⟨λ z=>congrArg _ (eq_of_beq (show (i == j)=true from z)),λ z=>by cases z;exact beq_self_eq_true i⟩
  | bool b=>cases he
  | dict _=>cases he
  | _=>exact ⟨λ z=>(by cases z),λ z=>(by cases z)⟩
 | .list ds,e,hd,he=>by
  cases e with
  | list es=>exact ⟨λ z=>congrArg _ ((z6d ds es hd he).mp z),λ z=>(z6d ds es hd he).mpr (by cases z;rfl)⟩
  | bool b=>cases he
  | dict _=>cases he
  | _=>exact ⟨λ z=>(by cases z),λ z=>(by cases z)⟩
 | .tuple ds,e,hd,he=>by
  cases e with
  | tuple es=>exact ⟨λ z=>congrArg _ ((z6d ds es hd he).mp z),λ z=>(z6d ds es hd he).mpr (by cases z;rfl)⟩
  | bool b=>cases he
  | dict _=>cases he
  | _=>exact ⟨λ z=>(by cases z),λ z=>(by cases z)⟩
 | .dict _,e,hd,_=>by cases hd
theorem z6d :∀ds es:List PyData,z15 ds=true->z15 es=true->(C7 ds es=true↔ds=es)
 | [],[],_,_=>⟨λ _=>rfl,λ _=>rfl⟩
 | [],e :: es,_,_=>⟨λ z=>(by cases z),λ z=>(by cases z)⟩
 | d :: ds,[],_,_=>⟨λ z=>(by cases z),λ z=>(by cases z)⟩
 | d :: ds,e :: es,b,a=>by have b:(plainP d && z15 ds)=true:=b;have a:(plainP e && z15 es)=true:=a;rw [A2] at b a;show (d.eqv e && C7 ds es)=true↔_;rw [A2,zkj d e b.1 a.1,z6d ds es b.2 a.2];exact ⟨λ z=>by rw [z.1,z.2],λ z=>by cases z;exact ⟨rfl,rfl⟩⟩
end
theorem zf1 {d e:PyData} (hd:plainP d=true) (he:plainP e=true) {p:Prop} [Decidable p] (h:d=e↔p):d.eqv e=decide p:=by rw [Bool.eq_iff_iff,decide_eq_true_eq,zkj d e hd he,h]
section
variable {X:Cx}
noncomputable def rEqP (K:b0):R2:=λ x y H Q=>∃d e,IsPd K H d x/\IsPd K H e y/\plainP d=true/\plainP e=true/\d.depth<=60/\Q (.bl (d.eqv e)) H
theorem room60 {A:V1} {k m n:Nat} (hr:Room k A) (h:m<=60):A.units + min m n < cLine:=A1 (Nat.add_le_add_left (A0 (L8 _ _) (A0 h (by decide:60<=64))) _) hr.units
theorem op_eqP {k:Nat} (hr:Room k X.A):OpR X (B2 .Eq) (rEqP X.K):=by intro o s σ H x y v u Q I i c h;obtain ⟨d,e,f,a,l,b,g,q⟩:=h;obtain ⟨n,m⟩:=z4e I d x v f i;obtain ⟨bs,j⟩:=z4e I e y u a c;exact SeqAt.compareEq_reads m j (z9f _ l) (z9f _ b) (room60 hr g) ⟨.bl _,H,I,rfl,q⟩
end
end L2
set_option maxHeartbeats 1000000
namespace L2
open PySem PySem.Spec PyProof.Rows
end L2
set_option maxHeartbeats 400000
namespace L2
open PySem PySem.Spec PyProof.Rows
structure RunsR (S:Hp->Hp->Prop) (J:It) (H1:Hp) (n:Nat) (Item:Nat->V->Hp->Prop):Prop where
 go :∀i,i < n->∀H,S H1 H->J.go i H
 stop :∀H,S H1 H->J.stop n H
 item :∀i,i < n->∀H v H',S H1 H->J.yld i H v H'->S H H'/\Item i v H'
theorem z1m {S:Hp->Hp->Prop} {J:It} {H1:Hp} {n m:Nat} {Item:Nat->V->Hp->Prop} {fr:List (Nat×Str)} {g:TG} {tc:TT} {te:TE} {σ:St} {Q:VK} (s0:S H1 H1) (st :∀a b c,S a b->S b c->S a c) (p:Nat->Bool) (R:Nat->V->Hp->Prop) (hR :∀i y H H',S H H'->R i y H->R i y H') (r:RunsR S J H1 n Item) (hn:n<=sizeLine)
  (body :∀i,i < n->∀v H,S H1 H->Item i v H->∀(KT:VK) (KF:Hp->Prop),(p i=true->∀y H',S H H'->R i y H'->KT y H')->(p i=false->∀H',S H H'->KF H')->
   g v (cStG σ fr (R1 m none)) H λ σ6 H6=>∃us,us.length=m/\σ6=cStG σ fr us/\tc (cStG σ fr us) H6 λ b H2=>if b=true then te (cStG σ fr us) H2 KT else KF H2)
  (hQ :∀l H' ys,S H1 H'->H' l=none->All2 (λ i y=>R i y H') ((j1 n).filter p) ys->Q (.ref l) (upd H' l (.lst ys))) :
  ∃W:Nat->Nat->List V->Hp->Prop,(∃m,W 0 m [] H1)/\∀i k ys H,W i k ys H->
   (J.stop i H/\ys.length<=sizeLine/\∀p,H p=none->Q (.ref p) (upd H p (.lst ys)))\/
   (J.go i H/\ys.length<=sizeLine/\∀v H',J.yld i H v H'->g v (cStG σ fr (R1 m none)) H' λ σ6 H6=>∃us,us.length=m/\σ6=cStG σ fr us/\tc (cStG σ fr us) H6 λ b H2=>if b=true then te (cStG σ fr us) H2 λ y H3=>∃m',m' < k/\W (i + 1) m' (ys++[y]) H3 else∃m',m' < k/\W (i + 1) m' ys H2):=by
 refine ⟨λ i k ys H'=>k=n - i/\i<=n/\S H1 H'/\All2 (λ i y=>R i y H') ((j1 i).filter p) ys,⟨n,by simp,Q1 _,s0,.nil⟩,?_⟩;rintro i k ys H' ⟨rfl,hi,sm,fa⟩;have j:ys.length<=sizeLine:=by rw [z03 fa];have:=K2 p (j1 i);rw [Y1] at this;omega
 by_cases hlt:i < n
 ·refine .inr ⟨r.go i hlt H' sm,j,λ v H2 y=>?_⟩;obtain ⟨d,o⟩:=r.item i hlt H' v H2 sm y;refine body i hlt v H2 (st _ _ _ sm d) o _ _ (λ h y H3 f s=>⟨n - (i + 1),by omega,rfl,hlt,st _ _ _ (st _ _ _ sm d) f,?_⟩) (λ h H3 f=>⟨n - (i + 1),by omega,rfl,hlt,st _ _ _ (st _ _ _ sm d) f,?_⟩)
  ·rw [z0v,if_pos h];exact z48 (z01 (λ a b z=>hR a b _ _ (st _ _ _ d f) z) fa) s
  ·rw [z0v,if_neg (by rw [h];decide),N2];exact z01 (λ a b z=>hR a b _ _ (st _ _ _ d f) z) fa
 ·have e:i=n:=by omega
  subst e;exact .inl ⟨r.stop H' sm,j,λ l q=>hQ l H' ys sm q fa⟩
theorem z7a {S:Hp->Hp->Prop} {K:b0} {a:Addr} {xs:List V} {H1:Hp} (hs :∀H,S H1 H->S H H) (hq :∀H,S H1 H->SqL K H a xs):RunsR S (Itl K a) H1 xs.length (λ i v _=>xs[i]? = some v):=
 ⟨λ i b H s=>⟨xs,xs[i],hq H s,by simp [b]⟩,λ H s=>⟨xs,hq H s,t0 _⟩,λ i b H v c s y=>by obtain ⟨e,y⟩:=y;subst e;exact ⟨hs _ s,y xs (hq _ s)⟩⟩
theorem zdb {S:Hp->Hp->Prop} {K:b0} {a:Addr} {xs:List V} {H1:Hp} (hs :∀H,S H1 H->S H H) (hq :∀H,S H1 H->SqT K H a xs):RunsR S (Itt K a) H1 xs.length (λ i v _=>xs[i]? = some v):=
 ⟨λ i b H s=>⟨xs,xs[i],hq H s,by simp [b]⟩,λ H s=>⟨xs,hq H s,t0 _⟩,λ i b H v c s y=>by obtain ⟨e,y⟩:=y;subst e;exact ⟨hs _ s,y xs (hq _ s)⟩⟩
theorem zeu {S:Hp->Hp->Prop} {K:b0} {a:Addr} {xs:List V} {tl te:TE} {tc:TT} {g:TG} {m:Nat} {fr:List (Nat×Str)} {σ:St} {H H1:Hp} {Q:VK} (R:V->V->Hp->Prop) (s0:S H1 H1) (st :∀a b c,S a b->S b c->S a c) (hs :∀H,S H1 H->S H H) (hR :∀x y H H',S H H'->R x y H->R x y H')
  (htl :∀R:VK,R (.ref a) H1->tl σ H R) (hq :∀H,S H1 H->SqL K H a xs) (hn:xs.length<=sizeLine)
  (body :∀v∈xs,∀H,S H1 H->∀KT:VK,(∀y H',S H H'->R v y H'->KT y H')->∀KF:Hp->Prop,
   g v (cStG σ fr (R1 m none)) H λ σ6 H6=>∃us,us.length=m/\σ6=cStG σ fr us/\tc (cStG σ fr us) H6 λ b H2=>if b=true then te (cStG σ fr us) H2 KT else KF H2)
  (hQ :∀l H' ys,S H1 H'->H' l=none->All2 (λ x y=>R x y H') xs ys->Q (.ref l) (upd H' l (.lst ys))):tCompG (iList K tl) m fr g tc te σ H Q:=by
 refine htl _ ⟨a,rfl,⟨xs,hq _ s0⟩,z1m s0 st (λ _=>true) (λ i y H=>R (xs[i]?.getD .non) y H) (λ i y H H' s z=>hR _ _ _ _ s z) (z7a hs hq) hn (λ i u v H s j KT KF k f=>?_) λ l H' ys s q n=>hQ l H' ys s q ?_⟩
 ·refine body v (G0 j) H s KT (λ y H' p t=>k rfl y H' p ?_) KF;rw [j];exact t
 ·rw [List.filter_eq_self.mpr (λ _ _=>rfl)] at n;have o :∀(d:List Nat) (ys:List V),All2 (λ i y=>R (xs[i]?.getD .non) y H') d ys->All2 (λ x y=>R x y H') (d.map λ i=>xs[i]?.getD .non) ys:=by
   intro d;induction d with
   | nil=>intro ys h;cases h;exact .nil
   | cons i d ih=>intro ys h;cases h with|cons a r=>exact .cons a (ih _ r)
  have h:=o _ _ n;have e:(j1 xs.length).map (λ i=>xs[i]?.getD V.non)=xs:=by
   apply A6
   ·simp
   ·intro i k f;simp only [j0a,K9,B0 f,Y9]
  rwa [e] at h
theorem zil {S:Hp->Hp->Prop} {n:Nat} {H1:Hp} (hs :∀H,S H1 H->S H H):RunsR S (Itr 0 n) H1 n (λ i v _=>v=.int (i:Nat)):=
 ⟨λ i a H s=>a,λ H s=>t0 _,λ i a H v b s y=>by obtain ⟨e,y⟩:=y;subst e;exact ⟨hs _ s,by rw [y,g7]⟩⟩
theorem zfy {R:V->V->Prop} {xs ys:List V} (fa:All2 (λ (i:Nat) y=>R (xs[i]?.getD .non) y) (j1 xs.length) ys):All2 R xs ys:=by
 have d :∀(b:List Nat) (ys:List V),All2 (λ i y=>R (xs[i]?.getD .non) y) b ys->All2 R (b.map λ i=>xs[i]?.getD .non) ys:=by
  intro b;induction b with
  | nil=>intro ys h;cases h;exact .nil
  | cons i b ih=>intro ys h;cases h with|cons a r=>exact .cons a (ih _ r)
 have h:=d _ _ fa;have e:(j1 xs.length).map (λ i=>xs[i]?.getD V.non)=xs:=by
  apply A6
  ·simp
  ·intro i f c;simp only [j0a,K9,B0 c,Y9]
 rwa [e] at h
theorem zae {S:Hp->Hp->Prop} {K:b0} {a:Addr} {xs:List V} {tl te:TE} {tc:TT} {g:TG} {m:Nat} {fr:List (Nat×Str)} {σ:St} {H H1:Hp} {Q:VK} (R:V->V->Hp->Prop) (s0:S H1 H1) (st :∀a b c,S a b->S b c->S a c) (hs :∀H,S H1 H->S H H) (hR :∀x y H H',S H H'->R x y H->R x y H')
  (htl :∀R:VK,R (.ref a) H1->tl σ H R) (hq :∀H,S H1 H->SqT K H a xs) (hn:xs.length<=sizeLine)
  (body :∀v∈xs,∀H,S H1 H->∀KT:VK,(∀y H',S H H'->R v y H'->KT y H')->∀KF:Hp->Prop,
   g v (cStG σ fr (R1 m none)) H λ σ6 H6=>∃us,us.length=m/\σ6=cStG σ fr us/\tc (cStG σ fr us) H6 λ b H2=>if b=true then te (cStG σ fr us) H2 KT else KF H2)
  (hQ :∀l H' ys,S H1 H'->H' l=none->All2 (λ x y=>R x y H') xs ys->Q (.ref l) (upd H' l (.lst ys))):tCompG (iTup K tl) m fr g tc te σ H Q:=by
 refine htl _ ⟨a,rfl,⟨xs,hq _ s0⟩,z1m s0 st (λ _=>true) (λ i y H=>R (xs[i]?.getD .non) y H) (λ i y H H' s z=>hR _ _ _ _ s z) (zdb hs hq) hn (λ i o v H s e KT KF f n=>?_) λ l H' ys s j d=>hQ l H' ys s j ?_⟩
 ·refine body v (G0 e) H s KT (λ y H' h k=>f rfl y H' h ?_) KF;rw [e];exact k
 ·rw [List.filter_eq_self.mpr (λ _ _=>rfl)] at d;exact zfy (R:=λ x y=>R x y H') d
end L2
set_option maxHeartbeats 1000000
namespace L2
open PySem PySem.Spec PyProof.Rows
section
variable {prog:Program} {w:R0} {A:V1} {E:Value->u0->Prop} {s:u0}
theorem stops {h1:Heap} {Q:Option Value->u0->Prop} (hh:A.handled=none) (q :∀h',(∀b o,h1.get? b=some o->h'.get? b=some o)->Q none { s with heap:=h' }) :
  W0 (u1 prog w) A.in1 (do raiseNew (<-newExc (.type "StopIteration") [])) (λ (fin:S7) s'=>∃v,fin=.done (.ret v)/\W0 (u1 prog w) A (Z2 (some v)) Q E s')
   (λ e s'=>W0 (u1 prog w) A (do if <-isInstance e (.type "StopIteration") then Z2 none else throw e) Q E s') { s with heap:=h1 }:=by
 refine d0 ?_;simp only [newExc,newTuple];refine d0 (X2 (d0 (m:=Q9 _ _) (wpAny_of_eq (a:=U2) (by first|rfl|(simp only [Q9];rfl)) (X2 ?_ (by size_fits)))) (by size_fits));simp only [raiseNew];refine d0 (wpAny_handled ?_);rw [show A.in1.handled=none from hh];refine d0 (F0 (wpAny_throw ?_));refine d0 (P8 (T:="StopIteration") (b:=true) ⟨_,Y0 _ rfl,rfl⟩ isSubtype_stop ?_);exact F0 (q _ λ b o e=>C0 _ (C0 _ e))
end
end L2
set_option maxHeartbeats 400000
namespace HT
open PySem PySem.Spec PyProof.Rows L2
variable {prog:Program} {w:R0} {A:V1} {E:Value->u0->Prop} {s:u0}
end HT
namespace L2
open PySem PySem.Spec PyProof.Rows
theorem zlz {names:List (Str×M5)} {ns:List Str} {Q:Str×M5->Prop} (h:(names.all λ y=>y.2 != U1 || ns.contains y.1)=true) (q :∀n,n∈ns->∀k,Q (n,k)) :∀y∈names,y.2=U1->Q y:=λ y c e=>by
 have z:=List.all_eq_true.mp h y c;rw [e] at z;have z:ns.contains y.1=true:=by simpa using z
 obtain ⟨a,b⟩:=y;exact q a (by simpa using z) b
theorem zh7 {S:Hp->Hp->Prop} {ta:TA} {te:TE} {tc:TT} {g:TG} {m n:Nat} {fr:List (Nat×Str)} {σ:St} {H H1:Hp} {Q:VK} (p:Nat->Bool) (R:Nat->V->Hp->Prop) (s0:S H1 H1) (st :∀a b c,S a b->S b c->S a c) (hs :∀H,S H1 H->S H H) (hR :∀i y H H',S H H'->R i y H->R i y H')
  (hta :∀T:List V->Hp->Prop,T [.int (n:Nat)] H1->ta σ H T) (hn:n<=sizeLine)
  (body :∀i,i < n->∀H,S H1 H->∀(KT:VK) (KF:Hp->Prop),(p i=true->∀y H',S H H'->R i y H'->KT y H')->(p i=false->∀H',S H H'->KF H')->
   g (.int (i:Nat)) (cStG σ fr (R1 m none)) H λ σ6 H6=>∃us,us.length=m/\σ6=cStG σ fr us/\tc (cStG σ fr us) H6 λ b H2=>if b=true then te (cStG σ fr us) H2 KT else KF H2)
  (hQ :∀l H' ys,S H1 H'->H' l=none->All2 (λ i y=>R i y H') ((j1 n).filter p) ys->Q (.ref l) (upd H' l (.lst ys))):tCompG (iRng1 ta) m fr g tc te σ H Q:=by
 have b:(n:Int) < 2 ^ 62:=Int.lt_of_le_of_lt (Int.ofNat_le.mpr hn) (by decide);refine hta _ ⟨n,rfl,by omega,b,?_⟩;exact z1m s0 st p R hR (zil hs) hn (λ i e v H s f KT KF h d=>by subst f;exact body i e H s KT KF h d) hQ
theorem qs_ret {X:Cx} {pos:Pos} {e:Expr} {te:TE} (h:QE X e te):QS X (.Return (some e) pos) (tRet te):=⟨ps_ret h.run⟩
section
variable {prog:Program} {w:R0} {A:V1} {E:Value->u0->Prop} {s:u0}
theorem zgx :∀{vs:List Value} {ss:List Str},j39 vs ss->vs.length=ss.length
 | _,_,.nil=>rfl
 | _,_,.cons y t h=>by rw [P0,P0,zgx h]
theorem zf0 :∀{vs:List Value} {ss:List Str},j39 vs ss->∀v∈vs,∃a,strKind.keyOf v=some a
 | _,_,.nil,v,h=>absurd h j0
 | _,_,.cons y t h,v,hv=>by
  rcases List.mem_cons.mp hv with rfl|hv
  ·exact ⟨_,rfl⟩
  ·exact zf0 h v hv
theorem z78 :∀{vs:List Value} {ss:List Str},j39 vs ss->Vals (ss.map V.str) vs
 | _,_,.nil=>.nil
 | _,_,.cons n t h=>.cons ⟨t,rfl⟩ (z78 h)
theorem z8d :∀{ss:List Str} {us:List Value},us.length=ss.length->(∀(j:Nat) (u:Value),us[j]? = some u->∃(i:Str) (t:Tok),ss[j]? = some i/\u=r6 i t)->j39 us ss
 | [],us,hl,_=>by have z:us=[]:=List.eq_nil_of_length_eq_zero hl;subst z;exact .nil
 | n :: ss,us,hl,h=>by
  cases us with
  | nil=>cases hl
  | cons u us=>obtain ⟨i,t,e,rfl⟩:=h 0 u rfl;have e:n=i:=P1 e;subst e;exact .cons n t (z8d (Nat.succ.inj hl) λ j v e=>h (j + 1) v (by simpa using e))
theorem zd0 {v:Value} {Q:Value->u0->Prop} {ss:List Str} (hn:ss.length < 64)
  (hc :∀R:List Value->u0->Prop,(∀h' tk vs,(∀b o,s.heap.get? b=some o->h'.get? b=some o)->j39 vs ss->R vs { s with heap:=h',toks:=tk })->W0 (u1 prog w) A.in1 (collect v) R E s)
  (h :∀(h1 h':Heap) (tk:Nat) (out:Array Value) (ss':List Str) (e:Nat),(∀b o,s.heap.get? b=some o->h1.get? b=some o)->(∀b o,h1.get? b=some o->h'.get? b=some o)->h'.get? h1.objs.size=some { cls:=.type "list",data:=.seq out e }->j39 out.toList ss'->ss'.Perm ss->sortedS ss'=true->Q (.ref h1.objs.size) { s with heap:=h',toks:=tk }) :
  W0 (u1 prog w) A (call (.builtin "sorted") [v]) Q E s:=by
 refine B7 kind_sorted plain_sorted entry_sorted (args_sorted1 _) ?_;unfold j04.«sorted»;refine d0 (m:=checkCount "sorted" 1 1 _) (F0 (d0 (hc _ λ h1 tk vs n a=>?_)));have f:vs.length < 64:=by rw [zgx a];exact hn
 refine d0 (j08 ?_ (A0 (V2 f) (by decide)));have c:(h1.push (m7 "list" vs.toArray 0)).get? h1.objs.size=some (m7 "list" vs.toArray 0):=Y0 _ rfl;have y:KeysOf strKind (pairsOf vs):=λ p k=>by
  have:p.1∈vs:=by have:=(G8 (show (p.1,p.2)∈vs.zip vs by simpa [pairsOf] using k)).1;exact this
  exact zf0 a _ this
 refine d0 (D4 (B3 j3h ⟨_,c,rfl⟩ j31 (list_sort_treeK strKind_oneLt c y (λ B z r e=>by subst e;exact keyKind_strs a) f λ q l j=>⟨_,rfl,?_⟩) (j41 _)));obtain ⟨ss',g,u,t⟩:=sorted_out_str a l j;obtain ⟨e,i⟩:=sortedHeap_at (out:=j2i (λ x=>x.snd) (arrOf q)) c;refine F0 ⟨_,rfl,h h1 _ tk _ ss' e n (λ b o d=>?_) i g u t⟩;have lt:=Q0 d;refine (sortedHeap_old (C1 lt) ?_).trans (C0 _ d);rw [size_push'];exact j2 lt
end
section
variable {X:Cx}
theorem zb4 (hcalm:X.calm=true):CallR X (.builtin "sorted") (λ xs H Q=>∃a kvs ss,xs=[.ref a]/\H a=some (.dK kvs)/\kvs.map (·.1)=ss.map Sum.inr/\ss.length < 64/\∀(l:Addr) (ss':List Str),H l=none->ss'.Perm ss->sortedS ss'=true->Q (.ref l) (upd H l (.lst (ss'.map V.str)))):=by
 intro P s σ H xs us Q I r h;obtain ⟨a,kvs,ss,rfl,N,S,m,q⟩:=h;obtain ⟨u,rfl,K⟩:=vals1 r;cases K;obtain ⟨J,T,c,n,L⟩:=dk_of I.hok N;obtain ⟨Z,M⟩:=L.dictAt;refine zd0 m (λ R F=>?_) λ v w d E ss' e G D g i p r=>?_
 ·have keys:c.map (·.1)=ss.map Sum.inr:=n.keys.symm.trans S;have C:c.length=ss.length:=by have:=congrArg S5 keys;simpa using this
  refine j3a (PySem.W.kdl_dict T) (show X.A.in1.handled=none from I.ok.hd hcalm) M (by rw [<-n.length];exact J) λ w d Y k f=>F w d _ k (z8d (by rw [P2,f.1,C]) λ j u e=>?_);obtain ⟨y,x,O,U⟩:=f.2 j u (by rw [<-o6];exact e);have b:(c.map (·.1))[j]? = some y:=by rw [O0,O];rfl
  rw [keys,O0] at b;cases en:ss[j]? with
  | none=>rw [en] at b;cases b
  | some i=>
   rw [en] at b;have b:Sum.inr i=y:=P1 b;subst b;rcases z0n (show keyIs (.inr i) u=true from U) with ⟨_,_,z,_⟩|⟨i',t,z,rfl⟩
   ·cases z
   ·cases z;exact ⟨i,t,rfl,rfl⟩
 ·have B:Inv X P σ H { s with heap:=v }:=I.kept (t':=s.toks) G;refine ⟨.ref v.objs.size,_,B.laid (t':=d) (o:=.lst (ss'.map V.str)) D (t0 _) ⟨?_,E.toList,e,z78 i,by simpa using g⟩,rfl,q _ ss' (B.hok.fresh (t0 _)) p r⟩;rw [o0,p.length_eq];exact A0 (V2 m) (by decide)
end
def rIndex:V->List V->Hp->VK->Prop:=λ x vs H Q=>∃(l:Addr) (ss:List Str) (z:Str) (j:Nat),x=.ref l/\vs=[.str z]/\H l=some (.lst (ss.map V.str))/\ss.length<=1000/\ss[j]? = some z/\(∀m,m < j->ss[m]?≠some z)/\Q (.int (j:Nat)) H
section
variable {X:Cx}
theorem zn2 {ss:List Str} :∀{us:List Value},Vals (ss.map V.str) us->∀(j:Nat) (u:Value),us[j]? = some u->∃y t,ss[j]? = some y/\u=r6 y t:=by
 induction ss with
 | nil=>intro us r j u e;rw [L4] at r;cases r;simp at e
 | cons n ss ih=>
  intro us r j u e;rw [X0] at r;cases r with
  | cons r1 r2=>
   obtain ⟨t,rfl⟩:=r1;cases j with
   | zero=>rw [Z1] at e;cases e;exact ⟨n,t,rfl,rfl⟩
   | succ j=>rw [S1] at e;exact ih r2 j u e
theorem zl6:MtM X "list.index" rIndex:=by
 intro O s σ H x K v M Q I w p h;obtain ⟨l,B,z,j,rfl,rfl,G,L,i,g,q⟩:=h;cases w;obtain ⟨u,rfl,A⟩:=p.one;obtain ⟨t,rfl⟩:=A;obtain ⟨J,c,n,r,N,e⟩:=I.lstM G;have lt:j < c.length:=by rw [<-r.length,o0];exact (List.getElem?_eq_some_iff.mp i).1
 let ev:Value->Bool:=λ y=>match y with | .str a _=>a == z|_=>false
 have at_ :∀m (g:m < c.toArray.size),∃y f,B[m]? = some y/\c.toArray[m]=r6 y f:=λ m g=>zn2 r m _ ((B0 (show m < c.length by simpa using g)).trans (by simp));refine j3j F.slot_list_index ⟨_,e,rfl⟩ F.entry_list_index (F.args_list_index_2 _ _) (SeqAt.list_indexAt l c.toArray n none #[] (.str z t) ev j (by simpa using lt) ?_ ?_ ?_) ⟨e,λ y D=>?_,?_⟩
 ·have:=(List.getElem?_eq_some_iff.mp i).1;have:(j:Int) < 1000:=by omega
  exact Int.lt_trans this (by decide)
 ·obtain ⟨y,f,b,d⟩:=at_ j (by simpa using lt);rw [d];rw [i] at b;cases b;exact beq_self_eq_true z
 ·intro m k C;obtain ⟨y,f,b,d⟩:=at_ m k;rw [d];refine beq_eq_false_iff_ne.mpr λ e=>g m C ?_;rw [b,e]
 ·obtain ⟨m,k,o⟩:=Array.mem_iff_getElem.mp D;obtain ⟨E,f,b,d⟩:=at_ m k;rw [d] at o;subst o;exact j26 E f z t
 ·exact ⟨.int (j:Nat),H,I.tok _,⟨_,rfl⟩,q⟩
theorem zhv {o e:Expr} {es:List Expr} {to:TE} {t:TA} {apos cpos:Pos} (ho:PE X o to) (ha:PA X (e :: es) t)
  (hbase:U3 o "index" X.env (C3 o X.env)=C3 o X.env:=by rfl)
  (hfew:((F4 cpos (N1 (e :: es) X.env)).all (λ x=>!x.1) && (R9 cpos (Y6 [] X.env)).all (λ x=>x.1.isSome) && decide ((e :: es).length + ([]:List E6).length + (if ([]:List E6).isEmpty then 0 else 1) < 30))=true:=by rfl)
  (hline:(apos.endLine == cpos.line)=true:=by rfl) (hs:N1 (e :: es) X.env=(false,C3 e X.env) :: N1 es X.env:=by rfl) (hplain:(F4 cpos (N1 es X.env)).any (·.1)=false:=by rfl) :
  PE X (.Call (.Attribute o "index" apos) (e :: es) [] cpos) (tBM X.K "list" rIndex to t):=pe_bm N5 PySem.F.slot_list_index PySem.F.type_list_index zl6 ho ha hbase hfew hline hs hplain
end
noncomputable def pickV (xs:List V) (lo hi st:Option Int):List V:=(sliceRange (T2 lo hi st xs.length).1 (T2 lo hi st xs.length).2.1 (T2 lo hi st xs.length).2.2).filterMap λ i=>xs[i]?
theorem zjr {xs:List V} {lo hi st:Option Int} {y:V} (h:y∈pickV xs lo hi st):y∈xs:=by obtain ⟨i,_,e⟩:=List.mem_filterMap.mp h;exact G0 e
theorem zd8 {xs:List V} {us:List Value} (r:Vals xs us) :∀is:List Nat,Vals (is.filterMap λ i=>xs[i]?) (is.filterMap λ i=>us[i]?)
 | []=>.nil
 | i :: is=>by
  have a:=zd8 r is;have b:=r.length;cases e:xs[i]? with
  | none=>have f:us[i]? = none:=J3 (by rw [<-b];exact List.getElem?_eq_none_iff.mp e);rw [j2e e,j2e f];exact a
  | some x=>obtain ⟨u,d,c⟩:=r.get e;rw [j2d e,j2d d];exact .cons c a
theorem zj5 {xs:List V} {lo hi:Option Int} {k:Int} (hk:0 < k):(pickV xs lo hi (some k)).length<=xs.length:=by
 refine A0 (j4 _ _) ?_;have e:(T2 lo hi (some k) xs.length).2.2=k:=rfl;have d:0<=(T2 lo hi (some k) xs.length).1:=by
  cases lo with
  | none=>show 0<=(if k > 0 then (0:Int) else _);rw [if_pos hk];exact j0j _
  | some i=>show 0<=(if k > 0 then max (0:Int) _ else _);rw [if_pos hk];exact Int.le_max_left _ _
 have c:(T2 lo hi (some k) xs.length).2.1<=(xs.length:Int):=by
  cases hi with
  | none=>show (if k > 0 then (xs.length:Int) else _)<=_;rw [if_pos hk];exact j0j _
  | some i=>show (if k > 0 then max (0:Int) (min _ (xs.length:Int)) else _)<=_;rw [if_pos hk];omega
 rw [e];generalize (T2 lo hi (some k) xs.length).1=a at d⊢;generalize (T2 lo hi (some k) xs.length).2.1=b at c⊢;unfold sliceRange;rw [o0,Y1,if_pos hk];by_cases z:a < b
 ·rw [if_pos z];have:(b - a + k - 1) / k < b - a + 1:=by
   apply Int.ediv_lt_of_lt_mul hk;have:(b - a + 1) * k=(b - a) * k + k:=by rw [Int.add_mul,Int.one_mul]
   have f:b - a<=(b - a) * k:=by have:=Int.mul_le_mul_of_nonneg_left (show (1:Int)<=k by omega) (show 0<=b - a by omega);omega
   omega
  omega
 ·rw [if_neg z];exact Q1 _
noncomputable def tSl3 (K:b0) (te:TE) (tl th ts:TO):TE:=λ σ H Q=>te σ H λ x H1=>tl σ H1 λ l H2=>th σ H2 λ u H3=>ts σ H3 λ k H4=>∃a xs,x=.ref a/\SqL K H4 a xs/\k≠some 0/\(pickV xs l u k).length<=sizeLine/\∀p,H4 p=none->Q (.ref p) (upd H4 p (.lst (pickV xs l u k)))
theorem zim {X:Cx} {e:Expr} {te:TE} {lo hi:Option Expr} {st:Expr} {tl th ts:TO} {pos p2:Pos} (he:PE X e te) (hl:PO X lo tl) (hu:PO X hi th) (hs:PO X (some st) ts):PE X (.Subscript e (.Slice lo hi (some st) p2) pos) (tSl3 X.K te tl th ts):=by
 intro d s σ H Q I h;refine j44 (thn (he d s σ H _ I h) λ v C ⟨x,H1,I1,r1,q1⟩=>?_);refine wpAny_Slice (thn (hl d C σ H1 _ I1 q1) λ g B ⟨l,H2,I2,pl,q2⟩=>thn (hu d B σ H2 _ I2 q2) λ p z ⟨u,H3,I3,pu,q3⟩=>thn (hs d z σ H3 _ I3 q3) λ j c ⟨k,H4,I4,pk,a,xs,ex,hx,k0,hz,q⟩=>?_);subst ex;cases r1;have f:Inv X d σ H4 { c with heap:=c.heap.push { cls:=.type "slice",data:=.fields #[g,p,j] } }:=I4.kept (t':=c.toks) λ b t q=>C0 _ q;obtain ⟨n,r,m,E⟩:=f.list hx;have y:=r.length;refine (show W0 (u1 X.prog X.w) X.A (j09 e (.Slice lo hi (some st) p2) (.ref a) (.ref c.heap.objs.size)) (EP X d σ Q) X.xe { c with heap:=c.heap.push { cls:=.type "slice",data:=.fields #[g,p,j] } } from ?_);refine j3g (ops:=[.ref a,.ref c.heap.objs.size]) m.isList.typeIs slot_list_getitem.lookup ?_ (by with_unfolding_all rfl);refine wpAny_getItem_list_slice m.isList (j10 ..) pl pu pk k0 ?_ (by rw [K0];omega);have D:slicePick n.toArray l u k=((sliceRange (T2 l u k xs.length).1 (T2 l u k xs.length).2.1 (T2 l u k xs.length).2.2).filterMap λ i=>n[i]?).toArray:=by unfold slicePick;rw [K0,<-y];simp only [M8]
 rw [D];exact ⟨.ref _,_,f.laid (t':=c.toks) (o:=.lst (pickV xs l u k)) (λ b t q=>C0 _ q) (t0 _) ⟨hz,_,0,zd8 r _,Y0 _ rfl⟩,rfl,q _ (f.hok.fresh (t0 _))⟩
noncomputable def rNeC (K:b0):R2:=λ x y H Q=>∃d e,IsPd K H d x/\IsPd K H e y/\d.canLay0=true/\e.canLay0=true/\d.depth<=60/\Q (.bl (!d.eqv e)) H
theorem op_neC {X:Cx} {k:Nat} (hr:Room k X.A):OpR X (B2 .NotEq) (rNeC X.K):=by intro o s σ H x y v u Q I i c h;obtain ⟨d,e,f,a,l,b,g,q⟩:=h;obtain ⟨n,m⟩:=z4e I d x v f i;obtain ⟨bs,j⟩:=z4e I e y u a c;exact SeqAt.compareNe_reads m j l b (room60 hr g) ⟨.bl _,H,I,rfl,q⟩
noncomputable def rCatA (K:b0):R2:=λ x y H Q=>∃a b xs ys,x=.ref a/\y=.ref b/\SqT K H a xs/\SqT K H b ys/\xs.length + ys.length<=sizeLine/\∀p H',Same H H'->SqT K H' p (xs++ys)->Q (.ref p) H'
theorem zdu {X:Cx}:OpR X (Q4 .Add) (rCatA X.K):=by
 intro i s σ H x y v u Q I g f h;obtain ⟨a,b,e,k,rfl,rfl,d,c,j,q⟩:=h;by_cases hy:k=[]
 ·subst hy;cases e with
  | nil=>exact zh8 i s σ H _ _ v u Q I g f ⟨a,b,[],rfl,rfl,d,c,q b H (Same.refl H) c⟩
  | cons x e=>exact z86 i s σ H _ _ v u Q I g f ⟨a,b,x :: e,[],rfl,rfl,d,c,by simp,j,λ _=>q a H (Same.refl H) (by rw [N2];exact d),λ z=>absurd rfl z⟩
 ·exact op_catS i s σ H _ _ v u Q I g f ⟨a,b,e,k,rfl,rfl,d,c,hy,j,q⟩
theorem qs_if {X:Cx} {pos:Pos} {c:Expr} {a b:List Stmt} {t:TT} {ta tb:TS} (hc:PT X c t) (ha:QSs X a ta) (hb:QSs X b tb):QS X (.If c a b pos) (tIfS t ta tb):=⟨ps_if hc ha.run hb.run⟩
theorem zkl :∀{ys:List V},(∀y∈ys,∃i:Int,y=.int i)->∃ms:List Int,ys=ms.map V.int
 | [],_=>⟨[],rfl⟩
 | y :: ys,h=>by obtain ⟨i,rfl⟩:=h y L0;obtain ⟨ms,rfl⟩:=zkl λ z a=>h z (V0 _ a);exact ⟨i :: ms,rfl⟩
theorem zln {f:List V->Hp->VK->Prop} {te tb:TE} {r:R2} {σ:St} {H:Hp} {Q:Bool->Hp->Prop} (h:te σ H λ x H1=>f [x] H1 λ y H2=>tb σ H2 λ z H3=>r y z H3 λ b H4=>∃k,b=.bl k/\Q k H4):tTest (tOp r (tCB f (tCons te tNil)) tb) σ H Q:=h
theorem z3z {c:TT} {a b:TS} {D:Ends} {σ:St} {H:Hp} (h:c σ H λ k H1=>if k=true then a D σ H1 else b D σ H1):tIfS c a b D σ H:=h
theorem ze5 {K:b0} {a:Addr} {xs:List V} {H1:Hp} (hq:SqL K H1 a xs):RunsR Same (IteL K a) H1 xs.length (λ i v H=>∃x p,xs[i]? = some x/\v=.ref p/\H p=some (.tup [.int (i:Nat),x])):=by refine ⟨λ i b H s=>⟨xs,xs[i],s.seq hq,by simp [b]⟩,λ H s=>⟨xs,s.seq hq,rfl⟩,λ i b H v e s y=>?_⟩;obtain ⟨p,c,rfl,f⟩:=y;obtain ⟨x,d,rfl⟩:=f xs (s.seq hq);exact ⟨Same.upd c,x,p,d,rfl,upd_same⟩
end L2
set_option maxHeartbeats 1000000
namespace L2
open PySem PySem.Spec PyProof.Rows
theorem z5p {K:b0} {a:Addr} {xs:List V} {tl te:TE} {tc:TT} {g:TG} {m:Nat} {fr:List (Nat×Str)} {σ:L2.St} {H H1:Hp} {Q:VK} (p:Nat->Bool) (R:Nat->V->Hp->Prop) (hR :∀i y H H',Same H H'->R i y H->R i y H') (htl :∀R:VK,R (.ref a) H1->tl σ H R) (hq:SqL K H1 a xs) (hn:xs.length<=sizeLine)
  (body :∀i,i < xs.length->∀v H,Same H1 H->xs[i]? = some v->∀(KT:VK) (KF:Hp->Prop),(p i=true->∀y H',Same H H'->R i y H'->KT y H')->(p i=false->∀H',Same H H'->KF H')->
   g v (cStG σ fr (R1 m none)) H λ σ6 H6=>∃us,us.length=m/\σ6=cStG σ fr us/\tc (cStG σ fr us) H6 λ b H2=>if b=true then te (cStG σ fr us) H2 KT else KF H2)
  (hQ :∀l H' ys,Same H1 H'->H' l=none->All2 (λ i y=>R i y H') ((j1 xs.length).filter p) ys->Q (.ref l) (upd H' l (.lst ys))):tCompG (iList K tl) m fr g tc te σ H Q:=
 htl _ ⟨a,rfl,⟨xs,hq⟩,z1m (Same.refl _) (λ _ _ _ a b=>a.trans b) p R hR (z7a (S:=Same) (λ _ _=>Same.refl _) λ H s=>s.seq hq) hn body hQ⟩
theorem zje {K:b0} {a:Addr} {xs:List V} {ta:TA} {te:TE} {tc:TT} {g:TG} {m:Nat} {fr:List (Nat×Str)} {σ:L2.St} {H H1:Hp} {Q:VK} (p:Nat->Bool) (R:Nat->V->Hp->Prop) (hR :∀i y H H',Same H H'->R i y H->R i y H') (hta :∀T:List V->Hp->Prop,T [.ref a] H1->ta σ H T) (hq:SqL K H1 a xs) (hn:xs.length<=sizeLine)
  (body :∀i,i < xs.length->∀v H,Same H1 H->(∃x p,xs[i]? = some x/\v=.ref p/\H p=some (.tup [.int (i:Nat),x]))->∀(KT:VK) (KF:Hp->Prop),(p i=true->∀y H',Same H H'->R i y H'->KT y H')->(p i=false->∀H',Same H H'->KF H')->
   g v (cStG σ fr (R1 m none)) H λ σ6 H6=>∃us,us.length=m/\σ6=cStG σ fr us/\tc (cStG σ fr us) H6 λ b H2=>if b=true then te (cStG σ fr us) H2 KT else KF H2)
  (hQ :∀l H' ys,Same H1 H'->H' l=none->All2 (λ i y=>R i y H') ((j1 xs.length).filter p) ys->Q (.ref l) (upd H' l (.lst ys))):tCompG (ieL K ta) m fr g tc te σ H Q:=
 hta _ ⟨a,xs,rfl,hq,z1m (Same.refl _) (λ _ _ _ a b=>a.trans b) p R hR (ze5 hq) hn body hQ⟩
theorem zl1 {K:b0} {tl te:TE} {tc:TT} {g:TG} {m:Nat} {fr:List (Nat×Str)} {σ:L2.St} {H:Hp} {Q:VK} (Pr:Addr->List V->Hp->Prop) (htl :∀R:VK,(∀a xs H1,Pr a xs H1->R (.ref a) H1)->tl σ H R) (hq :∀a xs H1,Pr a xs H1->SqL K H1 a xs/\xs.length<=sizeLine)
  (p:Nat->Bool) (R:Nat->V->Hp->Prop) (hR :∀i y H H',Same H H'->R i y H->R i y H')
  (body :∀a xs H1,Pr a xs H1->∀i,i < xs.length->∀v H,Same H1 H->xs[i]? = some v->∀(KT:VK) (KF:Hp->Prop),(p i=true->∀y H',Same H H'->R i y H'->KT y H')->(p i=false->∀H',Same H H'->KF H')->
   g v (cStG σ fr (R1 m none)) H λ σ6 H6=>∃us,us.length=m/\σ6=cStG σ fr us/\tc (cStG σ fr us) H6 λ b H2=>if b=true then te (cStG σ fr us) H2 KT else KF H2)
  (hQ :∀a xs H1,Pr a xs H1->∀l H' ys,Same H1 H'->H' l=none->All2 (λ i y=>R i y H') ((j1 xs.length).filter p) ys->Q (.ref l) (upd H' l (.lst ys))):tCompG (iList K tl) m fr g tc te σ H Q:=
 htl _ λ a xs H1 c=>⟨a,rfl,⟨xs,(hq a xs H1 c).1⟩,z1m (Same.refl _) (λ _ _ _ a b=>a.trans b) p R hR (z7a (S:=Same) (λ _ _=>Same.refl _) λ H s=>s.seq (hq a xs H1 c).1) (hq a xs H1 c).2 (body a xs H1 c) (hQ a xs H1 c)⟩
theorem z3s {K:b0} {a:Addr} {xs:List V} {tl te:TE} {tc:TT} {g:TG} {m:Nat} {fr:List (Nat×Str)} {σ:L2.St} {H H1:Hp} {Q:VK} (p:Nat->Bool) (R:Nat->V->Hp->Prop) (hR :∀i y H H',Same H H'->R i y H->R i y H') (htl :∀R:VK,R (.ref a) H1->tl σ H R) (hq:SqT K H1 a xs) (hn:xs.length<=sizeLine)
  (body :∀i,i < xs.length->∀v H,Same H1 H->xs[i]? = some v->∀(KT:VK) (KF:Hp->Prop),(p i=true->∀y H',Same H H'->R i y H'->KT y H')->(p i=false->∀H',Same H H'->KF H')->
   g v (cStG σ fr (R1 m none)) H λ σ6 H6=>∃us,us.length=m/\σ6=cStG σ fr us/\tc (cStG σ fr us) H6 λ b H2=>if b=true then te (cStG σ fr us) H2 KT else KF H2)
  (hQ :∀l H' ys,Same H1 H'->H' l=none->All2 (λ i y=>R i y H') ((j1 xs.length).filter p) ys->Q (.ref l) (upd H' l (.lst ys))):tCompG (iTup K tl) m fr g tc te σ H Q:=
 htl _ ⟨a,rfl,⟨xs,hq⟩,z1m (Same.refl _) (λ _ _ _ a b=>a.trans b) p R hR (zdb (S:=Same) (λ _ _=>Same.refl _) λ H s=>s.seqT hq) hn body hQ⟩
theorem e_cb1 {f:List V->Hp->VK->Prop} {te:TE} {σ:L2.St} {H:Hp} {Q:VK} (h:te σ H λ x H1=>f [x] H1 Q):tCB f (tCons te tNil) σ H Q:=h
theorem t_test {r:R2} {ta tb:TE} {σ:L2.St} {H:Hp} {Q:Bool->Hp->Prop} (h:ta σ H λ x H1=>tb σ H1 λ y H2=>r x y H2 λ x H3=>∃c,x=.bl c/\Q c H3):tTest (tOp r ta tb) σ H Q:=h
theorem t_or {t u:TT} {σ:L2.St} {H:Hp} {Q:Bool->Hp->Prop} (h:t σ H λ c H1=>if c=true then Q true H1 else u σ H1 Q):tOr t u σ H Q:=h
theorem sq_if {c:TT} {a b rest:TS} {D:Ends} {σ:L2.St} {H:Hp} (h:c σ H λ k H1=>if k=true then a { D with nx:=rest D } σ H1 else b { D with nx:=rest D } σ H1):tSeq (tIfS c a b) rest D σ H:=h
theorem sq_ret {te:TE} {D:Ends} {σ:L2.St} {H:Hp} (h:te σ H D.rt):tRet te D σ H:=h
section
variable {X:Cx} {pins:zP} {σ:St} {H:Hp} {s:u0} {a:Addr} {u v:HO}
theorem Inv.retold (I:Inv X pins σ H s) (e:H a=some u) (nt :∀xs,u≠.tup xs) (nb :∀ps,u≠.tbl ps) (no :∀c,u≠.own c) (nf :∀o w,X.H₀ a≠some (.frz o w)) (ok:ObjOk X.prog X.w (upd H a v) s.heap a v):Inv X pins σ (upd H a v) s:=by
 have ne :∀{b:Addr},H b=none->b≠a:=λ n z=>by rw [z,e] at n;cases n
 refine ⟨I.ok,I.os,I.bare,⟨I.base.keep,I.base.slot,λ b o q n j=>?_,I.base.there,λ b xs q=>?_,λ b o w q=>?_,λ b ps q=>?_⟩,I.loc,I.cell,?_,λ x c q=>?_,λ p f=>?_,λ b o q=>?_,I.len⟩
 ·have z:=I.base.free b o q n j;rw [upd_ne (ne z)];exact z
 ·have z:=I.base.tups b xs q;rw [upd_ne (λ y=>by rw [y,e] at z;exact nt xs (P1 z))];exact z
 ·have z:=I.base.frzs b o w q;rw [upd_ne (λ y=>by rw [y] at q;exact nf o w q)];exact z
 ·obtain ⟨g,z⟩:=I.base.tbls b ps q;exact ⟨g,by rw [upd_ne (λ y=>by rw [y,e] at z;exact nb _ (P1 z))];exact z⟩
 ·rw [upd_ne (ne I.free)];exact I.free
 ·rw [upd_ne (ne (I.freeC x c q))];exact I.freeC x c q
 ·obtain ⟨i,d,h⟩:=I.pin p f;exact ⟨i,by rw [upd_ne (ne d)];exact d,h⟩
 ·by_cases z:b=a
  ·subst z;rw [upd_same] at q;cases q;exact ok
  ·rw [upd_ne z] at q;refine (I.hok b o q).stay (λ _ _ _ y=>y) (λ c y=>?_) λ c xs y=>?_
   ·rw [upd_ne (λ x=>by rw [x,e] at y;exact no b (P1 y))];exact y
   ·rw [upd_ne (λ x=>by rw [x,e] at y;exact nt xs (P1 y))];exact y
theorem Inv.noFrz {kvs:zK} (I:Inv X pins σ H s) (e:H a=some (.dK kvs)) :∀o w,X.H₀ a≠some (.frz o w):=λ o w q=>by have z:=I.base.frzs a o w q;rw [e] at z;cases z
theorem Inv.freeze {kvs:zK} {ob:Obj} (I:Inv X pins σ H s) (e:H a=some (.dK kvs)) (ho:s.heap.get? a=some ob):Inv X pins σ (upd H a (.frz ob (.dK kvs))) s:=
 I.retold e (λ _ z=>by cases z) (λ _ z=>by cases z) (λ _ z=>by cases z) (I.noFrz e) ⟨ho,(show ObjOk X.prog X.w H s.heap a (.dK kvs) from I.hok a _ e)⟩
theorem Inv.thaw {kvs:zK} {ob:Obj} (I:Inv X pins σ H s) (nf :∀o w,X.H₀ a≠some (.frz o w)) (e:H a=some (.frz ob (.dK kvs))):Inv X pins σ (upd H a (.dK kvs)) s:=
 I.retold e (λ _ z=>by cases z) (λ _ z=>by cases z) (λ _ z=>by cases z) nf (show ObjOk X.prog X.w H s.heap a (.frz ob (.dK kvs)) from I.hok a _ e).2
end
theorem zcx {α β:Type} {F:α->β->Prop} :∀{l:List α} {m:List β} {i:Nat} {x:α},E8 F l m->l[i]? = some x->∃y,m[i]? = some y/\F x y
 | _,_,i,x,.nil,e=>by simp at e
 | _,_,0,x,.cons a _,e=>by rw [Z1] at e;cases e;exact ⟨_,Z1,a⟩
 | _,_,i + 1,x,.cons _ r,e=>by rw [S1] at e;obtain ⟨y,c,b⟩:=zcx r e;exact ⟨y,by rw [S1];exact c,b⟩
theorem frz_at {X:Cx} {pins:zP} {σ:St} {H:Hp} {s:u0} {a:Addr} {ob:Obj} {kvs:zK} {es:Array DictEntry} {ep:Nat} (I:Inv X pins σ H s) (hob:ob.data=.dict es ep) (e:H a=some (.frz ob (.dK kvs))) :
  ∃vs,KV kvs vs/\vs.length=kvs.length/\s.heap.DictAt (z13 X.prog X.w) a vs ep:=by
 obtain ⟨h,_,_,vs,b,g⟩:=(show ObjOk X.prog X.w H s.heap a (.frz ob (.dK kvs)) from I.hok a _ e)
 obtain ⟨k,f⟩:=g.dictAt;refine ⟨vs,b,b.length.symm,?_⟩;obtain ⟨o,i,c,l,d,j⟩:=id f;rw [h] at c;cases c;rw [hob] at d;cases d;exact f
section
variable {X:Cx}
def tThaw (t:TE):TE:=λ σ H Q=>∃a kvs,H a=some (.dK kvs)/\t σ H λ v H4=>(∃ob,H4 a=some (.frz ob (.dK kvs)))/\Q v (upd H4 a (.dK kvs))
def sThaw (t:TS):TS:=λ D σ H=>∃a kvs,H a=some (.dK kvs)/\t { D with nx:=λ σ' H4=>(∃ob,H4 a=some (.frz ob (.dK kvs)))/\D.nx σ' (upd H4 a (.dK kvs)) } σ H
theorem zkk {st:Stmt} {t:TS} (h:PS X st t):PS X st (sThaw t):=by
 intro c s σ H D I ⟨a,kvs,ea,q⟩;refine thn (h c s σ H _ I q) λ f k z=>?_;cases f with
 | next=>obtain ⟨d,i,g,⟨j,b⟩,e⟩:=z;exact ⟨d,_,g.thaw (I.noFrz ea) b,e⟩
 | brk=>exact z
 | cont=>exact z
 | ret u=>exact z
end
theorem zea {K:b0} {H:Hp} {l c:Addr} {o:HO} {kvs:zK} {xs:List V} (e:H l=some (.dK kvs)) (h:SqT K H c xs):SqT K (upd H l o) c xs:=by
 rcases h with (h|⟨ob,h⟩)|h
 ·exact .inl (.inl (by rw [upd_ne (ne_of h e (by intro z;cases z))];exact h))
 ·exact .inl (.inr ⟨ob,by rw [upd_ne (ne_of h e (by intro z;cases z))];exact h⟩)
 ·exact .inr h
theorem zg4 {te:TE} {i:Nat} {rest:TS} {D:Ends} {σ:L2.St} {H:Hp} (h:tThaw te σ H λ x H1=>rest D (σ.set i (some x)) H1):tSeq (sThaw (tAsg te (gName i))) rest D σ H:=h
def kasRun {α:Type} (c:Nat->Nat->Bool) (n:Nat):R5 α->Option α
 | .ret a=>some a
 | .ask i j k=>if i < n/\j < n/\i≠j then kasRun c n (k (c i j)) else none
theorem zcv {α:Type} {c:Nat->Nat->Bool} {n:Nat} {cmp:Nat->Nat->(Bool->u0->Prop)->u0->Prop} {s:u0} {Q:α->u0->Prop} (hc :∀i j C,i < n->j < n->i≠j->C (c i j) s->cmp i j C s) :∀(t:R5 α) (a:α),kasRun c n t=some a->Q a s->t.kasWp cmp Q s
 | .ret b,a,h,q=>by cases h;exact q
 | .ask i j k,a,h,q=>by
  unfold kasRun at h;by_cases z:i < n/\j < n/\i≠j
  ·rw [if_pos z] at h;exact hc i j _ z.1 z.2.1 z.2.2 (zcv hc (k (c i j)) a h q)
  ·rw [if_neg z] at h;cases h
end L2
set_option maxHeartbeats 400000
namespace L2
open PySem PySem.Spec PyProof.Rows
end L2
set_option maxHeartbeats 1000000
namespace L2
open PySem PySem.Spec PyProof.Rows
theorem zbu {te:TE} {σ:L2.St} {H:Hp} {Q:List V->Hp->Prop} (h:te σ H λ y H1=>Q [y] H1):tCons te tNil σ H Q:=h
section
variable {X:Cx}
def rNeL0 (K:b0):R2:=λ x y H Q=>∃a b xs,x=.ref a/\y=.ref b/\SqL K H a xs/\SqL K H b []/\Q (.bl (decide (xs≠[]))) H
theorem zgm {k:Nat} (hr:Room k X.A):OpR X (B2 .NotEq) (rNeL0 X.K):=by
 intro D s σ H x y v u Q I m l h;obtain ⟨a,b,t,rfl,rfl,r,p,q⟩:=h;cases m;cases l;obtain ⟨C,g,d,_⟩:=I.list r;obtain ⟨B,o,c,_⟩:=I.list p;cases o;have f:X.A.units < cLine:=Nat.lt_of_succ_lt (hu_of hr);have i:=g.length;cases t with
 | nil=>cases g;exact SeqAt.RcNeAt.lists (e:=λ _=>true) d.isList c.isList rfl f (λ j n _=>absurd n (R3 _)) X.prog X.w _ _ ⟨.bl _,H,I,rfl,q⟩
 | cons z zs=>refine SeqAt.RcNeAt.lists_lengths d.isList c.isList ?_ f X.prog X.w _ _ ⟨.bl _,H,I,rfl,q⟩;rw [K0,<-i];rfl
end
structure ZLAt (h:Heap) (z T U i j a b:Addr) (n:Nat) (f:Value):Prop where
 z:IsZip h z T U f
 t:IsPair h T (.ref i) (.ref j)
 u :∃p q,IsPair h U p q
 i:h.IsListIter i a n
 j:h.IsListIter j b n
def jl (c:Nat):List (List Nat)->List Nat
 | []=>[]
 | [a]=>a
 | a :: b :: r=>a++c :: jl c (b :: r)
end L2
namespace L2
open PySem PySem.Spec PyProof.Rows PySem.NumText
end L2
namespace L2
open PySem PySem.Spec PyProof.Rows
end L2
open PySem PySem.W PyProof.Rows
set_option maxHeartbeats 4000000
namespace TJ
section
variable (p:Program) (w:R0) (n₀:Nat) (ann:Option Value) (code:Code) (q:Pos)
theorem zis {n m:Nat} :∀{s s' s'':u0} {t t' t'':j43},segGo d3 p w n₀ ann 1 n s t=some (s',t')->segGo d3 p w n₀ ann 1 m s' t'=some (s'',t'')->
  segGo d3 p w n₀ ann 1 (n + m) s t=some (s'',t''):=by
 induction n with
 | zero=>
  intro s s' s'' t t' t'' h k;obtain ⟨rfl,rfl⟩:s=s'/\t=t':=by simpa [segGo] using h
  rw [d7];exact k
 | succ n ih=>
  intro s s' s'' t t' t'' h k;rw [show n + 1 + m=n + m + 1 by omega];unfold segGo at h⊢;cases he:endAt 1 t with
  | some f=>rw [he] at h;cases h
  | none=>
   rw [he] at h;cases hk:stepOk n₀ ann t with
   | false=>rw [hk] at h;cases h
   | true=>
    rw [hk] at h;cases hs:step (denote d3) p w s t with
    | halt o s₂=>rw [hs] at h;cases h
    | go s₂ t₂=>rw [hs] at h;exact ih h k
def Steps (c:Nat) (s:u0) (t:j43) (s':u0) (t':j43):Prop:=∃n,n<=c/\segGo d3 p w n₀ ann 1 n s t=some (s',t')
def Goes {α:Type} (c:Nat) (x:Sem α) (s:u0) (pos:Pos) (a:α) (s':u0) (pos':Pos):Prop:=
 ∀(K:α->Sem Fin) (H:Value->Sem Fin) (gd:Bool->Bool) (lv:List Value->List Value),
  Steps p w n₀ ann c s ⟨x.wrap K H gd lv,code,pos,[topFrame q]⟩ s' ⟨K a,code,pos',[topFrame q]⟩
end
section
variable {p:Program} {w:R0} {n₀:Nat} {ann:Option Value} {code:Code} {q:Pos}
theorem Steps.trans {c d:Nat} {s s' s'':u0} {t t' t'':j43} (h:Steps p w n₀ ann c s t s' t') (k:Steps p w n₀ ann d s' t' s'' t''):Steps p w n₀ ann (c + d) s t s'' t'':=by obtain ⟨n,b,h⟩:=h;obtain ⟨m,a,k⟩:=k;exact ⟨n + m,by omega,zis p w n₀ ann h k⟩
theorem Steps.refl {s:u0} {t:j43}:Steps p w n₀ ann 0 s t s t:=⟨0,t0 _,rfl⟩
theorem Steps.le {c d:Nat} {s s':u0} {t t':j43} (h:Steps p w n₀ ann c s t s' t') (l:c<=d):Steps p w n₀ ann d s t s' t':=let ⟨n,a,b⟩:=h;⟨n,A0 a l,b⟩
theorem Steps.one {s s':u0} {t t':j43} (he:endAt 1 t=none) (hk:stepOk n₀ ann t=true) (hs:step (denote d3) p w s t=.go s' t'):Steps p w n₀ ann 1 s t s' t':=by refine ⟨1,t0 _,?_⟩;unfold segGo;rw [he,hk,hs];rfl
variable {α β:Type} {s s' s'':u0} {pos pos' pos'':Pos} {a:α} {b:β} {c d:Nat}
theorem Goes.pure:Goes p w n₀ ann code q 0 (j33 a:Sem α) s pos a s pos:=λ _ _ _ _=>.refl
theorem Goes.le {x:Sem α} (h:Goes p w n₀ ann code q c x s pos a s' pos') (l:c<=d):Goes p w n₀ ann code q d x s pos a s' pos':=λ K H b e=>(h K H b e).le l
theorem Goes.bind {x:Sem α} {f:α->Sem β} (h:Goes p w n₀ ann code q c x s pos a s' pos') (k:Goes p w n₀ ann code q d (f a) s' pos' b s'' pos''):Goes p w n₀ ann code q (c + d) (x >>= f) s pos b s'' pos'':=by
 intro K H g i;have e:(x >>= f).wrap K H g i=x.wrap (λ a=>(f a).wrap K H g i) H g i:=by rw [Sem.bind_eq_wrap',Sem.wrap_wrap];rfl
 rw [e];exact (h _ H g i).trans (k K H g i)
theorem Goes.keep {x:Sem α} {vs:List Value} (h:Goes p w n₀ ann code q c x s pos a s' pos'):Goes p w n₀ ann code q c (x.keep vs) s pos a s' pos':=by intro K H b d;rw [Sem.keep_eq_wrap,Sem.wrap_wrap];exact h K H _ _
theorem Goes.holding {x:Sem α} {vs:List Value} (h:Goes p w n₀ ann code q c x s pos a s' pos'):Goes p w n₀ ann code q c (j15 vs x) s pos a s' pos':=by rw [holding_eq_keep];exact h.keep
theorem Goes.rule {tag:String}:Goes p w n₀ ann code q 1 (PySem.rule tag) s pos () s pos:=λ _ _ _ _=>.one rfl rfl rfl
theorem Goes.at' {pos₁:Pos}:Goes p w n₀ ann code q 1 (j38 pos₁) s pos () s pos₁:=λ _ _ _ _=>.one rfl rfl rfl
theorem Goes.loadPart {A:Addr} {o:Obj} {part:Option Value} (ho:s.heap.get? A=some o):Goes p w n₀ ann code q 1 (loadPart A part) s pos o s pos:=λ K H a c=>.one rfl rfl (by obtain ⟨heap,f,e,d,b⟩:=s;show (match heap.get? A with|some o=>Step.go _ _|none=>_)=_;have ho:heap.get? A=some o:=ho;rw [ho];rfl)
theorem Goes.updatePart {A:Addr} {o:Obj} {f:Obj->Obj} {part:Option Value} (ho:s.heap.get? A=some o) (hn:Nat.ble n₀ A=true):Goes p w n₀ ann code q 1 (updatePart A part f) s pos () { s with heap:=s.heap.update A f } pos:=λ K H a c=>
 .one rfl (by
  show (_ && (Nat.ble n₀ A || _ || _ || _))=true;rw [hn];rfl) (by
  obtain ⟨heap,g,e,d,b⟩:=s;have ho:heap.get? A=some o:=ho;show (if (heap.get? A).isSome=true then Step.go _ _ else _)=_;rw [ho];rfl)
theorem Goes.leaf {x:Sem α} {sT sT':SharedT} (n:Nat) (h :∀K H gd lv,segGoT d3 p w n₀ ann 1 n sT ⟨x.wrap K H gd lv,code,pos,[topFrame q]⟩=some (sT',⟨K a,code,pos',[topFrame q]⟩)) :
  Goes p w n₀ ann code q n x sT.abs pos a sT'.abs pos':=λ K H gd lv=>⟨n,t0 _,segGo_of (h K H gd lv)⟩
end
end TJ
open PySem PySem.W PyProof.Rows
namespace TJ
section
variable {p:Program} {w:R0} {n₀:Nat} {ann:Option Value} {code:Code} {q:Pos} {s:u0} {pos:Pos}
theorem Goes.forIn {γ β:Type} {c:Nat} {f:γ->β->Sem (ForInStep β)} {b:β} :∀{l:List γ},(∀x∈l,Goes p w n₀ ann code q c (f x b) s pos (.yield b) s pos)->Goes p w n₀ ann code q (l.length * c) (ForIn.forIn l b f) s pos b s pos
 | [],_=>by rw [F5];exact Goes.pure.le (Q1 _)
 | x :: l,h=>by rw [S4];have k:=Goes.forIn (l:=l) λ y a=>h y (V0 _ a);have e:=Goes.bind (f:=λ r=>match r with | .done b=>(j33 b:Sem β) | .yield b=>ForIn.forIn l b f) (h x L0) k;exact e.le (by rw [P0,Nat.add_mul];omega)
theorem Goes.entries {d:Addr} {o:Obj} {es:Array DictEntry} {ep:Nat} {part:Option Value} (ho:s.heap.get? d=some o) (hd:o.data=.dict es ep):Goes p w n₀ ann code q 1 (dictEntries d part) s pos es s pos:=by unfold dictEntries;refine (Goes.bind (d:=0) (Goes.loadPart ho) ?_);rw [hd];exact Goes.pure
theorem Goes.epoch {d:Addr} {o:Obj} {es:Array DictEntry} {ep:Nat} {part:Option Value} (ho:s.heap.get? d=some o) (hd:o.data=.dict es ep):Goes p w n₀ ann code q 1 (dictEpoch d part) s pos ep s pos:=by unfold dictEpoch;refine (Goes.bind (d:=0) (Goes.loadPart ho) ?_);rw [hd];exact Goes.pure
theorem Goes.mayTell {a:Addr} {stored:List Value} {cq:Nat} (hq:Goes p w n₀ ann code q cq (u4 8 (.ref a)) s pos true s pos) (hs :∀v∈stored,Goes p w n₀ ann code q cq (u4 8 v) s pos true s pos) :
  Goes p w n₀ ann code q (cq + stored.length * cq) (tableMayTell (.ref a) stored) s pos false s pos:=by
 unfold tableMayTell;split
 ·exact Goes.pure.le (Q1 _)
 ·refine Goes.bind hq ?_;simp only [P7,M3,if_false];refine (Goes.bind (a:=(none,())) (d:=0) (Goes.forIn λ v b=>?_) ?_).le (t0 _)
  ·refine (Goes.bind (d:=0) (hs v b) ?_).le (t0 _);simp only [P7,M3,if_false];exact Goes.pure
  ·exact Goes.pure
theorem Goes.find_none {d a:Addr} {o:Obj} {es:Array DictEntry} {ep:Nat} {h:Int} {cq ce:Nat} (ho:s.heap.get? d=some o) (hd:o.data=.dict es ep)
  (hq:Goes p w n₀ ann code q cq (u4 8 (.ref a)) s pos true s pos)
  (hk :∀e∈es.toList,∃b,e.key=.ref b/\b≠a/\Goes p w n₀ ann code q cq (u4 8 (.ref b)) s pos true s pos/\Goes p w n₀ ann code q ce (eqBool (.ref b) (.ref a)) s pos false s pos) :
  Goes p w n₀ ann code q (2 + cq + es.size * (cq + ce + 10)) (dictFind d (.ref a) h) s pos none s pos:=by
 have n :∀(i:Nat) (e:DictEntry),es[i]? = some e->e∈es.toList:=λ i e r=>Array.mem_toList_iff.mpr (Array.mem_of_getElem? r);have x:¬ (es.any λ e=>e.key == Z0 a && e.hash != h)=true:=by rw [<-Array.any_toList,X7];rintro ⟨e,hin,hc⟩;obtain ⟨b,f,g,_⟩:=hk e hin;simp only [f,A2,beq_iff_eq,Value.ref.injEq] at hc;exact g hc.1
 have l :∀v∈(B6 es.size (λ i=>es[i]?.map (·.hash)) h).filterMap (λ i=>es[i]?.map (·.key)),∃b,v=.ref b/\b≠a/\Goes p w n₀ ann code q cq (u4 8 v) s pos true s pos:=by
  intro v k;obtain ⟨i,_,j⟩:=List.mem_filterMap.mp k;cases hei:es[i]? with
  | none=>rw [hei] at j;cases j
  | some e=>
   rw [hei] at j;obtain rfl:e.key=v:=by simpa using j
   obtain ⟨b,f,g,t,_⟩:=hk e (n i e hei);exact ⟨b,f,g,f ▸ t⟩
 have m:(B6 es.size (λ i=>es[i]?.map (·.hash)) h).length<=es.size:=by unfold B6;exact A0 (K2 _ _) (by rw [Y1];exact t0 _)
 have A:((B6 es.size (λ i=>es[i]?.map (·.hash)) h).filterMap (λ i=>es[i]?.map (·.key))).length<=es.size:=A0 (j4 _ _) m;unfold dictFind;refine Goes.holding ?_;refine (Goes.bind (d:=1 + cq + es.size * (cq + ce + 10)) (Goes.entries ho hd) ?_).le (by omega);dsimp only;rw [if_neg (show ¬ ((Z0 a :: (B6 es.size (λ i=>es[i]?.map (·.hash)) h).filterMap (λ i=>es[i]?.map (·.key))).all carriedByValue)=true by simp [carriedByValue])];rw [if_neg x];have u:¬ (((B6 es.size (λ i=>es[i]?.map (·.hash)) h).filterMap (λ i=>es[i]?.map (·.key))) == [Z0 a])=true:=by intro e;have e:=eq_of_beq e;obtain ⟨b,f,g,_⟩:=l (.ref a) (by rw [e];exact List.mem_singleton.mpr rfl);exact g (by injection f with f;exact f.symm)
 rw [if_neg u];refine (Goes.bind (d:=1 + es.size * (ce + 10)) (Goes.mayTell hq λ v k=>(let ⟨_,_,_,z⟩:=l v k;z)) ?_).le ?_
 ·rw [if_neg (by simp)];refine (Goes.bind (a:=(none,none)) (d:=0) (Goes.forIn (c:=ce + 10) λ i j=>?_) ?_).le ?_
  ·cases hei:es[i]? with
   | none=>exact Goes.pure.le (Q1 _)
   | some e=>
    dsimp only;split
    ·obtain ⟨b,f,g,_,y⟩:=hk e (n i e hei);rw [f];refine (Goes.bind (d:=ce + 2) (Goes.epoch ho hd) (Goes.bind (d:=2) y (Goes.bind (d:=1) (Goes.epoch ho hd) ?_))).le (by omega);rw [if_neg (by simp)];rw [if_neg (by simp)];refine Goes.bind (d:=0) Goes.rule ?_;rw [if_neg (by simp)];exact Goes.pure
    ·exact Goes.pure.le (Q1 _)
  ·exact Goes.pure
  ·have:=O6 (ce + 10) m;omega
 ·have:=O6 cq A;have B:es.size * (cq + ce + 10)=es.size * cq + es.size * (ce + 10):=by rw [<-Nat.mul_add,j35]
  rw [B];omega
end
end TJ
open PySem PySem.W PyProof.Rows
namespace TJ
abbrev dObj (es:Array DictEntry) (ep:Nat):Obj:={ cls:=.type "dict",data:=.dict es ep }
abbrev KV3:=Addr×Value×Int
def ent (x:KV3):DictEntry:=⟨x.2.2,.ref x.1,x.2.1⟩
def unh (a:Addr):Sem Value:=do rule "hash.unhashable";raiseError "TypeError" s!"unhashable type: '{← typeNameOf (.ref a)}'"
def zdp (d:Addr) (vs:List (Value×Value)):Sem PUnit:=P9 vs B9 λ (x:Value×Value) (_:PUnit)=>(do dictSet d x.1 x.2;Z2 (J2 B9):Sem (ForInStep PUnit))
section
variable {p:Program} {w:R0} {n₀:Nat} {ann:Option Value} {code:Code} {q:Pos} {pos:Pos} {F:Obj->Nat->SharedT} {d:Addr}
structure Fam (n₀:Nat) (d:Addr) (F:Obj->Nat->SharedT):Prop where
 le:Nat.ble n₀ d=true
 get :∀es ep tk,(F (dObj es ep) tk).abs.heap.get? d=some (dObj es ep)
 upd :∀es ep tk (e:DictEntry),({ (F (dObj es ep) tk).abs with heap:=(F (dObj es ep) tk).abs.heap.update d (K8 (·.push e)) }:u0)=(F (dObj (es.push e) (ep + 1)) tk).abs
theorem Goes.updKeys (Z:Fam n₀ d F) {es:Array DictEntry} {ep tk:Nat} {e:DictEntry} {part:Option Value} (hsz:es.size < sizeLine) :
  Goes p w n₀ ann code q 3 (updateDictKeys d (·.push e) part) (F (dObj es ep) tk).abs pos () (F (dObj (es.push e) (ep + 1)) tk).abs pos:=by
 unfold updateDictKeys;refine (Goes.bind (d:=2) (Goes.loadPart (Z.get es ep tk)) ?_);dsimp only;have u:=Goes.updatePart (p:=p) (w:=w) (ann:=ann) (code:=code) (q:=q) (pos:=pos) (part:=part) (f:=K8 (·.push e)) (Z.get es ep tk) Z.le;rw [Z.upd es ep tk e] at u;refine Goes.bind (d:=1) u ?_;unfold lookBehind;refine Goes.bind (d:=0) (Goes.loadPart (Z.get _ _ tk)) ?_;have a:(dObj (es.push e) (ep + 1)).data.pastItsLine=none:=by unfold Data.pastItsLine;dsimp only;rw [if_neg (by rw [Array.size_push];omega)]
 rw [a];exact Goes.pure
theorem Goes.set (Z:Fam n₀ d F) {a:Addr} {v:Value} {es:Array DictEntry} {ep tk k cp cq ce:Nat} {hsh:Int} (hsz:es.size < sizeLine)
  (hpy:Goes p w n₀ ann code q cp (pyHash (.ref a)) (F (dObj es ep) tk).abs pos hsh (F (dObj es ep) (tk + k)).abs pos)
  (hq:Goes p w n₀ ann code q cq (u4 8 (.ref a)) (F (dObj es ep) (tk + k)).abs pos true (F (dObj es ep) (tk + k)).abs pos)
  (hk :∀e∈es.toList,∃b,e.key=.ref b/\b≠a/\Goes p w n₀ ann code q cq (u4 8 (.ref b)) (F (dObj es ep) (tk + k)).abs pos true (F (dObj es ep) (tk + k)).abs pos/\
   Goes p w n₀ ann code q ce (eqBool (.ref b) (.ref a)) (F (dObj es ep) (tk + k)).abs pos false (F (dObj es ep) (tk + k)).abs pos) :
  Goes p w n₀ ann code q (cp + (2 + cq + es.size * (cq + ce + 10)) + 4) (dictSet d (.ref a) v) (F (dObj es ep) tk).abs pos () (F (dObj (es.push ⟨hsh,.ref a,v⟩) (ep + 1)) (tk + k)).abs pos:=by
 unfold dictSet;refine Goes.holding ?_;refine (Goes.bind (d:=(2 + cq + es.size * (cq + ce + 10)) + 4) hpy ?_).le (by omega);unfold dictSetHashed;refine Goes.holding ?_;refine Goes.bind (d:=4) (Goes.find_none (h:=hsh) (Z.get es ep (tk + k)) rfl hq hk) ?_;exact Goes.bind (d:=3) Goes.rule (Goes.updKeys Z hsz)
theorem zn1 {γ β:Type} {f:γ->β->Sem (ForInStep β)} {x:γ} {xs:List γ} {b b' b'':β} {c c':Nat} {s s' s'':u0} (h:Goes p w n₀ ann code q c (f x b) s pos (.yield b') s' pos) (k:Goes p w n₀ ann code q c' (P9 xs b' f) s' pos b'' s'' pos) :
  Goes p w n₀ ann code q (c + c') (P9 (x :: xs) b f) s pos b'' s'' pos:=by
 rw [S4];exact Goes.bind (f:=λ r=>match r with | .done b=>(j33 b:Sem β) | .yield b=>P9 xs b f) h k
theorem Goes.loop (Z:Fam n₀ d F) {cp cq ce N:Nat} (all:List KV3) (hN:all.length<=N) (hN':N < sizeLine) (hnd:(all.map (·.1)).Nodup)
  (hQ :∀x∈all,∀oD tk,Goes p w n₀ ann code q cq (u4 8 (.ref x.1)) (F oD tk).abs pos true (F oD tk).abs pos)
  (hE:all.Pairwise λ x y=>∀oD tk,Goes p w n₀ ann code q ce (eqBool (.ref x.1) (.ref y.1)) (F oD tk).abs pos false (F oD tk).abs pos)
  (hH :∀x∈all,∀oD tk,Goes p w n₀ ann code q cp (pyHash (.ref x.1)) (F oD tk).abs pos x.2.2 (F oD (tk + 3)).abs pos) :
  ∀(todo done:List KV3) (tk:Nat),all=done++todo->
   Goes p w n₀ ann code q (todo.length * (cp + (2 + cq + N * (cq + ce + 10)) + 4)) (zdp d (todo.map λ x=>(Z0 x.1,x.2.1)))
    (F (dObj (done.map ent).toArray done.length) tk).abs pos () (F (dObj (all.map ent).toArray all.length) (tk + 3 * todo.length)).abs pos:=by
 intro todo;induction todo with
 | nil=>intro done tk e;rw [N2] at e;subst e;unfold zdp;rw [L4,F5];exact Goes.pure.le (Q1 _)
 | cons x todo ih=>
  intro done tk e;have h:x∈all:=by rw [e];exact J1 _ L0
  have g:=ih (done++[x]) (tk + 3) (by rw [e,j02];rfl);unfold zdp at g⊢;rw [X0];have f:(done.map ent).toArray.size<=N:=by rw [K0,o0];rw [e,D0] at hN;omega
  have c:=Goes.set (p:=p) (w:=w) (ann:=ann) (code:=code) (q:=q) (pos:=pos) (v:=x.2.1) (ep:=done.length) Z (A1 f hN') (hH x h _ tk) (hQ x h _ _) (es:=(done.map ent).toArray) (ce:=ce) (by
   intro s k;obtain ⟨y,a,rfl⟩:=List.mem_map.mp k;have i:y∈all:=by rw [e];exact K6 _ a
   have o:y.1≠x.1:=by rw [e,E1,X0] at hnd;intro q;exact (List.nodup_append.mp hnd).2.2 y.1 (List.mem_map.mpr ⟨y,a,rfl⟩) x.1 L0 q
   rw [e] at hE;exact ⟨y.1,rfl,o,hQ y i _ _,(List.pairwise_append.mp hE).2.2 y a x L0 _ _⟩)
  have r:((done.map ent).toArray.push ⟨x.2.2,.ref x.1,x.2.1⟩)=((done++[x]).map ent).toArray:=by rw [List.push_toArray,E1];rfl
  have n:done.length + 1=(done++[x]).length:=by rw [D0];rfl
  rw [r,n] at c;have j:tk + 3 * (x :: todo).length=(tk + 3) + 3 * todo.length:=by rw [P0];omega
  rw [j];have l:Goes p w n₀ ann code q (_ + 0) (do dictSet d (Z0 x.1,x.2.1).1 (Z0 x.1,x.2.1).2;j33 (J2 B9):Sem (ForInStep PUnit)) _ pos (J2 B9) _ pos:=Goes.bind c Goes.pure;have m:=zn1 (b:=B9) (xs:=todo.map λ x=>(Z0 x.1,x.2.1)) l g;refine m.le ?_;rw [P0,Nat.add_mul];have:=O6 (cq + ce + 10) f;omega
def zbi (acc:Nat):Int:=if acc == 2 ^ 64 - 1 then 1546275796 else if acc < 2 ^ 63 then acc else (acc:Int) - (2 ^ 64:Nat)
theorem z8u (acc:Nat) (h:acc < 2 ^ 64):-(2:Int) ^ 63<=zbi acc/\zbi acc < 2 ^ 63:=by
 unfold zbi;split
 ·constructor<;>decide
 ·split
  ·constructor<;>omega
  ·constructor<;>omega
theorem z7i (hs:List Int):-(2:Int) ^ 63<=l0 hs/\l0 hs < 2 ^ 63:=
 z8u _ (Nat.mod_lt _ (by decide))
theorem Goes.pyHashT {a:Addr} {s s':u0} {hs:List Int} {tok:Tok} (h1:Goes p w n₀ ann code q 1 (cRoomFor "hash" [.ref a]) s pos () s pos)
  (h2:Goes p w n₀ ann code q 1 (specialOf (.ref a) "__hash__") s pos (some (.builtin "tuple.__hash__")) s pos)
  (h3:Goes p w n₀ ann code q 22 (Z6 (.ref a) "__hash__" (unh a)) s pos (some (.int (l0 hs) tok)) s' pos) :
  Goes p w n₀ ann code q 25 (pyHash (.ref a)) s pos (G1 (l0 hs)) s' pos:=by
 have e:pyHash (.ref a)=pyHashByItsType (.ref a):=rfl;rw [e];unfold pyHashByItsType;refine Goes.bind (d:=24) h1 ?_;refine Goes.bind (d:=23) h2 ?_;rw [if_neg (by rw [beq_builtin_none];exact N0)];refine Goes.bind (d:=22) h2 ?_;show Goes p w n₀ ann code q 22 (Z6 (.ref a) "__hash__" (unh a) >>= _) s pos _ s' pos;refine Goes.bind (d:=0) h3 ?_;have r:(decide (-(2:Int) ^ 63<=l0 hs) && decide (l0 hs < 2 ^ 63))=true:=by have r:=z7i hs;rw [decide_eq_true r.1,decide_eq_true r.2];rfl
 show Goes p w n₀ ann code q 0 (if (decide (-(2:Int) ^ 63<=l0 hs) && decide (l0 hs < 2 ^ 63))=true then _ else _) s' pos _ s' pos;have b:G1 (l0 hs)=(if (l0 hs == -1)=true then -2 else l0 hs):=by unfold G1;rw [if_pos r]
 rw [if_pos r,b];exact Goes.pure
theorem Goes.subDict {pairs:List (Sem Value×Sem Value)} {s s₁ s':u0} {vs:List (Value×Value)} {c c':Nat} {d:Addr} (hlen:pairs.length<=15) (hd:s.heap.objs.size=d)
  (h1:Goes p w n₀ ann code q c (evalPairs pairs) { s with heap:=s.heap.push { cls:=.type "dict",data:=.dict #[] } } pos vs s₁ pos)
  (h2:Goes p w n₀ ann code q c' (zdp d vs) s₁ pos () s' pos):Goes p w n₀ ann code q (1 + (c + c')) (subDict pairs) s pos d s' pos:=by
 subst hd;unfold PySem.subDict;refine Goes.bind (a:=s.heap.objs.size) (λ _ _ _ _=>.one rfl rfl rfl) ?_;refine (Goes.bind (d:=0) (a:=()) (Goes.holding ?_) Goes.pure);rw [if_pos hlen];refine Goes.bind h1 ?_;exact Goes.holding (Goes.bind (d:=0) h2 Goes.pure)
theorem Goes.execs1 {st:Stmt} {env:Env} {s s':u0} {pos':Pos} {c:Nat} (h:Goes p w n₀ ann code q c (exec st env) s pos .next s' pos'):Goes p w n₀ ann code q c (execs [st] env) s pos .next s' pos':=by rw [execs_cons];exact Goes.bind (d:=0) h Goes.pure
theorem Goes.seg {l:List Stmt} {env:Env} {s s':u0} {pos':Pos} {c:Nat} (h:Goes p w n₀ ann code q c (execs l env) s pos .next s' pos') :∃n,n<=c + 1/\segRun d3 p w n₀ ann 1 n s (piecesOf l env code pos [topFrame q])=some (.next,s',code,pos'):=by obtain ⟨n,a,h⟩:=h doneF deadEnd id id;exact ⟨n + 1,by omega,seg_go h rfl⟩
end
theorem zlk {p q:Program} {loose:List Str} {Xt:u0->Bool} {α:Type} {Yf:u0->α} {Ya:R0->α} {N:Nat} {H₀:M0->Heap} {gs₀:Array GenState} {d₀:Drawn} {k₀ m₀:Nat} {ann:Option Value} {S:R0->Q2->u0}
  (opens :∀w:R0,(fencedOpening d3 p w N).map (λ s=>(s.heap,s.gens,s.drawn,s.toks))=some (H₀ w.params,gs₀,d₀,k₀))
  (sizes :∀w:R0,(((H₀ w.params).isNs Y2 && gs₀.size == 0),(H₀ w.params).objs.size,(H₀ w.params).nsMap Y2 "__annotations__")=(true,m₀,ann))
  (runs :∀(w:R0) (os:Q2),∃M,M<=N/\topRun d3 p w m₀ ann M ⟨H₀ w.params,gs₀,d₀,k₀,os⟩ (topStub p)=some (S w os))
  (looks1 :∀(w:R0) (os:Q2),(staticsOk (o7 p.main.body) (H₀ w.params) (S w os).heap && namesBound p (S w os).heap && gensDone (S w os) && laidKept (H₀ w.params) (S w os).heap)=true)
  (looks2 :∀(w:R0) (os:Q2),openSeen q loose (o7 p.main.body) Xt true (S w os)=openGood q loose) (looks3 :∀(w:R0) (os:Q2),Yf (S w os)=Ya w):LeftO p q loose Xt Yf Ya N:=by
 intro w;obtain ⟨⟨h,g,c,k,os⟩,e,a⟩:=Option.map_eq_some_iff.mp (opens w);simp only [Prod.mk.injEq] at a;obtain ⟨rfl,rfl,rfl,rfl⟩:=a;have z:=sizes w;simp only [Prod.mk.injEq] at z;obtain ⟨f,d,b⟩:=z;obtain ⟨M,i,r⟩:=runs w os;have r:=topRun_mono (N - M) _ _ _ _ r;rw [Nat.add_sub_cancel' i] at r;have t:topFrom d3 p w N ⟨H₀ w.params,g,c,k,os⟩=some (S w os):=by unfold topFrom;dsimp only;rw [f,d,b,r];show (match (staticsOk (o7 p.main.body) (H₀ w.params) (S w os).heap && namesBound p (S w os).heap && gensDone (S w os) && laidKept (H₀ w.params) (S w os).heap) with|true=>some (S w os)|false=>none)=_;rw [looks1 w os]
 unfold openEnds;rw [e];show (topFrom d3 p w N _).map _=_;rw [t];show some (_,_)=some (_,_);rw [looks2 w os,looks3 w os]
theorem zh6 {p:Program} {w:R0} {n₀:Nat} {ann:Option Value} {env:Env} {q:Pos} {c N:Nat} {s s' r:u0} {l rest:List Stmt} {b:Code} {pos pos':Pos} (h:Goes p w n₀ ann b q c (execs l env) s pos .next s' pos')
  (k:topRun d3 p w n₀ ann N s' (restOf rest env b pos' [topFrame q])=some r) :∃M,M<=c + 1 + N/\topRun d3 p w n₀ ann M s (restOf (l++rest) env b pos [topFrame q])=some r:=by
 obtain ⟨n,a,g⟩:=Goes.seg h;exact ⟨n + N,by omega,piece_app g k⟩
end TJ
open PySem PySem.Spec PyProof.Rows
namespace L2
noncomputable abbrev fnX (x q:Str) (s:Stmt) (m:Str) (k c:Nat):FuncData:=Q5 x q (zb1 s) (z6f s) (z05 s) .none .none .none (.str m k) none (.ref c) .none
noncomputable abbrev fY (x q:Str) (s:Stmt):=fnX x q s "law_talejudge_k71_what_may_be_answered" 729
noncomputable abbrev fO (x q:Str) (s:Stmt) (m:Str) (k c:Nat):Obj:=⟨.type "function",none,.func (fnX x q s m k c),#[]⟩
noncomputable abbrev fL (x q:Str) (s:Stmt):=fO x q s "law_talejudge_k71_what_may_be_answered" 729
noncomputable abbrev cO (x q:Str) (i l n a j:Nat):Obj:=
 ⟨.type "code",none,.fields #[.str x i,.str q (i + 1),.str "/claim/cut.py" (i + 2),.int l 0,.int n 0,.int 0 0,.int 0 0,.int 3 0,.ref a,.bool true,.int 181 0,.ref (a + 1),.none,.ref (a + 2),.ref (a + 3),.ref (a + 4),.int j 0,.int l 0,.str "/claim/cut.py" (j + 1)],#[]⟩
noncomputable abbrev cP (x q:Str) (i l n a j:Nat):Obj:=
 ⟨.type "code",none,.fields #[.str x i,.str q (i + 1),.str "/claim/cut.py" (i + 2),.int l 0,.int n 0,.int 0 0,.int 0 0,.int 3 0,.ref a,.bool true,.int 181 0,.ref (a + 1),.none,.none,.none,.ref (a + 2),.int j 0,.int l 0,.str "/claim/cut.py" (j + 1)],#[]⟩
abbrev kR (P:M0) (x:Str) (i a:Nat):DictEntry:=⟨c0 P x,.str x i,.ref a⟩
section
variable {P:Program} {w:R0} {K:b0} {mg:Str->Option Value} {base:Heap} {x q:Str} {st:Stmt} {f:Addr} {fd:FuncData} {k:Nat} {ps:List Str} {sp:Sp}
theorem z0b {m:Str} {i c:Nat} (l:K.lookup f=some (fO x q st m i c):=by kernel_rfl) (hc:C8 K (.ref c) q=true:=by kernel_rfl) (hk:u3 K (.ref f)=true:=by kernel_rfl):Fun K x q st f (fnX x q st m i c):=fun_mk l hc hk
theorem cal_mk (T:TX K mg) (F:Fun K x q st f fd) (g:N6 K Y2 x=some (some (.ref f))) (b:Binds K fd ps []) (G:FnOk P w K mg base CX0 k f fd ps sp):Cal P w K mg base x ps k sp:=⟨⟨f,fd,G,T.of g,F.kp,b⟩⟩
end
section
variable {p:List Value->Prop}
theorem us1 (h :∀a,p [a]) :∀us:List Value,us.length=1->p us | [a],_=>h a
theorem us2 (h :∀a b,p [a,b]) :∀us:List Value,us.length=2->p us | [a,b],_=>h a b
theorem us3 (h :∀a b c,p [a,b,c]) :∀us:List Value,us.length=3->p us | [a,b,c],_=>h a b c
theorem us4 (h :∀a b c d,p [a,b,c,d]) :∀us:List Value,us.length=4->p us | [a,b,c,d],_=>h a b c d
theorem us6 (h :∀a b c d e f,p [a,b,c,d,e,f]) :∀us:List Value,us.length=6->p us | [a,b,c,d,e,f],_=>h a b c d e f
end
end L2
set_option maxHeartbeats 1000000
namespace L2
open PySem PySem.Spec PyProof.Rows
section
variable {X:Cx}
def rEqL0 (K:b0):R2:=λ x y H Q=>∃a b xs,x=.ref a/\y=.ref b/\SqL K H a xs/\SqL K H b []/\Q (.bl (decide (xs=[]))) H
theorem zmw {k:Nat} (hr:Room k X.A):OpR X (B2 .Eq) (rEqL0 X.K):=by
 intro D s σ H x y v u Q I m l h;obtain ⟨a,b,t,rfl,rfl,r,p,q⟩:=h;cases m;cases l;obtain ⟨C,g,d,_⟩:=I.list r;obtain ⟨B,o,c,_⟩:=I.list p;cases o;have f:X.A.units < cLine:=Nat.lt_of_succ_lt (hu_of hr);have i:=g.length;cases t with
 | nil=>cases g;exact SeqAt.RcAt.lists (e:=λ _=>true) d.isList c.isList rfl f (λ j n _=>absurd n (R3 _)) X.prog X.w _ _ ⟨.bl _,H,I,rfl,q⟩
 | cons z zs=>refine SeqAt.RcAt.lists_lengths d.isList c.isList ?_ f X.prog X.w _ _ ⟨.bl _,H,I,rfl,q⟩;rw [K0,<-i];rfl
end
mutual
def keyD:PyData->Bool
 | .int _=>true
 | .str _=>false
 | .tuple xs=>keyDs xs
 | .none=>false
 | .bool _=>false
 | .list _=>false
 | .dict _=>false
def keyDs:List PyData->Bool
 | []=>true
 | x :: xs=>keyD x && keyDs xs
end
mutual
def hashD:PyData->Int
 | .int i=>hashInt i
 | .str _=>0
 | .tuple xs=>G1 (l0 (hashDs xs))
 | .none=>0
 | .bool _=>0
 | .list _=>0
 | .dict _=>0
def hashDs:List PyData->List Int
 | []=>[]
 | x :: xs=>hashD x :: hashDs xs
end
mutual
def drawD:PyData->Nat
 | .tuple xs=>drawDs xs + 1
 | .int _=>1
 | .str _=>1
 | .none=>1
 | .bool _=>1
 | .list _=>1
 | .dict _=>1
def drawDs:List PyData->Nat
 | []=>0
 | x :: xs=>drawD x + drawDs xs
end
mutual
theorem z9j {h h':Heap} (k :∀b o vs n,h.get? b=some o->o.cls=.type "tuple"->o.data=.seq vs n->h'.get? b=some o) :∀(d:PyData) (v:Value) (as:List Addr),keyD d=true->Reads h v d as->Reads h' v d as
 | .int i,v,as,_,r=>by cases r;exact .int _ _
 | .str _,_,_,hk,_=>by cases hk
 | .tuple xs,v,as,hk,r=>by
  cases r with
  | tuple e c d r=>exact .tuple (k _ _ _ _ e c d) c d (zdo k xs _ _ hk r)
 | .none,_,_,hk,_=>by cases hk
 | .bool _,_,_,hk,_=>by cases hk
 | .list _,_,_,hk,_=>by cases hk
 | .dict _,_,_,hk,_=>by cases hk
theorem zdo {h h':Heap} (k :∀b o vs n,h.get? b=some o->o.cls=.type "tuple"->o.data=.seq vs n->h'.get? b=some o) :∀(ds:List PyData) (vs:List Value) (as:List Addr),keyDs ds=true->c7 h vs ds as->c7 h' vs ds as
 | [],_,_,_,r=>by cases r;exact .nil
 | d :: ds,_,_,c,r=>by
  have c:=Bool.and_eq_true_iff.mp (show (keyD d && keyDs ds)=true from c);cases r with
  | cons a r=>exact .cons (z9j k d _ _ c.1 a) (zdo k ds _ _ c.2 r)
end
mutual
theorem z2m :∀d:PyData,keyD d=true->plainP d=true
 | .int _,_=>rfl
 | .str _,hk=>by cases hk
 | .tuple xs,h=>zas xs h
 | .none,hk=>by cases hk
 | .bool _,hk=>by cases hk
 | .list _,hk=>by cases hk
 | .dict _,hk=>by cases hk
theorem zas :∀ds:List PyData,keyDs ds=true->z15 ds=true
 | [],_=>rfl
 | d :: ds,a=>by have a:=Bool.and_eq_true_iff.mp (show (keyD d && keyDs ds)=true from a);show (plainP d && z15 ds)=true;rw [z2m d a.1,zas ds a.2];rfl
end
mutual
theorem z5y :∀d:PyData,keyD d=true->d.canLay0=true
 | .int _,_=>rfl
 | .str _,hk=>by cases hk
 | .tuple xs,h=>zf8 xs h
 | .none,hk=>by cases hk
 | .bool _,hk=>by cases hk
 | .list _,hk=>by cases hk
 | .dict _,hk=>by cases hk
theorem zf8 :∀ds:List PyData,keyDs ds=true->V4 ds=true
 | [],_=>rfl
 | d :: ds,a=>by have a:=Bool.and_eq_true_iff.mp (show (keyD d && keyDs ds)=true from a);show (d.canLay0 && V4 ds)=true;rw [z5y d a.1,zf8 ds a.2];rfl
end
section
variable {prog:Program} {w:R0} {E:Value->u0->Prop}
mutual
theorem zh4 :∀(d:PyData) (v:Value) (as:List Addr) (A:V1) (s:u0) (Q:Int->u0->Prop),keyD d=true->Reads s.heap v d as->A.units + d.depth < cLine->Q (hashD d) { s with toks:=s.toks + drawD d }->W0 (u1 prog w) A (pyHash v) Q E s
 | .int i,v,as,A,s,Q,_,r,_,q=>by cases r;exact wpAny_pyHash_int q
 | .str _,_,_,_,_,_,hk,_,_,_=>by cases hk
 | .tuple xs,v,as,A,s,Q,hk,r,b,q=>by
  cases r with
  | @tuple a o vs n _ _ e c d r=>
   have b:A.units + (O1 xs + 1) < cLine:=b;have ty:s.TypeIs (.ref a) "tuple":=⟨o,e,c⟩
   refine W.pyHash_slot (v:=.ref a) ty F.slot_tuple_hash F.entry_tuple_hash (F.args_tuple_hash_1 _) rfl (.inr (by omega)) ?_;refine d0 (F0 ?_);refine d0 (j0d e d ?_);refine d0 ?_;rw [<-Array.forIn_toList];refine zaa xs vs.toList _ #[] A.in1 s _ hk r (show A.units + 1 + O1 xs < cLine by omega) ?_;refine d0 (wpAny_mkInt (F0 ⟨_,_,rfl,?_⟩));simpa [hashD,drawD,j35] using q
 | .none,_,_,_,_,_,hk,_,_,_=>by cases hk
 | .bool _,_,_,_,_,_,hk,_,_,_=>by cases hk
 | .list _,_,_,_,_,_,hk,_,_,_=>by cases hk
 | .dict _,_,_,_,_,_,hk,_,_,_=>by cases hk
theorem zaa :∀(ds:List PyData) (vs:List Value) (as:List Addr) (hs:Array Int) (A:V1) (s:u0) (Q:Array Int->u0->Prop),keyDs ds=true->c7 s.heap vs ds as->A.units + O1 ds < cLine->Q (hs++(hashDs ds).toArray) { s with toks:=s.toks + drawDs ds }->
  W0 (u1 prog w) A (P9 vs hs λ x hs=>do let h <-pyHash x;Z2 (J2 (hs.push h))) Q E s
 | [],_,_,hs,A,s,Q,_,r,_,q=>by cases r;rw [F5];exact F0 (by simpa [hashDs,drawDs] using q)
 | d :: ds,_,_,hs,A,s,Q,b,r,c,q=>by
  have b:=Bool.and_eq_true_iff.mp (show (keyD d && keyDs ds)=true from b);have c:A.units + max d.depth (O1 ds) < cLine:=c;cases r with
  | @cons v vs _ _ as bs a r=>rw [S4];refine d0 (d0 (zh4 d v as A s _ b.1 a (by omega) (F0 ?_)));refine zaa ds vs bs (hs.push (hashD d)) A { s with toks:=s.toks + drawD d } Q b.2 r (by omega) ?_;simpa [hashDs,drawDs,j35] using q
end
theorem zhe {a:Addr} {n:Nat} {o:Obj} {vs:Array Value} {m:Nat} {A:V1} {s:u0} {Q:Bool->u0->Prop} (e:s.heap.get? a=some o) (c:o.cls=.type "tuple") (d:o.data=.seq vs m)
  (h:W0 (u1 prog w) A (P9 vs.toList ((none:Option Bool),()) λ y _=>do
    let b <-u4 n y
    if (!b)=true then Z2 (d8 (some false,())) else Z2 (J2 (none,())))
   (λ r s'=>r.1=none/\Q true s') E s):W0 (u1 prog w) A (u4 (n + 1) (.ref a)) Q E s:=by
 rw [eqIsQuiet.eq_2];have ty:s.TypeIs (.ref a) "tuple":=⟨o,e,c⟩
 refine d0 (j2j (r:=some (.builtin "tuple.__eq__")) ty (by rfl) ?_);refine d0 (P8 (T:="tuple") ty isSubtype_tuple_tuple ?_);simp only [P7,M3,if_false];refine d0 (j3e e d (d0 ?_));show W0 _ _ (P9 vs _ _) _ _ _;rw [<-Array.forIn_toList];refine j3 h (λ r s' h=>?_) (λ _ _ h=>h);obtain ⟨g,j⟩:=r;obtain ⟨i,f⟩:=h;cases (show g=none from i);exact F0 f
mutual
theorem zd6 :∀(d:PyData) (v:Value) (as:List Addr) (n:Nat) (A:V1) (s:u0) (Q:Bool->u0->Prop),keyD d=true->Reads s.heap v d as->d.depth<=n->Q true s->W0 (u1 prog w) A (u4 n v) Q E s
 | .int i,v,as,n,A,s,Q,_,r,_,q=>by cases r;rw [eqIsQuiet.eq_3];exact F0 q;intro a h;cases h
 | .str _,_,_,_,_,_,_,hk,_,_,_=>by cases hk
 | .tuple xs,v,as,n,A,s,Q,hk,r,b,q=>by
  cases r with
  | @tuple a o vs m _ _ e c d r=>
   have b:O1 xs + 1<=n:=b;obtain ⟨n,rfl⟩ :∃k,n=k + 1:=⟨n - 1,by omega⟩
   exact zhe e c d (za8 xs vs.toList _ n A s _ hk r (by omega) ⟨rfl,q⟩)
 | .none,_,_,_,_,_,_,hk,_,_,_=>by cases hk
 | .bool _,_,_,_,_,_,_,hk,_,_,_=>by cases hk
 | .list _,_,_,_,_,_,_,hk,_,_,_=>by cases hk
 | .dict _,_,_,_,_,_,_,hk,_,_,_=>by cases hk
theorem za8 :∀(ds:List PyData) (vs:List Value) (as:List Addr) (n:Nat) (A:V1) (s:u0) (Q:Option Bool×Unit->u0->Prop),keyDs ds=true->c7 s.heap vs ds as->O1 ds<=n->Q (none,()) s->
  W0 (u1 prog w) A (P9 vs ((none:Option Bool),()) λ y _=>do
    let b <-u4 n y
    if (!b)=true then Z2 (d8 (some false,())) else Z2 (J2 (none,()))) Q E s
 | [],_,_,n,A,s,Q,_,r,_,q=>by cases r;rw [F5];exact F0 q
 | d :: ds,_,_,n,A,s,Q,c,r,e,q=>by
  have c:=Bool.and_eq_true_iff.mp (show (keyD d && keyDs ds)=true from c);have e:max d.depth (O1 ds)<=n:=e;cases r with
  | @cons v vs _ _ as bs a r=>rw [S4];refine d0 (d0 (zd6 d v as n A s _ c.1 a (by omega) ?_));exact F0 (za8 ds vs bs n A s Q c.2 r (by omega) q)
end
end
open Classical in
noncomputable instance:DecidableEq PyData:=λ a b=>N3 (a=b)
noncomputable def z5n (prog:Program) (w:R0):HeapKind prog w PyData where
 is h d a:=keyD d=true/\d.depth<=7/\∃as,Reads h (.ref a) d as
 hash:=hashD
 draws:=drawD
 room A:=A.units + 8 < cLine
 inj:=λ {h a x y} hx hy=>by obtain ⟨kx,_,as,rx⟩:=hx;obtain ⟨_,_,bs,ry⟩:=hy;exact SeqAt.Reads.unique x y _ as bs (z5y x kx) rx ry
 keeps:=λ {h h' k a d o es ep} hk e hd sb=>by
  obtain ⟨k1,k2,as,r⟩:=hk;refine ⟨k1,k2,as,z9j (λ b o' vs n eb _ eo=>?_) k _ as k1 r⟩;have nb:b≠d:=λ z=>by rw [z,e] at eb;cases eb;rw [hd] at eo;cases eo
  rw [sb.2 b nb];exact eb
 pyHash:=λ {A E s k a Q} hr hk q=>by obtain ⟨k1,k2,as,r⟩:=hk;exact zh4 k _ as A s Q k1 r (by omega) q
 eqBool:=λ {A E s x y a b Q} hr hx hy q=>by obtain ⟨x1,x2,as,rx⟩:=hx;obtain ⟨y1,y2,bs,ry⟩:=hy;refine j05 x y A s _ _ as bs rx ry (z5y x x1) (z5y y y1) (by have:=L8 x.depth y.depth;omega) prog w E Q ?_;rw [zf1 (p:=x=y) (z2m x x1) (z2m y y1) Iff.rfl];exact q
 quiet:=λ {A E s k a Q} hk q=>by obtain ⟨k1,k2,as,r⟩:=hk;exact zd6 k _ as 8 A s Q k1 r (by omega) q
section
variable {prog:Program} {w:R0} {A:V1} {E:Value->u0->Prop} {s:u0}
def DcAt (h:Heap) (d:Addr) (es:Array DictEntry) (ep:Nat):Prop:=∃o,h.get? d=some o/\o.ExactDict/\o.data=.dict es ep
theorem zke {d:Addr} {es:Array DictEntry} {ep:Nat} {Q:Value->u0->Prop} (hd:(d == m3)=false) (h:DcAt s.heap d es ep)
  (q:Q (.ref s.heap.objs.size) { s with heap:=s.heap.push { cls:=.type "dict_keyiterator",data:=.fields #[.ref d,.int 0 0,.int es.size 0,.int ep 0] } }):W0 (u1 prog w) A (pyIter (.ref d)) Q E s:=by
 obtain ⟨o,a,⟨g,j,k⟩,c⟩:=h;have b:s.TypeIs (.ref d) "dict":=⟨o,a,g⟩
 refine wpAny_pyIter_slot b F.slot_dict_iter (B3 F.slot_dict_iter b F.entry_dict_iter ?_ (F.args_dict_iter_1 _));unfold j04.«dict.__iter__»;refine d0 (show W0 _ _ (W6 "__iter__" ⟨[.ref d],[]⟩ >>= _) _ _ _ from d0 ?_);have i:W0 (u1 prog w) A.in1 (W6 "__iter__" ⟨[.ref d],[]⟩) (λ _ f=>f=s) E s:=by unfold W6;rw [if_pos (by decide +kernel)];refine d0 (j11 b ?_);rw [if_neg (by decide)];exact F0 rfl
 refine j3 i (λ _ f e=>?_) λ _ _ z=>z;subst e;refine (show W0 _ _ (Z2 (Z0 d)) _ _ _ from F0 ?_);refine (show W0 _ _ (Z2 d >>= _) _ _ _ from d0 (F0 ?_));refine d0 ?_;unfold Builtin.Dict.showsAll;rw [if_neg (by rw [hd];decide)];refine F0 (d0 (j13 a c (d0 (j30 a c ?_))));refine d0 (X2 ?_ (by size_fits));refine F0 ⟨_,rfl,"dict_keyiterator",_,⟨_,Y0 _ rfl,rfl⟩,F.slot_dict_keyiterator_next.lookup,q⟩
theorem zk4 {it d:Addr} {es:Array DictEntry} {ep i:Nat} {e:DictEntry} {Q:Option Value->u0->Prop} (hi:s.heap.IsKeyIter it d i es.size ep) (h:DcAt s.heap d es ep) (he:es[i]? = some e)
  (q :∀h',h'.IsKeyIter it d (i + 1) es.size ep->X5 it s.heap h'->Q (some e.key) { s with heap:=h' }):W0 (u1 prog w) A (j3i (.ref it)) Q E s:=by
 have a:=hi.typeIs;obtain ⟨u,f,t,g⟩:=hi;obtain ⟨o,m,C,l⟩:=h;obtain ⟨p,B,y,z⟩:=u;cases (show p=_ from t);cases (show y=_ from g);unfold j3i;refine d0 (wpAny_attempt (P4 (name:=A8 "__next__") a c5 (B3 c5 a j1g ?_ (j1a _))));unfold j04.«dict_keyiterator.__next__»;refine (show W0 _ _ (V8 "__next__" ⟨[.ref it],[]⟩ >>= _) _ _ _ from d0 ?_);refine (show W0 _ _ (Z2 (Z0 it)) _ _ _ from F0 ?_);refine d0 ?_;refine (show W0 _ _ ((g9 (.ref it) >>= _) >>= _) _ _ _ from d0 (d0 (X4 a (F0 ?_))));have n:(if n8 "dict_keyiterator" = true then 2 else 0)=0:=if_neg (by decide +kernel);rw [n];refine d0 (wpAny_fieldsOf f g ?_);show W0 _ _ (if (Z0 d == U2)=true then _ else _) _ _ _;rw [if_neg (by simp)];refine (show W0 _ _ (Z2 d >>= _) _ _ _ from d0 (F0 ?_));refine d0 (j13 m l ?_);rw [if_neg (by simp)];refine (show W0 _ _ (Z2 d >>= _) _ _ _ from d0 (F0 ?_));refine d0 (j30 m l ?_);rw [if_neg (by simp)];refine F0 ?_;dsimp only;rw [if_neg (by omega),j6,he];dsimp only;refine d0 (show W0 _ _ (g9 (.ref it) >>= _) _ _ _ from d0 (X4 a (F0 ?_)));rw [n];refine d0 (wpAny_isOneOf_keyiter a ?_);refine d0 (M9 f g (by simp) ?_);have k:(s.heap.update it (j34 (·.setIfInBounds 1 (j1h ((i:Int) + 1))))).IsKeyIter it d (i + 1) es.size ep:=by refine ⟨_,N8 _ f rfl,rfl,?_⟩;simp [j34,j1h]
 have key :∀b:Bool,b=false->W0 (u1 prog w) A.in1 (j15 [e.key,e.val] (do
   let c <-O8 (.ref it) ["dict_keyiterator","dict_reversekeyiterator"]
   if c=true then Z2 e.key else do
    let c <-O8 (.ref it) ["dict_valueiterator","dict_reversevalueiterator"]
    if c=true then Z2 e.val else Builtin.Dict_items.pairFromOwner (.ref it) 6 e.key e.val) >>= λ v=>ret v)
   (λ r j=>∃v,r=Fin.done (Flow.ret v)/\W0 (u1 prog w) A (Z2 (some v)) Q E j)
   (λ e j=>W0 (u1 prog w) A (do if <-isInstance e (.type "StopIteration") then Z2 none else throw e) Q E j)
   { s with heap:=s.heap.update it (j34 (·.setIfInBounds 1 (j1h (if b=true then (i:Int) - 1 else (i:Int) + 1)))) }:=λ b x=>by
  subst x;refine d0 (D4 (d0 (wpAny_isOneOf_keyiter k.typeIs ?_)));rw [if_pos (by decide +kernel)];exact F0 (F0 ⟨_,rfl,F0 (q _ k (Z4 ..))⟩)
 exact key _ (by decide +kernel)
theorem ki_end {it d:Addr} {es:Array DictEntry} {ep i:Nat} {Q:Option Value->u0->Prop} (hh:A.handled=none) (hi:s.heap.IsKeyIter it d i es.size ep) (h:DcAt s.heap d es ep) (he:es[i]? = none)
  (q :∀h',Heap.ExtBut it s.heap h'->Q none { s with heap:=h' }):W0 (u1 prog w) A (j3i (.ref it)) Q E s:=by
 have a:=hi.typeIs;obtain ⟨n,g,p,j⟩:=hi;obtain ⟨o,c,r,l⟩:=h;unfold j3i;refine d0 (wpAny_attempt (P4 (name:=A8 "__next__") a c5 (B3 c5 a j1g ?_ (j1a _))));unfold j04.«dict_keyiterator.__next__»;refine (show W0 _ _ (V8 "__next__" ⟨[.ref it],[]⟩ >>= _) _ _ _ from d0 ?_);refine (show W0 _ _ (Z2 (Z0 it)) _ _ _ from F0 ?_);refine d0 ?_;refine (show W0 _ _ ((g9 (.ref it) >>= _) >>= _) _ _ _ from d0 (d0 (X4 a (F0 ?_))));have f:(if n8 "dict_keyiterator" = true then 2 else 0)=0:=if_neg (by decide +kernel);rw [f];refine d0 (wpAny_fieldsOf g j ?_);show W0 _ _ (if (Z0 d == U2)=true then _ else _) _ _ _;rw [if_neg (by simp)];refine (show W0 _ _ (Z2 d >>= _) _ _ _ from d0 (F0 ?_));refine d0 (j13 c l ?_);rw [if_neg (by simp)];refine (show W0 _ _ (Z2 d >>= _) _ _ _ from d0 (F0 ?_));refine d0 (j30 c l ?_);rw [if_neg (by simp)];refine F0 ?_;dsimp only;rw [if_neg (by omega),j6,he];dsimp only;refine d0 (show W0 _ _ (g9 (.ref it) >>= _) _ _ _ from d0 (X4 a (F0 ?_)));rw [f];refine d0 (M9 g j (by simp) ?_);refine stops hh λ h' k=>q h' ?_;exact λ b o m e=>k b o (((Z4 ..).2 b m).trans e)
theorem zlx {A:V1} (hh:A.handled=none) (I d:Addr) (nd:d≠I) (es:Array DictEntry) (ep:Nat):Walks prog w A I [I,d] [I] es.size (λ i v=>∃e,es[i]? = some e/\v=e.key) (λ i h=>h.IsKeyIter I d i es.size ep/\DcAt h d es ep) where
 sub:=λ b n=>by rw [List.mem_singleton.mp n];exact L0
 frame:=λ i h a ⟨h1,o,h2,c⟩ k=>⟨h1.at (k I L0),o,k d (by simp) o h2,c⟩
 item:=λ i s Q E j ⟨h1,h2⟩ q=>by
  refine zk4 h1 h2 (E2 j) λ a g l=>q _ a _ ⟨_,E2 j,rfl⟩ ⟨g,?_⟩ λ b o f e=>?_
  ·obtain ⟨o,c,m⟩:=h2;exact ⟨o,(l.2 d nd).trans c,m⟩
  ·exact (l.2 b (λ z=>f (by rw [z];exact List.mem_singleton.mpr rfl))).trans e
 done:=λ s Q E ⟨h1,h2⟩ q=>ki_end hh h1 h2 (j37 (t0 _)) λ a k=>q a _ λ b o f e=>k b o (λ z=>f (by rw [z];exact List.mem_singleton.mpr rfl)) e
 self:=λ i s Q E ⟨h1,_⟩ q=>N9 h1 q
theorem zm6 {r:Addr} {Q:Bool->u0->Prop} (hT:s.TypeIs (.ref r) "dict") (h:Q false s):W0 (u1 prog w) A (D9 (.ref r)) Q E s:=by unfold D9;refine d0 (j2j hT PySem.F.slot_dict_len.lookup ?_);generalize hid:("dict.__len__" : String)=id0;wp_delta;rw [show splitId id0=some ("dict","__len__") from by subst hid;decide +kernel];subst hid;refine d0 (P8 (T:="dict") (b:=true) hT (by rfl) ?_);refine wpAny_ite_split (λ a=>absurd a (by decide)) (λ _=>wpAny_ite_split (λ _=>?_) (λ a=>absurd (by decide +kernel) a));exact d0 (j11 hT (F0 h))
theorem kdl_dc {d:Addr} {es:Array DictEntry} {ep:Nat} (hd:(d == m3)=false):W.KdlSrc prog w "dict" d d es.size (λ i v=>∃e,es[i]? = some e/\v=e.key) (λ h=>DcAt h d es ep) where
 type:=λ s ⟨o,a,b,_⟩=>⟨o,a,b.1⟩
 there:=λ h ⟨o,a,_⟩=>⟨Q0 a,Q0 a⟩
 keep:=λ h c ⟨o,a,b⟩ k=>⟨o,k d (.inl rfl) o a,b⟩
 notList:=by decide
 notTuple:=by decide
 hint:=λ A E s Q ⟨o,a,b,_⟩ q=>zm6 ⟨o,a,b.1⟩ q
 iter:=λ A s f h=>by
  refine ⟨{ cls:=.type "dict_keyiterator",data:=.fields #[.ref d,.int 0 0,.int es.size 0,.int ep 0] },λ i c=>c.IsKeyIter s.heap.objs.size d i es.size ep/\DcAt c d es ep,λ E Q q=>zke hd h q,zlx f _ d ?_ es ep,⟨_,Y0 _ rfl,rfl,rfl⟩,?_⟩
  ·obtain ⟨o,a,_⟩:=h;exact C1 (Q0 a)
  ·obtain ⟨o,a,b⟩:=h;exact ⟨o,C0 _ a,b⟩
end
def KasOk {α:Type} (n:Nat):R5 α->(α->Prop)->Prop
 | .ret a,Q=>Q a
 | .ask i j k,Q=>i < n/\j < n/\i≠j/\∀b,KasOk n (k b) Q
theorem KasOk.run {α:Type} {n:Nat} {Q:α->Prop} (c:Nat->Nat->Bool) :∀{t:R5 α},KasOk n t Q->∃a,kasRun c n t=some a/\Q a
 | .ret a,h=>⟨a,rfl,h⟩
 | .ask i j k,⟨h1,h2,h3,h4⟩=>by unfold kasRun;rw [if_pos ⟨h1,h2,h3⟩];exact (h4 (c i j)).run c
theorem KasOk.mono {α:Type} {n:Nat} {Q R:α->Prop} (f :∀a,Q a->R a) :∀{t:R5 α},KasOk n t Q->KasOk n t R
 | .ret a,h=>f a h
 | .ask i j k,⟨h1,h2,h3,h4⟩=>⟨h1,h2,h3,λ b=>(h4 b).mono f⟩
theorem KasOk.bind {α β:Type} {n:Nat} {Q:β->Prop} {f:α->R5 β} :∀{t:R5 α},KasOk n t (λ a=>KasOk n (f a) Q)->KasOk n (t.bind f) Q
 | .ret a,h=>by rw [PySem.W.KasT.bind.eq_def];exact h
 | .ask i j k,⟨h1,h2,h3,h4⟩=>by rw [PySem.W.KasT.bind.eq_def];exact ⟨h1,h2,h3,λ b=>KasOk.bind (h4 b)⟩
def PmA (n:Nat) (p:Array Nat):Prop:=p.toList.Perm (j1 n)
theorem zka {n i j:Nat} {p:Array Nat} (h:PmA n p):PmA n (p.swapIfInBounds i j):=by
 rw [Array.swapIfInBounds_def];split
 ·split
  ·exact (Array.perm_iff_toList_perm.mp (Array.swap_perm _ _)).trans h
  ·exact h
 ·exact h
theorem zgw {n:Nat} {f:Array Nat->Nat->Array Nat} (hf :∀p k,PmA n p->PmA n (f p k)) :∀(l:List Nat) (p:Array Nat),PmA n p->PmA n (l.foldl f p)
 | [],p,h=>h
 | k :: l,p,h=>zgw hf l (f p k) (hf p k h)
theorem rev_pm {n i j:Nat} {p:Array Nat} (h:PmA n p):PmA n (j07 p i j):=by unfold j07;rw [mirror.eq_def];exact zgw (λ _ _ h=>zka h) _ _ h
theorem ziv {n i j:Nat} {p:Array Nat} (h:PmA n p):PmA n (bubble p i j):=by rw [bubble.eq_def];exact zgw (λ _ _ h=>zka h) _ _ h
theorem PmA.size {n:Nat} {p:Array Nat} (h:PmA n p):p.size=n:=by
 have:=h.length_eq
 rwa [Y1,P2] at this
theorem PmA.at {n i:Nat} {p:Array Nat} (h:PmA n p) (hi:i < n):p.getD i 0 < n:=by
 have a:i < p.size:=by rw [h.size];exact hi
 rw [V6,E2 a];exact List.mem_range.mp (h.mem_iff.mp (Array.getElem_mem_toList a))
theorem PmA.ne {n i j:Nat} {p:Array Nat} (h:PmA n p) (hi:i < n) (hj:j < n) (e:i≠j):p.getD i 0≠p.getD j 0:=by
 have b:i < p.size:=by rw [h.size];exact hi
 have a:j < p.size:=by rw [h.size];exact hj
 have c:p.toList.Nodup:=h.nodup_iff.mpr List.nodup_range;rw [V6,E2 b,V6,E2 a];intro z;have z:p[i]=p[j]:=z;exact e ((j0b (h₀:=by simpa using b) (h₁:=by simpa using a) c).mp (by simpa using z))
theorem asc_ok {n:Nat} {p:Array Nat} (h:PmA n p) :∀(f i:Nat),1<=i->i + f<=n->KasOk n (PySem.W.kas_asc p f i) (λ m=>i<=m/\m<=i + f)
 | 0,i,_,_=>by rw [PySem.W.kas_asc.eq_def];exact ⟨t0 _,t0 _⟩
 | f + 1,i,h1,h2=>by
  rw [PySem.W.kas_asc.eq_def];refine ⟨h.at (by omega),h.at (by omega),h.ne (by omega) (by omega) (by omega),λ b=>?_⟩;cases b with
  | true=>exact ⟨t0 _,by omega⟩
  | false=>exact (asc_ok h f (i + 1) (by omega) (by omega)).mono λ m a=>⟨by omega,by omega⟩
theorem zkd {n m:Nat} {p:Array Nat} (h:PmA n p) (h1:1<=m) (h2:m<=n):KasOk n (PySem.W.kas_tail3 m n p) (λ r=>1<=r.1/\r.1<=n/\PmA n r.2):=by rw [PySem.W.kas_tail3.eq_def];exact KasOk.bind ((asc_ok (rev_pm h) (n - m) m h1 (by omega)).mono λ k a=>⟨by omega,by omega,rev_pm h⟩)
theorem ze3 {n:Nat} :∀(f:Nat) (p:Array Nat) (i q:Nat),PmA n p->1<=i->i + f<=n->KasOk n (S9 f p i q) (λ r=>PmA n r.1/\1<=r.2.1/\r.2.1<=n)
 | 0,p,i,q,h,h1,h2=>by rw [PySem.W.kas_desc.eq_def];exact ⟨h,h1,show i<=n by omega⟩
 | f + 1,p,i,q,h,h1,h2=>by
  rw [PySem.W.kas_desc.eq_def];refine ⟨h.at (by omega),h.at (by omega),h.ne (by omega) (by omega) (by omega),λ b=>?_⟩;cases b with
  | true=>
   show KasOk n (if q > 0 then S9 f (j07 p (i - (q + 1)) i) (i + 1) 0 else S9 f p (i + 1) 0) _;by_cases z:q > 0
   ·rw [if_pos z];exact ze3 f _ _ _ (rev_pm h) (by omega) (by omega)
   ·rw [if_neg z];exact ze3 f _ _ _ h (by omega) (by omega)
  | false=>
   refine ⟨h.at (by omega),h.at (by omega),h.ne (by omega) (by omega) (by omega),λ b=>?_⟩;cases b with
   | true=>exact ⟨h,h1,show i<=n by omega⟩
   | false=>exact ze3 f _ _ _ h (by omega) (by omega)
theorem z87 {n m:Nat} {p:Array Nat} (h:PmA n p) (h2:m + 1<=n):KasOk n (PySem.W.kas_descPart m n p) (λ r=>1<=r.1/\r.1<=n/\PmA n r.2):=by
 rw [PySem.W.kas_descPart.eq_def];refine KasOk.bind ((ze3 (n - (m + 1)) p (m + 1) 0 h (by omega) (by omega)).mono λ r a=>?_);show KasOk n (if r.2.2 > 0 then _ else _) _;by_cases z:r.2.2 > 0
 ·rw [if_pos z];exact zkd (rev_pm a.1) a.2.1 a.2.2
 ·rw [if_neg z];exact zkd a.1 a.2.1 a.2.2
theorem zl4 {n:Nat} {p:Array Nat} (h:PmA n p) (h2:2<=n):KasOk n (PySem.W.kas_count n p) (λ r=>1<=r.1/\r.1<=n/\PmA n r.2):=by
 rw [PySem.W.kas_count.eq_def];refine KasOk.bind ((asc_ok h (n - 1) 1 (t0 _) (by omega)).mono λ m a=>?_);show KasOk n (if (m == n)=true then _ else _) _;by_cases z:(m == n)=true
 ·rw [if_pos z];exact ⟨a.1,by omega,h⟩
 ·rw [if_neg z];have c:m≠n:=λ e=>z (by rw [e];exact beq_self_eq_true _);show KasOk n (if m > 1 then _ else _) _;by_cases y:m > 1
  ·rw [if_pos y];refine ⟨h.at (by omega),h.at (by omega),h.ne (by omega) (by omega) (by omega),λ b=>?_⟩;cases b with
   | true=>exact ⟨a.1,by omega,h⟩
   | false=>exact z87 (rev_pm h) (by omega)
  ·rw [if_neg y];exact z87 h (by omega)
theorem zcr {n k:Nat} {p:Array Nat} (h:PmA n p) (hk:k < n) :∀(f l r:Nat),r<=k->KasOk n (PySem.W.kas_place p k f l r) (λ _=>True)
 | 0,l,r,_=>by rw [PySem.W.kas_place.eq_def];exact trivial
 | f + 1,l,r,hr=>by
  rw [PySem.W.kas_place.eq_def];show KasOk n (if l ≥ r then _ else _) _;by_cases z:l ≥ r
  ·rw [if_pos z];exact trivial
  ·rw [if_neg z];refine ⟨h.at hk,h.at (by omega),h.ne hk (by omega) (by omega),λ b=>?_⟩;cases b with
   | true=>exact zcr h hk f l _ (by omega)
   | false=>exact zcr h hk f _ r hr
theorem bin_ok {n:Nat} :∀(f:Nat) (p:Array Nat) (k:Nat),PmA n p->k + f<=n->KasOk n (PySem.W.kas_bin f p k) (PmA n)
 | 0,p,k,h,_=>by rw [PySem.W.kas_bin.eq_def];exact h
 | f + 1,p,k,h,hk=>by rw [PySem.W.kas_bin.eq_def];exact KasOk.bind ((zcr h (by omega) k 0 k (t0 _)).mono λ l _=>bin_ok f _ (k + 1) (ziv h) (by omega))
theorem zkm {n:Nat} (h2:2<=n):KasOk n (c6 n) (PmA n):=by
 unfold c6;have b:PmA n (j1 n).toArray:=List.Perm.refl _;refine KasOk.bind ((zl4 b h2).mono λ r a=>?_);show KasOk n (if r.1 < n then _ else _) _;by_cases z:r.1 < n
 ·rw [if_pos z];exact bin_ok _ _ _ a.2.2 (by have:=a.1;omega)
 ·rw [if_neg z];exact a.2.2
mutual
noncomputable def ltD:PyData->PyData->Option Bool
 | .int i,e=>match e with
  | .int j=>some (decide (i < j))
  | _=>none
 | .tuple xs,e=>match e with
  | .tuple ys=>ltDs xs ys
  | _=>none
 | .none,_=>none
 | .bool _,_=>none
 | .str _,_=>none
 | .list _,_=>none
 | .dict _,_=>none
noncomputable def ltDs:List PyData->List PyData->Option Bool
 | [],ys=>some (decide (0 < ys.length))
 | x :: xs,ys=>match ys with
  | []=>some false
  | y :: ys=>if x=y then ltDs xs ys else ltD x y
end
theorem z1p {h:Heap} :∀{vs:List Value} {ds:List PyData} {as:List Addr},c7 h vs ds as->vs.length=ds.length
 | _,_,_,.nil=>rfl
 | _,_,_,.cons _ r=>by rw [P0,P0,z1p r]
section
variable {prog:Program} {w:R0} {E:Value->u0->Prop}
theorem int_lt {i j:Int} {a b:Tok} {A:V1} {s:u0} {R:Value->u0->Prop} (q:R (.bool (decide (i < j))) s):W0 (u1 prog w) A (O9 .Lt (.int i a) (.int j b)) R E s:=(show W0 _ _ (B2 .Lt _ _) _ _ _ from lt_int q)
theorem tup_lt {p p2:Addr} {o o2:Obj} {xs ys:Array Value} {n n2:Nat} {A:V1} {s:u0} {Q:Value->u0->Prop} (ho:s.heap.get? p=some o) (hc:o.cls=.type "tuple") (hd:o.data=.seq xs n) (ho2:s.heap.get? p2=some o2) (hc2:o2.cls=.type "tuple") (hd2:o2.data=.seq ys n2) (hu:A.units + 1 < cLine)
  (h:W0 (u1 prog w) A.in1 (P9 (xs.toList.zip ys.toList) ((none:Option S7),()) λ x _=>do
    let b <-eqBool x.fst x.snd
    if (!b)=true then do
     rule "tuple.compare.by-the-first-pair-that-differs"
     let r <-O9 CmpOp.Lt x.fst x.snd
     let r <-ret r
     Z2 (d8 (some r,()))
    else Z2 (J2 (none,()))) (λ r s'=>∃b,(r.1=some (Fin.done (Flow.ret (.bool b)))\/r.1=none/\b=decide (xs.size < ys.size))/\Q (.bool b) s') E s):W0 (u1 prog w) A (O9 .Lt (.ref p) (.ref p2)) Q E s:=by
 refine wpAny_richCompare_same_room (op:=.Lt) (T:="tuple") ⟨o,ho,hc⟩ ⟨o2,ho2,hc2⟩ F.slot_tuple_lt (B3 F.slot_tuple_lt ⟨o,ho,hc⟩ F.entry_tuple_lt ?_ (F.args_tuple_lt_2 _ _)) (by omega);refine (show W0 _ _ (isInstance (.ref p2) (.type "tuple") >>= _) _ _ s from d0 (P8 (T:="tuple") ⟨o2,ho2,hc2⟩ isSubtype_tuple_tuple ?_));simp only [P7,M3,if_false];refine d0 (j0d ho hd (d0 (j0d ho2 hd2 (d0 ?_))));refine j3 h (λ r s' c=>?_) λ _ _ z=>z;obtain ⟨r,⟨⟩⟩:=r;obtain ⟨b,a,q⟩:=c;rcases a with a|⟨a,rfl⟩
 ·cases (show r=_ from a);exact F0 ⟨_,rfl,(λ z=>nomatch z),q⟩
 ·cases (show r=_ from a);exact F0 ⟨_,rfl,(λ z=>nomatch z),q⟩
mutual
theorem lt_key :∀(d e:PyData) (v z:Value) (as bs:List Addr) (b:Bool) (A:V1) (s:u0) (Q:Value->u0->Prop),keyD d=true->keyD e=true->Reads s.heap v d as->Reads s.heap z e bs->ltD d e=some b->A.units + d.depth + 1 < cLine->Q (.bool b) s->W0 (u1 prog w) A (O9 .Lt v z) Q E s
 | .int i,e,v,z,as,bs,b,A,s,Q,_,_,r,r2,h,_,q=>by
  cases e with
  | int j=>cases r;cases r2;cases (show some (decide (i < j))=some b from h);exact int_lt q
  | _=>cases (show (none:Option Bool)=some b from h)
 | .tuple xs,e,v,z,as,bs,b,A,s,Q,hd,he,r,r2,h,c,q=>by
  cases e with
  | tuple ys=>
   cases r with
   | @tuple a o vs n _ _ h1 h2 h3 h4=>
    cases r2 with
    | @tuple a' o' vs' n' _ _ g1 g2 g3 g4=>have c:A.units + (O1 xs + 1) + 1 < cLine:=c;refine tup_lt h1 h2 h3 g1 g2 g3 (by omega) ?_;have k:=z1p h4;have g:=z1p g4;refine zkr xs ys vs.toList vs'.toList _ _ b A.in1 s _ hd he h4 g4 h (show A.units + 1 + O1 xs + 1 < cLine by omega) (λ r f=>⟨b,f.imp id (λ z=>⟨z.1,?_⟩),q⟩);rw [z.2,<-k,<-g,P2,P2]
  | _=>cases (show (none:Option Bool)=some b from h)
 | .none,_,_,_,_,_,_,_,_,_,hk,_,_,_,_,_,_=>by cases hk
 | .bool _,_,_,_,_,_,_,_,_,_,hk,_,_,_,_,_,_=>by cases hk
 | .str _,_,_,_,_,_,_,_,_,_,hk,_,_,_,_,_,_=>by cases hk
 | .list _,_,_,_,_,_,_,_,_,_,hk,_,_,_,_,_,_=>by cases hk
 | .dict _,_,_,_,_,_,_,_,_,_,hk,_,_,_,_,_,_=>by cases hk
theorem zkr :∀(ds es:List PyData) (vs us:List Value) (as bs:List Addr) (b:Bool) (A:V1) (s:u0) (R:Option S7×Unit->u0->Prop),keyDs ds=true->keyDs es=true->c7 s.heap vs ds as->c7 s.heap us es bs->ltDs ds es=some b->A.units + O1 ds + 1 < cLine->
  (∀r,(r=some (Fin.done (Flow.ret (.bool b)))\/r=none/\b=decide (ds.length < es.length))->R (r,()) s)->
  W0 (u1 prog w) A (P9 (vs.zip us) ((none:Option S7),()) λ x _=>do
    let b <-eqBool x.fst x.snd
    if (!b)=true then do
     rule "tuple.compare.by-the-first-pair-that-differs"
     let r <-O9 CmpOp.Lt x.fst x.snd
     let r <-ret r
     Z2 (d8 (some r,()))
    else Z2 (J2 (none,()))) R E s
 | [],es,vs,us,as,bs,b,A,s,R,_,_,r,_,h,_,q=>by cases r;rw [List.zip_nil_left,F5];cases (show some (decide (0 < es.length))=some b from h);exact F0 (q none (.inr ⟨rfl,rfl⟩))
 | d :: ds,es,vs,us,as,bs,b,A,s,R,c,a,r,r2,h,f,q=>by
  cases es with
  | nil=>cases r2;rw [List.zip_nil_right,F5];cases (show some false=some b from h);exact F0 (q none (.inr ⟨rfl,rfl⟩))
  | cons e es=>
   have c:=Bool.and_eq_true_iff.mp (show (keyD d && keyDs ds)=true from c);have a:=Bool.and_eq_true_iff.mp (show (keyD e && keyDs es)=true from a);have f:A.units + max d.depth (O1 ds) + 1 < cLine:=f;cases r with
   | @cons v vs _ _ as as' a1 a2=>
    cases r2 with
    | @cons u us _ _ bs bs' b1 b2=>
     have h:(if d=e then ltDs ds es else ltD d e)=some b:=h;rw [F9,S4];refine d0 (d0 (j05 d e A s v u as bs a1 b1 (z5y d c.1) (z5y e a.1) (by have:=L8 d.depth e.depth;omega) prog w E _ ?_));rw [zf1 (p:=d=e) (z2m d c.1) (z2m e a.1) Iff.rfl];by_cases z:d=e
     ·rw [if_pos z] at h;rw [decide_eq_true z];simp only [P7,M3,if_false];refine F0 (zkr ds es vs us as' bs' b A s R c.2 a.2 a2 b2 h (by omega) λ r g=>q r (g.imp id λ y=>⟨y.1,y.2.trans (by simp)⟩))
     ·rw [if_neg z] at h;rw [decide_eq_false z];simp only [Bool.not_false,if_true];exact d0 (wpAny_rule (d0 (lt_key d e v u as bs b A s _ c.1 a.1 a1 b1 h (by omega) (d0 (F0 (F0 (F0 (q _ (.inl rfl)))))))))
end
end
def nsE (k:PyData×Addr):DictEntry:={ hash:=hashD k.1,key:=.ref k.2,val:=.bool true }
abbrev zQ:=List (PyData×Addr)
def NsO (a:Addr) (ks:zQ):HO:=.ext λ h=>(a == m3)=false/\ks.length<=sizeLine/\(ks.map (·.1)).Nodup/\∃ep,DcAt h a (ks.map nsE).toArray ep
def NsAt (K:b0) (H:Hp) (a:Addr) (ks:zQ):Prop:=Rd H a (NsO a ks)/\∀k∈ks,keyD k.1=true/\k.1.depth<=7/\IsPd K H k.1 (.ref k.2)
noncomputable def putN (ks:zQ) (d:PyData) (b:Addr):zQ:=if d∈ks.map (·.1) then ks else ks++[(d,b)]
section
variable {X:Cx} {pins:zP} {σ:St} {H:Hp} {s:u0} {a b:Addr} {ks:zQ} {d:PyData} {A:V1} {E:Value->u0->Prop}
theorem ns_is (I:Inv X pins σ H s) (hk:keyD d=true) (hd:d.depth<=7) (h:IsPd X.K H d (.ref b)):(z5n X.prog X.w).is s.heap d b:=by obtain ⟨a,r⟩:=z4e I d (.ref b) (.ref b) h rfl;exact ⟨hk,hd,a,r⟩
theorem zat (I:Inv X pins σ H s) (h:NsAt X.K H a ks):(a == m3)=false/\ks.length<=sizeLine/\(ks.map (·.1)).Nodup/\(∃ep,DcAt s.heap a (ks.map nsE).toArray ep)/\s.heap.DictOfH (z5n X.prog X.w) a (ks.map λ k=>(k.1,k.2,Z3 true)):=by
 obtain ⟨m,d⟩:=h;obtain ⟨⟨e,l,c,ep,b⟩,_⟩:=(show ObjOk X.prog X.w H s.heap a (NsO a ks) from m.ok I.hok)
 refine ⟨e,l,c,⟨ep,b⟩,?_⟩;obtain ⟨o,q,r,p⟩:=b;refine ⟨o,_,ep,q,r,p,?_,λ x g=>?_,?_⟩
 ·rw [S2];rfl
 ·obtain ⟨k,f,rfl⟩:=List.mem_map.mp g;obtain ⟨i,n,j⟩:=d k f;exact ns_is I i n j
 ·rw [S2];exact c
theorem at_ns:(Q8 (ks.map λ k=>(k.1,k.2,Z3 true)) d).isSome=decide (d∈ks.map (·.1)):=by
 unfold Q8;rw [A7,Bool.eq_iff_iff,List.find?_isSome,decide_eq_true_iff];constructor
 ·rintro ⟨x,hx,e⟩;obtain ⟨k,a,rfl⟩:=List.mem_map.mp hx;exact List.mem_map.mpr ⟨k,a,of_decide_eq_true e⟩
 ·intro h;obtain ⟨k,a,e⟩:=List.mem_map.mp h;exact ⟨_,List.mem_map.mpr ⟨k,a,rfl⟩,decide_eq_true e⟩
theorem zcy:storedH (ks.map λ k=>(k.1,k.2,Z3 true)) d b (.bool true)=(putN ks d b).map λ k=>(k.1,k.2,Z3 true):=by
 unfold storedH putN;rw [at_ns];by_cases z:d∈ks.map (·.1)
 ·rw [if_pos (decide_eq_true z),if_pos z,S2];refine List.map_congr_left λ k a=>?_;show putAt d (.bool true) (k.1,k.2,Z3 true)=_;unfold putAt;split<;>rfl
 ·rw [if_neg (by rw [decide_eq_false z];decide),if_neg z,E1];rfl
theorem z98:(putN ks d b).length<=ks.length + 1:=by
 unfold putN;split
 ·omega
 ·rw [D0];exact t0 _
theorem ns_put {Q:Unit->u0->Prop} (hu:A.units + 9 < cLine) (I:Inv X pins σ H s) (ha:H a=some (NsO a ks)) (h:NsAt X.K H a ks) (hl:ks.length < sizeLine) (hk:keyD d=true) (hd:d.depth<=7) (hb:IsPd X.K H d (.ref b)) (q :∀s',Inv X pins σ (upd H a (NsO a (putN ks d b))) s'->Q () s'):W0 (u1 X.prog X.w) A (setItem (.ref a) (.ref b) (.bool true)) Q E s:=by
 obtain ⟨i,u,M,_,C⟩:=zat I h;refine wpAny_setItem_heap (knd:=z5n X.prog X.w) (hsz:=by rw [o0];exact u) (show A.units + 1 + 8 < cLine by omega) (ns_is I hk hd hb) C λ J g l=>q _ ?_;rw [zcy] at g;obtain ⟨o,t,v,c,F,x,z,_,e⟩:=g;have m:t=((putN ks d b).map nsE).toArray:=by apply Array.ext';rw [z,S2];rfl
 subst m;refine z88 I (by rw [ha];exact True.intro) l ⟨o,c⟩ ⟨⟨i,by have:=z98 (ks:=ks) (d:=d) (b:=b);omega,?_,v,o,c,F,x⟩,⟨o,c⟩,λ G L p k=>?_⟩
 ·rw [S2] at e;exact e
 ·obtain ⟨D,B,y,r,f,j,n⟩:=p;exact ⟨D,B,y,r,f,k f j,n⟩
end
def tDNewN:TE:=λ _ H Q=>∀p,H p=none->Q (.ref p) (upd H p (NsO p []))
noncomputable def rInN (K:b0) (neg:Bool):R2:=λ y x H Q=>∃a b ks d,x=.ref a/\y=.ref b/\NsAt K H a ks/\keyD d=true/\d.depth<=7/\IsPd K H d (.ref b)/\Q (.bl (xor neg (decide (d∈ks.map (·.1))))) H
noncomputable def sNPut (K:b0) (td ty tv:TE):TS:=λ D σ H=>tv σ H λ v H1=>td σ H1 λ x H2=>ty σ H2 λ y H3=>∃a b ks d,v=.bl true/\x=.ref a/\y=.ref b/\H3 a=some (NsO a ks)/\NsAt K H3 a ks/\ks.length < sizeLine/\keyD d=true/\d.depth<=7/\IsPd K H3 d (.ref b)/\D.nx σ (upd H3 a (NsO a (putN ks d b)))
section
variable {X:Cx}
theorem zhm {P:Program} {w:R0} {H:Hp} (h:Heap) (hb:m3 < h.objs.size):ObjOk P w H (h.push { cls:=.type "dict",data:=.dict #[] }) h.objs.size (NsO h.objs.size []):=by refine ⟨⟨beq_eq_false_iff_ne.mpr (W3 (C1 hb)),Q1 _,List.nodup_nil,0,_,Y0 _ rfl,⟨rfl,rfl,rfl⟩,rfl⟩,⟨_,Y0 _ rfl⟩,λ j i p k=>?_⟩;obtain ⟨g,d,c,e,a,f,b⟩:=p;exact ⟨g,d,c,e,a,k a f,b⟩
theorem zfn {pos:Pos}:PE X (.Dict [] [] pos) tDNewN:=λ b s σ H Q I h=>wpAny_Dict_empty ⟨.ref s.heap.objs.size,_,I.laid (a:=s.heap.objs.size) (o:=NsO s.heap.objs.size []) (t':=s.toks) (λ _ _ q=>C0 _ q) (t0 _) (zhm s.heap I.big),rfl,h _ (I.hok.fresh (t0 _))⟩
theorem op_inN {k:Nat} (hr:Room k X.A):OpR X (B2 .In) (rInN X.K false):=by intro t s σ H y x u v Q I f i h;obtain ⟨a,b,o,d,rfl,rfl,j,l,e,g,q⟩:=h;cases f;cases i;have p:=hr.units;obtain ⟨c,n,r,_,m⟩:=zat I j;refine wpAny_in_heap (knd:=z5n X.prog X.w) (show X.A.units + 1 + 8 < cLine by omega) (ns_is I l e g) c m ?_;rw [at_ns];rw [Bool.false_xor] at q;exact ⟨.bl _,H,I.tok _,rfl,q⟩
theorem zig {k:Nat} (hr:Room k X.A):OpR X (B2 .NotIn) (rInN X.K true):=by intro t s σ H y x u v Q I f i h;obtain ⟨a,b,o,d,rfl,rfl,j,l,e,g,q⟩:=h;cases f;cases i;have p:=hr.units;obtain ⟨c,n,r,_,m⟩:=zat I j;refine wpAny_notIn_heap (knd:=z5n X.prog X.w) (show X.A.units + 1 + 8 < cLine by omega) (ns_is I l e g) c m ?_;rw [at_ns];rw [Bool.true_xor] at q;exact ⟨.bl _,H,I.tok _,rfl,q⟩
theorem zfg {o i value:Expr} {pos pos':Pos} {td ty tv:TE} {k:Nat} (hr:Room k X.A) (ho:PE X o td) (hi:PE X i ty) (hv:PE X value tv) (hs:R6 value (some (.Subscript o i pos')) pos.line X.env=Z2 false) :
  PS X (.Assign [.Subscript o i pos'] value pos) (sNPut X.K td ty tv):=by
 intro c s σ H D I h;refine wpAny_Assign_Subscript (thn (hv c s σ H _ I h) λ r f ⟨v,H1,I1,rv,q1⟩=>thn (ho c f σ H1 _ I1 q1) λ u e ⟨x,H2,I2,rx,q2⟩=>thn (hi c e σ H2 _ I2 q2) λ g n ⟨y,H3,I3,ry,a,b,ks,d,ev,ex,ey,h0,h1,h2,h3,h4,h5,q3⟩=>?_) hs;subst ev ex ey;obtain rfl:u=Z0 a:=rx;obtain rfl:g=Z0 b:=ry;obtain rfl:r=Z3 true:=rv;have m:=hr.units;exact ns_put (by omega) I3 h0 h1 h2 h3 h4 h5 λ l j=>⟨σ,_,j,q3⟩
end
noncomputable def cmpD (ds:List PyData) (i j:Nat):Bool:=(ltD (ds.getD i .none) (ds.getD j .none)).getD false
noncomputable def srtD (ds:List PyData):List Nat:=if ds.length < 2 then j1 ds.length else ((kasRun (cmpD ds) ds.length (c6 ds.length)).getD #[]).toList
theorem z9n (ds:List PyData):(srtD ds).Perm (j1 ds.length):=by
 unfold srtD;split
 ·exact List.Perm.refl _
 ·obtain ⟨p,a,b⟩:=(zkm (n:=ds.length) (by omega)).run (cmpD ds);rw [a];exact b
def TupD (h:Heap) (v:Value) (d:PyData):Prop:=keyD d=true/\d.depth<=7/\(∃xs ys,d=.tuple (.tuple xs :: ys))/\∃as,Reads h v d as
theorem TupD.kept {h h':Heap} {v:Value} {d:PyData} {c:Addr} {oc:Obj} (q:TupD h v d) (e:h.get? c=some oc) (nc:oc.cls≠.type "tuple") (k :∀b o,b≠c->h.get? b=some o->h'.get? b=some o):TupD h' v d:=by obtain ⟨g,j,m,f,i⟩:=q;exact ⟨g,j,m,f,z9j (λ b o p n a l _=>k b o (λ z=>by rw [z,e] at a;cases a;exact nc l) a) d v f g i⟩
section
variable {prog:Program} {w:R0} {A:V1} {E:Value->u0->Prop} {s:u0}
theorem zk3 :∀(ds es:List PyData) (vs us:List Value) (as bs:List Addr) (i:Nat) (b fin:Bool) (Q:Bool->u0->Prop),keyDs ds=true->keyDs es=true->c7 s.heap vs ds as->c7 s.heap us es bs->ltDs ds es=some b->fin=decide (ds.length < es.length)->A.units + O1 ds + 1 < cLine->Q b s->PySem.W.KatLex prog w A false fin Q (vs.zip us) i s
 | [],es,vs,us,as,bs,i,b,fin,Q,_,_,r,_,h,hf,_,q=>by cases r;rw [List.zip_nil_left];cases (show some (decide (0 < es.length))=some b from h);exact PySem.W.kat_nil (by rw [hf];exact q)
 | d :: ds,es,vs,us,as,bs,i,b,fin,Q,c,a,r,r2,h,hf,f,q=>by
  cases es with
  | nil=>cases r2;rw [List.zip_nil_right];cases (show some false=some b from h);exact PySem.W.kat_nil (by rw [hf];exact q)
  | cons e es=>
   have c:=Bool.and_eq_true_iff.mp (show (keyD d && keyDs ds)=true from c);have a:=Bool.and_eq_true_iff.mp (show (keyD e && keyDs es)=true from a);have f:A.units + max d.depth (O1 ds) + 1 < cLine:=f;cases r with
   | @cons v vs _ _ as as' a1 a2=>
    cases r2 with
    | @cons u us _ _ bs bs' b1 b2=>
     have h:(if d=e then ltDs ds es else ltD d e)=some b:=h;rw [F9];refine PySem.W.kat_cons (j05 d e A s v u as bs a1 b1 (z5y d c.1) (z5y e a.1) (by have:=L8 d.depth e.depth;omega) prog w _ _ ?_);rw [zf1 (p:=d=e) (z2m d c.1) (z2m e a.1) Iff.rfl];by_cases z:d=e
     ·rw [if_pos z] at h;rw [decide_eq_true z];exact PySem.W.kat_yes (zk3 ds es vs us as' bs' (i + 1) b fin Q c.2 a.2 a2 b2 h (by rw [hf];simp) (by omega) q)
     ·rw [if_neg z] at h;rw [decide_eq_false z];refine PySem.W.kat_no ?_;rw [oneLt'_eq];simp only [i7,M3,if_false];exact d0 (lt_key d e v u as bs b A s _ c.1 a.1 a1 b1 h (by omega) (F0 q))
theorem zmv {v z:Value} {d e:PyData} {b:Bool} {Q:Bool->u0->Prop} (hx:TupD s.heap v d) (hy:TupD s.heap z e) (h:ltD d e=some b) (hu:A.units + 9 < cLine) (q:Q b s):W0 (u1 prog w) A (keyLt' (tuples' false) v z) Q E s:=by
 obtain ⟨i,c,⟨l,j,rfl⟩,m,f⟩:=hx;obtain ⟨g,r,⟨t,p,rfl⟩,bs,k⟩:=hy;cases f with
 | @tuple a o vs n _ _ e1 e2 e3 e4=>
  cases k with
  | @tuple a' o' vs' n' _ _ f1 f2 f3 f4=>have c:O1 (.tuple l :: j) + 1<=7:=c;refine PySem.W.kat_lt e1 e3 f1 f3 (zk3 _ _ _ _ _ _ 0 b _ Q i g e4 f4 h ?_ (by omega) q);rw [<-z1p e4,<-z1p f4,P2,P2]
theorem zf6 {h:Heap} :∀{vs:List Value} {ds:List PyData},All2 (λ v d=>TupD h v d) vs ds->∃fs,PySem.W.KatTups h vs fs/\fs.length=vs.length/\∀f∈fs,PySem.W.Looks (u1 prog w) h (typeOf f) (.type "tuple")
 | _,_,.nil=>⟨[],trivial,rfl,λ _ h=>absurd h j0⟩
 | _,_,.cons a r=>by
  obtain ⟨fs,j,c,i⟩:=zf6 r;obtain ⟨_,_,⟨u,t,rfl⟩,p,e⟩:=a;cases e with
  | @tuple a o vs n _ _ e1 e2 e3 e4=>
   generalize hl:vs.toList=l at e4;cases e4 with
   | @cons f l _ _ _ _ r1 r2=>
    have m:vs[0]? = some f:=by rw [<-o6,hl];rfl
    refine ⟨f :: fs,PySem.W.KatTups.cons e1 e2 e3 m j,by rw [P0,P0,c],λ g b=>?_⟩;rcases List.mem_cons.mp b with rfl|b
    ·cases r1 with
     | tuple g1 g2 g3 g4=>exact λ A Q E s k q=>j11 (T:="tuple") ⟨_,k _ _ g1,g2⟩ q
    ·exact i g b
theorem zjd {a:Addr} {vs:List Value} {ds:List PyData} {n0:Nat} {P:S7->u0->Prop} (ho:s.heap.get? a=some (m7 "list" vs.toArray n0)) (l64:vs.length < 64) (al:All2 (λ v d=>TupD s.heap v d) vs ds) (nd:ds.Nodup) (cm :∀d∈ds,∀e∈ds,d≠e->(ltD d e).isSome=true) (hu:A.units + 9 < cLine)
  (h :∀(h':Heap) (e:Nat),(∀b o,b≠a->s.heap.get? b=some o->h'.get? b=some o)->h'.get? a=some (m7 "list" ((srtD ds).map λ i=>vs.getD i U2).toArray e)->P (.done (.ret .none)) { s with heap:=h' }) :
  W0 (u1 prog w) A (j04.«list.sort» ⟨[.ref a],[]⟩) P E s:=by
 have F:ds.length=vs.length:=z03 al;have la:a < s.heap.objs.size:=Q0 ho;have sz:vs.length<=sizeLine:=A0 (V2 l64) (by decide);obtain ⟨G,I⟩ :∃G,(s.heap.update a (G5 λ _=>(#[]:Array Value))).get? a=some (m7 "list" #[] G):=⟨_,get?_update_seq ho λ _=>#[]⟩
 rw [list_sort_plain];refine d0 (listItems_at ho rfl (d0 (listUpdate_at ho rfl (d0 (seqEpoch_at I rfl (d0 (wpAny_newTuple (d0 (j08 (D4 ?_) (Q1 _))) (by simpa using sz))))) (by simpa using sz) (Q1 _))));dsimp only;generalize hh3:((s.heap.update a (G5 λ _=>(#[]:Array Value))).push (m7 "tuple" vs.toArray 0)).push (m7 "list" #[] 0)=h3;have s1:=Z4 s.heap a (G5 λ _=>(#[]:Array Value));have V :∀b o,b≠a->s.heap.get? b=some o->h3.get? b=some o:=λ b o n e=>by rw [<-hh3];exact C0 _ (C0 _ ((s1.2 b n).trans e))
 have r:h3.get? a=some (m7 "list" #[] G):=by rw [<-hh3];exact C0 _ (C0 _ I)
 have X:All2 (λ v k=>TupD h3 v k) vs ds:=z01 (λ _ _ z=>z.kept ho (show b7 "list"≠.type "tuple" by decide) V) al;have J :∀(l:Array Value),l=((srtD ds).map λ i=>vs.getD i U2).toArray->P (.done (.ret .none)) { s with heap:=h3.update a (G5 λ _=>l) }:=λ l g=>by
  obtain ⟨D,K⟩ :∃D,(h3.update a (G5 λ _=>l)).get? a=some (m7 "list" l D):=⟨_,get?_update_seq r λ _=>l⟩
  rw [g] at K⊢;exact h _ D (λ b o n e=>(m8 _ _ (W3 n)).trans (V b o n e)) K
 have H:((srtD ds).map λ i=>vs.getD i U2).toArray.size<=sizeLine + 1:=by rw [K0,o0,(z9n ds).length_eq,Y1,F];exact A0 sz (F3 _)
 by_cases f:vs.toArray.size < 2
 ·rw [if_pos f];have Y:vs.length < 2:=by simpa using f
  have m:(j1 vs.length).map (λ i=>vs.getD i U2)=vs:=by
   apply A6
   ·simp
   ·intro i h1 f;simp [T1,B0 f]
  have B:srtD ds=j1 vs.length:=by unfold srtD;rw [if_pos (by omega),F]
  refine d0 (F0 ?_);rw [if_pos f];refine (show W0 _ _ (Z2 ((),SortSt.mk' general' (vs.toArray.zip vs.toArray) #[] 7 none) >>= _) _ _ _ from d0 (F0 ?_));dsimp only;have g:j2i (λ x=>x.snd) (arrOf (SortSt.mk' general' (vs.toArray.zip vs.toArray) #[] 7 none))=((srtD ds).map λ i=>vs.getD i U2).toArray:=by
   rw [B,m];show j2i (λ x=>x.snd) (vs.toArray.zip vs.toArray)=vs.toArray;apply Array.ext
   ·simp
   ·intro i h1 f;simp
  refine d0 (seqEpoch_at r rfl (d0 (listUpdate_at r rfl ?_ (Q1 _) ?_)))
  ·simp only [bne_self_eq_false,M3,if_false];exact F0 (J _ g)
  ·rw [g];exact H
 ·rw [if_neg f];have Y:2<=vs.length:=by simpa using Nat.not_lt.mp f
  obtain ⟨fs,kt,lf,a6⟩:=zf6 (prog:=prog) (w:=w) X;refine d0 (PySem.W.kat_kind (T:=.type "tuple") kt (by omega) a6 (by decide) ?_);rw [if_neg f];obtain ⟨p,m,pp⟩:=(zkm (n:=ds.length) (by omega)).run (cmpD ds);have B:srtD ds=p.toList:=by unfold srtD;rw [if_neg (by omega),m];rfl
  rw [F] at m;rw [show (b7 "tuple" != b7 "tuple")=false by decide];have S :∀i,i < vs.length->TupD h3 (vs.getD i U2) (ds.getD i .none):=λ i u=>by have U:ds[i]? = some (ds[i]'(by omega)):=B0 (by omega);obtain ⟨v,hv,z⟩:=z0f X U;rw [T1,T1,hv,U];exact z
  have N :∀i,i < vs.length->ds.getD i .none∈ds:=λ i u=>by rw [T1,B0 (show i < ds.length by omega)];exact z6 _
  have a5:(c6 vs.length).kasWp (PySem.W.kas_ask prog w A (tuples' false) vs) (λ M t=>t={ s with heap:=h3 }/\M=p) { s with heap:=h3 }:=zcv (c:=cmpD ds) (n:=vs.length) (λ i j C u L ne q=>by
   have a0:ds.getD i .none≠ds.getD j .none:=λ e=>ne (by rw [T1,T1,B0 (show i < ds.length by omega),B0 (show j < ds.length by omega)] at e;exact (j0b nd).mp e);obtain ⟨b,R⟩:=Option.isSome_iff_exists.mp (cm _ (N i u) _ (N j L) a0);unfold cmpD at q;rw [R] at q;exact zmv (s:={ s with heap:=h3 }) (S i u) (S j L) R hu q) (c6 vs.length) p m ⟨rfl,rfl⟩
  refine d0 (j3 (PySem.W.kat_run (κ:=tuples' false) (ks:=vs) (vs:=vs) (Q:=λ y t=>t={ s with heap:=h3 }/\failedOf y=none/\j2i (λ x=>x.snd) (arrOf y)=(p.toList.map λ i=>vs.getD i U2).toArray) rfl Y (by omega) (λ M y t a1 Z a3 O=>⟨O.1,a3,by rw [<-O.2];exact PySem.W.kat_snds rfl Z⟩) a5) ?_ λ _ _ z=>z);rintro ⟨⟨⟩,y⟩ t ⟨rfl,hf,g⟩;rw [<-B] at g;dsimp only at hf g⊢;refine d0 (seqEpoch_at r rfl (d0 (listUpdate_at r rfl ?_ (Q1 _) ?_)))
  ·rw [hf];simp only [bne_self_eq_false,M3,if_false];exact F0 (J _ g)
  ·rw [g];exact H
end
section
variable {X:Cx}
theorem zc1 {k:Nat} (hr:Room k X.A):CallR X (.builtin "sorted") (λ xs H Q=>∃a ks,xs=[.ref a]/\NsAt X.K H a ks/\ks.length < 64/\(∀k∈ks,∃xs ys,k.1=.tuple (.tuple xs :: ys))/\(∀k∈ks,∀k'∈ks,k.1≠k'.1->(ltD k.1 k'.1).isSome=true)/\
  ∀l:Addr,H l=none->Q (.ref l) (upd H l (.lst ((srtD (ks.map (·.1))).map λ i=>V.ref (ks.getD i (.none,0)).2)))):=by
 intro a0 s σ H xs us Q I rv h;obtain ⟨a,ks,rfl,L,R,tt,cm,q⟩:=h;obtain ⟨u,rfl,rx⟩:=vals1 rv;cases rx;have a1:=hr.units;obtain ⟨W,N,g3,⟨ep,g4⟩,_⟩:=zat I L;have B:(ks.map nsE).toArray.size=ks.length:=by rw [K0,o0]
 refine B7 kind_sorted plain_sorted entry_sorted (args_sorted1 _) ?_;unfold j04.«sorted»;refine d0 (m:=checkCount "sorted" 1 1 _) (F0 (d0 (j3a (kdl_dc W) (show X.A.in1.handled=none from hr.hd) g4 (by rw [B];exact N) λ c t M k1 w=>?_)));have ea:M.toList=ks.map λ k=>Z0 k.2:=by
  apply M7;intro j;by_cases f:j < ks.length
  ·have J:j < M.size:=by rw [w.1,B];exact f
   obtain ⟨e,P,e2⟩:=w.2 j _ (E2 J);rw [o6,E2 J,O0,e2];rw [M8,O0,B0 f] at P;rw [B0 f];cases P;rfl
  ·rw [J3 (by rw [P2,w.1,B];omega),J3 (by rw [o0];omega)]
 rw [ea];have E:Inv X a0 σ H { s with heap:=c,toks:=t }:=I.kept (t':=t) k1;have S:(c.push (m7 "list" (ks.map λ k=>Z0 k.2).toArray 0)).get? c.objs.size=some (m7 "list" (ks.map λ k=>Z0 k.2).toArray 0):=Y0 _ rfl;have U :∀(h:Heap),(∀b o,c.get? b=some o->h.get? b=some o)->∀l:zQ,(∀k∈l,k∈ks)->All2 (λ v d=>TupD h v d) (l.map λ k=>Z0 k.2) (l.map (·.1)):=λ h C l=>by
  induction l with
  | nil=>intro _;exact .nil
  | cons k l ih=>intro g;obtain ⟨O,n2,n3⟩:=L.2 k (g k L0);obtain ⟨as,r⟩:=z4e E k.1 (.ref k.2) (.ref k.2) n3 rfl;exact .cons ⟨O,n2,tt k (g k L0),as,z9j (λ b o vs n e _ _=>C b o e) _ _ _ O r⟩ (ih λ x hx=>g x (V0 _ hx))
 have G:(ks.map λ k=>Z0 k.2).length=ks.length:=o0 ..;refine d0 (j08 (d0 (D4 (B3 j3h ⟨_,S,rfl⟩ j31 (zjd (s:={ s with heap:=c.push (m7 "list" (ks.map λ k=>Z0 k.2).toArray 0),toks:=t }) (ds:=ks.map (·.1)) S (by rw [G];exact R) (U _ (λ b o e=>C0 _ e) ks λ _ h=>h) g3 (λ d hd e T ne=>?_) (show X.A.units + 1 + 1 + 9 < cLine by omega) λ h' e C g=>⟨_,rfl,?_⟩) (j41 _)))) (by rw [G];exact A0 (V2 R) (by decide)))
 ·obtain ⟨k,hk,rfl⟩:=List.mem_map.mp hd;obtain ⟨k',Y,rfl⟩:=List.mem_map.mp T;exact cm k hk k' Y ne
 have Z :∀b o,c.get? b=some o->h'.get? b=some o:=λ b o z=>C b o (C1 (Q0 z)) (C0 _ z);have y:=z9n (ks.map (·.1));rw [o0] at y;have vg :∀p:List Nat,(∀i∈p,i < ks.length)->Vals (p.map λ i=>V.ref (ks.getD i (.none,0)).2) (p.map λ i=>(ks.map λ k=>Z0 k.2).getD i U2):=by
  intro p;induction p with
  | nil=>intro _;exact .nil
  | cons i p ih=>intro F;refine .cons ?_ (ih λ j f=>F j (.tail _ f));have D:=F i (.head _);show RelV (V.ref (ks.getD i (.none,0)).2) ((ks.map λ k=>Z0 k.2).getD i U2);rw [T1,T1,O0,B0 D];rfl
 refine F0 ⟨_,rfl,.ref c.objs.size,_,E.laid (t':=t) (o:=.lst ((srtD (ks.map (·.1))).map λ i=>V.ref (ks.getD i (.none,0)).2)) Z (t0 _) ⟨?_,_,e,vg _ (λ i D=>List.mem_range.mp (y.mem_iff.mp D)),g⟩,rfl,q _ (E.hok.fresh (t0 _))⟩;rw [o0,y.length_eq,Y1];exact N
end
noncomputable def ItN (a:Addr) (ob:Obj) (ks:zQ):It:=
 ⟨λ i H=>H a=some (.frz ob (NsO a ks))/\i < ks.length,λ i H x H'=>H'=H/\∃k,ks[i]? = some k/\x=.ref k.2,λ i H=>H a=some (.frz ob (NsO a ks))/\ks.length<=i⟩
theorem zk8 {X:Cx} {pins:zP} {σ:St} {H:Hp} {s:u0} {a:Addr} {ob:Obj} {ks:zQ} {es:Array DictEntry} {ep:Nat} (I:Inv X pins σ H s) (hob:ob.data=.dict es ep) (e:H a=some (.frz ob (NsO a ks))) :
  DcAt s.heap a (ks.map nsE).toArray ep:=by
 obtain ⟨b,⟨_,_,_,g,o,c,f,d⟩,_⟩:=(show ObjOk X.prog X.w H s.heap a (.frz ob (NsO a ks)) from I.hok a _ e)
 rw [b] at c;cases c;rw [hob] at d;cases d;exact ⟨ob,b,f,hob⟩
theorem z7d (ks:zQ):(ks.map nsE).toArray.size=ks.length:=by rw [K0,o0]
theorem zhy {P:Program} {w:R0} {K:b0} {tg:Expr} {a it:Addr} {ob:Obj} {ks:zQ} {es:Array DictEntry} {ep:Nat} (hob:ob.data=.dict es ep):Turn P w K tg (ItN a ob ks) [it] it (λ i h=>h.IsKeyIter it a i ks.length ep) where
 mem:=by simp
 obj:=λ i h f b g=>by
  obtain rfl:b=it:=by simpa using g
  obtain ⟨o,e,c,d⟩:=f;exact ⟨o,e,λ v z=>by rw [d] at z;cases z⟩
 keep:=λ i h j f k=>by obtain ⟨o,e,r⟩:=f;exact ⟨o,k it (by simp) o e,r⟩
 item:=by intro X y t A G i L s σ H E I l f m;subst y t A;obtain ⟨C,u⟩:=m;have D:=zk8 I hob C;obtain ⟨F,p,M,q,B,n⟩:=l it (by simp);have J:ks[i]? = some ks[i]:=B0 u;rw [<-z7d ks] at f;refine zk4 (e:=nsE ks[i]) f D (by rw [M8,O0,J];rfl) λ j x N=>?_;have O:Inv X L σ H { s with heap:=j }:=I.turned (t':=s.toks) (λ b o g e=>(N.2 b g).trans e) F p q B n;obtain ⟨o,e,c,d⟩:=id x;rw [z7d ks] at x;exact ⟨_,rfl,go_of (s:={ s with heap:=j }) e c d (by decide) ⟨.ref ks[i].2,H,O,rfl,⟨rfl,_,J,rfl⟩,x,λ b g=>(l b g).1⟩⟩
 done:=by intro X y t A G i L s σ H E I l f m;subst y t A;obtain ⟨C,u⟩:=m;have D:=zk8 I hob C;obtain ⟨F,p,M,q,B,n⟩:=l it (by simp);rw [<-z7d ks] at f;exact ki_end (I.ok.hd G) f D (j37 (by rw [z7d];exact u)) λ j Q=>⟨rfl,I.turned (t':=s.toks) (λ b o g e=>Q b o g e) F p q B n⟩
 self:=λ _ _ _ _ _ f h=>N9 f h
noncomputable def iKeysN (td:TE):TI:=λ σ H R=>td σ H λ x H1=>∃a ks,x=.ref a/\H1 a=some (NsO a ks)/\∀ob,R (ItN a ob ks) (upd H1 a (.frz ob (NsO a ks)))
theorem zft {X:Cx} {tg o:Expr} {to:TE} (ho:PE X o to):PI X tg o (iKeysN to):=by
 intro j s σ H R I h;refine thn (ho j s σ H _ I h) λ v c ⟨x,H1,I1,r1,a,ks,ex,ea,q⟩=>?_;subst ex;cases r1;obtain ⟨⟨g,m,y,p,f⟩,t,k⟩:=(show ObjOk X.prog X.w H1 c.heap a (NsO a ks) from I1.hok a _ ea)
 obtain ⟨i,u,A,n⟩:=id f;have l :∀o w,X.H₀ a≠some (.frz o w):=λ o w q=>by have z:=I1.base.frzs a o w q;rw [ea] at z;cases z
 have d:Inv X j σ (upd H1 a (.frz i (NsO a ks))) c:=I1.retold ea (λ _ z=>by cases z) (λ _ z=>by cases z) (λ _ z=>by cases z) l ⟨u,⟨g,m,y,p,f⟩,t,k⟩;refine zke g f ?_;refine ⟨c.heap.objs.size,[c.heap.objs.size],_,_,_,rfl,d.kept (t':=c.toks) λ b o e=>C0 _ e,zhy n,⟨_,Y0 _ rfl,rfl,by rw [z7d];rfl⟩,λ b r=>?_,q i⟩;obtain rfl:b=c.heap.objs.size:=by simpa using r
 exact d.fpOk (t0 _) (d.hok.fresh (t0 _))
theorem zjm {a:Addr} {ob:Obj} {ks:zQ} {g:TG} {tb:TS} {D:Ends} {σ:St} {H:Hp} (Pv:Nat->St->Hp->Prop) (h0:Pv 0 σ H) (fr :∀i σ H,Pv i σ H->H a=some (.frz ob (NsO a ks)))
  (hs :∀i k σ H,ks[i]? = some k->Pv i σ H->g (.ref k.2) σ H λ σ2 H2=>tb { D with nx:=Pv (i + 1),ct:=Pv (i + 1),bk:=D.nx } σ2 H2) (hd :∀σ H,Pv ks.length σ H->D.nx σ H) :
  ∃W:Nat->Nat->St->Hp->Prop,(∃m,W 0 m σ H)/\∀i m σ H,W i m σ H->
   ((ItN a ob ks).stop i H/\D.nx σ H)\/((ItN a ob ks).go i H/\∃N:St->Hp->Prop,(∀σ' H',N σ' H'->∃m',m' < m/\W (i + 1) m' σ' H')/\∀x H',(ItN a ob ks).yld i H x H'->g x σ H' λ σ2 H2=>tb { D with nx:=N,ct:=N,bk:=D.nx } σ2 H2):=by
 refine ⟨λ i m σ H=>m=ks.length - i/\i<=ks.length/\Pv i σ H,⟨ks.length,by simp,Q1 _,h0⟩,?_⟩;rintro i m σ H ⟨rfl,hi,p⟩;by_cases hlt:i < ks.length
 ·refine .inr ⟨⟨fr _ _ _ p,hlt⟩,Pv (i + 1),λ σ' H' q=>⟨ks.length - (i + 1),by omega,rfl,hlt,q⟩,λ x H' y=>?_⟩;obtain ⟨rfl,k,b,rfl⟩:=y;exact hs i k σ _ b p
 ·obtain rfl:i=ks.length:=by omega
  exact .inl ⟨⟨fr _ _ _ p,t0 _⟩,hd σ H p⟩
def ItRv (a:Addr) (n:Nat):It:=
 ⟨λ i H=>i < n/\∃xs,H a=some (.lst xs)/\xs.length=n,λ i H x H'=>H'=H/\∀xs,H a=some (.lst xs)->xs[n - 1 - i]? = some x,λ i H=>i=n⟩
theorem zlb {P:Program} {w:R0} {K:b0} {tg:Expr} (a it:Addr) (n:Nat):Turn P w K tg (ItRv a n) [it] it (λ i h=>h.IsRevIter it a ((n:Int) - 1 - (i:Nat))) where
 mem:=by simp
 obj:=λ i h f b g=>by
  obtain rfl:b=it:=by simpa using g
  obtain ⟨o,e,c,d⟩:=f;exact ⟨o,e,λ v z=>by rw [d] at z;cases z⟩
 keep:=λ i h l f k=>by obtain ⟨o,e,r⟩:=f;exact ⟨o,k it (by simp) o e,r⟩
 item:=by
  intro X B y C J i N s σ H E I m f j;subst B y C;obtain ⟨Y,O,M,hx⟩:=j;obtain ⟨a0,G,p,Z⟩:=I.list (SqL.of M);obtain ⟨F,t,Q,x,D,q⟩:=m it (by simp);have hl:=G.length;have lt:n - 1 - i < O.length:=by omega
  obtain ⟨u,T,S⟩:=G.get (B0 lt);rw [show (n:Int) - 1 - (i:Nat)=((n - 1 - i:Nat):Int) by omega] at f;refine wpAny_pyNext_rev_item f p.isList (by simpa using T) λ l A R=>?_;have U:Inv X N σ H { s with heap:=l }:=I.turned (t':=s.toks) (λ b o g e=>(R.2 b g).trans e) F t x D q;obtain ⟨o,e,c,d⟩:=id A;rw [show ((n - 1 - i:Nat):Int) - 1=(n:Int) - 1 - ((i + 1:Nat):Int) by omega] at A;refine ⟨_,rfl,go_of (s:={ s with heap:=l }) e c d (by decide) ⟨O[n - 1 - i],H,U,S,⟨rfl,λ W L=>?_⟩,A,λ b g=>(m b g).1⟩⟩;rw [M] at L;cases L;exact B0 lt
 done:=by intro X B y C J i N s σ H E I m f j;subst B y C;obtain ⟨F,t,Q,x,D,q⟩:=m it (by simp);have j:i=n:=j;rw [show (n:Int) - 1 - (i:Nat)=-1 by omega] at f;exact wpAny_pyNext_rev_end (I.ok.hd J) f λ l V=>⟨rfl,I.turned (t':=s.toks) (λ b o g e=>V b o g e) F t x D q⟩
 self:=λ _ _ _ _ _ f h=>wpAny_pyIter_revIter f h
def iRevL (tl:TE):TI:=λ σ H R=>tl σ H λ x H1=>∃a xs,x=.ref a/\H1 a=some (.lst xs)/\R (ItRv a xs.length) H1
theorem zmy {X:Cx} {tg e:Expr} {te:TE} {p2 c2:Pos} (g2:Gl X "reversed") (m2:X.mg "reversed" = none) (ha:PE X e te) (he:N1 [e] X.env=[(false,C3 e X.env)]:=by rfl):PI X tg (.Call (.Name "reversed" p2) [e] [] c2) (iRevL te):=by
 intro i s σ H R I h;refine Call_ (ld_blt I g2 m2 boot_reversed (O3 ?_ he rfl));rw [he];refine (show W0 _ _ (spliced ((false,C3 e X.env) :: [])) _ _ s from P5 (thn (ha i s σ H _ I h) λ u c ⟨x,H1,I1,r1,a,xs,ex,sq,q⟩=>?_));subst ex;cases r1;refine E7 ?_;obtain ⟨d,j,g,m⟩:=I1.list (SqL.of sq);have k:=j.length;refine call_reversed_list g.isList ?_;have f:(c.heap.push (revObj a ((d.toArray.size:Int) - 1))).IsRevIter c.heap.objs.size a ((d.toArray.size:Int) - 1):=⟨_,Y0 _ rfl,rfl,rfl⟩
 refine wpAny_pyIter_revIter f ?_;refine ⟨c.heap.objs.size,[c.heap.objs.size],_,_,H1,rfl,I1.kept (t':=c.toks) λ b o e=>C0 _ e,zlb a _ _,?_,λ b l=>?_,q⟩
 ·rw [show (xs.length:Int) - 1 - ((0:Nat):Int)=(d.toArray.size:Int) - 1 by rw [K0,<-k];omega];exact f
 obtain rfl:b=c.heap.objs.size:=by simpa using l
 exact I1.fpOk (t0 _) (I1.hok.fresh (t0 _))
theorem zmf {a:Addr} {xs:List V} {g:TG} {tb:TS} {D:Ends} {σ:St} {H:Hp} (Pv:Nat->St->Hp->Prop) (h0:Pv 0 σ H) (hl :∀i σ H,Pv i σ H->H a=some (.lst xs))
  (hs :∀i x σ H,xs.reverse[i]? = some x->Pv i σ H->g x σ H λ σ2 H2=>tb { D with nx:=Pv (i + 1),ct:=Pv (i + 1),bk:=D.nx } σ2 H2) (hd :∀σ H,Pv xs.length σ H->D.nx σ H) :
  ∃W:Nat->Nat->St->Hp->Prop,(∃m,W 0 m σ H)/\∀i m σ H,W i m σ H->
   ((ItRv a xs.length).stop i H/\D.nx σ H)\/((ItRv a xs.length).go i H/\∃N:St->Hp->Prop,(∀σ' H',N σ' H'->∃m',m' < m/\W (i + 1) m' σ' H')/\∀x H',(ItRv a xs.length).yld i H x H'->g x σ H' λ σ2 H2=>tb { D with nx:=N,ct:=N,bk:=D.nx } σ2 H2):=by
 refine ⟨λ i m σ H=>m=xs.length - i/\i<=xs.length/\Pv i σ H,⟨xs.length,by simp,Q1 _,h0⟩,?_⟩;rintro i m σ H ⟨rfl,hi,p⟩;have q:=hl i σ H p;by_cases hlt:i < xs.length
 ·refine .inr ⟨⟨hlt,xs,q,rfl⟩,Pv (i + 1),λ σ' H' b=>⟨xs.length - (i + 1),by omega,rfl,hlt,b⟩,λ x H' y=>?_⟩;obtain ⟨rfl,y⟩:=y;refine hs i x σ _ ?_ p;rw [List.getElem?_reverse hlt];exact y xs q
 ·obtain rfl:i=xs.length:=by omega
  exact .inl ⟨rfl,hd σ H p⟩
end L2
set_option maxHeartbeats 400000
namespace L2
open PySem PySem.Spec PyProof.Rows
section
variable {X:Cx}
theorem zn5 {o:Expr} {to:TE} {apos cpos:Pos} (ho:PE X o to) (hbase:U3 o "pop" X.env (C3 o X.env)=C3 o X.env:=by rfl) (hline:(apos.endLine == cpos.line)=true:=by rfl):PE X (.Call (.Attribute o "pop" apos) [] [] cpos) (tBM0 X.K "list" rPop to):=
 pe_bm0 N5 PySem.F.slot_list_pop PySem.F.type_list_pop mt_pop ho hbase hline
theorem zg2 {o e:Expr} {es:List Expr} {to:TE} {t:TA} {apos cpos:Pos} (ho:PE X o to) (ha:PA X (e :: es) t)
  (hbase:U3 o "extend" X.env (C3 o X.env)=C3 o X.env:=by rfl)
  (hfew:((F4 cpos (N1 (e :: es) X.env)).all (λ x=>!x.1) && (R9 cpos (Y6 [] X.env)).all (λ x=>x.1.isSome) && decide ((e :: es).length + ([]:List E6).length + (if ([]:List E6).isEmpty then 0 else 1) < 30))=true:=by rfl)
  (hline:(apos.endLine == cpos.line)=true:=by rfl) (hs:N1 (e :: es) X.env=(false,C3 e X.env) :: N1 es X.env:=by rfl) (hplain:(F4 cpos (N1 es X.env)).any (·.1)=false:=by rfl) :
  PE X (.Call (.Attribute o "extend" apos) (e :: es) [] cpos) (tBM X.K "list" zkg to t):=pe_bm N5 PySem.F.slot_list_extend PySem.F.type_list_extend zia ho ha hbase hfew hline hs hplain
end
end L2
set_option maxHeartbeats 1000000
namespace L2
open PySem PySem.Spec PyProof.Rows
section
variable {X:Cx} {pins:zP} {σ:St} {H:Hp} {s:u0} {a b:Addr} {ks:zQ} {d:PyData} {A:V1} {E:Value->u0->Prop}
theorem ns_set {Q:Unit->u0->Prop} (hu:A.units + 8 < cLine) (I:Inv X pins σ H s) (ha:H a=some (NsO a ks)) (h:NsAt X.K H a ks) (hl:ks.length < sizeLine) (hk:keyD d=true) (hd:d.depth<=7) (hb:IsPd X.K H d (.ref b)) (q :∀s',Inv X pins σ (upd H a (NsO a (putN ks d b))) s'->Q () s'):W0 (u1 X.prog X.w) A (dictSet a (.ref b) (.bool true)) Q E s:=by
 obtain ⟨i,u,M,_,C⟩:=zat I h;refine wpAny_dictSet_heap (knd:=z5n X.prog X.w) (hsz:=by rw [o0];exact u) hu (ns_is I hk hd hb) C λ J g l=>q _ ?_;rw [zcy] at g;obtain ⟨o,t,v,c,F,x,z,_,e⟩:=g;have m:t=((putN ks d b).map nsE).toArray:=by apply Array.ext';rw [z,S2];rfl
 subst m;refine z88 I (by rw [ha];exact True.intro) l ⟨o,c⟩ ⟨⟨i,by have:=z98 (ks:=ks) (d:=d) (b:=b);omega,?_,v,o,c,F,x⟩,⟨o,c⟩,λ G L p k=>?_⟩
 ·rw [S2] at e;exact e
 ·obtain ⟨D,B,y,r,f,j,n⟩:=p;exact ⟨D,B,y,r,f,k f j,n⟩
end
noncomputable def zml (K:b0) (tk tv:TE):TE:=λ σ H Q=>∀p,H p=none->tk σ (upd H p (NsO p [])) λ x H1=>tv σ H1 λ v H2=>∃b d,v=.bl true/\x=.ref b/\H2 p=some (NsO p [])/\keyD d=true/\d.depth<=7/\IsPd K H2 d (.ref b)/\Q (.ref p) (upd H2 p (NsO p [(d,b)]))
theorem zjq {X:Cx} {k v:Expr} {pos:Pos} {tk tv:TE} {n:Nat} (hr:Room n X.A) (hk:PE X k tk) (hv:PE X v tv):PE X (.Dict [some k] [v] pos) (zml X.K tk tv):=by intro c s σ H Q I h;have l:=hr.units;have g:=I.laid (a:=s.heap.objs.size) (o:=NsO s.heap.objs.size []) (t':=s.toks) (λ _ _ q=>C0 _ q) (t0 _) (zhm s.heap I.big);refine wpAny_Dict_any rfl rfl (by simp) (show 1<=15 by decide) (pairTrees_cons_walk (thn (hk c _ σ _ _ g (h _ (I.hok.fresh (t0 _)))) λ u i ⟨x,H1,I1,rx,q1⟩=>thn (hv c i σ H1 _ I1 q1) λ f j ⟨y,H2,I2,ry,b,d,ev,ex,h0,h1,h2,h3,q2⟩=>pairTrees_nil_walk ?_));subst ev ex;obtain rfl:u=Z0 b:=rx;obtain rfl:f=Z3 true:=ry;unfold storeAll;rw [S4];refine d0 (d0 (ns_set (by omega) I2 h0 ⟨.inl h0,λ k hk=>absurd hk j0⟩ (show 0 < sizeLine by decide) h1 h2 h3 λ m e=>?_));refine F0 ?_;exact F0 ⟨.ref s.heap.objs.size,_,e,rfl,q2⟩
theorem zey {S:Hp->Hp->Prop} {a:Addr} {ob:Obj} {ks:zQ} {H1:Hp} (hs :∀H,S H1 H->S H H) (hq :∀H,S H1 H->H a=some (.frz ob (NsO a ks))):RunsR S (ItN a ob ks) H1 ks.length (λ i v _=>∃k,ks[i]? = some k/\v=.ref k.2):=
 ⟨λ i b H s=>⟨hq H s,b⟩,λ H s=>⟨hq H s,t0 _⟩,λ i b H v c s y=>by obtain ⟨e,y⟩:=y;subst e;exact ⟨hs _ s,y⟩⟩
theorem tcompN {td te:TE} {tc:TT} {g:TG} {m:Nat} {fr:List (Nat×Str)} {σ:St} {H:Hp} {Q:VK} (Pr:Addr->zQ->Hp->Prop) (p:zQ->Nat->Bool) (R:zQ->Nat->V->Prop) (htd :∀T:VK,(∀a ks H1,Pr a ks H1->T (.ref a) H1)->td σ H T) (hp :∀a ks H1,Pr a ks H1->H1 a=some (NsO a ks)/\ks.length<=sizeLine)
  (body :∀a ks H0 ob,Pr a ks H0->∀i k,ks[i]? = some k->∀H1,Same (upd H0 a (.frz ob (NsO a ks))) H1->∀(KT:VK) (KF:Hp->Prop),(p ks i=true->∀y H',Same H1 H'->R ks i y->KT y H')->(p ks i=false->∀H',Same H1 H'->KF H')->
   g (.ref k.2) (cStG σ fr (R1 m none)) H1 λ σ6 H6=>∃us,us.length=m/\σ6=cStG σ fr us/\tc (cStG σ fr us) H6 λ b H2=>if b=true then te (cStG σ fr us) H2 KT else KF H2)
  (hQ :∀a ks H0 ob l H' ys,Pr a ks H0->Same (upd H0 a (.frz ob (NsO a ks))) H'->H' l=none->All2 (R ks) ((j1 ks.length).filter (p ks)) ys->Q (.ref l) (upd H' l (.lst ys))):tCompG (iKeysN td) m fr g tc te σ H Q:=by
 refine htd _ λ a ks H0 c=>⟨a,ks,rfl,(hp _ _ _ c).1,λ ob=>?_⟩
 refine z1m (S:=Same) (H1:=upd H0 a (.frz ob (NsO a ks))) (fr:=fr) (g:=g) (tc:=tc) (te:=te) (σ:=σ) (m:=m) (Same.refl _) (λ _ _ _ a b=>a.trans b) (p ks) (λ i y _=>R ks i y) (λ _ _ _ _ _ z=>z) (zey (S:=Same) (λ _ _=>Same.refl _) λ H s=>s _ _ upd_same) (hp _ _ _ c).2 (λ i r v H1 n h KT KF j d=>?_) λ l H' ys o q f=>hQ a ks H0 ob l H' ys c o q f;obtain ⟨k,e,rfl⟩:=h;exact body a ks H0 ob c i k e H1 n KT KF j d
end L2
set_option maxHeartbeats 4000000
namespace L2
open PySem PySem.Spec PyProof.Rows
noncomputable def Itk (a:Addr) (ob:Obj) (kvs:zK):It:=
 ⟨λ i H=>H a=some (.frz ob (.dK kvs))/\i < kvs.length,λ i H x H'=>H'=H/\∃k u,kvs[i]? = some (k,u)/\x=kV k,λ i H=>H a=some (.frz ob (.dK kvs))/\kvs.length<=i⟩
theorem zi5 {P:Program} {w:R0} {K:b0} {tg:Expr} {a it:Addr} {ob:Obj} {kvs:zK} {es:Array DictEntry} {ep:Nat} (hob:ob.data=.dict es ep):Turn P w K tg (Itk a ob kvs) [it] it (λ i h=>h.IsKeyIter it a i kvs.length ep) where
 mem:=by simp
 obj:=λ i h f b g=>by
  obtain rfl:b=it:=by simpa using g
  obtain ⟨o,e,c,d⟩:=f;exact ⟨o,e,λ v z=>by rw [d] at z;cases z⟩
 keep:=λ i h l f k=>by obtain ⟨o,e,r⟩:=f;exact ⟨o,k it (by simp) o e,r⟩
 item:=by
  intro X D A F R i W s σ H E I m f n;subst D A F;obtain ⟨J,Q⟩:=n;obtain ⟨vs,S,j,L⟩:=frz_at I hob J;obtain ⟨N,q,Y,y,G,p⟩:=m it (by simp);have U:kvs[i]? = some kvs[i]:=B0 Q;obtain ⟨⟨k',u⟩,hu,C,ru⟩:=zcx S U;rw [<-j] at f;refine wpAny_pyNext_dict_item f L hu λ T l a0 B Z=>?_;have I1:Inv X W σ H { s with heap:=l }:=I.turned (t':=s.toks) (λ b o g e=>(Z.2 b g).trans e) N q y G p;obtain ⟨o,e,c,d⟩:=id B;rw [j] at B;have rk:L2.RelV (kV kvs[i].1) T:=by
   have C:kvs[i].1=k':=C;rw [C];rcases z0n a0 with ⟨i,t,M,O⟩|⟨x,t,M,O⟩
   ·rw [M,O];exact ⟨t,rfl⟩
   ·rw [M,O];exact ⟨t,rfl⟩
  exact ⟨T,rfl,go_of (s:={ s with heap:=l }) e c d (by decide) ⟨kV kvs[i].1,H,I1,rk,⟨rfl,kvs[i].1,kvs[i].2,U,rfl⟩,B,λ b g=>(m b g).1⟩⟩
 done:=by intro X D A F R i W s σ H E I m f n;subst D A F;obtain ⟨J,Q⟩:=n;obtain ⟨vs,S,j,L⟩:=frz_at I hob J;obtain ⟨N,q,Y,y,G,p⟩:=m it (by simp);rw [<-j] at f;exact wpAny_pyNext_dict_end (I.ok.hd R) f L (by rw [J3];omega) λ l eb=>⟨rfl,I.turned (t':=s.toks) (λ b o g e=>eb b o g e) N q y G p⟩
 self:=λ _ _ _ _ _ f h=>N9 f h
noncomputable def iKeys (td:TE):TI:=λ σ H R=>td σ H λ x H1=>∃a kvs,x=.ref a/\H1 a=some (.dK kvs)/\∀ob,R (Itk a ob kvs) (upd H1 a (.frz ob (.dK kvs)))
theorem zgf {X:Cx} {tg o:Expr} {to:TE} (ho:PE X o to):PI X tg o (iKeys to):=by
 intro i s σ H R I h;refine thn (ho i s σ H _ I h) λ v c ⟨x,H1,I1,r1,a,kvs,ex,ea,q⟩=>?_;subst ex;cases r1;obtain ⟨t,z,k⟩:=isD_at I1 (.inl ⟨_,.inl ea⟩);obtain ⟨_,_,l,m,n⟩:=dk_of I1.hok ea;obtain ⟨y,g⟩:=n.dictAt;obtain ⟨f,u,ho,w,r,_⟩:=id g;have d:Inv X i σ (upd H1 a (.frz f (.dK kvs))) c:=I1.freeze ea ho;refine wpAny_pyIter_dict k g ?_;have j:l.length=kvs.length:=m.length.symm;refine ⟨c.heap.objs.size,[c.heap.objs.size],_,_,_,rfl,d.kept (t':=c.toks) λ b o e=>C0 _ e,zi5 r,⟨_,Y0 _ rfl,rfl,by rw [j];rfl⟩,λ b p=>?_,q f⟩;obtain rfl:b=c.heap.objs.size:=by simpa using p
 exact d.fpOk (t0 _) (d.hok.fresh (t0 _))
theorem zgv {S:Hp->Hp->Prop} {a:Addr} {ob:Obj} {kvs:zK} {H1:Hp} (hs :∀H,S H1 H->S H H) (hq :∀H,S H1 H->H a=some (.frz ob (.dK kvs))):RunsR S (Itk a ob kvs) H1 kvs.length (λ i v _=>∃k u,kvs[i]? = some (k,u)/\v=kV k):=
 ⟨λ i b H s=>⟨hq H s,b⟩,λ H s=>⟨hq H s,t0 _⟩,λ i b H v c s y=>by obtain ⟨e,y⟩:=y;subst e;exact ⟨hs _ s,y⟩⟩
theorem tcompD {K:b0} {a:Addr} {kvs:zK} {td te:TE} {tc:TT} {g:TG} {m:Nat} {fr:List (Nat×Str)} {σ:L2.St} {H:Hp} {Q:VK} (p:Nat->Bool) (R:Nat->V->Prop) (htd :∀R:VK,R (.ref a) H->td σ H R) (ea:H a=some (.dK kvs)) (hn:kvs.length<=sizeLine)
  (body :∀i k v,kvs[i]? = some (k,v)->∀H1,(∀c xs,SqT K H c xs->SqT K H1 c xs)->∀(KT:VK) (KF:Hp->Prop),(p i=true->∀y H',Same H1 H'->R i y->KT y H')->(p i=false->∀H',Same H1 H'->KF H')->
   g (kV k) (cStG σ fr (R1 m none)) H1 λ σ6 H6=>∃us,us.length=m/\σ6=cStG σ fr us/\tc (cStG σ fr us) H6 λ b H2=>if b=true then te (cStG σ fr us) H2 KT else KF H2)
  (hQ :∀l H' ys,Same H H'->H l=none->H' l=some (.lst ys)->All2 R ((j1 kvs.length).filter p) ys->Q (.ref l) H'):tThaw (tCompG (iKeys td) m fr g tc te) σ H Q:=by
 refine ⟨a,kvs,ea,htd _ ⟨a,kvs,rfl,ea,λ d=>?_⟩⟩;have n :∀{H':Hp},Same (upd H a (.frz d (.dK kvs))) H'->H' a=some (.frz d (.dK kvs)):=λ s=>s _ _ upd_same;refine z1m (S:=Same) (H1:=upd H a (.frz d (.dK kvs))) (Q:=λ v r=>(∃d,r a=some (.frz d (.dK kvs)))/\Q v (upd r a (.dK kvs))) (fr:=fr) (g:=g) (tc:=tc) (te:=te) (σ:=σ) (m:=m) (Same.refl _) (λ _ _ _ a b=>a.trans b) p (λ i y _=>R i y) (λ _ _ _ _ _ z=>z) (zgv (S:=Same) (λ _ _=>Same.refl _) λ H s=>n s) hn (λ i D v H1 A t KT KF x B=>?_) λ l H' ys h f w=>?_
 ·obtain ⟨k,u,C,rfl⟩:=t;exact body i k u C H1 (λ c xs z=>A.seqT (zea ea z)) KT KF x B
 ·have j:l≠a:=λ z=>by rw [z,n h] at f;cases f
  refine ⟨⟨d,by rw [upd_ne j.symm];exact n h⟩,hQ l _ ys (λ b o e=>?_) ?_ (by rw [upd_ne j];exact upd_same) w⟩
  ·by_cases z:b=a
   ·rw [z] at e⊢;rw [ea] at e;cases e;exact upd_same
   ·have q:H' b=some o:=h b o (by rw [upd_ne z];exact e);rw [upd_ne z,upd_ne (λ y=>by rw [y,f] at q;cases q)];exact q
  ·cases hx:H l with
   | none=>rfl
   | some o=>have:=h l o (by rw [upd_ne j];exact hx);rw [f] at this;cases this
theorem z65 {X:Cx}:CallR X (.builtin "sorted") (λ xs H Q=>∃a ss,xs=[.ref a]/\SqL X.K H a (ss.map V.str)/\ss.length < 64/\∀(l:Addr) (ss':List Str),H l=none->ss'.Perm ss->sortedS ss'=true->Q (.ref l) (upd H l (.lst (ss'.map V.str)))):=by
 intro N s σ H xs T Q I r h;obtain ⟨a,ss,rfl,M,d,q⟩:=h;obtain ⟨u,rfl,D⟩:=vals1 r;cases D;refine zd0 d (λ R A=>?_) λ b f J z ss' e B w g i p r=>?_
 ·obtain ⟨S,c,L,C⟩:=I.list M;obtain ⟨o,O,F,n,E⟩:=L.isList;refine j14 a (.inl rfl) O F E (λ f k=>A f s.toks _ k (z8d (by rw [List.toList_toArray,<-c.length,o0]) λ j u e=>?_)) (by rw [K0,<-c.length];exact C);rw [List.toList_toArray] at e;have y:j < (ss.map V.str).length:=by rw [c.length];exact (List.getElem?_eq_some_iff.mp e).1
  have v:j < ss.length:=by rwa [o0] at y
  obtain ⟨P,b,G⟩:=c.get (i:=j) (x:=.str ss[j]) (by rw [O0,B0 v];rfl);rw [e] at b;cases b;obtain ⟨t,rfl⟩:=G;exact ⟨_,t,B0 v,rfl⟩
 ·have m:Inv X N σ H { s with heap:=b }:=I.kept (t':=s.toks) B;refine ⟨.ref b.objs.size,_,m.laid (t':=J) (o:=.lst (ss'.map V.str)) w (t0 _) ⟨?_,z.toList,e,z78 i,by simpa using g⟩,rfl,q _ ss' (m.hok.fresh (t0 _)) p r⟩;rw [o0,p.length_eq];exact A0 (V2 d) (by decide)
end L2
set_option maxHeartbeats 0
namespace K71
open PySem PySem.W PyProof.Rows TJ L2
abbrev PX:Program:=PySem.Challenge.pw_talejudge_k71_what_may_be_answered
noncomputable abbrev annX:Option Value:=some (.ref 6)
def tp (a b:Str) (t:Nat):Obj:={ cls:=.type "tuple",data:=.seq #[.str a t,.str b (t + 1)] 0 }
noncomputable def tups:List Obj:=[tp "register" "read" 407,tp "register" "write" 409,tp "counter" "read" 411,tp "counter" "add" 413,tp "queue" "put" 415,tp "queue" "take" 417,tp "set" "put" 419,tp "set" "cut" 421,tp "set" "has" 423,tp "cell" "read" 425,tp "cell" "write" 427,tp "cell" "swap" 429]
def insAll:List Obj->Nat->BT->BT
 | [],_,t=>t
 | x :: r,n,t=>insAll r (n + 1) (t.ins n x)
noncomputable def treeD (P:M0) (oD:Obj):BT:=insAll tups 165 ((K71.pre.tree_188 P).ins 164 oD)
noncomputable def FX (w:R0) (os:Q2) (oD:Obj) (tk:Nat):SharedT:=⟨treeD w.params oD,177,{},⟨[]⟩,{},tk,os⟩
noncomputable abbrev cdX:Code:=.body (behindTheImports PX) K71.pre.env_1
noncomputable abbrev qX:Pos:=⟨0,0,0,0⟩
noncomputable abbrev BX:List Frame:=[topFrame qX]
noncomputable abbrev GX {α:Type} (w:R0) (c:Nat) (x:Sem α) (s:u0) (pos:Pos) (a:α) (s':u0) (pos':Pos):Prop:=Goes PX w 11 annX cdX qX c x s pos a s' pos'
def LX (n:Nat) {α:Type} (x:Sem α) (w:R0) (pos:Pos) (s:Q2->Obj->Nat->SharedT) (a:Nat->α) (s':Q2->Obj->Nat->SharedT) (pos':Pos):Prop:=
 ∀(os:Q2) (oD:Obj) (tk:Nat) (K:α->Sem S7) (H:Value->Sem S7) (gd:Bool->Bool) (lv:List Value->List Value),
  PySem.W.Fast.tw10295753902157049106 Z7 PX w 11 annX 1 n (s os oD tk) ⟨x.wrap K H gd lv,cdX,pos,BX⟩=some (s' os oD tk,⟨K (a tk),cdX,pos',BX⟩)
theorem LX.goes {n:Nat} {α:Type} {x:Sem α} {w:R0} {pos pos':Pos} {s s':Q2->Obj->Nat->SharedT} {a:Nat->α} (h:LX n x w pos s a s' pos') (os:Q2) (oD:Obj) (tk:Nat):GX w n x (s os oD tk).abs pos (a tk) (s' os oD tk).abs pos':=by refine Goes.leaf n λ K H b c=>?_;have e:=h os oD tk K H b c;rw [<-PySem.W.Fast.te10295753902157049106,<-z5] at e;exact e
theorem LX.g {n:Nat} {α:Type} {x:Sem α} {w:R0} {pos pos':Pos} {s s':Q2->Obj->Nat->SharedT} {a:Nat->α} {m:Nat} (h:LX n x w pos s a s' pos') (os:Q2) (oD:Obj) (tk:Nat) (l:n<=m:=by decide):GX w m x (s os oD tk).abs pos (a tk) (s' os oD tk).abs pos':=(h.goes os oD tk).le l
noncomputable abbrev stay (w:R0):Q2->Obj->Nat->SharedT:=FX w
noncomputable abbrev plus3 (w:R0):Q2->Obj->Nat->SharedT:=λ os oD tk=>FX w os oD (tk + 3)
theorem qtH (a:Addr) (h :∀(w:R0) (pos:Pos),LX 3 (PySem.W.Fast.tw13066428366354244818 8 (.ref a)) w pos (stay w) (λ _=>true) (stay w) pos:=by intro w pos os oD tk K H gd lv;kernel_rfl) (w:R0) (pos:Pos):LX 3 (u4 8 (.ref a)) w pos (stay w) (λ _=>true) (stay w) pos:=by rw [PySem.W.Fast.te13066428366354244818];exact h w pos
def qt0:=qtH 165
def qt1:=qtH 166
def qt2:=qtH 167
def qt3:=qtH 168
def qt4:=qtH 169
def qt5:=qtH 170
def qt6:=qtH 171
def qt7:=qtH 172
def qt8:=qtH 173
def qt9:=qtH 174
def qt10:=qtH 175
def qt11:=qtH 176
theorem eqH (n:Nat) (a b:Addr) (hf :∀(w:R0) (pos:Pos),LX n (o5 (.ref a) (.ref b)) (w.withFollow "special-get-raises" false) pos (stay (w.withFollow "special-get-raises" false)) (λ _=>false) (stay (w.withFollow "special-get-raises" false)) pos:=by intro w pos os oD tk K H gd lv;kernel_rfl) (ht :∀(w:R0) (pos:Pos),LX n (o5 (.ref a) (.ref b)) (w.withFollow "special-get-raises" true) pos (stay (w.withFollow "special-get-raises" true)) (λ _=>false) (stay (w.withFollow "special-get-raises" true)) pos:=by intro w pos os oD tk K H gd lv;kernel_rfl) (w:R0) (pos:Pos):LX n (eqBool (.ref a) (.ref b)) w pos (stay w) (λ _=>false) (stay w) pos:=by rw [PySem.W.Fast.te13926502685295537346];exact byRow2 "special-get-raises" (P:=λ w=>LX n (o5 (.ref a) (.ref b)) w pos (stay w) (λ _=>false) (stay w) pos) (λ w=>hf w pos) (λ w=>ht w pos) w
def eq0_1:=eqH 20 165 166
def eq0_2:=eqH 16 165 167
def eq0_3:=eqH 16 165 168
def eq0_4:=eqH 16 165 169
def eq0_5:=eqH 16 165 170
def eq0_6:=eqH 16 165 171
def eq0_7:=eqH 16 165 172
def eq0_8:=eqH 16 165 173
def eq0_9:=eqH 16 165 174
def eq0_10:=eqH 16 165 175
def eq0_11:=eqH 16 165 176
def eq1_2:=eqH 16 166 167
def eq1_3:=eqH 16 166 168
def eq1_4:=eqH 16 166 169
def eq1_5:=eqH 16 166 170
def eq1_6:=eqH 16 166 171
def eq1_7:=eqH 16 166 172
def eq1_8:=eqH 16 166 173
def eq1_9:=eqH 16 166 174
def eq1_10:=eqH 16 166 175
def eq1_11:=eqH 16 166 176
def eq2_3:=eqH 20 167 168
def eq2_4:=eqH 16 167 169
def eq2_5:=eqH 16 167 170
def eq2_6:=eqH 16 167 171
def eq2_7:=eqH 16 167 172
def eq2_8:=eqH 16 167 173
def eq2_9:=eqH 16 167 174
def eq2_10:=eqH 16 167 175
def eq2_11:=eqH 16 167 176
def eq3_4:=eqH 16 168 169
def eq3_5:=eqH 16 168 170
def eq3_6:=eqH 16 168 171
def eq3_7:=eqH 16 168 172
def eq3_8:=eqH 16 168 173
def eq3_9:=eqH 16 168 174
def eq3_10:=eqH 16 168 175
def eq3_11:=eqH 16 168 176
def eq4_5:=eqH 20 169 170
def eq4_6:=eqH 16 169 171
def eq4_7:=eqH 16 169 172
def eq4_8:=eqH 16 169 173
def eq4_9:=eqH 16 169 174
def eq4_10:=eqH 16 169 175
def eq4_11:=eqH 16 169 176
def eq5_6:=eqH 16 170 171
def eq5_7:=eqH 16 170 172
def eq5_8:=eqH 16 170 173
def eq5_9:=eqH 16 170 174
def eq5_10:=eqH 16 170 175
def eq5_11:=eqH 16 170 176
def eq6_7:=eqH 20 171 172
def eq6_8:=eqH 20 171 173
def eq6_9:=eqH 16 171 174
def eq6_10:=eqH 16 171 175
def eq6_11:=eqH 16 171 176
def eq7_8:=eqH 20 172 173
def eq7_9:=eqH 16 172 174
def eq7_10:=eqH 16 172 175
def eq7_11:=eqH 16 172 176
def eq8_9:=eqH 16 173 174
def eq8_10:=eqH 16 173 175
def eq8_11:=eqH 16 173 176
def eq9_10:=eqH 20 174 175
def eq9_11:=eqH 20 174 176
def zm4:=eqH 20 175 176
theorem crH (a:Addr) (hf :∀(w:R0) (pos:Pos),LX 1 (u5 "hash" [.ref a]) (w.withFollow "special-get-raises" false) pos (stay (w.withFollow "special-get-raises" false)) (λ _=>()) (stay (w.withFollow "special-get-raises" false)) pos:=by intro w pos os oD tk K H gd lv;kernel_rfl) (ht :∀(w:R0) (pos:Pos),LX 1 (u5 "hash" [.ref a]) (w.withFollow "special-get-raises" true) pos (stay (w.withFollow "special-get-raises" true)) (λ _=>()) (stay (w.withFollow "special-get-raises" true)) pos:=by intro w pos os oD tk K H gd lv;kernel_rfl) (w:R0) (pos:Pos):LX 1 (cRoomFor "hash" [.ref a]) w pos (stay w) (λ _=>()) (stay w) pos:=by rw [PySem.W.Fast.te13383273872528276517];exact byRow2 "special-get-raises" (P:=λ w=>LX 1 (u5 "hash" [.ref a]) w pos (stay w) (λ _=>()) (stay w) pos) (λ w=>hf w pos) (λ w=>ht w pos) w
theorem soH (a:Addr) (hf :∀(w:R0) (pos:Pos),LX 1 (C5 (.ref a) "__hash__") (w.withFollow "special-get-raises" false) pos (stay (w.withFollow "special-get-raises" false)) (λ _=>some (.builtin "tuple.__hash__")) (stay (w.withFollow "special-get-raises" false)) pos:=by intro w pos os oD tk K H gd lv;kernel_rfl) (ht :∀(w:R0) (pos:Pos),LX 1 (C5 (.ref a) "__hash__") (w.withFollow "special-get-raises" true) pos (stay (w.withFollow "special-get-raises" true)) (λ _=>some (.builtin "tuple.__hash__")) (stay (w.withFollow "special-get-raises" true)) pos:=by intro w pos os oD tk K H gd lv;kernel_rfl) (w:R0) (pos:Pos):LX 1 (specialOf (.ref a) "__hash__") w pos (stay w) (λ _=>some (.builtin "tuple.__hash__")) (stay w) pos:=by rw [PySem.W.Fast.te4214721358667687652];exact byRow2 "special-get-raises" (P:=λ w=>LX 1 (C5 (.ref a) "__hash__") w pos (stay w) (λ _=>some (.builtin "tuple.__hash__")) (stay w) pos) (λ w=>hf w pos) (λ w=>ht w pos) w
theorem csH (a:Addr) (k l:Str) (hf :∀(w:R0) (pos:Pos),LX 22 (j5 (.ref a) "__hash__" (unh a)) (w.withFollow "special-get-raises" false) pos (stay (w.withFollow "special-get-raises" false)) (λ tk=>some (.int (l0 [c0 (w.withFollow "special-get-raises" false).params k,c0 (w.withFollow "special-get-raises" false).params l]) (tk + 2))) (plus3 (w.withFollow "special-get-raises" false)) pos:=by intro w pos os oD tk K H gd lv;kernel_rfl) (ht :∀(w:R0) (pos:Pos),LX 22 (j5 (.ref a) "__hash__" (unh a)) (w.withFollow "special-get-raises" true) pos (stay (w.withFollow "special-get-raises" true)) (λ tk=>some (.int (l0 [c0 (w.withFollow "special-get-raises" true).params k,c0 (w.withFollow "special-get-raises" true).params l]) (tk + 2))) (plus3 (w.withFollow "special-get-raises" true)) pos:=by intro w pos os oD tk K H gd lv;kernel_rfl) (w:R0) (pos:Pos):LX 22 (Z6 (.ref a) "__hash__" (unh a)) w pos (stay w) (λ tk=>some (.int (l0 [c0 w.params k,c0 w.params l]) (tk + 2))) (plus3 w) pos:=by rw [PySem.W.Fast.te16697807410369149715];exact byRow2 "special-get-raises" (P:=λ w=>LX 22 (j5 (.ref a) "__hash__" (unh a)) w pos (stay w) (λ tk=>some (.int (l0 [c0 w.params k,c0 w.params l]) (tk + 2))) (plus3 w) pos) (λ w=>hf w pos) (λ w=>ht w pos) w
def cr0:=crH 165
def so0:=soH 165
def cs0:=csH 165 "register" "read"
def cr1:=crH 166
def so1:=soH 166
def cs1:=csH 166 "register" "write"
def cr2:=crH 167
def so2:=soH 167
def cs2:=csH 167 "counter" "read"
def cr3:=crH 168
def so3:=soH 168
def cs3:=csH 168 "counter" "add"
def cr4:=crH 169
def so4:=soH 169
def cs4:=csH 169 "queue" "put"
def cr5:=crH 170
def so5:=soH 170
def cs5:=csH 170 "queue" "take"
def cr6:=crH 171
def so6:=soH 171
def cs6:=csH 171 "set" "put"
def cr7:=crH 172
def so7:=soH 172
def cs7:=csH 172 "set" "cut"
def cr8:=crH 173
def so8:=soH 173
def cs8:=csH 173 "set" "has"
def cr9:=crH 174
def so9:=soH 174
def cs9:=csH 174 "cell" "read"
def cr10:=crH 175
def so10:=soH 175
def cs10:=csH 175 "cell" "write"
def cr11:=crH 176
def so11:=soH 176
def cs11:=csH 176 "cell" "swap"
noncomputable def allX (P:M0):List KV3:=[(165,(.ref 109),(G1 (l0 [c0 P "register",c0 P "read"]))),(166,(.ref 116),(G1 (l0 [c0 P "register",c0 P "write"]))),(167,(.ref 109),(G1 (l0 [c0 P "counter",c0 P "read"]))),(168,(.ref 123),(G1 (l0 [c0 P "counter",c0 P "add"]))),(169,(.ref 130),(G1 (l0 [c0 P "queue",c0 P "put"]))),(170,(.ref 137),(G1 (l0 [c0 P "queue",c0 P "take"]))),(171,(.ref 144),(G1 (l0 [c0 P "set",c0 P "put"]))),(172,(.ref 149),(G1 (l0 [c0 P "set",c0 P "cut"]))),(173,(.ref 156),(G1 (l0 [c0 P "set",c0 P "has"]))),(174,(.ref 109),(G1 (l0 [c0 P "cell",c0 P "read"]))),(175,(.ref 116),(G1 (l0 [c0 P "cell",c0 P "write"]))),(176,(.ref 163),(G1 (l0 [c0 P "cell",c0 P "swap"])))]
theorem zn7 (w:R0) (os:Q2) (pos:Pos):(allX w.params).Pairwise λ x y=>∀oD tk,GX w 20 (eqBool (.ref x.1) (.ref y.1)) (FX w os oD tk).abs pos false (FX w os oD tk).abs pos:=by
 unfold allX;refine
 .cons (λ y a oD tk=>(by
  revert y;simp only [X1,j0,false_implies,implies_true,and_true];exact ⟨(eq0_1 w pos).g os oD tk,(eq0_2 w pos).g os oD tk,(eq0_3 w pos).g os oD tk,(eq0_4 w pos).g os oD tk,(eq0_5 w pos).g os oD tk,(eq0_6 w pos).g os oD tk,(eq0_7 w pos).g os oD tk,(eq0_8 w pos).g os oD tk,(eq0_9 w pos).g os oD tk,(eq0_10 w pos).g os oD tk,(eq0_11 w pos).g os oD tk⟩))
  (.cons (λ y a oD tk=>(by
  revert y;simp only [X1,j0,false_implies,implies_true,and_true];exact ⟨(eq1_2 w pos).g os oD tk,(eq1_3 w pos).g os oD tk,(eq1_4 w pos).g os oD tk,(eq1_5 w pos).g os oD tk,(eq1_6 w pos).g os oD tk,(eq1_7 w pos).g os oD tk,(eq1_8 w pos).g os oD tk,(eq1_9 w pos).g os oD tk,(eq1_10 w pos).g os oD tk,(eq1_11 w pos).g os oD tk⟩))
  (.cons (λ y a oD tk=>(by
  revert y;simp only [X1,j0,false_implies,implies_true,and_true];exact ⟨(eq2_3 w pos).g os oD tk,(eq2_4 w pos).g os oD tk,(eq2_5 w pos).g os oD tk,(eq2_6 w pos).g os oD tk,(eq2_7 w pos).g os oD tk,(eq2_8 w pos).g os oD tk,(eq2_9 w pos).g os oD tk,(eq2_10 w pos).g os oD tk,(eq2_11 w pos).g os oD tk⟩))
  (.cons (λ y a oD tk=>(by
  revert y;simp only [X1,j0,false_implies,implies_true,and_true];exact ⟨(eq3_4 w pos).g os oD tk,(eq3_5 w pos).g os oD tk,(eq3_6 w pos).g os oD tk,(eq3_7 w pos).g os oD tk,(eq3_8 w pos).g os oD tk,(eq3_9 w pos).g os oD tk,(eq3_10 w pos).g os oD tk,(eq3_11 w pos).g os oD tk⟩))
  (.cons (λ y a oD tk=>(by
  revert y;simp only [X1,j0,false_implies,implies_true,and_true];exact ⟨(eq4_5 w pos).g os oD tk,(eq4_6 w pos).g os oD tk,(eq4_7 w pos).g os oD tk,(eq4_8 w pos).g os oD tk,(eq4_9 w pos).g os oD tk,(eq4_10 w pos).g os oD tk,(eq4_11 w pos).g os oD tk⟩))
  (.cons (λ y a oD tk=>(by
  revert y;simp only [X1,j0,false_implies,implies_true,and_true];exact ⟨(eq5_6 w pos).g os oD tk,(eq5_7 w pos).g os oD tk,(eq5_8 w pos).g os oD tk,(eq5_9 w pos).g os oD tk,(eq5_10 w pos).g os oD tk,(eq5_11 w pos).g os oD tk⟩))
  (.cons (λ y a oD tk=>(by
  revert y;simp only [X1,j0,false_implies,implies_true,and_true];exact ⟨(eq6_7 w pos).g os oD tk,(eq6_8 w pos).g os oD tk,(eq6_9 w pos).g os oD tk,(eq6_10 w pos).g os oD tk,(eq6_11 w pos).g os oD tk⟩))
  (.cons (λ y a oD tk=>(by
  revert y;simp only [X1,j0,false_implies,implies_true,and_true];exact ⟨(eq7_8 w pos).g os oD tk,(eq7_9 w pos).g os oD tk,(eq7_10 w pos).g os oD tk,(eq7_11 w pos).g os oD tk⟩))
  (.cons (λ y a oD tk=>(by
  revert y;simp only [X1,j0,false_implies,implies_true,and_true];exact ⟨(eq8_9 w pos).g os oD tk,(eq8_10 w pos).g os oD tk,(eq8_11 w pos).g os oD tk⟩))
  (.cons (λ y a oD tk=>(by
  revert y;simp only [X1,j0,false_implies,implies_true,and_true];exact ⟨(eq9_10 w pos).g os oD tk,(eq9_11 w pos).g os oD tk⟩))
  (.cons (λ y a oD tk=>(by
  revert y;simp only [X1,j0,false_implies,implies_true,and_true];exact (zm4 w pos).g os oD tk))
  (.cons (λ y a=>nomatch a)
  (j1f))))))))))))
theorem allX_q (w:R0) (os:Q2) (pos:Pos) :∀x∈allX w.params,∀oD tk,GX w 3 (u4 8 (.ref x.1)) (FX w os oD tk).abs pos true (FX w os oD tk).abs pos:=by unfold allX;simp only [X1,j0,false_implies,implies_true,and_true];exact ⟨λ oD tk=>(qt0 w pos).goes os oD tk,λ oD tk=>(qt1 w pos).goes os oD tk,λ oD tk=>(qt2 w pos).goes os oD tk,λ oD tk=>(qt3 w pos).goes os oD tk,λ oD tk=>(qt4 w pos).goes os oD tk,λ oD tk=>(qt5 w pos).goes os oD tk,λ oD tk=>(qt6 w pos).goes os oD tk,λ oD tk=>(qt7 w pos).goes os oD tk,λ oD tk=>(qt8 w pos).goes os oD tk,λ oD tk=>(qt9 w pos).goes os oD tk,λ oD tk=>(qt10 w pos).goes os oD tk,λ oD tk=>(qt11 w pos).goes os oD tk⟩
theorem allX_h (w:R0) (os:Q2) (pos:Pos) :∀x∈allX w.params,∀oD tk,GX w 25 (pyHash (.ref x.1)) (FX w os oD tk).abs pos x.2.2 (FX w os oD (tk + 3)).abs pos:=by unfold allX;simp only [X1,j0,false_implies,implies_true,and_true];exact ⟨λ oD tk=>Goes.pyHashT ((cr0 w pos).goes os oD tk) ((so0 w pos).goes os oD tk) ((cs0 w pos).goes os oD tk),λ oD tk=>Goes.pyHashT ((cr1 w pos).goes os oD tk) ((so1 w pos).goes os oD tk) ((cs1 w pos).goes os oD tk),λ oD tk=>Goes.pyHashT ((cr2 w pos).goes os oD tk) ((so2 w pos).goes os oD tk) ((cs2 w pos).goes os oD tk),λ oD tk=>Goes.pyHashT ((cr3 w pos).goes os oD tk) ((so3 w pos).goes os oD tk) ((cs3 w pos).goes os oD tk),λ oD tk=>Goes.pyHashT ((cr4 w pos).goes os oD tk) ((so4 w pos).goes os oD tk) ((cs4 w pos).goes os oD tk),λ oD tk=>Goes.pyHashT ((cr5 w pos).goes os oD tk) ((so5 w pos).goes os oD tk) ((cs5 w pos).goes os oD tk),λ oD tk=>Goes.pyHashT ((cr6 w pos).goes os oD tk) ((so6 w pos).goes os oD tk) ((cs6 w pos).goes os oD tk),λ oD tk=>Goes.pyHashT ((cr7 w pos).goes os oD tk) ((so7 w pos).goes os oD tk) ((cs7 w pos).goes os oD tk),λ oD tk=>Goes.pyHashT ((cr8 w pos).goes os oD tk) ((so8 w pos).goes os oD tk) ((cs8 w pos).goes os oD tk),λ oD tk=>Goes.pyHashT ((cr9 w pos).goes os oD tk) ((so9 w pos).goes os oD tk) ((cs9 w pos).goes os oD tk),λ oD tk=>Goes.pyHashT ((cr10 w pos).goes os oD tk) ((so10 w pos).goes os oD tk) ((cs10 w pos).goes os oD tk),λ oD tk=>Goes.pyHashT ((cr11 w pos).goes os oD tk) ((so11 w pos).goes os oD tk) ((cs11 w pos).goes os oD tk)⟩
theorem famX (w:R0) (os:Q2):Fam 11 164 (FX w os):=by
 have g :∀c,(treeD w.params c).get 164=some c:=λ c=>by kernel_rfl
 refine ⟨by decide,λ a b d=>abs_get (show 164 < 177 by decide) (g _),λ a b d e=>?_⟩;have u:(absHeap (treeD w.params (dObj a b)) 177 {}).update 164 (K8 (·.push e))=absHeap (treeD w.params (dObj (a.push e) (b + 1))) 177 {}:=by
  rw [<-absHeap_set (g _)];have v:(treeD w.params (dObj a b)).set 164 (K8 (·.push e))=treeD w.params (dObj (a.push e) (b + 1)):=by kernel_rfl
  rw [v]
 exact congrArg (λ h=>(⟨h,⟨[]⟩,{},d,os⟩:u0)) u
noncomputable def stD:Stmt:=(behindTheImports PX).getD 24 (.Pass ⟨0,0,0,0⟩)
noncomputable def sufX:List Stmt:=(behindTheImports PX).drop 25
theorem bodyX:behindTheImports PX=K71.pre.sts_7++(K71.pre.sts_61++(K71.pre.sts_80++(K71.pre.sts_99++(K71.pre.sts_123++([stD]++sufX))))):=by kernel_rfl
def dKeys:Stmt->List (Option Expr)
 | .Assign _ (.Dict ks _ _) _=>ks
 | _=>[]
def dVals:Stmt->List Expr
 | .Assign _ (.Dict _ vs _) _=>vs
 | _=>[]
def dPos:Stmt->Pos
 | .Assign _ (.Dict _ _ p) _=>p
 | _=>⟨0,0,0,0⟩
def sPos:Stmt->Pos
 | .Assign _ _ p=>p
 | _=>⟨0,0,0,0⟩
noncomputable abbrev p1X:Pos:=sPos stD
noncomputable abbrev p2X:Pos:=dPos stD
noncomputable abbrev p3X:Pos:=⟨52,0,52,5⟩
noncomputable def runX:List (Sem Value×Sem Value):=(((evalEachOpt (dKeys stD) K71.pre.env_1).zip ((evalEach (dVals stD) K71.pre.env_1).map λ v=>do let x <-v;j38 p2X;Z2 x))).filterMap λ x=>x.1.map (·,x.2)
theorem stD_eq:stD=.Assign [.Name "DOERS" p3X] (.Dict (dKeys stD) (dVals stD) p2X) p1X:=by kernel_rfl
theorem evD:C3 (.Dict (dKeys stD) (dVals stD) p2X) K71.pre.env_1=(do j38 p2X;let r <-(do let x <-subDict runX;Z2 (some x));match r with|some x=>Z2 (Z0 x)|none=>newDict):=by kernel_rfl
theorem swD:R6 (.Dict (dKeys stD) (dVals stD) p2X) (some (.Name "DOERS" p3X)) p1X.line K71.pre.env_1=Z2 false:=by kernel_rfl
noncomputable def F0X (w:R0) (os:Q2):SharedT:=⟨K71.pre.tree_188 w.params,164,{},⟨[]⟩,{},407,os⟩
noncomputable def F1X (w:R0) (os:Q2):SharedT:=⟨(K71.pre.tree_188 w.params).ins 164 (dObj #[] 0),165,{},⟨[]⟩,{},407,os⟩
noncomputable def vsX:List (Value×Value):=[(.ref 165,(.ref 109)),(.ref 166,(.ref 116)),(.ref 167,(.ref 109)),(.ref 168,(.ref 123)),(.ref 169,(.ref 130)),(.ref 170,(.ref 137)),(.ref 171,(.ref 144)),(.ref 172,(.ref 149)),(.ref 173,(.ref 156)),(.ref 174,(.ref 109)),(.ref 175,(.ref 116)),(.ref 176,(.ref 163))]
theorem zgd (w:R0):LX 84 (evalPairs runX) w p2X (λ os _ _=>F1X w os) (λ _=>vsX) (λ os _ _=>FX w os (dObj #[] 0) 431) p2X:=by rw [PySem.W.Fast.te1788576489739465902];exact λ os d c K H a b=>by kernel_rfl
noncomputable def F2X (w:R0) (os:Q2) (oD:Obj) (tk:Nat):SharedT:=⟨(treeD w.params oD).set 3 (Obj.putName "DOERS" (c0 w.params "DOERS") (.str "DOERS" tk) (.ref 164)),177,{},⟨[]⟩,{},tk + 1,os⟩
theorem zji (w:R0) (pos:Pos):LX 6 (bindName K71.pre.env_1 "DOERS" (.ref 164)) w pos (stay w) (λ _=>()) (λ os oD tk=>F2X w os oD tk) pos:=by
 rw [PySem.W.Fast.te7536695828754713326];exact byRow2 "special-get-raises" (P:=λ w=>LX 6 (PySem.W.Fast.tw7536695828754713326 K71.pre.env_1 "DOERS" (.ref 164)) w pos (stay w) (λ _=>()) (λ os oD tk=>F2X w os oD tk) pos)
  (λ w os oD tk K H b a=>by kernel_rfl) (λ w os oD tk K H b a=>by kernel_rfl) w
noncomputable abbrev oDX (P:M0):Obj:=dObj ((allX P).map ent).toArray 12
noncomputable abbrev S2X (w:R0) (os:Q2):SharedT:=F2X w os (oDX w.params) 467
theorem stD_go (w:R0) (os:Q2) (pos:Pos):GX w 100000 (exec stD K71.pre.env_1) (F0X w os).abs pos .next (S2X w os).abs p3X:=by
 rw [stD_eq,exec_Assign_Name _ _ _ _ _ swD];have l:=Goes.loop (p:=PX) (w:=w) (ann:=annX) (code:=cdX) (q:=qX) (pos:=p2X) (famX w os) (N:=12) (allX w.params) (show 12<=12 by decide) (by decide) (show ([165,166,167,168,169,170,171,172,173,174,175,176]:List Nat).Nodup by decide) (allX_q w os p2X) (zn7 w os p2X) (allX_h w os p2X) (allX w.params) [] 431 rfl;have b:=(zgd w).goes os (dObj #[] 0) 0;have d:GX w _ (subDict runX) (F0X w os).abs p2X 164 (FX w os (oDX w.params) 467).abs p2X:=
  Goes.subDict (by decide +kernel) (absHeap_size _ _ _) (show GX w _ (evalPairs runX) _ p2X vsX _ p2X from by
   have e:({ (F0X w os).abs with heap:=(F0X w os).abs.heap.push { cls:=.type "dict",data:=.dict #[] } }:u0)=(F1X w os).abs:=by have i:=absHeap_ins (t:=K71.pre.tree_188 w.params) (n:=164) (life:={}) (o:=dObj #[] 0) (by kernel_rfl);exact congrArg (λ h=>(⟨h,⟨[]⟩,{},407,os⟩:u0)) i.symm
   rw [e];exact b) l
 refine (Goes.bind Goes.at' (Goes.bind (a:=Z0 164) (pos':=p2X) ?_ (Goes.bind Goes.at' (Goes.bind (f:=λ _=>Z2 Flow.next) ((zji w p3X).goes os (oDX w.params) 467) Goes.pure)))).le (c:=1 + (((1 + ((1 + (84 + 12 * (25 + (2 + 3 + 12 * (3 + 20 + 10)) + 4))) + 0 + 0)) + (1 + (6 + 0))))) (by decide);rw [evD];exact Goes.bind Goes.at' (Goes.bind (Goes.bind d Goes.pure) Goes.pure)
noncomputable abbrev pLX:Pos:=⟨370,0,378,15⟩
noncomputable def R3X (w:R0) (os:Q2):Option (Flow×SharedT×Code×Pos):=PySem.W.Fast.tw10110043849684766642 Z7 PX w 11 annX 1 1765 (S2X w os) ⟨(PySem.W.Fast.tw12563942051412417395 sufX K71.pre.env_1).wrap doneF deadEnd id id,cdX,p3X,BX⟩
noncomputable def S3X (w:R0) (os:Q2):SharedT:=match R3X w os with|some r=>r.2.1|none=>S2X w os
theorem R3X_eq (w:R0) (os:Q2):R3X w os=some (.next,S3X w os,cdX,pLX):=by kernel_rfl
theorem zmm (w:R0) (os:Q2):segRun d3 PX w 11 annX 1 1765 (S2X w os).abs (piecesOf sufX K71.pre.env_1 cdX p3X BX)=some (.next,(S3X w os).abs,cdX,pLX):=by have e:=R3X_eq w os;unfold R3X at e;rw [<-PySem.W.Fast.te10110043849684766642,<-z5,<-PySem.W.Fast.te12563942051412417395] at e;exact segRun_of e
noncomputable def S0X (w:R0) (os:Q2):SharedT:=⟨K71.pre.tree_6 w.params,15,{},⟨[]⟩,{},187,os⟩
theorem pre_go (w:R0) (os:Q2):topGo d3 PX w 11 annX 12 ⟨boot_heap w.params,Array.mk [],boot_drawn,boot_toks,os⟩ (topStub PX)=some ((S0X w os).abs,⟨denote d3 cdX,cdX,qX,BX⟩):=by rw [PySem.W.Fast.te15667345088766844465,z5,PySem.W.Fast.te11892475500146522536];kernel_rfl
theorem zla (w:R0) (os:Q2) :∃M,M<=200000/\topRun d3 PX w 11 annX M ⟨boot_heap w.params,Array.mk [],boot_drawn,boot_toks,os⟩ (topStub PX)=some (S3X w os).abs:=by have f:topRun d3 PX w 11 annX 2 (S3X w os).abs (restOf [] K71.pre.env_1 cdX pLX BX)=some (S3X w os).abs:=rfl;have a:=piece_app (zmm w os) f;rw [N2] at a;obtain ⟨M,h,g⟩:=zh6 (Goes.execs1 (stD_go w os ⟨48,0,51,21⟩)) a;have b:=K71.pre.chain PX (behindTheImports PX) w os _ M _ g;rw [<-bodyX] at b;have c:segRun d3 PX w 11 annX 1 1 (S0X w os).abs (blockOf (behindTheImports PX) K71.pre.env_1 cdX qX BX)=some (.next,(S0X w os).abs,cdX,qX):=rfl;have d:=piece_block c b;have e:=go_top (pre_go w os) d;refine ⟨_,?_,e⟩;simp only [Nat.add_eq];omega
noncomputable def looseX:List Str:=[("_wall" : Str),("GREATEST_WORTH" : Str),("is_whole" : Str),("is_within" : Str),("is_worth" : Str),("is_tuple_of" : Str),("TaleError" : Str),("NoDeed" : Str),("NoStrictness" : Str),("NoHand" : Str),("FIRST_STATES" : Str),("WORTHS_OF_VERBS" : Str),("read_state" : Str),("write_state" : Str),("add_to_number" : Str),("put_behind" : Str),("take_first" : Str),("put_into_set" : Str),("cut_from_set" : Str),("has_in_set" : Str),("swap_state" : Str),("DOERS" : Str),("is_kind" : Str),("first_state" : Str),("is_deed" : Str),("do" : Str),("deeds" : Str),("STRICTNESSES" : Str),("has_to" : Str),("check_strictness" : Str),("goes_ahead" : Str),("Candidate" : Str),("Board" : Str),("step_of" : Str),("ended_numbers" : Str),("holds_all" : Str),("first_place" : Str),("all_places" : Str),("next_layer" : Str),("may_answer" : Str),("open_deed" : Str),("answers_in_orders" : Str),("_law_cell_at" : Str),("_law_take" : Str),("_law_do" : Str),("_law_first" : Str),("_law_worth" : Str),("_law_verb" : Str),("_law_things" : Str),("_law_applied" : Str),("_law_tale" : Str),("_law_deeds" : Str),("_law_is_ahead" : Str),("_law_may_be_next" : Str),("_law_nexts" : Str),("_law_is_full" : Str),("_law_places" : Str),("_law_is_good" : Str),("_law_met" : Str),("_law_due" : Str),("_law_told" : Str)]
noncomputable def viewX:Program:={ PX with main:={ PX.main with body:=(PX.main.body[69]?).toList } }
noncomputable def top (i:Nat):Stmt:=PX.main.body.getD i (.Pass ⟨0,0,0,0⟩)
def subS (s:Stmt) (j:Nat):Stmt:=match s with
 | .ClassDef _ _ _ b _ _ _ _ _ _ _=>b.getD j s
 | _=>s
noncomputable def asX:List Addr:=[3,27,28,34,35,41,42,48,49,50,52,57,58,59,63,65,70,71,72,75,77,82,83,84,87,89,94,95,96,99,100,101,102,108,109,115,116,122,123,129,130,136,137,143,144,148,149,155,156,162,163,164,165,166,167,168,169,170,171,172,173,174,175,176,182,183,189,190,194,195,201,202,208,209,210,216,217,223,224,230,231,232,234,242,243,249,250,251,252,253,258,260,268,269,275,276,282,283,291,292,293,303,304,308,309,313,314,318,319,325,326,332,333,337,338,344,345,349,350,356,357,363,364,368,369,373,374,380,381,387,388,392,393,397,398,402,403,409,410,416,417,423,424,430,431,435,436,442,443,447,448,454,455,459,460,464,465,471,472]
noncomputable def KX (P:M0):Frag:=[
 (3,⟨(.type "dict"),none,(.dict #[⟨(c0 P "__name__"),(.str "__name__" 165),(.str "law_talejudge_k71_what_may_be_answered" 729)⟩,⟨(c0 P "__doc__"),(.str "__doc__" 166),.none⟩,⟨(c0 P "__package__"),(.str "__package__" 167),.none⟩,⟨(c0 P "__loader__"),(.str "__loader__" 168),(.builtin "__main__.__loader__#opaque")⟩,⟨(c0 P "__spec__"),(.str "__spec__" 169),.none⟩,kR P "__annotations__" 170 6,kR P "__builtins__" 171 4,⟨(c0 P "__file__"),(.str "__file__" 173),(.str "/claim/cut.py" 172)⟩,⟨(c0 P "__cached__"),(.str "__cached__" 174),.none⟩,kR P "_wall" 193 21,⟨(c0 P "GREATEST_WORTH"),(.str "GREATEST_WORTH" 197),(.int (1000000000) 196)⟩,kR P "is_whole" 204 28,kR P "is_within" 212 35,kR P "is_worth" 219 42,kR P "is_tuple_of" 227 49,kR P "TaleError" 247 59,kR P "NoDeed" 263 72,kR P "NoStrictness" 279 84,kR P "NoHand" 295 96,kR P "FIRST_STATES" 311 99,kR P "WORTHS_OF_VERBS" 336 102,kR P "read_state" 344 109,kR P "write_state" 352 116,kR P "add_to_number" 360 123,kR P "put_behind" 368 130,kR P "take_first" 376 137,kR P "put_into_set" 384 144,kR P "cut_from_set" 390 149,kR P "has_in_set" 398 156,kR P "swap_state" 406 163,kR P "DOERS" 467 164,kR P "is_kind" 474 183,kR P "first_state" 481 190,kR P "is_deed" 487 195,kR P "do" 498 202,kR P "deeds" 513 209,kR P "STRICTNESSES" 519 210,kR P "has_to" 533 217,kR P "check_strictness" 540 224,kR P "goes_ahead" 549 231,kR P "Candidate" 595 253,kR P "Board" 652 293,kR P "step_of" 664 304,kR P "ended_numbers" 670 309,kR P "holds_all" 676 314,kR P "first_place" 682 319,kR P "all_places" 693 326,kR P "next_layer" 704 333,kR P "may_answer" 712 338,kR P "open_deed" 722 345,kR P "answers_in_orders" 728 350,kR P "_law_cell_at" 738 357,kR P "_law_take" 748 364,kR P "_law_do" 754 369,kR P "_law_first" 760 374,kR P "_law_worth" 767 381,kR P "_law_verb" 777 388,kR P "_law_things" 783 393,kR P "_law_applied" 789 398,kR P "_law_tale" 795 403,kR P "_law_deeds" 806 410,kR P "_law_is_ahead" 815 417,kR P "_law_may_be_next" 826 424,kR P "_law_nexts" 842 431,kR P "_law_is_full" 848 436,kR P "_law_places" 863 443,kR P "_law_is_good" 869 448,kR P "_law_met" 883 455,kR P "_law_due" 889 460,kR P "_law_told" 895 465,kR P "law" 906 472] 71),#[]⟩),
 (27,cO "is_whole" "is_whole" 198 6 1 22 202),
 (28,fO "is_whole" "is_whole" (top 3) "talejudge.basics" 194 27),
 (34,cO "is_within" "is_within" 205 8 2 29 210),
 (35,fO "is_within" "is_within" (top 4) "talejudge.basics" 194 34),
 (41,cO "is_worth" "is_worth" 213 10 1 36 217),
 (42,fO "is_worth" "is_worth" (top 5) "talejudge.basics" 194 41),
 (48,cO "is_tuple_of" "is_tuple_of" 220 12 2 43 225),
 (49,fO "is_tuple_of" "is_tuple_of" (top 6) "talejudge.basics" 194 48),
 (50,⟨(.type "tuple"),none,(.seq #[(.type "ValueError")] 0),#[]⟩),
 (52,⟨(.type "dict"),none,(.dict #[⟨(c0 P "__module__"),(.str "__module__" 237),(.str "talejudge.errors" 228)⟩,⟨(c0 P "__qualname__"),(.str "__qualname__" 239),(.str "TaleError" 238)⟩,⟨(c0 P "__firstlineno__"),(.str "__firstlineno__" 241),(.int (15) 240)⟩,kR P "__static_attributes__" 242 57] 4),#[]⟩),
 (57,⟨(.type "tuple"),none,(.seq #[] 0),#[]⟩),
 (58,⟨(.type "dict"),none,(.dict #[⟨(c0 P "__module__"),(.str "__module__" 237),(.str "talejudge.errors" 228)⟩,⟨(c0 P "__firstlineno__"),(.str "__firstlineno__" 241),(.int (15) 240)⟩,kR P "__static_attributes__" 242 57,kR P "__weakref__" 244 60,⟨(c0 P "__doc__"),(.str "__doc__" 245),.none⟩] 3),#[]⟩),
 (59,⟨(.type "type"),none,(.cls ⟨"TaleError",[(.type "ValueError")],[(.ref 59),(.type "ValueError"),(.type "Exception"),(.type "BaseException"),(.type "object")],58,"TaleError",true,[],[(.ref 72),(.ref 84),(.ref 96)],false,none,false⟩),#[some (.ref 50),none,some (.str "TaleError" 230),some (.str "TaleError" 238),some (.builtin "ValueError.__new__"),some (.bool true)]⟩),
 (63,⟨(.type "tuple"),none,(.seq #[(.ref 59)] 0),#[]⟩),
 (65,⟨(.type "dict"),none,(.dict #[⟨(c0 P "__module__"),(.str "__module__" 255),(.str "talejudge.errors" 228)⟩,⟨(c0 P "__qualname__"),(.str "__qualname__" 257),(.str "NoDeed" 256)⟩,⟨(c0 P "__firstlineno__"),(.str "__firstlineno__" 259),(.int (17) 258)⟩,kR P "__static_attributes__" 260 70] 4),#[]⟩),
 (70,⟨(.type "tuple"),none,(.seq #[] 0),#[]⟩),
 (71,⟨(.type "dict"),none,(.dict #[⟨(c0 P "__module__"),(.str "__module__" 255),(.str "talejudge.errors" 228)⟩,⟨(c0 P "__firstlineno__"),(.str "__firstlineno__" 259),(.int (17) 258)⟩,kR P "__static_attributes__" 260 70,⟨(c0 P "__doc__"),(.str "__doc__" 261),.none⟩] 2),#[]⟩),
 (72,⟨(.type "type"),none,(.cls ⟨"NoDeed",[(.ref 59)],[(.ref 72),(.ref 59),(.type "ValueError"),(.type "Exception"),(.type "BaseException"),(.type "object")],71,"NoDeed",true,[],[],false,none,false⟩),#[some (.ref 63),none,some (.str "NoDeed" 248),some (.str "NoDeed" 256),some (.builtin "ValueError.__new__"),some (.bool true)]⟩),
 (75,⟨(.type "tuple"),none,(.seq #[(.ref 59)] 0),#[]⟩),
 (77,⟨(.type "dict"),none,(.dict #[⟨(c0 P "__module__"),(.str "__module__" 271),(.str "talejudge.errors" 228)⟩,⟨(c0 P "__qualname__"),(.str "__qualname__" 273),(.str "NoStrictness" 272)⟩,⟨(c0 P "__firstlineno__"),(.str "__firstlineno__" 275),(.int (19) 274)⟩,kR P "__static_attributes__" 276 82] 4),#[]⟩),
 (82,⟨(.type "tuple"),none,(.seq #[] 0),#[]⟩),
 (83,⟨(.type "dict"),none,(.dict #[⟨(c0 P "__module__"),(.str "__module__" 271),(.str "talejudge.errors" 228)⟩,⟨(c0 P "__firstlineno__"),(.str "__firstlineno__" 275),(.int (19) 274)⟩,kR P "__static_attributes__" 276 82,⟨(c0 P "__doc__"),(.str "__doc__" 277),.none⟩] 2),#[]⟩),
 (84,⟨(.type "type"),none,(.cls ⟨"NoStrictness",[(.ref 59)],[(.ref 84),(.ref 59),(.type "ValueError"),(.type "Exception"),(.type "BaseException"),(.type "object")],83,"NoStrictness",true,[],[],false,none,false⟩),#[some (.ref 75),none,some (.str "NoStrictness" 264),some (.str "NoStrictness" 272),some (.builtin "ValueError.__new__"),some (.bool true)]⟩),
 (87,⟨(.type "tuple"),none,(.seq #[(.ref 59)] 0),#[]⟩),
 (89,⟨(.type "dict"),none,(.dict #[⟨(c0 P "__module__"),(.str "__module__" 287),(.str "talejudge.errors" 228)⟩,⟨(c0 P "__qualname__"),(.str "__qualname__" 289),(.str "NoHand" 288)⟩,⟨(c0 P "__firstlineno__"),(.str "__firstlineno__" 291),(.int (21) 290)⟩,kR P "__static_attributes__" 292 94] 4),#[]⟩),
 (94,⟨(.type "tuple"),none,(.seq #[] 0),#[]⟩),
 (95,⟨(.type "dict"),none,(.dict #[⟨(c0 P "__module__"),(.str "__module__" 287),(.str "talejudge.errors" 228)⟩,⟨(c0 P "__firstlineno__"),(.str "__firstlineno__" 291),(.int (21) 290)⟩,kR P "__static_attributes__" 292 94,⟨(c0 P "__doc__"),(.str "__doc__" 293),.none⟩] 2),#[]⟩),
 (96,⟨(.type "type"),none,(.cls ⟨"NoHand",[(.ref 59)],[(.ref 96),(.ref 59),(.type "ValueError"),(.type "Exception"),(.type "BaseException"),(.type "object")],95,"NoHand",true,[],[],false,none,false⟩),#[some (.ref 87),none,some (.str "NoHand" 280),some (.str "NoHand" 288),some (.builtin "ValueError.__new__"),some (.bool true)]⟩),
 (99,⟨(.type "dict"),none,(.dict #[⟨(c0 P "register"),(.str "register" 298),(.int (0) 299)⟩,⟨(c0 P "counter"),(.str "counter" 300),(.int (0) 301)⟩,kR P "queue" 302 100,kR P "set" 303 101,⟨(c0 P "cell"),(.str "cell" 304),(.int (0) 305)⟩] 5),#[]⟩),
 (100,⟨(.type "tuple"),none,(.seq #[] 0),#[]⟩),
 (101,⟨(.type "tuple"),none,(.seq #[] 0),#[]⟩),
 (102,⟨(.type "dict"),none,(.dict #[⟨(c0 P "read"),(.str "read" 312),(.int (0) 313)⟩,⟨(c0 P "take"),(.str "take" 314),(.int (0) 315)⟩,⟨(c0 P "write"),(.str "write" 316),(.int (1) 317)⟩,⟨(c0 P "add"),(.str "add" 318),(.int (1) 319)⟩,⟨(c0 P "put"),(.str "put" 320),(.int (1) 321)⟩,⟨(c0 P "cut"),(.str "cut" 322),(.int (1) 323)⟩,⟨(c0 P "has"),(.str "has" 324),(.int (1) 325)⟩,⟨(c0 P "swap"),(.str "swap" 326),(.int (2) 327)⟩] 8),#[]⟩),
 (108,cO "read_state" "read_state" 337 26 2 103 342),
 (109,fO "read_state" "read_state" (top 15) "talejudge.store" 296 108),
 (115,cO "write_state" "write_state" 345 28 2 110 350),
 (116,fO "write_state" "write_state" (top 16) "talejudge.store" 296 115),
 (122,cO "add_to_number" "add_to_number" 353 30 2 117 358),
 (123,fO "add_to_number" "add_to_number" (top 17) "talejudge.store" 296 122),
 (129,cO "put_behind" "put_behind" 361 32 2 124 366),
 (130,fO "put_behind" "put_behind" (top 18) "talejudge.store" 296 129),
 (136,cO "take_first" "take_first" 369 34 2 131 374),
 (137,fO "take_first" "take_first" (top 19) "talejudge.store" 296 136),
 (143,cO "put_into_set" "put_into_set" 377 38 2 138 382),
 (144,fO "put_into_set" "put_into_set" (top 20) "talejudge.store" 296 143),
 (148,cP "cut_from_set" "cut_from_set" 385 42 2 145 388),
 (149,fO "cut_from_set" "cut_from_set" (top 21) "talejudge.store" 296 148),
 (155,cO "has_in_set" "has_in_set" 391 46 2 150 396),
 (156,fO "has_in_set" "has_in_set" (top 22) "talejudge.store" 296 155),
 (162,cO "swap_state" "swap_state" 399 48 2 157 404),
 (163,fO "swap_state" "swap_state" (top 23) "talejudge.store" 296 162),
 (164,⟨(.type "dict"),none,(.dict #[⟨(G1 (l0 [c0 P "register",c0 P "read"])),(.ref 165),(.ref 109)⟩,⟨(G1 (l0 [c0 P "register",c0 P "write"])),(.ref 166),(.ref 116)⟩,⟨(G1 (l0 [c0 P "counter",c0 P "read"])),(.ref 167),(.ref 109)⟩,⟨(G1 (l0 [c0 P "counter",c0 P "add"])),(.ref 168),(.ref 123)⟩,⟨(G1 (l0 [c0 P "queue",c0 P "put"])),(.ref 169),(.ref 130)⟩,⟨(G1 (l0 [c0 P "queue",c0 P "take"])),(.ref 170),(.ref 137)⟩,⟨(G1 (l0 [c0 P "set",c0 P "put"])),(.ref 171),(.ref 144)⟩,⟨(G1 (l0 [c0 P "set",c0 P "cut"])),(.ref 172),(.ref 149)⟩,⟨(G1 (l0 [c0 P "set",c0 P "has"])),(.ref 173),(.ref 156)⟩,⟨(G1 (l0 [c0 P "cell",c0 P "read"])),(.ref 174),(.ref 109)⟩,⟨(G1 (l0 [c0 P "cell",c0 P "write"])),(.ref 175),(.ref 116)⟩,⟨(G1 (l0 [c0 P "cell",c0 P "swap"])),(.ref 176),(.ref 163)⟩] 12),#[]⟩),
 (165,⟨(.type "tuple"),none,(.seq #[(.str "register" 407),(.str "read" 408)] 0),#[]⟩),
 (166,⟨(.type "tuple"),none,(.seq #[(.str "register" 409),(.str "write" 410)] 0),#[]⟩),
 (167,⟨(.type "tuple"),none,(.seq #[(.str "counter" 411),(.str "read" 412)] 0),#[]⟩),
 (168,⟨(.type "tuple"),none,(.seq #[(.str "counter" 413),(.str "add" 414)] 0),#[]⟩),
 (169,⟨(.type "tuple"),none,(.seq #[(.str "queue" 415),(.str "put" 416)] 0),#[]⟩),
 (170,⟨(.type "tuple"),none,(.seq #[(.str "queue" 417),(.str "take" 418)] 0),#[]⟩),
 (171,⟨(.type "tuple"),none,(.seq #[(.str "set" 419),(.str "put" 420)] 0),#[]⟩),
 (172,⟨(.type "tuple"),none,(.seq #[(.str "set" 421),(.str "cut" 422)] 0),#[]⟩),
 (173,⟨(.type "tuple"),none,(.seq #[(.str "set" 423),(.str "has" 424)] 0),#[]⟩),
 (174,⟨(.type "tuple"),none,(.seq #[(.str "cell" 425),(.str "read" 426)] 0),#[]⟩),
 (175,⟨(.type "tuple"),none,(.seq #[(.str "cell" 427),(.str "write" 428)] 0),#[]⟩),
 (176,⟨(.type "tuple"),none,(.seq #[(.str "cell" 429),(.str "swap" 430)] 0),#[]⟩),
 (182,cO "is_kind" "is_kind" 468 53 1 177 472),
 (183,fO "is_kind" "is_kind" (top 25) "talejudge.store" 296 182),
 (189,cO "first_state" "first_state" 475 55 1 184 479),
 (190,fO "first_state" "first_state" (top 26) "talejudge.store" 296 189),
 (194,cP "is_deed" "is_deed" 482 59 3 191 485),
 (195,fO "is_deed" "is_deed" (top 27) "talejudge.store" 296 194),
 (201,cO "do" "do" 488 68 4 196 496),
 (202,fO "do" "do" (top 28) "talejudge.store" 296 201),
 (208,cO "deeds" "deeds" 501 74 1 203 511),
 (209,fO "deeds" "deeds" (top 30) "talejudge.tales" 499 208),
 (210,⟨(.type "tuple"),none,(.seq #[(.str "strict" 516),(.str "hands" 517),(.str "bare" 518)] 0),#[]⟩),
 (216,cO "has_to" "has_to" 520 88 2 211 531),
 (217,fO "has_to" "has_to" (top 33) "talejudge.orders" 514 216),
 (223,cO "check_strictness" "check_strictness" 534 97 1 218 538),
 (224,fO "check_strictness" "check_strictness" (top 34) "talejudge.orders" 514 223),
 (230,cO "goes_ahead" "goes_ahead" 541 100 3 225 547),
 (231,fO "goes_ahead" "goes_ahead" (top 35) "talejudge.orders" 514 230),
 (232,⟨(.type "tuple"),none,(.seq #[] 0),#[]⟩),
 (234,⟨(.type "dict"),none,(.dict #[⟨(c0 P "__module__"),(.str "__module__" 559),(.str "talejudge.places" 550)⟩,⟨(c0 P "__qualname__"),(.str "__qualname__" 561),(.str "Candidate" 560)⟩,⟨(c0 P "__firstlineno__"),(.str "__firstlineno__" 563),(.int (107) 562)⟩,kR P "__init__" 569 243,kR P "may_stand" 579 250,kR P "__static_attributes__" 588 251] 6),#[]⟩),
 (242,cP "__init__" "Candidate.__init__" 564 109 6 239 567),
 (243,fO "__init__" "Candidate.__init__" (subS (top 37) 0) "talejudge.places" 550 242),
 (249,cO "may_stand" "Candidate.may_stand" 570 119 2 244 577),
 (250,fO "may_stand" "Candidate.may_stand" (subS (top 37) 1) "talejudge.places" 550 249),
 (251,⟨(.type "tuple"),none,(.seq #[(.str "aheads" 580),(.str "answer" 581),(.str "behinds" 582),(.str "kind" 583),(.str "number" 584),(.str "thing" 585),(.str "verb" 586),(.str "worth" 587)] 0),#[]⟩),
 (252,⟨(.type "dict"),none,(.dict #[⟨(c0 P "__module__"),(.str "__module__" 559),(.str "talejudge.places" 550)⟩,⟨(c0 P "__firstlineno__"),(.str "__firstlineno__" 563),(.int (107) 562)⟩,kR P "__init__" 569 243,kR P "may_stand" 579 250,kR P "__static_attributes__" 588 251,kR P "__dict__" 590 254,kR P "__weakref__" 592 255,⟨(c0 P "__doc__"),(.str "__doc__" 593),.none⟩] 4),#[]⟩),
 (253,⟨(.type "type"),none,(.cls ⟨"Candidate",[(.type "object")],[(.ref 253),(.type "object")],252,"Candidate",true,[],[],false,none,false⟩),#[none,none,some (.str "Candidate" 552),some (.str "Candidate" 560),some (.builtin "object.__new__"),some (.bool true)]⟩),
 (258,⟨(.type "tuple"),none,(.seq #[] 0),#[]⟩),
 (260,⟨(.type "dict"),none,(.dict #[⟨(c0 P "__module__"),(.str "__module__" 603),(.str "talejudge.places" 550)⟩,⟨(c0 P "__qualname__"),(.str "__qualname__" 605),(.str "Board" 604)⟩,⟨(c0 P "__firstlineno__"),(.str "__firstlineno__" 607),(.int (129) 606)⟩,kR P "__init__" 613 269,kR P "steps_from" 624 276,kR P "ends_at" 632 283,kR P "has_place" 640 290,kR P "__static_attributes__" 645 291] 8),#[]⟩),
 (268,cP "__init__" "Board.__init__" 608 131 3 265 611),
 (269,fO "__init__" "Board.__init__" (subS (top 38) 0) "talejudge.places" 550 268),
 (275,cO "steps_from" "Board.steps_from" 614 143 2 270 622),
 (276,fO "steps_from" "Board.steps_from" (subS (top 38) 1) "talejudge.places" 550 275),
 (282,cO "ends_at" "Board.ends_at" 625 152 2 277 630),
 (283,fO "ends_at" "Board.ends_at" (subS (top 38) 2) "talejudge.places" 550 282),
 (291,⟨(.type "tuple"),none,(.seq #[(.str "candidates" 641),(.str "ended" 642),(.str "first" 643),(.str "kinds" 644)] 0),#[]⟩),
 (292,⟨(.type "dict"),none,(.dict #[⟨(c0 P "__module__"),(.str "__module__" 603),(.str "talejudge.places" 550)⟩,⟨(c0 P "__firstlineno__"),(.str "__firstlineno__" 607),(.int (129) 606)⟩,kR P "__init__" 613 269,kR P "steps_from" 624 276,kR P "ends_at" 632 283,kR P "has_place" 640 290,kR P "__static_attributes__" 645 291,kR P "__dict__" 647 294,kR P "__weakref__" 649 295,⟨(c0 P "__doc__"),(.str "__doc__" 650),.none⟩] 4),#[]⟩),
 (293,⟨(.type "type"),none,(.cls ⟨"Board",[(.type "object")],[(.ref 293),(.type "object")],292,"Board",true,[],[],false,none,false⟩),#[none,none,some (.str "Board" 596),some (.str "Board" 604),some (.builtin "object.__new__"),some (.bool true)]⟩),
 (303,cO "step_of" "step_of" 653 157 2 298 662),
 (304,fO "step_of" "step_of" (top 39) "talejudge.places" 550 303),
 (308,cP "ended_numbers" "ended_numbers" 665 163 1 305 668),
 (309,fO "ended_numbers" "ended_numbers" (top 40) "talejudge.places" 550 308),
 (313,cP "holds_all" "holds_all" 671 165 2 310 674),
 (314,fO "holds_all" "holds_all" (top 41) "talejudge.places" 550 313),
 (318,cP "first_place" "first_place" 677 167 1 315 680),
 (319,fO "first_place" "first_place" (top 42) "talejudge.places" 550 318),
 (325,cO "all_places" "all_places" 683 169 2 320 691),
 (326,fO "all_places" "all_places" (top 43) "talejudge.places" 550 325),
 (332,cO "next_layer" "next_layer" 694 177 2 327 702),
 (333,fO "next_layer" "next_layer" (top 44) "talejudge.places" 550 332),
 (337,cP "may_answer" "may_answer" 707 184 2 334 710),
 (338,fO "may_answer" "may_answer" (top 46) "talejudge.beginnings" 705 337),
 (344,cO "open_deed" "open_deed" 713 189 2 339 720),
 (345,fO "open_deed" "open_deed" (top 47) "talejudge.beginnings" 705 344),
 (349,cP "answers_in_orders" "answers_in_orders" 723 195 2 346 726),
 (350,fO "answers_in_orders" "answers_in_orders" (top 48) "talejudge.beginnings" 705 349),
 (356,cO "_law_cell_at" "_law_cell_at" 731 208 2 351 736),
 (357,fL "_law_cell_at" "_law_cell_at" (top 50) 356),
 (363,cO "_law_take" "_law_take" 739 212 2 358 746),
 (364,fL "_law_take" "_law_take" (top 51) 363),
 (368,cP "_law_do" "_law_do" 749 221 4 365 752),
 (369,fL "_law_do" "_law_do" (top 52) 368),
 (373,cP "_law_first" "_law_first" 755 244 1 370 758),
 (374,fL "_law_first" "_law_first" (top 53) 373),
 (380,cO "_law_worth" "_law_worth" 761 246 1 375 765),
 (381,fL "_law_worth" "_law_worth" (top 54) 380),
 (387,cO "_law_verb" "_law_verb" 768 248 2 382 775),
 (388,fL "_law_verb" "_law_verb" (top 55) 387),
 (392,cP "_law_things" "_law_things" 778 258 1 389 781),
 (393,fL "_law_things" "_law_things" (top 56) 392),
 (397,cP "_law_applied" "_law_applied" 784 264 3 394 787),
 (398,fL "_law_applied" "_law_applied" (top 57) 397),
 (402,cP "_law_tale" "_law_tale" 790 269 2 399 793),
 (403,fL "_law_tale" "_law_tale" (top 58) 402),
 (409,cO "_law_deeds" "_law_deeds" 796 297 1 404 804),
 (410,fL "_law_deeds" "_law_deeds" (top 59) 409),
 (416,cO "_law_is_ahead" "_law_is_ahead" 807 309 3 411 813),
 (417,fL "_law_is_ahead" "_law_is_ahead" (top 60) 416),
 (423,cO "_law_may_be_next" "_law_may_be_next" 816 313 4 418 824),
 (424,fL "_law_may_be_next" "_law_may_be_next" (top 61) 423),
 (430,cO "_law_nexts" "_law_nexts" 827 320 4 425 840),
 (431,fL "_law_nexts" "_law_nexts" (top 62) 430),
 (435,cP "_law_is_full" "_law_is_full" 843 330 2 432 846),
 (436,fL "_law_is_full" "_law_is_full" (top 63) 435),
 (442,cO "_law_places" "_law_places" 849 332 2 437 861),
 (443,fL "_law_places" "_law_places" (top 64) 442),
 (447,cP "_law_is_good" "_law_is_good" 864 343 2 444 867),
 (448,fL "_law_is_good" "_law_is_good" (top 65) 447),
 (454,cO "_law_met" "_law_met" 870 346 2 449 881),
 (455,fL "_law_met" "_law_met" (top 66) 454),
 (459,cP "_law_due" "_law_due" 884 354 3 456 887),
 (460,fL "_law_due" "_law_due" (top 67) 459),
 (464,cP "_law_told" "_law_told" 890 364 3 461 893),
 (465,fL "_law_told" "_law_told" (top 68) 464),
 (471,cO "law" "law" 896 370 1 466 904),
 (472,fL "law" "law" (top 69) 471)]
noncomputable def HX:Hook:=kHook KX asX (λ _=>by kernel_rfl)
noncomputable abbrev XtX:u0->Bool:=λ s=>xlAt viewX [] s && recOk (RowW.records (OpenRow.toRowW PySem.Challenge.rw_talejudge_k71_what_may_be_answered.row)) s
theorem look1 (w:R0) (os:Q2):(staticsOk (o7 PX.main.body) (boot_heap w.params) (S3X w os).abs.heap && namesBound PX (S3X w os).abs.heap && gensDone (S3X w os).abs && laidKept (boot_heap w.params) (S3X w os).abs.heap)=true:=by kernel_rfl
theorem look2 (w:R0) (os:Q2):openSeen viewX looseX (o7 PX.main.body) XtX true (S3X w os).abs=openGood viewX looseX:=by rw [PySem.W.Fast.te4187177175401517315];kernel_rfl
theorem look3 (w:R0) (os:Q2):Hook.obs HX (S3X w os).abs=Hook.val HX w:=by kernel_rfl
theorem leftX:LeftO PX viewX looseX XtX (Hook.obs HX) (Hook.val HX) 200000:=
 zlk (H₀:=boot_heap) (gs₀:=Array.mk []) (boot_open (by kernel_rfl) (by decide) (λ s=>rfl)) (λ w=>by kernel_rfl) zla look1 look2 look3
end K71
set_option maxHeartbeats 4000000
namespace L2
open PySem PySem.Spec PyProof.Rows
theorem FnScope.k {N P:List Str} {sc:Scope} (a:sc.kind=.function:=by exact rfl) (b:sc.isCoroutine=false:=by exact rfl) (c:sc.isGenerator=false:=by exact rfl) (d:N.Nodup:=by decide +kernel) (e:N.take P.length=P:=by exact rfl) (f :∀x∈P,sc.names.lookup x=some .local\/sc.names.lookup x=some .cell:=by decide +kernel) (g :∀y∈sc.names,y.2≠.free:=by decide +kernel):FnScope N P sc:=⟨a,b,c,d,e,f,g⟩
theorem newA {H:Hp} {p:Addr} (o:HO) (h:H p=none) :∃H',H'=upd H p o/\Same H H'/\H' p=some o:=⟨_,rfl,Same.upd h,upd_same⟩
theorem iteK {c A B:Prop} [Decidable c] (h:B) (hc:¬ c:=by decide +kernel):if c then A else B:=iteN hc h
theorem pg_cn {X:Cx} {scope:Scope} {cl:List (Str×Addr)} {N:List Str} {C:Addr} {s₂:u0} {H₂:Hp} {fp:List Addr} {x:Str} {px:Pos} (i:Nat) (hN:N.Nodup:=by decide +kernel) (hi:N[i]? = some x:=by exact rfl) (hx:scope.names.lookup x=some .local:=by exact rfl):PG (cxComp X scope cl N C s₂ H₂ fp) (.Name x px) (gName i):=zld i hN hi hx
theorem pe_cg {X:Cx} {xs:List Str} {tg:Expr} {g:TG} {pos:Pos} {elt iter:Expr} {ifs:List Expr} {scope:Scope} {fr:List (Nat×Str)} {wi:TI} {tc:TT} {te:TE} (hi:PI X tg iter wi)
  (hg :∀cl C s₂ H₂ fp,PG (cxComp X scope cl (xs++fr.map (·.2)) C s₂ H₂ fp) tg g)
  (ht :∀cl C s₂ H₂ fp,PF (cxComp X scope cl (xs++fr.map (·.2)) C s₂ H₂ fp) ifs tc) (he :∀cl C s₂ H₂ fp,PE (cxComp X scope cl (xs++fr.map (·.2)) C s₂ H₂ fp) elt te) (hcalm:X.calm=true:=by exact rfl)
  (hfr :∀p∈fr,X.N[p.1]? = some p.2/\(X.env.kindOf p.2=some .cell\/X.env.kindOf p.2=some .free):=by first|exact λ _ z=>absurd z j0|(intro p hp;obtain rfl:=List.mem_singleton.mp hp;first|exact ⟨rfl,.inl rfl⟩|exact ⟨rfl,.inr rfl⟩))
  (hin:(scope.names.all λ y=>y.2 != U1 || fr.any λ p=>p.2 == y.1)=true:=by decide +kernel)
  (hfs :∀p∈fr,(p.2,U1)∈scope.names/\((i8 scope X.env).names.lookup p.2=some .cell\/(i8 scope X.env).names.lookup p.2=some .free):=by first|exact λ _ z=>absurd z j0|(intro p hp;obtain rfl:=List.mem_singleton.mp hp;exact ⟨by decide +kernel,by first|exact .inl rfl|exact .inr rfl⟩))
  (hcell :∀y∈scope.names,y.2≠NameKind.cell:=by decide +kernel) (hkind:scope.kind=.function:=by exact rfl) (hnames :∀y∈scope.names,y.2=NameKind.local->scope.names.lookup y.1=some .local:=by decide +kernel)
  (hs :∀x,A4 iter X.env x=Z2 x:=by intro _;rfl):PE X (.ListComp elt [⟨tg,iter,ifs,0⟩] scope pos) (tCompG wi xs.length fr g tc te):=
 zf2 hcalm hi hfr (λ y a e=>by
  have h:=List.all_eq_true.mp hin y a;rw [e] at h;obtain ⟨p,hp,z⟩:=List.any_eq_true.mp (show fr.any (λ p=>p.2 == y.1)=true from h);have:=(hfr p hp).2
  rwa [eq_of_beq z] at this) hfs hcell hkind hnames hg ht he hs
end L2
namespace K71
open PySem PySem.Spec PyProof.Rows TJ L2
abbrev Gg (n:Str) (a:Addr):Prop:=∀P,N6 (KX P) Y2 n=some (some (.ref a))
abbrev Gn (n:Str):Prop:=∀P,N6 (KX P) Y2 n=some none
noncomputable abbrev kx (w:R0):=KX w.params
noncomputable abbrev Ca (P:Program) (w:R0) (mg:Str->Option Value) (base:Heap):=Cal P w (KX w.params) mg base
noncomputable abbrev CaE (P:Program) (w:R0) (mg:Str->Option Value) (base:Heap):=CalE P w (KX w.params) mg base
noncomputable abbrev Fo (P:Program) (w:R0) (mg:Str->Option Value) (base:Heap):=FnOk P w (KX w.params) mg base
theorem z0l:Gn "isinstance":=λ _=>by kernel_rfl
theorem n_len:Gn "len":=λ _=>by kernel_rfl
theorem n_all:Gn "all":=λ _=>by kernel_rfl
theorem n_max:Gn "max":=λ _=>by kernel_rfl
theorem n_min:Gn "min":=λ _=>by kernel_rfl
theorem n_int:Gn "int":=λ _=>by kernel_rfl
theorem n_str:Gn "str":=λ _=>by kernel_rfl
theorem n_bool:Gn "bool":=λ _=>by kernel_rfl
theorem z2u:Gn "tuple":=λ _=>by kernel_rfl
theorem n_list:Gn "list":=λ _=>by kernel_rfl
theorem z6n:Gn "range":=λ _=>by kernel_rfl
theorem z22:Gn "sorted":=λ _=>by kernel_rfl
theorem n_sum:Gn "sum":=λ _=>by kernel_rfl
theorem z1n:Gn "enumerate":=λ _=>by kernel_rfl
theorem zfm:Gn "reversed":=λ _=>by kernel_rfl
theorem z6w (P:M0):N6 (KX P) Y2 "GREATEST_WORTH" = some (some (.int (1000000000) 196)):=by kernel_rfl
theorem zfx:Gg "is_whole" 28:=λ _=>by kernel_rfl
theorem zex:Gg "is_within" 35:=λ _=>by kernel_rfl
theorem zhq:Gg "is_worth" 42:=λ _=>by kernel_rfl
theorem za9:Gg "is_tuple_of" 49:=λ _=>by kernel_rfl
theorem z4o:Gg "FIRST_STATES" 99:=λ _=>by kernel_rfl
theorem z66:Gg "WORTHS_OF_VERBS" 102:=λ _=>by kernel_rfl
theorem z77:Gg "read_state" 109:=λ _=>by kernel_rfl
theorem z5w:Gg "write_state" 116:=λ _=>by kernel_rfl
theorem z3w:Gg "add_to_number" 123:=λ _=>by kernel_rfl
theorem z73:Gg "put_behind" 130:=λ _=>by kernel_rfl
theorem z6g:Gg "take_first" 137:=λ _=>by kernel_rfl
theorem z57:Gg "put_into_set" 144:=λ _=>by kernel_rfl
theorem z52:Gg "cut_from_set" 149:=λ _=>by kernel_rfl
theorem z6a:Gg "has_in_set" 156:=λ _=>by kernel_rfl
theorem z6k:Gg "swap_state" 163:=λ _=>by kernel_rfl
theorem zkt:Gg "DOERS" 164:=λ _=>by kernel_rfl
theorem zj3:Gg "is_kind" 183:=λ _=>by kernel_rfl
theorem zad:Gg "first_state" 190:=λ _=>by kernel_rfl
theorem zjs:Gg "is_deed" 195:=λ _=>by kernel_rfl
theorem g_do:Gg "do" 202:=λ _=>by kernel_rfl
theorem zms:Gg "deeds" 209:=λ _=>by kernel_rfl
theorem z8p:Gg "STRICTNESSES" 210:=λ _=>by kernel_rfl
theorem zkx:Gg "has_to" 217:=λ _=>by kernel_rfl
theorem z5q:Gg "check_strictness" 224:=λ _=>by kernel_rfl
theorem zcs:Gg "goes_ahead" 231:=λ _=>by kernel_rfl
theorem zeb:Gg "Candidate" 253:=λ _=>by kernel_rfl
theorem zkc:Gg "Board" 293:=λ _=>by kernel_rfl
theorem zin:Gg "step_of" 304:=λ _=>by kernel_rfl
theorem z7q:Gg "ended_numbers" 309:=λ _=>by kernel_rfl
theorem zev:Gg "holds_all" 314:=λ _=>by kernel_rfl
theorem z9s:Gg "first_place" 319:=λ _=>by kernel_rfl
theorem zcb:Gg "all_places" 326:=λ _=>by kernel_rfl
theorem zcj:Gg "next_layer" 333:=λ _=>by kernel_rfl
theorem zca:Gg "may_answer" 338:=λ _=>by kernel_rfl
theorem zec:Gg "open_deed" 345:=λ _=>by kernel_rfl
theorem z4r:Gg "answers_in_orders" 350:=λ _=>by kernel_rfl
theorem z9k:Gg "_law_cell_at" 357:=λ _=>by kernel_rfl
theorem zek:Gg "_law_take" 364:=λ _=>by kernel_rfl
theorem zjl:Gg "_law_do" 369:=λ _=>by kernel_rfl
theorem zcd:Gg "_law_first" 374:=λ _=>by kernel_rfl
theorem zc6:Gg "_law_worth" 381:=λ _=>by kernel_rfl
theorem zei:Gg "_law_verb" 388:=λ _=>by kernel_rfl
theorem za4:Gg "_law_things" 393:=λ _=>by kernel_rfl
theorem z8n:Gg "_law_applied" 398:=λ _=>by kernel_rfl
theorem zef:Gg "_law_tale" 403:=λ _=>by kernel_rfl
theorem zbk:Gg "_law_deeds" 410:=λ _=>by kernel_rfl
theorem z7u:Gg "_law_is_ahead" 417:=λ _=>by kernel_rfl
theorem z5g:Gg "_law_may_be_next" 424:=λ _=>by kernel_rfl
theorem zbt:Gg "_law_nexts" 431:=λ _=>by kernel_rfl
theorem z8y:Gg "_law_is_full" 436:=λ _=>by kernel_rfl
theorem zb3:Gg "_law_places" 443:=λ _=>by kernel_rfl
theorem z8i:Gg "_law_is_good" 448:=λ _=>by kernel_rfl
theorem zfr:Gg "_law_met" 455:=λ _=>by kernel_rfl
theorem zg0:Gg "_law_due" 460:=λ _=>by kernel_rfl
theorem ze7:Gg "_law_told" 465:=λ _=>by kernel_rfl
theorem g_law:Gg "law" 472:=λ _=>by kernel_rfl
def kl_FIRST_STATES:zV:=[("register",.int (0)),("counter",.int (0)),("queue",.ref 100),("set",.ref 101),("cell",.int (0))]
theorem z40 (P:M0):KDict (KX P) P 99 kl_FIRST_STATES:=⟨⟨#[⟨(c0 P "register"),(.str "register" 298),(.int (0) 299)⟩,⟨(c0 P "counter"),(.str "counter" 300),(.int (0) 301)⟩,⟨(c0 P "queue"),(.str "queue" 302),(.ref 100)⟩,⟨(c0 P "set"),(.str "set" 303),(.ref 101)⟩,⟨(c0 P "cell"),(.str "cell" 304),(.int (0) 305)⟩],5,by kernel_rfl,(.cons ⟨⟨_,rfl⟩,rfl,⟨_,rfl⟩⟩ (.cons ⟨⟨_,rfl⟩,rfl,⟨_,rfl⟩⟩ (.cons ⟨⟨_,rfl⟩,rfl,rfl⟩ (.cons ⟨⟨_,rfl⟩,rfl,rfl⟩ (.cons ⟨⟨_,rfl⟩,rfl,⟨_,rfl⟩⟩ .nil)))))⟩,by decide⟩
noncomputable def kl_WORTHS_OF_VERBS:zV:=[("read",.int (0)),("take",.int (0)),("write",.int (1)),("add",.int (1)),("put",.int (1)),("cut",.int (1)),("has",.int (1)),("swap",.int (2))]
theorem z5m (P:M0):KDict (KX P) P 102 kl_WORTHS_OF_VERBS:=⟨⟨#[⟨(c0 P "read"),(.str "read" 312),(.int (0) 313)⟩,⟨(c0 P "take"),(.str "take" 314),(.int (0) 315)⟩,⟨(c0 P "write"),(.str "write" 316),(.int (1) 317)⟩,⟨(c0 P "add"),(.str "add" 318),(.int (1) 319)⟩,⟨(c0 P "put"),(.str "put" 320),(.int (1) 321)⟩,⟨(c0 P "cut"),(.str "cut" 322),(.int (1) 323)⟩,⟨(c0 P "has"),(.str "has" 324),(.int (1) 325)⟩,⟨(c0 P "swap"),(.str "swap" 326),(.int (2) 327)⟩],8,by kernel_rfl,(.cons ⟨⟨_,rfl⟩,rfl,⟨_,rfl⟩⟩ (.cons ⟨⟨_,rfl⟩,rfl,⟨_,rfl⟩⟩ (.cons ⟨⟨_,rfl⟩,rfl,⟨_,rfl⟩⟩ (.cons ⟨⟨_,rfl⟩,rfl,⟨_,rfl⟩⟩ (.cons ⟨⟨_,rfl⟩,rfl,⟨_,rfl⟩⟩ (.cons ⟨⟨_,rfl⟩,rfl,⟨_,rfl⟩⟩ (.cons ⟨⟨_,rfl⟩,rfl,⟨_,rfl⟩⟩ (.cons ⟨⟨_,rfl⟩,rfl,⟨_,rfl⟩⟩ .nil))))))))⟩,by decide⟩
noncomputable def kl_DOERS:List ((Str×Str)×V):=[(("register","read"),.ref 109),(("register","write"),.ref 116),(("counter","read"),.ref 109),(("counter","add"),.ref 123),(("queue","put"),.ref 130),(("queue","take"),.ref 137),(("set","put"),.ref 144),(("set","cut"),.ref 149),(("set","has"),.ref 156),(("cell","read"),.ref 109),(("cell","write"),.ref 116),(("cell","swap"),.ref 163)]
theorem zhh (P:M0):KDictT (KX P) P 164 kl_DOERS:=⟨⟨#[⟨(G1 (l0 [c0 P "register",c0 P "read"])),(.ref 165),(.ref 109)⟩,⟨(G1 (l0 [c0 P "register",c0 P "write"])),(.ref 166),(.ref 116)⟩,⟨(G1 (l0 [c0 P "counter",c0 P "read"])),(.ref 167),(.ref 109)⟩,⟨(G1 (l0 [c0 P "counter",c0 P "add"])),(.ref 168),(.ref 123)⟩,⟨(G1 (l0 [c0 P "queue",c0 P "put"])),(.ref 169),(.ref 130)⟩,⟨(G1 (l0 [c0 P "queue",c0 P "take"])),(.ref 170),(.ref 137)⟩,⟨(G1 (l0 [c0 P "set",c0 P "put"])),(.ref 171),(.ref 144)⟩,⟨(G1 (l0 [c0 P "set",c0 P "cut"])),(.ref 172),(.ref 149)⟩,⟨(G1 (l0 [c0 P "set",c0 P "has"])),(.ref 173),(.ref 156)⟩,⟨(G1 (l0 [c0 P "cell",c0 P "read"])),(.ref 174),(.ref 109)⟩,⟨(G1 (l0 [c0 P "cell",c0 P "write"])),(.ref 175),(.ref 116)⟩,⟨(G1 (l0 [c0 P "cell",c0 P "swap"])),(.ref 176),(.ref 163)⟩],12,by kernel_rfl,(.cons ⟨⟨165,407,408,0,rfl,by kernel_rfl⟩,rfl,rfl⟩ (.cons ⟨⟨166,409,410,0,rfl,by kernel_rfl⟩,rfl,rfl⟩ (.cons ⟨⟨167,411,412,0,rfl,by kernel_rfl⟩,rfl,rfl⟩ (.cons ⟨⟨168,413,414,0,rfl,by kernel_rfl⟩,rfl,rfl⟩ (.cons ⟨⟨169,415,416,0,rfl,by kernel_rfl⟩,rfl,rfl⟩ (.cons ⟨⟨170,417,418,0,rfl,by kernel_rfl⟩,rfl,rfl⟩ (.cons ⟨⟨171,419,420,0,rfl,by kernel_rfl⟩,rfl,rfl⟩ (.cons ⟨⟨172,421,422,0,rfl,by kernel_rfl⟩,rfl,rfl⟩ (.cons ⟨⟨173,423,424,0,rfl,by kernel_rfl⟩,rfl,rfl⟩ (.cons ⟨⟨174,425,426,0,rfl,by kernel_rfl⟩,rfl,rfl⟩ (.cons ⟨⟨175,427,428,0,rfl,by kernel_rfl⟩,rfl,rfl⟩ (.cons ⟨⟨176,429,430,0,rfl,by kernel_rfl⟩,rfl,rfl⟩ .nil))))))))))))⟩,by decide +kernel,by decide⟩
noncomputable abbrev y2n:Stmt:=top 3
noncomputable abbrev y1o:FuncData:=fnX "is_whole" "is_whole" (top 3) "talejudge.basics" 194 27
theorem z75 (P:M0):Fun (KX P) "is_whole" "is_whole" y2n 28 y1o:=z0b
theorem zhj (P:M0):Binds (KX P) y1o ["value"] []:=(z75 P).binds λ _ _ _ _ _ _=>us1 λ _=>rfl
theorem ze8:FnScope ["value"] ["value"] (z05 y2n):=.k
noncomputable abbrev y2f:Stmt:=top 4
noncomputable abbrev y17:FuncData:=fnX "is_within" "is_within" (top 4) "talejudge.basics" 194 34
theorem z5j (P:M0):Fun (KX P) "is_within" "is_within" y2f 35 y17:=z0b
theorem zeo (P:M0):Binds (KX P) y17 ["value","greatest"] []:=(z5j P).binds λ _ _ _ _ _ _=>us2 λ _ _=>rfl
theorem zcu:FnScope ["value","greatest"] ["value","greatest"] (z05 y2f):=.k
noncomputable abbrev y2o:Stmt:=top 5
noncomputable abbrev y1p:FuncData:=fnX "is_worth" "is_worth" (top 5) "talejudge.basics" 194 41
theorem z6z (P:M0):Fun (KX P) "is_worth" "is_worth" y2o 42 y1p:=z0b
theorem zf9 (P:M0):Binds (KX P) y1p ["value"] []:=(z6z P).binds λ _ _ _ _ _ _=>us1 λ _=>rfl
theorem zeh:FnScope ["value"] ["value"] (z05 y2o):=.k
noncomputable abbrev y1s:Stmt:=top 6
noncomputable abbrev y0n:FuncData:=fnX "is_tuple_of" "is_tuple_of" (top 6) "talejudge.basics" 194 48
theorem z38 (P:M0):Fun (KX P) "is_tuple_of" "is_tuple_of" y1s 49 y0n:=z0b
theorem zam (P:M0):Binds (KX P) y0n ["value","many"] []:=(z38 P).binds λ _ _ _ _ _ _=>us2 λ _ _=>rfl
theorem z8o:FnScope ["value","many"] ["value","many"] (z05 y1s):=.k
noncomputable abbrev y22:Stmt:=top 15
noncomputable abbrev y0t:FuncData:=fnX "read_state" "read_state" (top 15) "talejudge.store" 296 108
theorem z4k (P:M0):Fun (KX P) "read_state" "read_state" y22 109 y0t:=z0b
theorem zbs (P:M0):Binds (KX P) y0t ["state","worth"] []:=(z4k P).binds λ _ _ _ _ _ _=>us2 λ _ _=>rfl
theorem zbc:FnScope ["state","worth"] ["state","worth"] (z05 y22):=.k
noncomputable abbrev y1t:Stmt:=top 16
noncomputable abbrev y0o:FuncData:=fnX "write_state" "write_state" (top 16) "talejudge.store" 296 115
theorem z31 (P:M0):Fun (KX P) "write_state" "write_state" y1t 116 y0o:=z0b
theorem za0 (P:M0):Binds (KX P) y0o ["state","worth"] []:=(z31 P).binds λ _ _ _ _ _ _=>us2 λ _ _=>rfl
theorem z8j:FnScope ["state","worth"] ["state","worth"] (z05 y1t):=.k
noncomputable abbrev y18:Stmt:=top 17
noncomputable abbrev y09:FuncData:=fnX "add_to_number" "add_to_number" (top 17) "talejudge.store" 296 122
theorem z26 (P:M0):Fun (KX P) "add_to_number" "add_to_number" y18 123 y09:=z0b
theorem z7y (P:M0):Binds (KX P) y09 ["state","worth"] []:=(z26 P).binds λ _ _ _ _ _ _=>us2 λ _ _=>rfl
theorem z70:FnScope ["state","worth"] ["state","worth"] (z05 y18):=.k
noncomputable abbrev y23:Stmt:=top 18
noncomputable abbrev y0u:FuncData:=fnX "put_behind" "put_behind" (top 18) "talejudge.store" 296 129
theorem z43 (P:M0):Fun (KX P) "put_behind" "put_behind" y23 130 y0u:=z0b
theorem zbm (P:M0):Binds (KX P) y0u ["state","worth"] []:=(z43 P).binds λ _ _ _ _ _ _=>us2 λ _ _=>rfl
theorem zau:FnScope ["state","worth"] ["state","worth"] (z05 y23):=.k
noncomputable abbrev y24:Stmt:=top 19
noncomputable abbrev y0v:FuncData:=fnX "take_first" "take_first" (top 19) "talejudge.store" 296 136
theorem z4f (P:M0):Fun (KX P) "take_first" "take_first" y24 137 y0v:=z0b
theorem zcg (P:M0):Binds (KX P) y0v ["state","worth"] []:=(z4f P).binds λ _ _ _ _ _ _=>us2 λ _ _=>rfl
theorem zb5:FnScope ["state","worth"] ["state","worth"] (z05 y24):=.k
noncomputable abbrev y1i:Stmt:=top 20
noncomputable abbrev y0d:FuncData:=fnX "put_into_set" "put_into_set" (top 20) "talejudge.store" 296 143
theorem z2g (P:M0):Fun (KX P) "put_into_set" "put_into_set" y1i 144 y0d:=z0b
theorem z8k (P:M0):Binds (KX P) y0d ["state","worth"] []:=(z2g P).binds λ _ _ _ _ _ _=>us2 λ _ _=>rfl
theorem z7r:FnScope ["state","worth"] ["state","worth"] (z05 y1i):=.k
noncomputable abbrev y1j:Stmt:=top 21
noncomputable abbrev y0e:FuncData:=fnX "cut_from_set" "cut_from_set" (top 21) "talejudge.store" 296 148
theorem z2p (P:M0):Fun (KX P) "cut_from_set" "cut_from_set" y1j 149 y0e:=z0b
theorem z96 (P:M0):Binds (KX P) y0e ["state","worth"] []:=(z2p P).binds λ _ _ _ _ _ _=>us2 λ _ _=>rfl
theorem z7j:FnScope ["state","worth"] ["state","worth"] (z05 y1j):=.k
noncomputable abbrev y25:Stmt:=top 22
noncomputable abbrev y0w:FuncData:=fnX "has_in_set" "has_in_set" (top 22) "talejudge.store" 296 155
theorem z4i (P:M0):Fun (KX P) "has_in_set" "has_in_set" y25 156 y0w:=z0b
theorem zbh (P:M0):Binds (KX P) y0w ["state","worth"] []:=(z4i P).binds λ _ _ _ _ _ _=>us2 λ _ _=>rfl
theorem zbb:FnScope ["state","worth"] ["state","worth"] (z05 y25):=.k
noncomputable abbrev y26:Stmt:=top 23
noncomputable abbrev y0x:FuncData:=fnX "swap_state" "swap_state" (top 23) "talejudge.store" 296 162
theorem z45 (P:M0):Fun (KX P) "swap_state" "swap_state" y26 163 y0x:=z0b
theorem zbg (P:M0):Binds (KX P) y0x ["state","worth"] []:=(z45 P).binds λ _ _ _ _ _ _=>us2 λ _ _=>rfl
theorem zan:FnScope ["state","worth"] ["state","worth"] (z05 y26):=.k
noncomputable abbrev y2s:Stmt:=top 25
noncomputable abbrev y1y:FuncData:=fnX "is_kind" "is_kind" (top 25) "talejudge.store" 296 182
theorem z8m (P:M0):Fun (KX P) "is_kind" "is_kind" y2s 183 y1y:=z0b
theorem zj2 (P:M0):Binds (KX P) y1y ["kind"] []:=(z8m P).binds λ _ _ _ _ _ _=>us1 λ _=>rfl
theorem zf3:FnScope ["kind"] ["kind"] (z05 y2s):=.k
noncomputable abbrev y1u:Stmt:=top 26
noncomputable abbrev y0p:FuncData:=fnX "first_state" "first_state" (top 26) "talejudge.store" 296 189
theorem z3d (P:M0):Fun (KX P) "first_state" "first_state" y1u 190 y0p:=z0b
theorem zal (P:M0):Binds (KX P) y0p ["kind"] []:=(z3d P).binds λ _ _ _ _ _ _=>us1 λ _=>rfl
theorem z9h:FnScope ["kind"] ["kind"] (z05 y1u):=.k
noncomputable abbrev y2t:Stmt:=top 27
noncomputable abbrev y1z:FuncData:=fnX "is_deed" "is_deed" (top 27) "talejudge.store" 296 194
theorem z8l (P:M0):Fun (KX P) "is_deed" "is_deed" y2t 195 y1z:=z0b
theorem zjg (P:M0):Binds (KX P) y1z ["kind","verb","worth"] []:=(z8l P).binds λ _ _ _ _ _ _=>us3 λ _ _ _=>rfl
theorem sc_is_deed:FnScope ["kind","verb","worth","many"] ["kind","verb","worth"] (z05 y2t):=.k
noncomputable abbrev y2y:Stmt:=top 28
noncomputable abbrev y2z:FuncData:=fnX "do" "do" (top 28) "talejudge.store" 296 201
theorem F_do (P:M0):Fun (KX P) "do" "do" y2y 202 y2z:=z0b
theorem b_do (P:M0):Binds (KX P) y2z ["kind","state","verb","worth"] []:=(F_do P).binds λ _ _ _ _ _ _=>us4 λ _ _ _ _=>rfl
theorem sc_do:FnScope ["kind","state","verb","worth","doer"] ["kind","state","verb","worth"] (z05 y2y):=.k
noncomputable abbrev y2x:Stmt:=top 30
noncomputable abbrev y2r:FuncData:=fnX "deeds" "deeds" (top 30) "talejudge.tales" 499 208
theorem zhl (P:M0):Fun (KX P) "deeds" "deeds" y2x 209 y2r:=z0b
theorem zmt (P:M0):Binds (KX P) y2r ["tale"] []:=(zhl P).binds λ _ _ _ _ _ _=>us1 λ _=>rfl
theorem sc_deeds:FnScope ["tale","told","numbers","place","event","number","begun"] ["tale"] (z05 y2x):=.k
noncomputable abbrev y2w:Stmt:=top 33
noncomputable abbrev y2g:FuncData:=fnX "has_to" "has_to" (top 33) "talejudge.orders" 514 216
theorem zc0 (P:M0):Fun (KX P) "has_to" "has_to" y2w 217 y2g:=z0b
theorem zlt (P:M0):Binds (KX P) y2g ["tale","strictness"] []:=(zc0 P).binds λ _ _ _ _ _ _=>us2 λ _ _=>rfl
theorem sc_has_to:FnScope ["tale","strictness","told","pairs","ahead","one","behind","other"] ["tale","strictness"] (z05 y2w):=.k
noncomputable abbrev y0k:Stmt:=top 34
noncomputable abbrev y06:FuncData:=fnX "check_strictness" "check_strictness" (top 34) "talejudge.orders" 514 223
theorem z1c (P:M0):Fun (KX P) "check_strictness" "check_strictness" y0k 224 y06:=z0b
theorem z5v (P:M0):Binds (KX P) y06 ["strictness"] []:=(z1c P).binds λ _ _ _ _ _ _=>us1 λ _=>rfl
theorem z51:FnScope ["strictness"] ["strictness"] (z05 y0k):=.k
noncomputable abbrev y27:Stmt:=top 35
noncomputable abbrev y0y:FuncData:=fnX "goes_ahead" "goes_ahead" (top 35) "talejudge.orders" 514 230
theorem z4a (P:M0):Fun (KX P) "goes_ahead" "goes_ahead" y27 231 y0y:=z0b
theorem zby (P:M0):Binds (KX P) y0y ["one","other","strictness"] []:=(z4a P).binds λ _ _ _ _ _ _=>us3 λ _ _ _=>rfl
theorem za7:FnScope ["one","other","strictness"] ["one","other","strictness"] (z05 y27):=.k
noncomputable abbrev y2u:Stmt:=top 39
noncomputable abbrev y20:FuncData:=fnX "step_of" "step_of" (top 39) "talejudge.places" 550 303
theorem z8q (P:M0):Fun (KX P) "step_of" "step_of" y2u 304 y20:=z0b
theorem zij (P:M0):Binds (KX P) y20 ["candidate","place"] []:=(z8q P).binds λ _ _ _ _ _ _=>us2 λ _ _=>rfl
theorem sc_step_of:FnScope ["candidate","place","thing","states","done","numbers"] ["candidate","place"] (z05 y2u):=.k
noncomputable abbrev y19:Stmt:=top 40
noncomputable abbrev y0a:FuncData:=fnX "ended_numbers" "ended_numbers" (top 40) "talejudge.places" 550 308
theorem z21 (P:M0):Fun (KX P) "ended_numbers" "ended_numbers" y19 309 y0a:=z0b
theorem z7n (P:M0):Binds (KX P) y0a ["told"] []:=(z21 P).binds λ _ _ _ _ _ _=>us1 λ _=>rfl
theorem z6r:FnScope ["told"] ["told"] (z05 y19):=.k
noncomputable abbrev y2h:Stmt:=top 41
noncomputable abbrev y1a:FuncData:=fnX "holds_all" "holds_all" (top 41) "talejudge.places" 550 313
theorem z5f (P:M0):Fun (KX P) "holds_all" "holds_all" y2h 314 y1a:=z0b
theorem zep (P:M0):Binds (KX P) y1a ["done","numbers"] []:=(z5f P).binds λ _ _ _ _ _ _=>us2 λ _ _=>rfl
theorem zbl:FnScope ["done","numbers"] ["done","numbers"] (z05 y2h):=.k
noncomputable abbrev y1v:Stmt:=top 42
noncomputable abbrev y0q:FuncData:=fnX "first_place" "first_place" (top 42) "talejudge.places" 550 318
theorem z2y (P:M0):Fun (KX P) "first_place" "first_place" y1v 319 y0q:=z0b
theorem za3 (P:M0):Binds (KX P) y0q ["tale"] []:=(z2y P).binds λ _ _ _ _ _ _=>us1 λ _=>rfl
theorem z9b:FnScope ["tale"] ["tale"] (z05 y1v):=.k
noncomputable abbrev y28:Stmt:=top 43
noncomputable abbrev y0z:FuncData:=fnX "all_places" "all_places" (top 43) "talejudge.places" 550 325
theorem z44 (P:M0):Fun (KX P) "all_places" "all_places" y28 326 y0z:=z0b
theorem zc2 (P:M0):Binds (KX P) y0z ["tale","strictness"] []:=(z44 P).binds λ _ _ _ _ _ _=>us2 λ _ _=>rfl
theorem sc_all_places:FnScope ["tale","strictness","board","found","layer"] ["tale","strictness"] (z05 y28):=.k
noncomputable abbrev y29:Stmt:=top 44
noncomputable abbrev y10:FuncData:=fnX "next_layer" "next_layer" (top 44) "talejudge.places" 550 332
theorem z4c (P:M0):Fun (KX P) "next_layer" "next_layer" y29 333 y10:=z0b
theorem zck (P:M0):Binds (KX P) y10 ["board","layer"] []:=(z4c P).binds λ _ _ _ _ _ _=>us2 λ _ _=>rfl
theorem sc_next_layer:FnScope ["board","layer","reached","place","step"] ["board","layer"] (z05 y29):=.k
noncomputable abbrev y2a:Stmt:=top 46
noncomputable abbrev y11:FuncData:=fnX "may_answer" "may_answer" (top 46) "talejudge.beginnings" 705 337
theorem z4h (P:M0):Fun (KX P) "may_answer" "may_answer" y2a 338 y11:=z0b
theorem zci (P:M0):Binds (KX P) y11 ["tale","hand"] []:=(z4h P).binds λ _ _ _ _ _ _=>us2 λ _ _=>rfl
theorem sc_may_answer:FnScope ["tale","hand","heard","numbers","texts"] ["tale","hand"] (z05 y2a):=.k
noncomputable abbrev y2i:Stmt:=top 47
noncomputable abbrev y1b:FuncData:=fnX "open_deed" "open_deed" (top 47) "talejudge.beginnings" 705 344
theorem z5l (P:M0):Fun (KX P) "open_deed" "open_deed" y2i 345 y1b:=z0b
theorem zes (P:M0):Binds (KX P) y1b ["tale","hand"] []:=(z5l P).binds λ _ _ _ _ _ _=>us2 λ _ _=>rfl
theorem sc_open_deed:FnScope ["tale","hand","number","deed"] ["tale","hand"] (z05 y2i):=.k
noncomputable abbrev y0f:Stmt:=top 48
noncomputable abbrev y04:FuncData:=fnX "answers_in_orders" "answers_in_orders" (top 48) "talejudge.beginnings" 705 349
theorem z0y (P:M0):Fun (KX P) "answers_in_orders" "answers_in_orders" y0f 350 y04:=z0b
theorem z4z (P:M0):Binds (KX P) y04 ["tale","number"] []:=(z0y P).binds λ _ _ _ _ _ _=>us2 λ _ _=>rfl
theorem sc_answers_in_orders:FnScope ["tale","number","board","hopeful","heard","place","steps","step"] ["tale","number"] (z05 y0f):=.k
noncomputable abbrev y1k:Stmt:=top 50
noncomputable abbrev y0g:FuncData:=fY "_law_cell_at" "_law_cell_at" (top 50) 356
theorem z2n (P:M0):Fun (KX P) "_law_cell_at" "_law_cell_at" y1k 357 y0g:=z0b
theorem z8r (P:M0):Binds (KX P) y0g ["script","k"] []:=(z2n P).binds λ _ _ _ _ _ _=>us2 λ _ _=>rfl
theorem z7k:FnScope ["script","k"] ["script","k"] (z05 y1k):=.k
noncomputable abbrev y2j:Stmt:=top 51
noncomputable abbrev y1c:FuncData:=fY "_law_take" "_law_take" (top 51) 363
theorem z5k (P:M0):Fun (KX P) "_law_take" "_law_take" y2j 364 y1c:=z0b
theorem zen (P:M0):Binds (KX P) y1c ["deck","many"] []:=(z5k P).binds λ _ _ _ _ _ _=>us2 λ _ _=>rfl
theorem sc__law_take:FnScope ["deck","many","told","number"] ["deck","many"] (z05 y2j):=.k
noncomputable abbrev y2v:Stmt:=top 52
noncomputable abbrev y21:FuncData:=fY "_law_do" "_law_do" (top 52) 368
theorem z8z (P:M0):Fun (KX P) "_law_do" "_law_do" y2v 369 y21:=z0b
theorem zio (P:M0):Binds (KX P) y21 ["kind","state","verb","worth"] []:=(z8z P).binds λ _ _ _ _ _ _=>us4 λ _ _ _ _=>rfl
theorem sc__law_do:FnScope ["kind","state","verb","worth","there"] ["kind","state","verb","worth"] (z05 y2v):=.k
noncomputable abbrev y2b:Stmt:=top 53
noncomputable abbrev y12:FuncData:=fY "_law_first" "_law_first" (top 53) 373
theorem z4j (P:M0):Fun (KX P) "_law_first" "_law_first" y2b 374 y12:=z0b
theorem zbo (P:M0):Binds (KX P) y12 ["things"] []:=(z4j P).binds λ _ _ _ _ _ _=>us1 λ _=>rfl
theorem zaf:FnScope ["things"] ["things"] (z05 y2b):=.k
noncomputable abbrev y2c:Stmt:=top 54
noncomputable abbrev y13:FuncData:=fY "_law_worth" "_law_worth" (top 54) 380
theorem z42 (P:M0):Fun (KX P) "_law_worth" "_law_worth" y2c 381 y13:=z0b
theorem zc9 (P:M0):Binds (KX P) y13 ["deck"] []:=(z42 P).binds λ _ _ _ _ _ _=>us1 λ _=>rfl
theorem zb2:FnScope ["deck"] ["deck"] (z05 y2c):=.k
noncomputable abbrev y2k:Stmt:=top 55
noncomputable abbrev y1d:FuncData:=fY "_law_verb" "_law_verb" (top 55) 387
theorem z5s (P:M0):Fun (KX P) "_law_verb" "_law_verb" y2k 388 y1d:=z0b
theorem zeq (P:M0):Binds (KX P) y1d ["deck","kind"] []:=(z5s P).binds λ _ _ _ _ _ _=>us2 λ _ _=>rfl
theorem sc__law_verb:FnScope ["deck","kind","some","verb"] ["deck","kind"] (z05 y2k):=.k
noncomputable abbrev y1w:Stmt:=top 56
noncomputable abbrev y0r:FuncData:=fY "_law_things" "_law_things" (top 56) 392
theorem z3f (P:M0):Fun (KX P) "_law_things" "_law_things" y1w 393 y0r:=z0b
theorem zbd (P:M0):Binds (KX P) y0r ["deck"] []:=(z3f P).binds λ _ _ _ _ _ _=>us1 λ _=>rfl
theorem sc__law_things:FnScope ["deck","words","told","k"] ["deck"] (z05 y1w):=.k
noncomputable abbrev y1l:Stmt:=top 57
noncomputable abbrev y0h:FuncData:=fY "_law_applied" "_law_applied" (top 57) 397
theorem z2k (P:M0):Fun (KX P) "_law_applied" "_law_applied" y1l 398 y0h:=z0b
theorem z91 (P:M0):Binds (KX P) y0h ["things","states","own"] []:=(z2k P).binds λ _ _ _ _ _ _=>us3 λ _ _ _=>rfl
theorem sc__law_applied:FnScope ["things","states","own","at","state","answer"] ["things","states","own"] (z05 y1l):=.k
noncomputable abbrev y2l:Stmt:=top 58
noncomputable abbrev y1e:FuncData:=fY "_law_tale" "_law_tale" (top 58) 402
theorem z5e (P:M0):Fun (KX P) "_law_tale" "_law_tale" y2l 403 y1e:=z0b
theorem zee (P:M0):Binds (KX P) y1e ["script","most"] []:=(z5e P).binds λ _ _ _ _ _ _=>us2 λ _ _=>rfl
theorem sc__law_tale:FnScope ["script","most","way","deck","things","hands","spoil","states","events","under_way","k","hand","own","answer","name","kind","verb","worth"] ["script","most"] (z05 y2l):=.k
noncomputable abbrev y2d:Stmt:=top 59
noncomputable abbrev y14:FuncData:=fY "_law_deeds" "_law_deeds" (top 59) 409
theorem z4b (P:M0):Fun (KX P) "_law_deeds" "_law_deeds" y2d 410 y14:=z0b
theorem zc7 (P:M0):Binds (KX P) y14 ["tale"] []:=(z4b P).binds λ _ _ _ _ _ _=>us1 λ _=>rfl
theorem sc__law_deeds:FnScope ["tale","told","last","at","event"] ["tale"] (z05 y2d):=.k
noncomputable abbrev y1f:Stmt:=top 60
noncomputable abbrev y0b:FuncData:=fY "_law_is_ahead" "_law_is_ahead" (top 60) 416
theorem z25 (P:M0):Fun (KX P) "_law_is_ahead" "_law_is_ahead" y1f 417 y0b:=z0b
theorem z7v (P:M0):Binds (KX P) y0b ["strictness","one","other"] []:=(z25 P).binds λ _ _ _ _ _ _=>us3 λ _ _ _=>rfl
theorem z7b:FnScope ["strictness","one","other"] ["strictness","one","other"] (z05 y1f):=.k
noncomputable abbrev y0l:Stmt:=top 61
noncomputable abbrev y07:FuncData:=fY "_law_may_be_next" "_law_may_be_next" (top 61) 423
theorem z1a (P:M0):Fun (KX P) "_law_may_be_next" "_law_may_be_next" y0l 424 y07:=z0b
theorem z5b (P:M0):Binds (KX P) y07 ["some","strictness","done","number"] []:=(z1a P).binds λ _ _ _ _ _ _=>us4 λ _ _ _ _=>rfl
theorem sc__law_may_be_next:FnScope ["some","strictness","done","number","other"] ["some","strictness","done","number"] (z05 y0l):=.k
noncomputable abbrev y2e:Stmt:=top 62
noncomputable abbrev y15:FuncData:=fY "_law_nexts" "_law_nexts" (top 62) 430
theorem z49 (P:M0):Fun (KX P) "_law_nexts" "_law_nexts" y2e 431 y15:=z0b
theorem zbv (P:M0):Binds (KX P) y15 ["tale","some","strictness","place"] []:=(z49 P).binds λ _ _ _ _ _ _=>us4 λ _ _ _ _=>rfl
theorem sc__law_nexts:FnScope ["tale","some","strictness","place","told","done","states","number","own","behind"] ["tale","some","strictness","place"] (z05 y2e):=.k
noncomputable abbrev y1m:Stmt:=top 63
noncomputable abbrev y0i:FuncData:=fY "_law_is_full" "_law_is_full" (top 63) 435
theorem z2d (P:M0):Fun (KX P) "_law_is_full" "_law_is_full" y1m 436 y0i:=z0b
theorem z93 (P:M0):Binds (KX P) y0i ["some","place"] []:=(z2d P).binds λ _ _ _ _ _ _=>us2 λ _ _=>rfl
theorem z7h:FnScope ["some","place"] ["some","place"] (z05 y1m):=.k
noncomputable abbrev y1x:Stmt:=top 64
noncomputable abbrev y0s:FuncData:=fY "_law_places" "_law_places" (top 64) 442
theorem z3k (P:M0):Fun (KX P) "_law_places" "_law_places" y1x 443 y0s:=z0b
theorem zai (P:M0):Binds (KX P) y0s ["tale","strictness"] []:=(z3k P).binds λ _ _ _ _ _ _=>us2 λ _ _=>rfl
theorem sc__law_places:FnScope ["tale","strictness","some","first","told","pile","number","answer","place"] ["tale","strictness"] (z05 y1x):=.k
noncomputable abbrev y1n:Stmt:=top 65
noncomputable abbrev y0j:FuncData:=fY "_law_is_good" "_law_is_good" (top 65) 447
theorem z2f (P:M0):Fun (KX P) "_law_is_good" "_law_is_good" y1n 448 y0j:=z0b
theorem z9a (P:M0):Binds (KX P) y0j ["tale","strictness"] []:=(z2f P).binds λ _ _ _ _ _ _=>us2 λ _ _=>rfl
theorem sc__law_is_good:FnScope ["tale","strictness","some"] ["tale","strictness"] (z05 y1n):=.k
noncomputable abbrev y2p:Stmt:=top 66
noncomputable abbrev y1q:FuncData:=fY "_law_met" "_law_met" (top 66) 454
theorem z7f (P:M0):Fun (KX P) "_law_met" "_law_met" y2p 455 y1q:=z0b
theorem zhf (P:M0):Binds (KX P) y1q ["tale","number"] []:=(z7f P).binds λ _ _ _ _ _ _=>us2 λ _ _=>rfl
theorem sc__law_met:FnScope ["tale","number","some","told","place","deed","answer","behind"] ["tale","number"] (z05 y2p):=.k
noncomputable abbrev y2q:Stmt:=top 67
noncomputable abbrev y1r:FuncData:=fY "_law_due" "_law_due" (top 67) 459
theorem z6q (P:M0):Fun (KX P) "_law_due" "_law_due" y2q 460 y1r:=z0b
theorem zgz (P:M0):Binds (KX P) y1r ["tale","hand","number"] []:=(z6q P).binds λ _ _ _ _ _ _=>us3 λ _ _ _=>rfl
theorem sc__law_due:FnScope ["tale","hand","number","met","other","good","answer","numbers"] ["tale","hand","number"] (z05 y2q):=.k
noncomputable abbrev y2m:Stmt:=top 68
noncomputable abbrev y1g:FuncData:=fY "_law_told" "_law_told" (top 68) 464
theorem z5o (P:M0):Fun (KX P) "_law_told" "_law_told" y2m 465 y1g:=z0b
theorem zer (P:M0):Binds (KX P) y1g ["tale","hand","due"] []:=(z5o P).binds λ _ _ _ _ _ _=>us3 λ _ _ _=>rfl
theorem sc__law_told:FnScope ["tale","hand","due","told"] ["tale","hand","due"] (z05 y2m):=.k
noncomputable abbrev y30:Stmt:=top 69
noncomputable abbrev fd_law:FuncData:=fY "law" "law" (top 69) 471
theorem F_law (P:M0):Fun (KX P) "law" "law" y30 472 fd_law:=z0b
theorem sc_law:FnScope ["script","tale","some","number","due"] ["script"] (z05 y30):=.k
noncomputable abbrev y0c:Stmt:=subS (top 37) 0
noncomputable abbrev y02:FuncData:=fnX "__init__" "Candidate.__init__" (subS (top 37) 0) "talejudge.places" 550 242
theorem z1r (P:M0):Fun (KX P) "__init__" "Candidate.__init__" y0c 243 y02:=z0b
theorem z4l (P:M0):Binds (KX P) y02 ["self","number","deed","thing","kind","pairs"] []:=(z1r P).binds λ _ _ _ _ _ _=>us6 λ _ _ _ _ _ _=>rfl
theorem z3t:FnScope ["self","number","deed","thing","kind","pairs"] ["self","number","deed","thing","kind","pairs"] (z05 y0c):=.k
theorem zc5 (P:M0):Mk (KX P) 253 243:=⟨by kernel_rfl,by kernel_rfl,by kernel_rfl,by kernel_rfl⟩
theorem z0a (P:M0):Cls (KX P) 253:=⟨by kernel_rfl,by kernel_rfl,by kernel_rfl,by kernel_rfl⟩
theorem z0r (P:M0):NoAttr (KX P) 253 "number":=by unfold NoAttr;kernel_rfl
theorem z2a (P:M0):NoAttr (KX P) 253 "thing":=by unfold NoAttr;kernel_rfl
theorem z2q (P:M0):NoAttr (KX P) 253 "kind":=by unfold NoAttr;kernel_rfl
theorem z2t (P:M0):NoAttr (KX P) 253 "verb":=by unfold NoAttr;kernel_rfl
theorem z29 (P:M0):NoAttr (KX P) 253 "worth":=by unfold NoAttr;kernel_rfl
theorem z12 (P:M0):NoAttr (KX P) 253 "answer":=by unfold NoAttr;kernel_rfl
theorem z1z (P:M0):NoAttr (KX P) 253 "aheads":=by unfold NoAttr;kernel_rfl
theorem z1o (P:M0):NoAttr (KX P) 253 "behinds":=by unfold NoAttr;kernel_rfl
noncomputable abbrev y08:Stmt:=subS (top 37) 1
noncomputable abbrev y01:FuncData:=fnX "may_stand" "Candidate.may_stand" (subS (top 37) 1) "talejudge.places" 550 249
theorem z1k (P:M0):Fun (KX P) "may_stand" "Candidate.may_stand" y08 250 y01:=z0b
theorem z3u (P:M0):Binds (KX P) y01 ["self","done"] []:=(z1k P).binds λ _ _ _ _ _ _=>us2 λ _ _=>rfl
theorem sc_Candidate_may_stand:FnScope ["self","done","ahead","behind"] ["self","done"] (z05 y08):=.k
theorem z39 (P:M0):Meth (KX P) 253 "may_stand" 250:=⟨by kernel_rfl,by kernel_rfl,by kernel_rfl⟩
noncomputable abbrev y16:Stmt:=subS (top 38) 0
noncomputable abbrev y03:FuncData:=fnX "__init__" "Board.__init__" (subS (top 38) 0) "talejudge.places" 550 268
theorem z3j (P:M0):Fun (KX P) "__init__" "Board.__init__" y16 269 y03:=z0b
theorem z3a (P:M0):Binds (KX P) y03 ["self","tale","strictness"] []:=(z3j P).binds λ _ _ _ _ _ _=>us3 λ _ _ _=>rfl
theorem sc_Board___init__:FnScope ["self","tale","strictness","pairs","told","names","number","deed","thing"] ["self","tale","strictness"] (z05 y16):=.k
theorem zfp (P:M0):Mk (KX P) 293 269:=⟨by kernel_rfl,by kernel_rfl,by kernel_rfl,by kernel_rfl⟩
theorem z1i (P:M0):Cls (KX P) 293:=⟨by kernel_rfl,by kernel_rfl,by kernel_rfl,by kernel_rfl⟩
theorem z50 (P:M0):NoAttr (KX P) 293 "kinds":=by unfold NoAttr;kernel_rfl
theorem z4n (P:M0):NoAttr (KX P) 293 "first":=by unfold NoAttr;kernel_rfl
theorem z58 (P:M0):NoAttr (KX P) 293 "ended":=by unfold NoAttr;kernel_rfl
theorem z0z (P:M0):NoAttr (KX P) 293 "candidates":=by unfold NoAttr;kernel_rfl
noncomputable abbrev y0m:Stmt:=subS (top 38) 1
noncomputable abbrev y00:FuncData:=fnX "steps_from" "Board.steps_from" (subS (top 38) 1) "talejudge.places" 550 275
theorem z28 (P:M0):Fun (KX P) "steps_from" "Board.steps_from" y0m 276 y00:=z0b
theorem z2c (P:M0):Binds (KX P) y00 ["self","place"] []:=(z28 P).binds λ _ _ _ _ _ _=>us2 λ _ _=>rfl
theorem sc_Board_steps_from:FnScope ["self","place","steps","candidate","step"] ["self","place"] (z05 y0m):=.k
theorem z1v (P:M0):Meth (KX P) 293 "steps_from" 276:=⟨by kernel_rfl,by kernel_rfl,by kernel_rfl⟩
noncomputable abbrev y1h:Stmt:=subS (top 38) 2
noncomputable abbrev y05:FuncData:=fnX "ends_at" "Board.ends_at" (subS (top 38) 2) "talejudge.places" 550 282
theorem z3y (P:M0):Fun (KX P) "ends_at" "Board.ends_at" y1h 283 y05:=z0b
theorem z7m (P:M0):Binds (KX P) y05 ["self","place"] []:=(z3y P).binds λ _ _ _ _ _ _=>us2 λ _ _=>rfl
theorem z6i:FnScope ["self","place"] ["self","place"] (z05 y1h):=.k
theorem z6o (P:M0):Meth (KX P) 293 "ends_at" 283:=⟨by kernel_rfl,by kernel_rfl,by kernel_rfl⟩
section
variable {P:Program} {w:R0} {mg:Str->Option Value} {base:Heap}
def z3r:Sp:=λ vs H Q _=>∃x T,vs=[x]/\TagOf H x T/\Q (.bl (decide (T = "int"))) H
theorem zel (T:TX (kx w) mg):Fo P w mg base CX0 1 28 y1o ["value"] z3r:=by
 refine (z75 w.params).ok ze8 (λ b H Q E h=>?_) (λ d A e s H b Q E c h=>?_)
 ·obtain ⟨x,t,rfl,_⟩:=h;rfl
 ·obtain ⟨x,t,rfl,a,q⟩:=h;refine ⟨_,(z04 (ps_ret (pe_and (z09 z0o rfl (T.no (z0l _)) i3 (z00 (pv 0) (z00 (z37 (v:=.ty "int") rfl (T.no (n_int _)) boot_int rfl) pa_nil))) (pe_one (pe_not (z09 z0o rfl (T.no (z0l _)) i3 (z00 (pv 0) (z00 (z37 (v:=.ty "bool") rfl (T.no (n_bool _)) boot_bool rfl) pa_nil)))))))),?_⟩;refine ⟨_,rfl,_,_,_,rfl,a,by decide,_,rfl,?_⟩;by_cases h1:instB t "int" = true
  ·rw [if_pos h1];refine ⟨_,rfl,_,_,_,rfl,a,by decide,_,rfl,?_⟩;rw [z97 a (by decide)];have:(!decide (t = "bool"))=decide (t = "int"):=by rcases a.one with rfl|rfl|rfl|rfl|rfl|rfl|rfl<;>revert h1<;>decide
   rw [this];exact q
  ·rw [if_neg h1];have:decide (t = "int")=false:=by rcases a.one with rfl|rfl|rfl|rfl|rfl|rfl|rfl<;>revert h1<;>decide
   rw [this] at q;exact q
def z6p:Sp:=λ vs H Q _=>∃x T g,vs=[x,.int g]/\TagOf H x T/\Q (.bl (z11 x g)) H
theorem zcp (T:TX (kx w) mg) (c0:Ca P w mg base "is_whole" ["value"] 1 z3r):Fo P w mg base CX0 2 35 y17 ["value","greatest"] z6p:=by
 refine (z5j w.params).ok zcu (λ c H Q E h=>?_) (λ d A e s H c Q E b h=>?_)
 ·obtain ⟨x,t,g,rfl,_⟩:=h;rfl
 ·obtain ⟨x,t,g,rfl,a,q⟩:=h;refine ⟨_,(z04 (ps_ret (pe_and (pe_cal c0 (b.mono (by decide)) rfl (z00 (pv 0) pa_nil)) (pe_one (zlg op_le op_le (pe_un un_neg (pv 1)) (pv 0) (pv 1)))))),?_⟩;refine ⟨_,rfl,x,t,rfl,a,_,rfl,?_⟩;by_cases h1:t = "int"
  ·subst h1;obtain ⟨i,rfl⟩:=a.int;refine iteT ?_;refine ⟨_,rfl,_,rfl,_,rfl,_,_,rfl,rfl,_,rfl,?_⟩;unfold z11 at q;dsimp only at q;by_cases h2:-g<=i
   ·rw [decide_eq_true h2] at q⊢;refine iteT ⟨_,rfl,_,_,rfl,rfl,?_⟩;rw [E9] at q;exact q
   ·rw [decide_eq_false h2] at q⊢;refine iteF ?_;rw [i7] at q;exact q
  ·rw [decide_eq_false h1];refine iteF ?_;rw [noInt a h1] at q;exact q
def z84:Sp:=λ vs H Q _=>∃x T,vs=[x]/\TagOf H x T/\Q (.bl (z11 x 1000000000)) H
theorem zej (T:TX (kx w) mg) (c0:Ca P w mg base "is_within" ["value","greatest"] 2 z6p):Fo P w mg base CX0 3 42 y1p ["value"] z84:=by
 refine (z6z w.params).ok zeh (λ c H Q E h=>?_) (λ d A e s H c Q E b h=>?_)
 ·obtain ⟨x,t,rfl,_⟩:=h;rfl
 ·obtain ⟨x,t,rfl,a,q⟩:=h;refine ⟨_,(z04 (ps_ret (pe_cal c0 (b.mono (by decide)) rfl (z00 (pv 0) (z00 (z6t (v:=.int (1000000000)) rfl (T.of (z6w _)) ⟨_,rfl⟩) pa_nil))))),?_⟩;exact ⟨_,rfl,x,t,1000000000,rfl,a,q⟩
def z4v:Sp:=λ vs H Q _=>∃x T m,vs=[x,.int m]/\TagOf H x T/\Q (.bl (match tupOf H x with|some xs=>decide ((xs.length:Int)=m)|none=>false)) H
theorem z90 (T:TX (kx w) mg):Fo P w mg base CX0 1 49 y0n ["value","many"] z4v:=by
 refine (z38 w.params).ok z8o (λ f H Q E h=>?_) (λ j A k s H f Q E l h=>?_)
 ·obtain ⟨x,t,g,rfl,_⟩:=h;rfl
 ·obtain ⟨x,t,g,rfl,b,q⟩:=h;refine ⟨_,(z04 (ps_ret (pe_and (z09 z0o rfl (T.no (z0l _)) i3 (z00 (pv 0) (z00 (z37 (v:=.ty "tuple") rfl (T.no (z2u _)) E4 rfl) pa_nil))) (pe_one (z18 opEq (z09 z1h rfl (T.no (n_len _)) X3 (z00 (pv 0) pa_nil)) (pv 1) (nomark _)))))),?_⟩;refine ⟨_,rfl,_,_,_,rfl,b,by decide,_,rfl,?_⟩;rw [z97 b (by decide)];by_cases h1:t = "tuple"
  ·subst h1;obtain ⟨a,c,rfl,d⟩:=b.tuple;refine iteT ⟨_,rfl,.inl ⟨a,c,rfl,.inr (SqT.of d),_,rfl,rfl,?_⟩⟩;have e:tupOf H (.ref a)=some c:=by unfold tupOf;dsimp only;rw [d]
   rw [e] at q;have i:decide (V.int (c.length:Int)=V.int g)=decide ((c.length:Int)=g):=by simp
   rw [i];exact q
  ·rw [decide_eq_false h1];refine iteF ?_;rw [noTup b h1] at q;exact q
def kindB (x:V):Bool:=match x with
 | .str z=>(kl_FIRST_STATES.lookup z).isSome
 | _=>false
def z72:Sp:=λ vs H Q _=>∃x T,vs=[x]/\TagOf H x T/\Q (.bl (kindB x)) H
theorem zfa (T:TX (kx w) mg):Fo P w mg base CX0 1 183 y1y ["kind"] z72:=by
 refine (z8m w.params).ok zf3 (λ b H Q E h=>?_) (λ d A e s H b Q E c h=>?_)
 ·obtain ⟨x,t,rfl,_⟩:=h;rfl
 ·obtain ⟨x,t,rfl,a,q⟩:=h;refine ⟨_,(z04 (ps_ret (pe_and (z09 z0o rfl (T.no (z0l _)) i3 (z00 (pv 0) (z00 (z37 (v:=.ty "str") rfl (T.no (n_str _)) j40 rfl) pa_nil))) (pe_one (z18 (zlo (z40 _)) (pv 0) (z6t (v:=.ref 99) rfl (T.of (z4o _)) rfl) (by with_unfolding_all rfl)))))),?_⟩;refine ⟨_,rfl,_,_,_,rfl,a,by decide,_,rfl,?_⟩;rw [z97 a (by decide)];by_cases h1:t = "str"
  ·subst h1;obtain ⟨z,rfl⟩:=a.str;exact iteT ⟨_,rfl,z,rfl,rfl,q⟩
  ·rw [decide_eq_false h1];refine iteF ?_;cases x with
   | str z=>exact absurd a h1
   | _=>exact q
noncomputable def formOf (k v:Str):Int:=match kl_DOERS.lookup (k,v) with
 | none=>-1
 | some _=>(match kl_WORTHS_OF_VERBS.lookup v with|some (.int i)=>i|_=>-1)
noncomputable def deedB (H:Hp) (k v x:V):Bool:=match k,v with
 | .str a,.str b=>if formOf a b=0 then decide (x=.non) else if formOf a b=1 then z11 x 1000000000 else if formOf a b=2 then
   (match tupOf H x with|some xs=>decide (xs.length=2) && xs.all λ y=>z11 y 1000000000|none=>false) else false
 | _,_=>false
theorem za2 {a b:Str} {v:V} (h:kl_DOERS.lookup (a,b)=some v):(kl_FIRST_STATES.lookup a).isSome=true/\∃i,kl_WORTHS_OF_VERBS.lookup b=some (.int i)/\(i=0\/i=1\/i=2):=by
 have m:=zbx h;have all :∀p∈kl_DOERS,(kl_FIRST_STATES.lookup p.1.1).isSome=true/\(kl_WORTHS_OF_VERBS.lookup p.1.2=some (.int 0)\/kl_WORTHS_OF_VERBS.lookup p.1.2=some (.int 1)\/kl_WORTHS_OF_VERBS.lookup p.1.2=some (.int 2)):=by decide +kernel
 obtain ⟨d,c⟩:=all _ m;refine ⟨d,?_⟩;rcases c with c|c|c
 ·exact ⟨0,c,.inl rfl⟩
 ·exact ⟨1,c,.inr (.inl rfl)⟩
 ·exact ⟨2,c,.inr (.inr rfl)⟩
def zab:Sp:=λ vs H Q _=>∃k v x Tk Tv Tx,vs=[k,v,x]/\TagOf H k Tk/\TagOf H v Tv/\TagOf H x Tx/\Flat H x/\∀H',Same H H'->Q (.bl (deedB H k v x)) H'
theorem zgr (T:TX (kx w) mg) (c0:Ca P w mg base "is_kind" ["kind"] 1 z72) (c1:Ca P w mg base "is_worth" ["value"] 3 z84) (c2:Ca P w mg base "is_tuple_of" ["value","many"] 1 z4v):Fo P w mg base CX0 4 195 y1z ["kind","verb","worth"] zab:=by
 refine (z8l w.params).ok sc_is_deed (λ vs H Q E h=>?_) (λ a1 A a2 s H vs Q E n h=>?_)
 ·obtain ⟨k,v,x,M,S,D,rfl,_⟩:=h;rfl
 ·obtain ⟨k,v,x,M,S,D,rfl,hk,o,C,hf,q⟩:=h;refine ⟨_,(z02 (ps_if (PW.pt (pw_or (pt_not (pt_val (pe_cal c0 (n.mono (by decide)) rfl (z00 (pv 0) pa_nil)) (λ _=>rfl))) (pw_or (pt_not (pt_val (z09 z0o rfl (T.no (z0l _)) i3 (z00 (pv 1) (z00 (z37 (v:=.ty "str") rfl (T.no (n_str _)) j40 rfl) pa_nil))) (λ _=>rfl))) (pw_or1 (z08 (zc3 (hu_of n) (zhh _)) (pe_tup (z00 (pv 0) (z00 (pv 1) pa_nil))) (z6t (v:=.ref 164) rfl (T.of (zkt _)) rfl) (by with_unfolding_all rfl))))))
   (z04 (ps_ret pe_bl))
   z0e)
   (z02 (ps_set (i:=3) sc_is_deed.nd rfl (U0 rfl) (pe_ix (ix_kd (z5m _)) (z6t (v:=.ref 102) rfl (T.of (z66 _)) rfl) (pv 1) (λ _ _=>rfl)))
   (z02 (ps_if (z08 opEq (pv 3) pe_int (nomark _))
   (z04 (ps_ret (z18 op_isN (pv 2) pe_non (nomark _))))
   z0e)
   (z02 (ps_if (z08 opEq (pv 3) pe_int (nomark _))
   (z04 (ps_ret (pe_cal c1 (n.mono (by decide)) rfl (z00 (pv 2) pa_nil))))
   z0e)
   (z04 (ps_ret (pe_and (pe_cal c2 (n.mono (by decide)) rfl (z00 (pv 2) (z00 (pv 3) pa_nil))) (pe_one (z09 (zdt rfl) rfl (T.no (n_all _)) boot_all (z00 (pe_cg (xs:=["part"]) (g:=gName 0) (fr:=[]) (pi_tup (pv 2)) (λ _ _ _ _ _=>(pg_cn (N:=["part"]) 0)) (λ _ _ _ _ _=>pf_nil) (λ _ _ _ _ _=>(pe_cal c1 (n.mono (by decide)) rfl (z00 (pv 0) pa_nil)))) pa_nil)))))))))),?_⟩
  refine ⟨_,rfl,k,M,rfl,hk,_,rfl,?_⟩;have I:deedB H k v x=false->Q (.bl false) H:=λ e=>by have:=q H (Same.refl H);rw [e] at this;exact this
  by_cases j :∃a,k=.str a/\(kl_FIRST_STATES.lookup a).isSome=true
  ·obtain ⟨a,rfl,j⟩:=j;have a0:kindB (.str a)=true:=j;rw [a0];refine iteF ?_;refine ⟨_,rfl,_,_,_,rfl,o,by decide,_,rfl,?_⟩;rw [z97 o (by decide)];by_cases r:S = "str"
   ·subst r;obtain ⟨b,rfl⟩:=o.str;refine iteF ?_;refine ⟨_,rfl,_,rfl,?_⟩;refine ⟨w_2,λ p U=>⟨p,a,b,rfl,upd_same,rfl,_,rfl,?_⟩⟩;have d:Same H (upd H p (.tup [.str a,.str b])):=Same.upd U;cases h3:kl_DOERS.lookup (a,b) with
    | none=>
     refine iteT ?_;have:=q _ d;have e:deedB H (.str a) (.str b) x=false:=by unfold deedB formOf;dsimp only;rw [h3];rfl
     rw [e] at this;exact this
    | some z=>
     refine iteF ?_;obtain ⟨_,i,J,h5⟩:=za2 h3;have u:formOf a b=i:=by unfold formOf;rw [h3];dsimp only;rw [J]
     refine ⟨_,rfl,b,.int i,rfl,rfl,J,?_⟩;refine ⟨_,rfl,rfl,_,rfl,?_⟩;rcases h5 with rfl|rfl|rfl
     ·refine iteT ⟨_,rfl,rfl,?_⟩;have:=q _ d;have e:deedB H (.str a) (.str b) x=decide (x=.non):=by unfold deedB;dsimp only;rw [u];rfl
      rw [e] at this;exact this
     ·refine iteF ⟨_,rfl,rfl,_,rfl,?_⟩;refine iteT ⟨_,rfl,x,D,rfl,C.same d,?_⟩;have:=q _ d;have e:deedB H (.str a) (.str b) x=z11 x 1000000000:=by unfold deedB;dsimp only;rw [u];rfl
      rw [e] at this;exact this
     ·refine iteF ⟨_,rfl,rfl,_,rfl,?_⟩;refine iteF ⟨_,rfl,_,rfl,x,D,2,rfl,C.same d,_,rfl,?_⟩;rw [zfz C d];have e:deedB H (.str a) (.str b) x=(match tupOf H x with|some xs=>decide (xs.length=2) && xs.all λ y=>z11 y 1000000000|none=>false):=by unfold deedB;dsimp only;rw [u];rfl
      rw [e] at q;cases ht:tupOf H x with
      | none=>rw [ht] at q;exact iteF (q _ d)
      | some xs=>
       rw [ht] at q;dsimp only at q⊢;by_cases m:xs.length=2
       ·have t:((xs.length:Nat):Int)=2:=by omega
        rw [if_pos (decide_eq_true t)];rw [decide_eq_true m,E9] at q;obtain ⟨c,rfl,hc⟩:=zgn ht;have W:xs.length<=sizeLine:=by rw [m];decide
        refine e_cb1 ?_;refine z3s (K:=KX w.params) (a:=c) (xs:=xs) (H1:=upd H p (.tup [.str a,.str b])) (λ _=>true) (λ i y _=>y=.bl (z11 (xs[i]?.getD .non) 1000000000)) (λ _ _ _ _ _ z=>z) (λ R h=>⟨_,rfl,h⟩) (SqT.of (d _ _ hc)) W ?_ ?_
        ·intro i L B H' F O KT KF Y k2;obtain ⟨X,ty⟩:=(hf xs ht).2 B (G0 O);refine ⟨[some B],rfl,rfl,iteT ?_⟩;exact ⟨_,rfl,B,X,rfl,(ty.same d).same F,Y rfl _ _ (Same.refl _) (by rw [O];rfl)⟩
        ·intro l H' ys F m G;rw [List.filter_eq_self.mpr (λ _ _=>rfl)] at G;have Z:ys=xs.map λ y=>V.bl (z11 y 1000000000):=by
          rw [z5r (f:=λ i=>V.bl (z11 (xs[i]?.getD .non) 1000000000)) G];apply A6
          ·simp
          ·intro i j r;have L:i < xs.length:=by simpa using j
           simp [B0 L]
         subst Z;refine ⟨l,_,rfl,SqL.of upd_same,λ y hy=>?_,?_⟩
         ·obtain ⟨z,_,rfl⟩:=List.mem_map.mp hy;exact ⟨_,rfl⟩
         ·have e9:((xs.map λ y=>V.bl (z11 y 1000000000)).all λ y=>decide (y=V.bl true))=xs.all λ y=>z11 y 1000000000:=by rw [List.all_map];congr 1;funext y;simp
          rw [e9];exact q _ ((d.trans F).trans (Same.upd m))
       ·have t:¬ ((xs.length:Nat):Int)=2:=by omega
        rw [if_neg (by rw [decide_eq_false t];exact N0)];rw [decide_eq_false m,i7] at q;exact q _ d
   ·rw [decide_eq_false r];refine iteT ?_;exact I (by unfold deedB;cases v with|str z=>exact absurd o r|_=>rfl)
  ·have e1:kindB k=false:=by
    cases k with
    | str z=>exact Bool.eq_false_iff.mpr λ e=>j ⟨z,rfl,e⟩
    | _=>rfl
   rw [e1];refine iteT ?_;refine I ?_;cases k with
   | str a=>
    cases v with
    | str b=>
     unfold deedB formOf;dsimp only;cases h3:kl_DOERS.lookup (a,b) with
     | none=>rfl
     | some z=>exact absurd ⟨a,rfl,(za2 h3).1⟩ j
    | _=>rfl
   | _=>rfl
theorem deedB0 {H:Hp} {a b:Str} {x:V} (h:formOf a b=0):deedB H (.str a) (.str b) x=decide (x=.non):=by unfold deedB;dsimp only;rw [h];rfl
theorem deedB1 {H:Hp} {a b:Str} {x:V} (h:formOf a b=1):deedB H (.str a) (.str b) x=z11 x 1000000000:=by unfold deedB;dsimp only;rw [h];rfl
theorem deedB2 {H:Hp} {a b:Str} {x:V} {xs:List V} (h:formOf a b=2) (e:tupOf H x=some xs):deedB H (.str a) (.str b) x=(decide (xs.length=2) && xs.all λ y=>z11 y 1000000000):=by unfold deedB;dsimp only;rw [h,e];rfl
def z3h:Sp:=λ vs H Q _=>∃st x,vs=[st,x]/\∀p,H p=none->Q (.ref p) (upd H p (.tup [st,st]))
theorem zba (T:TX (kx w) mg):Fo P w mg base CX0 1 109 y0t ["state","worth"] z3h:=by
 refine (z4k w.params).ok zbc (λ b H Q E h=>?_) (λ e A d s H b Q E c h=>?_)
 ·obtain ⟨a,x,rfl,_⟩:=h;rfl
 ·obtain ⟨a,x,rfl,q⟩:=h;refine ⟨_,(z04 (ps_ret (pe_tup (z00 (pv 0) (z00 (pv 0) pa_nil))))),?_⟩;exact ⟨_,rfl,_,rfl,w_2,q⟩
def z2j:Sp:=λ vs H Q _=>∃st x,vs=[st,x]/\∀p,H p=none->Q (.ref p) (upd H p (.tup [x,.str "ok"]))
theorem z8x (T:TX (kx w) mg):Fo P w mg base CX0 1 116 y0o ["state","worth"] z2j:=by
 refine (z31 w.params).ok z8j (λ b H Q E h=>?_) (λ e A d s H b Q E c h=>?_)
 ·obtain ⟨a,x,rfl,_⟩:=h;rfl
 ·obtain ⟨a,x,rfl,q⟩:=h;refine ⟨_,(z04 (ps_ret (pe_tup (z00 (pv 1) (z00 pe_str pa_nil))))),?_⟩;exact ⟨_,rfl,w_2,q⟩
def z1q:Sp:=λ vs H Q _=>∃i j:Int,vs=[.int i,.int j]/\∀p,H p=none->Q (.ref p) (upd H p (.tup [.int (i + j),.int i]))
theorem z6x (T:TX (kx w) mg):Fo P w mg base CX0 1 123 y09 ["state","worth"] z1q:=by
 refine (z26 w.params).ok z70 (λ a H Q E h=>?_) (λ e A d s H a Q E c h=>?_)
 ·obtain ⟨b,x,rfl,_⟩:=h;rfl
 ·obtain ⟨i,j,rfl,q⟩:=h;refine ⟨_,(z04 (ps_ret (pe_tup (z00 (pe_op opAdd (pv 0) (pv 1)) (z00 (pv 0) pa_nil))))),?_⟩;exact ⟨_,rfl,_,rfl,.inl ⟨_,_,rfl,rfl,_,rfl,w_2,q⟩⟩
def z2v (K:b0):Sp:=λ vs H Q _=>∃(i a b:Int) (t:Addr),vs=[.int i,.ref t]/\SqT K H t [.int a,.int b]/\∀p,H p=none->Q (.ref p) (upd H p (.tup (if i=a then [.int b,.int 1] else [.int i,.int 0])))
theorem zaz (T:TX (kx w) mg):Fo P w mg base CX0 1 163 y0x ["state","worth"] (z2v (kx w)):=by
 refine (z45 w.params).ok zan (λ d H Q E h=>?_) (λ g A j s H d Q E f h=>?_)
 ·obtain ⟨i,a,b,t,rfl,_⟩:=h;rfl
 ·obtain ⟨i,a,b,t,rfl,c,q⟩:=h;refine ⟨_,(z02 (ps_if (z08 opEq (pv 0) (pJ 1) (nomark _))
   (z04 (ps_ret (pe_tup (z00 (pJ 1) (z00 pe_int pa_nil)))))
   z0e)
   (z04 (ps_ret (pe_tup (z00 (pv 0) (z00 pe_int pa_nil)))))),?_⟩
  refine ⟨_,rfl,_,rfl,.inr (.inl ⟨t,_,0,.int a,rfl,rfl,c,rfl,rfl,_,rfl,?_⟩)⟩;by_cases e:i=a
  ·subst e;rw [decide_eq_true rfl];simp only [if_true] at q;exact iteT ⟨_,rfl,.inr (.inl ⟨t,_,1,.int b,rfl,rfl,c,rfl,w_2,q⟩)⟩
  ·rw [decide_eq_false (λ z=>e (by cases z;rfl))];simp only [if_neg e] at q;exact iteF ⟨_,rfl,w_2,q⟩
def z30 (K:b0):Sp:=λ vs H Q _=>∃(t:Addr) (ns:List V) (x:V),vs=[.ref t,x]/\SqT K H t ns/\ns.length < 1000/\∀p p' H',Same H H'->H' p=some (.tup [.ref p',.str "ok"])->SqT K H' p' (ns++[x])->Q (.ref p) H'
theorem zb6 (T:TX (kx w) mg):Fo P w mg base CX0 1 130 y0u ["state","worth"] (z30 (kx w)):=by
 refine (z43 w.params).ok zau (λ e H Q E h=>?_) (λ p A r s H e Q E u h=>?_)
 ·obtain ⟨t,b,x,rfl,_⟩:=h;rfl
 ·obtain ⟨t,b,x,rfl,g,l,q⟩:=h;refine ⟨_,(z04 (ps_ret (pe_tup (z00 (pe_op op_catS (pv 0) (pe_tup (z00 (pv 1) pa_nil))) (z00 pe_str pa_nil))))),?_⟩;refine ⟨_,rfl,_,rfl,w_1,λ k m=>?_⟩;have c:=Same.upd (o:=.tup [x]) m;refine ⟨t,k,b,[x],rfl,rfl,c.seqT g,SqT.of upd_same,by simp,A0 (Nat.add_le_add_right (V2 l) _) (show 1000 + 1<=sizeLine by decide),λ j n d f=>?_⟩;refine ⟨w_2,λ i a=>?_⟩;exact q i j _ ((c.trans d).trans (Same.upd a)) upd_same ((Same.upd a).seqT f)
def z33 (K:b0):Sp:=λ vs H Q _=>∃(t:Addr) (ns:List V) (x:V),vs=[.ref t,x]/\SqT K H t ns/\
 (ns=[]->∀p H',Same H H'->H' p=some (.tup [.ref t,.str "none"])->Q (.ref p) H')/\(∀n r,ns=n :: r->∀p p' H',Same H H'->H' p=some (.tup [.ref p',n])->SqT K H' p' r->Q (.ref p) H')
theorem zar (T:TX (kx w) mg):Fo P w mg base CX0 1 137 y0v ["state","worth"] (z33 (kx w)):=by
 refine (z4f w.params).ok zb5 (λ g H Q E h=>?_) (λ u A v s H g Q E y h=>?_)
 ·obtain ⟨t,a,x,rfl,_⟩:=h;rfl
 ·obtain ⟨t,a,x,rfl,b,f,q⟩:=h;refine ⟨_,(z02 (ps_if (z08 opEq (z09 z1h rfl (T.no (n_len _)) X3 (z00 (pv 0) pa_nil)) pe_int (nomark _))
   (z04 (ps_ret (pe_tup (z00 (pv 0) (z00 pe_str pa_nil)))))
   z0e)
   (z04 (ps_ret (pe_tup (z00 (z2l slSeq (pv 0) (z2r pe_int) z4s) (z00 (pJ 0) pa_nil)))))),?_⟩
  refine ⟨_,rfl,.inl ⟨t,a,rfl,.inr b,rfl,_,rfl,?_⟩⟩;cases a with
  | nil=>exact iteT ⟨_,rfl,w_2,λ p e=>f rfl p _ (Same.upd e) upd_same⟩
  | cons n r=>
   rw [decide_eq_false (show ¬ V.int (((n :: r).length:Nat):Int)=V.int 0 from λ z=>by injection z with z;rw [P0] at z;omega)];refine iteF ⟨_,rfl,_,rfl,.inr (.inl ⟨t,_,rfl,b,?_,λ k m=>?_⟩)⟩
   ·intro z;have:HT.sIx (n :: r).length 0 (some 1)=1:=by rw [P0];simp [HT.sIx]
    omega
   ·have c:=Same.upd (o:=.tup (cutV (n :: r) (some 1) none)) m;have l:cutV (n :: r) (some 1) none=r:=by unfold cutV;simp [HT.sIx]
    refine ⟨_,rfl,.inr (.inl ⟨t,_,0,n,rfl,rfl,c.seqT b,z06 (j:=0) rfl,w_2,λ i d=>?_⟩)⟩;refine q n r rfl i k _ (c.trans (Same.upd d)) upd_same ((Same.upd d).seqT (SqT.of ?_));rw [upd_same,l]
theorem dec_i0 (i j:Int):decide (V.int i=V.int j)=decide (i=j):=by simp
theorem zdc {q:Int->Bool} :∀(ns:List Int) (ys:List V),All2 (λ (i:Nat) y=>ns[i]?.map V.int=some y) ((j1 ns.length).filter λ i=>(ns[i]?.map q).getD false) ys->ys=(ns.filter q).map V.int
 | [],ys,h=>by cases h;rfl
 | n :: ns,ys,h=>by
  have un :∀{is:List Nat} {ys:List V},All2 (λ (i:Nat) y=>(n :: ns)[i]?.map V.int=some y) (is.map Nat.succ) ys->All2 (λ (i:Nat) y=>ns[i]?.map V.int=some y) is ys:=λ {is}=>by
   induction is with
   | nil=>intro ys h;cases h;exact .nil
   | cons i is ih=>intro ys h;cases h with|cons a r=>exact .cons a (ih r)
  rw [P0,j3b,C4,j0i] at h;rw [C4];by_cases z:q n=true
  ·rw [if_pos (show (j0g q (n :: ns)[0]?).getD false=true from z)] at h;rw [if_pos z,X0];cases h with
   | cons a r=>rw [<-zdc ns _ (un r),<-P1 a]
  ·rw [if_neg (show ¬ (j0g q (n :: ns)[0]?).getD false=true from z)] at h;rw [if_neg z];exact zdc ns _ (un h)
def z20 (K:b0):Sp:=λ vs H Q _=>∃(t:Addr) (ns:List Int) (i:Int),vs=[.ref t,.int i]/\SqT K H t (ns.map V.int)/\ns.length < 63/\
 (i∈ns->∀p H',Same H H'->H' p=some (.tup [.ref t,.int 0])->Q (.ref p) H')/\(i∉ns->∀(p p':Addr) (ns':List Int) (H':Hp),Same H H'->H' p=some (.tup [.ref p',.int 1])->SqT K H' p' (ns'.map V.int)->ns'.Perm (ns++[i])->ns'.Pairwise (·<=·)->Q (.ref p) H')
theorem z7w (T:TX (kx w) mg):Fo P w mg base CX0 1 144 y0d ["state","worth"] (z20 (kx w)):=by
 refine (z2g w.params).ok z7r (λ v H Q E h=>?_) (λ I A J s H v Q E K h=>?_)
 ·obtain ⟨t,a,i,rfl,_⟩:=h;rfl
 ·obtain ⟨t,a,i,rfl,e,f,u,F⟩:=h;refine ⟨_,(z02 (ps_if (z08 z1x (pv 1) (pv 0) (by with_unfolding_all rfl))
   (z04 (ps_ret (pe_tup (z00 (pv 0) (z00 pe_int pa_nil)))))
   z0e)
   (z04 (ps_ret (pe_tup (z00 (z0t z0j rfl (T.no (z2u _)) E4 (z00 (z09 z19 rfl (T.no (z22 _)) Y4 (z00 (pe_op op_catS (pv 0) (pe_tup (z00 (pv 1) pa_nil))) pa_nil)) pa_nil)) (z00 pe_int pa_nil)))))),?_⟩
  refine ⟨_,rfl,_,rfl,t,_,rfl,.inr e,rfl,z3m a,_,rfl,?_⟩;rw [if_neg N0,z5h];by_cases hi:i∈a
  ·rw [decide_eq_true hi];exact iteT ⟨_,rfl,w_2,λ p j=>u hi p _ (Same.upd j) upd_same⟩
  ·rw [decide_eq_false hi];refine iteF ⟨_,rfl,_,rfl,w_1,λ B D=>?_⟩;have b:=Same.upd (o:=.tup [.int i]) D;refine ⟨t,B,a.map V.int,[.int i],rfl,rfl,b.seqT e,SqT.of upd_same,by simp,?_,λ x G r d=>?_⟩
   ·rw [o0];exact A0 (Nat.succ_le_of_lt (j2 f)) (by decide)
   rw [show a.map V.int++[V.int i]=(a++[i]).map V.int by rw [E1];rfl] at d;refine ⟨x,a++[i],rfl,.inr d,by rw [D0];exact Nat.succ_lt_succ f,λ l g m n C=>?_⟩;have k:=Same.upd (o:=.lst (g.map V.int)) m;refine ⟨l,_,rfl,.inl ⟨SqL.of upd_same,λ z y=>⟨w_2,λ q c=>?_⟩⟩⟩;exact F hi q z g _ ((((b.trans r).trans k).trans (Same.upd y)).trans (Same.upd c)) upd_same (SqT.of ((Same.upd c) _ _ upd_same)) n C
def z24 (K:b0):Sp:=λ vs H Q _=>∃(t:Addr) (ns:List Int) (i:Int),vs=[.ref t,.int i]/\SqT K H t (ns.map V.int)/\ns.length < 64/\
 (i∉ns->∀p H',Same H H'->H' p=some (.tup [.ref t,.int 0])->Q (.ref p) H')/\(i∈ns->∀p p' H',Same H H'->H' p=some (.tup [.ref p',.int 1])->SqT K H' p' ((ns.filter λ j=>!decide (j=i)).map V.int)->Q (.ref p) H')
theorem z7x (T:TX (kx w) mg):Fo P w mg base CX0 1 149 y0e ["state","worth"] (z24 (kx w)):=by
 refine (z2p w.params).ok z7j (λ F H Q E h=>?_) (λ X A Y s H F Q E Z h=>?_)
 ·obtain ⟨t,b,i,rfl,_⟩:=h;rfl
 ·obtain ⟨t,b,i,rfl,m,L,C,S⟩:=h;refine ⟨_,(z02 (ps_if (z08 z1b (pv 1) (pv 0) (by with_unfolding_all rfl))
   (z04 (ps_ret (pe_tup (z00 (pv 0) (z00 pe_int pa_nil)))))
   z0e)
   (z04 (ps_ret (pe_tup (z00 (z0t z0j rfl (T.no (z2u _)) E4 (z00 (pe_cg (xs:=["held"]) (g:=gName 0) (fr:=[(1,"worth")]) (pi_tup (pv 0)) (λ _ _ _ _ _=>(pg_cn (N:=["held","worth"]) 0)) (λ _ _ _ _ _=>(pf_one (z08 opNe (pv 0) (pv 1) (nomark _)))) (λ _ _ _ _ _=>(pv 0))) pa_nil)) (z00 pe_int pa_nil)))))),?_⟩
  refine ⟨_,rfl,_,rfl,t,_,rfl,.inr m,rfl,z3m b,_,rfl,?_⟩;rw [if_pos rfl,z5h];by_cases hi:i∈b
  ·rw [decide_eq_true hi];refine iteF ?_;have M:(b.map V.int).length<=sizeLine:=by rw [o0];exact A0 (V2 L) (by decide)
   refine t_next ?_;simp only [tRet,tTup,tCB,tCons,tNil];refine z3s (K:=KX w.params) (a:=t) (xs:=b.map V.int) (H1:=H) (λ j=>(b[j]?.map λ n=>!decide (n=i)).getD false) (λ j y _=>b[j]?.map V.int=some y) (λ _ _ _ _ _ z=>z) (λ R h=>⟨_,rfl,h⟩) m M (λ j U v G q f KT W e d=>?_) λ l G J q x c=>?_
   ·rw [O0] at f;obtain ⟨n,D,rfl⟩:=Option.map_eq_some_iff.mp f;rw [D] at e d;refine ⟨[some (.int n)],rfl,rfl,_,rfl,_,rfl,rfl,_,rfl,?_⟩;rw [dec_i0];exact ite2 (λ z=>⟨_,rfl,e z _ _ (Same.refl _) rfl⟩) λ z=>d (Bool.eq_false_iff.mpr z) _ (Same.refl _)
   ·rw [o0] at c;rw [zdc b J c];have u:=Same.upd (o:=.lst ((b.filter λ j=>!decide (j=i)).map V.int)) x;refine ⟨l,_,rfl,.inl ⟨SqL.of upd_same,λ O I=>⟨w_2,λ B k=>?_⟩⟩⟩;exact S hi B O _ (((q.trans u).trans (Same.upd I)).trans (Same.upd k)) upd_same (SqT.of ((Same.upd k) _ _ upd_same))
  ·rw [decide_eq_false hi];exact iteT ⟨_,rfl,w_2,λ p r=>C hi p _ (Same.upd r) upd_same⟩
def z3b (K:b0):Sp:=λ vs H Q _=>∃(t:Addr) (ns:List Int) (i:Int),vs=[.ref t,.int i]/\SqT K H t (ns.map V.int)/\∀p H',Same H H'->H' p=some (.tup [.ref t,.int (if i∈ns then 1 else 0)])->Q (.ref p) H'
theorem zaq (T:TX (kx w) mg):Fo P w mg base CX0 1 156 y0w ["state","worth"] (z3b (kx w)):=by
 refine (z4i w.params).ok zbb (λ d H Q E h=>?_) (λ f A g s H d Q E e h=>?_)
 ·obtain ⟨t,b,i,rfl,_⟩:=h;rfl
 ·obtain ⟨t,b,i,rfl,c,q⟩:=h;refine ⟨_,(z04 (ps_ret (pe_tup (z00 (pv 0) (z00 (zls (z08 z1x (pv 1) (pv 0) (by with_unfolding_all rfl)) pe_int pe_int) pa_nil))))),?_⟩;refine ⟨_,rfl,_,rfl,_,rfl,t,_,rfl,.inr c,rfl,z3m b,_,rfl,?_⟩;rw [if_neg N0,z5h];by_cases hi:i∈b
  ·rw [if_pos hi] at q;rw [decide_eq_true hi];exact iteT ⟨w_2,λ p a=>q p _ (Same.upd a) upd_same⟩
  ·rw [if_neg hi] at q;rw [decide_eq_false hi];exact iteF ⟨w_2,λ p a=>q p _ (Same.upd a) upd_same⟩
def doTb (K:b0) (f:Addr) (sp:Sp):Prop:=(f=109/\sp=z3h)\/(f=116/\sp=z2j)\/(f=123/\sp=z1q)\/(f=130/\sp=z30 K)\/(f=137/\sp=z33 K)\/(f=144/\sp=z20 K)\/(f=149/\sp=z24 K)\/(f=156/\sp=z3b K)\/(f=163/\sp=z2v K)
theorem cal_fn {x:Str} {ps:List Str} {k f:Nat} {sp:Sp} {K:b0} (c:Cal P w K mg base x ps k sp) (e:mg x=some (.ref f)) :∃fd ps,FnOk P w K mg base CX0 k f fd ps sp/\u3 K (.ref f)=true/\Binds K fd ps []:=by obtain ⟨h,fd,d,a,g,b⟩:=c.ex;rw [e] at a;cases a;exact ⟨fd,ps,d,g,b⟩
def sp_do (K:b0):Sp:=λ vs H Q _=>∃(k v:Str) (st x:V) (f:Addr) (sp:Sp) (Tx:String),vs=[.str k,st,.str v,x]/\TagOf H x Tx/\Flat H x/\deedB H (.str k) (.str v) x=true/\kl_DOERS.lookup (k,v)=some (.ref f)/\doTb K f sp/\∀H',Same H H'->sp [st,x] H' Q E0
theorem ok_do (T:TX (kx w) mg) (c0:Ca P w mg base "is_deed" ["kind","verb","worth"] 4 zab) (c1:Ca P w mg base "read_state" ["state","worth"] 1 z3h) (c2:Ca P w mg base "write_state" ["state","worth"] 1 z2j) (c3:Ca P w mg base "add_to_number" ["state","worth"] 1 z1q) (c4:Ca P w mg base "put_behind" ["state","worth"] 1 (z30 (kx w))) (c5:Ca P w mg base "take_first" ["state","worth"] 1 (z33 (kx w))) (c6:Ca P w mg base "put_into_set" ["state","worth"] 1 (z20 (kx w))) (c7:Ca P w mg base "cut_from_set" ["state","worth"] 1 (z24 (kx w))) (c8:Ca P w mg base "has_in_set" ["state","worth"] 1 (z3b (kx w))) (c9:Ca P w mg base "swap_state" ["state","worth"] 1 (z2v (kx w))):Fo P w mg base CX0 5 202 y2z ["kind","state","verb","worth"] (sp_do (kx w)):=by
 refine (F_do w.params).ok sc_do (λ t H Q E h=>?_) (λ y A I s H t Q E g h=>?_)
 ·obtain ⟨k,v,n,x,f,j,l,rfl,_⟩:=h;rfl
 ·obtain ⟨k,v,n,x,f,j,l,rfl,r,C,o,D,B,q⟩:=h;have G :∀f j,doTb (kx w) f j->∃k b a,Fo P w mg base CX0 k f b a j/\Room k (A.deeper (Y8 "do" (z05 y2y) s.heap.objs.size 202 y))/\u3 (kx w) (.ref f)=true/\Binds (kx w) b a []:=λ f j z=>by
   rcases z with ⟨rfl,rfl⟩|⟨rfl,rfl⟩|⟨rfl,rfl⟩|⟨rfl,rfl⟩|⟨rfl,rfl⟩|⟨rfl,rfl⟩|⟨rfl,rfl⟩|⟨rfl,rfl⟩|⟨rfl,rfl⟩
   ·obtain ⟨b,a,d,e,c⟩:=cal_fn c1 (T.of (z77 _));exact ⟨1,b,a,d,g.mono (by decide),e,c⟩
   ·obtain ⟨b,a,d,e,c⟩:=cal_fn c2 (T.of (z5w _));exact ⟨1,b,a,d,g.mono (by decide),e,c⟩
   ·obtain ⟨b,a,d,e,c⟩:=cal_fn c3 (T.of (z3w _));exact ⟨1,b,a,d,g.mono (by decide),e,c⟩
   ·obtain ⟨b,a,d,e,c⟩:=cal_fn c4 (T.of (z73 _));exact ⟨1,b,a,d,g.mono (by decide),e,c⟩
   ·obtain ⟨b,a,d,e,c⟩:=cal_fn c5 (T.of (z6g _));exact ⟨1,b,a,d,g.mono (by decide),e,c⟩
   ·obtain ⟨b,a,d,e,c⟩:=cal_fn c6 (T.of (z57 _));exact ⟨1,b,a,d,g.mono (by decide),e,c⟩
   ·obtain ⟨b,a,d,e,c⟩:=cal_fn c7 (T.of (z52 _));exact ⟨1,b,a,d,g.mono (by decide),e,c⟩
   ·obtain ⟨b,a,d,e,c⟩:=cal_fn c8 (T.of (z6a _));exact ⟨1,b,a,d,g.mono (by decide),e,c⟩
   ·obtain ⟨b,a,d,e,c⟩:=cal_fn c9 (T.of (z6k _));exact ⟨1,b,a,d,g.mono (by decide),e,c⟩
  refine ⟨_,(z02 (ps_if (pt_not (pt_val (pe_cal c0 (g.mono (by decide)) rfl (z00 (pv 0) (z00 (pv 2) (z00 (pv 3) pa_nil)))) (λ _=>rfl)))
   (z04 z92)
   z0e)
   (z02 (ps_set (i:=4) sc_do.nd rfl (U0 rfl) (pe_ix (ix_kdt (hu_of g) (zhh _)) (z6t (v:=.ref 164) rfl (T.of (zkt _)) rfl) (pe_tup (z00 (pv 0) (z00 (pv 2) pa_nil))) (λ _ _=>rfl)))
   (z04 (ps_ret (zm7 (doTb (kx w)) (i:=4) rfl (by first|exact U0 rfl|exact S0 (U0 rfl)) G (z00 (pv 1) (z00 (pv 3) pa_nil))))))),?_⟩
  refine ⟨_,rfl,_,rfl,_,rfl,.str k,.str v,x,"str","str",l,rfl,rfl,rfl,r,C,λ F u=>⟨_,rfl,?_⟩⟩;rw [o];refine iteF ?_;refine ⟨_,rfl,_,rfl,w_2,λ p m=>⟨p,k,v,.ref f,rfl,rfl,upd_same,D,?_⟩⟩;exact ⟨f,j,rfl,B,_,rfl,_,rfl,q _ (u.trans (Same.upd m))⟩
def z4x:Sp:=λ vs H Q _=>∃(k:Str) (v:V),vs=[.str k]/\kl_FIRST_STATES.lookup k=some v/\Q v H
theorem z9e (T:TX (kx w) mg) (c0:Ca P w mg base "is_kind" ["kind"] 1 z72):Fo P w mg base CX0 2 190 y0p ["kind"] z4x:=by
 refine (z3d w.params).ok z9h (λ c H Q E h=>?_) (λ d A f s H c Q E b h=>?_)
 ·obtain ⟨k,v,rfl,_⟩:=h;rfl
 ·obtain ⟨k,v,rfl,a,q⟩:=h;refine ⟨_,(z02 (ps_if (pt_not (pt_val (pe_cal c0 (b.mono (by decide)) rfl (z00 (pv 0) pa_nil)) (λ _=>rfl)))
   (z04 z92)
   z0e)
   (z04 (ps_ret (pe_ix (ix_kd (z40 _)) (z6t (v:=.ref 99) rfl (T.of (z4o _)) rfl) (pv 0) (λ _ _=>rfl))))),?_⟩
  refine ⟨_,rfl,.str k,"str",rfl,rfl,_,rfl,?_⟩;have e:kindB (.str k)=true:=by unfold kindB;dsimp only;rw [a];rfl
  rw [e];exact iteF ⟨_,rfl,k,v,rfl,rfl,a,q⟩
inductive Ev
 | beg (h:Int) (n v x:V)
 | fin (h:Int) (a:V)
def EvAt (K:b0) (H:Hp):Ev->V->Prop
 | .beg h n v x,y=>∃p,y=.ref p/\SqT K H p [.str "begin",.int h,n,v,x]
 | .fin h a,y=>∃p,y=.ref p/\SqT K H p [.str "end",.int h,a]
structure Rc where
 h:Int
 n:V
 v:V
 x:V
 a:V
 b:Nat
 e:Option Nat
def endV:Option Nat->V
 | none=>.non
 | some i=>.int i
def RcAt (K:b0) (H:Hp) (r:Rc) (y:V):Prop:=∃p,y=.ref p/\SqT K H p [.int r.h,r.n,r.v,r.x,r.a,.int r.b,endV r.e]
def Tups (K:b0) (H H':Hp):Prop:=∀a xs,SqT K H a xs->SqT K H' a xs
theorem Tups.of {K:b0} {H H':Hp} (s:Same H H'):Tups K H H':=λ _ _ q=>s.seqT q
theorem Tups.trans {K:b0} {H H1 H2:Hp} (a:Tups K H H1) (b:Tups K H1 H2):Tups K H H2:=λ _ _ q=>b _ _ (a _ _ q)
theorem Tups.lst {K:b0} {H:Hp} {l:Addr} {o:HO} {zs:List V} (e:H l=some (.lst zs)):Tups K H (upd H l o):=λ _ _ q=>q.wrote e
theorem Tups.dict {K:b0} {H:Hp} {l:Addr} {o:HO} {kvs:zK} (e:H l=some (.dK kvs)):Tups K H (upd H l o):=λ a b h=>by
 rcases h with (h|⟨ob,h⟩)|h
 ·exact .inl (.inl (by rw [upd_ne (ne_of h e (by intro z;cases z))];exact h))
 ·exact .inl (.inr ⟨ob,by rw [upd_ne (ne_of h e (by intro z;cases z))];exact h⟩)
 ·exact .inr h
theorem zm8 {n j:Nat} (h:j < n):ixN n (j:Nat)=some j:=by unfold ixN;rw [if_pos (by omega),if_pos (by omega)];rfl
theorem Same.keep {H H':Hp} {l:Addr} {o:HO} (s:Same H H') (n:H l=none):Same H (upd H' l o):=λ a x e=>by rw [upd_ne (z07 e n)];exact s a x e
theorem z1d {α β:Type} {R:α->β->Prop} {x:α} {y:β} :∀{xs:List α} {ys:List β},All2 R xs ys->R x y->All2 R (xs++[x]) (ys++[y])
 | _,_,.nil,h=>.cons h .nil
 | _,_,.cons a r,h=>.cons a (z1d r h)
theorem zgc {κ:Type} [DecidableEq κ] {kvs:List (κ×V)} {k:κ} {v:V}:(putK kvs k v).length<=kvs.length + 1:=by
 unfold putK;by_cases z:(kvs.any λ a=>decide (a.1=k))=true
 ·rw [if_pos z,o0];omega
 ·rw [if_neg z,D0];exact t0 _
def lastI (h:Int) (hs:List Int):Option Nat:=(hs.foldl (λ (acc:Nat×Option Nat) k=>(acc.1 + 1,if k=h then some acc.1 else acc.2)) (0,none)).2
theorem lastF (h:Int) :∀hs:List Int,(hs.foldl (λ (acc:Nat×Option Nat) k=>(acc.1 + 1,if k=h then some acc.1 else acc.2)) (0,none)).1=hs.length:=by
 have b :∀(hs:List Int) (a:Nat×Option Nat),(hs.foldl (λ (acc:Nat×Option Nat) k=>(acc.1 + 1,if k=h then some acc.1 else acc.2)) a).1=a.1 + hs.length:=by
  intro hs;induction hs with
  | nil=>intro a;rfl
  | cons k hs ih=>intro a;rw [List.foldl_cons,ih,P0];show a.1 + 1 + hs.length=_;omega
 intro hs;rw [b hs (0,none)];simp
theorem z4t (h k:Int) (hs:List Int):lastI h (hs++[k])=if k=h then some hs.length else lastI h hs:=by unfold lastI;rw [j01];show (if k=h then some _ else _)=_;rw [lastF]
theorem z8v {h:Int} {hs:List Int} {j:Nat} (e:lastI h hs=some j):j < hs.length:=by
 have c :∀(hs:List Int) (a:Nat×Option Nat),(∀j,a.2=some j->j < a.1)->∀j,(hs.foldl (λ (acc:Nat×Option Nat) k=>(acc.1 + 1,if k=h then some acc.1 else acc.2)) a).2=some j->j < a.1 + hs.length:=by
  intro hs;induction hs with
  | nil=>intro a b j e;exact b j e
  | cons k hs ih=>
   intro a b j e;rw [List.foldl_cons] at e;have:=ih (a.1 + 1,if k=h then some a.1 else a.2) (λ j e=>by
    dsimp only at e⊢;by_cases z:k=h
    ·rw [if_pos z] at e;cases e;omega
    ·rw [if_neg z] at e;have:=b j e;omega) j e
   rw [P0];dsimp only at this;omega
 have:=c hs (0,none) (λ j e=>by cases e) j e;simpa using this
noncomputable def dstep (i:Nat) (rs:List Rc):Ev->List Rc
 | .beg h n v x=>rs++[⟨h,n,v,x,.non,i,none⟩]
 | .fin h a=>match lastI h (rs.map Rc.h) with|some j=>rs.modify j (λ r=>{ r with a:=a,e:=some i })|none=>rs
noncomputable def dAll:Nat->List Rc->List Ev->List Rc
 | _,rs,[]=>rs
 | i,rs,e :: es=>dAll (i + 1) (dstep i rs e) es
noncomputable def dWf:Nat->List Rc->List Ev->Prop
 | _,_,[]=>True
 | i,rs,e :: es=>(∀h a,e=.fin h a->(lastI h (rs.map Rc.h)).isSome=true)/\dWf (i + 1) (dstep i rs e) es
theorem RcAt.tups {K:b0} {H H':Hp} {r:Rc} {y:V} (t:Tups K H H') (h:RcAt K H r y):RcAt K H' r y:=h.elim λ p z=>⟨p,z.1,t _ _ z.2⟩
theorem EvAt.tups {K:b0} {H H':Hp} (t:Tups K H H') :∀{e:Ev} {y:V},EvAt K H e y->EvAt K H' e y
 | .beg h n v x,_,z=>z.elim λ p z=>⟨p,z.1,t _ _ z.2⟩
 | .fin h a,_,z=>z.elim λ p z=>⟨p,z.1,t _ _ z.2⟩
theorem z82 {α β:Type} {R:α->β->Prop} {f:α->α} {y:β} :∀{xs:List α} {ys:List β} {j:Nat} {x:α},All2 R xs ys->xs[j]? = some x->R (f x) y->All2 R (xs.modify j f) (ys.set j y)
 | _,_,_,_,.nil,e,_=>by simp at e
 | _,_,0,x,.cons a r,e,h=>by rw [Z1] at e;cases e;exact .cons h r
 | _,_,j + 1,x,.cons a r,e,h=>by rw [S1] at e;exact .cons a (z82 r e h)
theorem z0u {α β:Type} {R:α->β->Prop} :∀{xs:List α} {ys:List β} {i:Nat} {x:α},All2 R xs ys->xs[i]? = some x->∃y,ys[i]? = some y/\R x y
 | _,_,i,x,.nil,e=>by simp at e
 | _,_,0,x,.cons a _,e=>by rw [Z1] at e;cases e;exact ⟨_,Z1,a⟩
 | _,_,i + 1,x,.cons _ r,e=>by rw [S1] at e;obtain ⟨y,c,b⟩:=z0u r e;exact ⟨y,by rw [S1];exact c,b⟩
def z95 (K:b0):Sp:=λ vs H Q _=>∃(t te:Addr) (th:V) (ys:List V) (es:List Ev),vs=[.ref t]/\SqT K H t [th,.ref te]/\SqT K H te ys/\All2 (EvAt K H) es ys/\es.length<=100/\dWf 0 [] es/\
 ∀l zs H',Same H H'->H l=none->H' l=some (.lst zs)->All2 (RcAt K H') (dAll 0 [] es) zs->Q (.ref l) H'
theorem zl8 (T:TX (kx w) mg):Fo P w mg base CX0 1 209 y2r ["tale"] (z95 (kx w)):=by
 refine (zhl w.params).ok sc_deeds (λ vs H Q E h=>?_) (λ c4 A c3 s H vs Q E hr h=>?_)
 ·obtain ⟨t,te,th,ys,C,rfl,_⟩:=h;rfl
 ·obtain ⟨t,te,th,ys,C,rfl,st,se,al,hl,wf,q⟩:=h;refine ⟨_,(z02 (ps_set (i:=1) sc_deeds.nd rfl (U0 rfl) (pe_lst pa_nil))
   (z02 (ps_set (i:=2) sc_deeds.nd rfl (U0 rfl) z5d)
   (z02 (ps_for K1 rfl (zl0 rfl (T.no (z1n _)) (z00 (pJ 0) pa_nil)) (pg_tup rfl (z0d (z0g (i:=3) sc_deeds.nd rfl (U0 rfl)) (z0d (z0g (i:=4) sc_deeds.nd rfl (U0 rfl)) z0x)))
   (z04 (ps_if (z08 opEq (pJ 4) pe_str (nomark _))
   (z02 (z6u (hu_of hr) (pv 2) (pJ 4) (z09 z1h rfl (T.no (n_len _)) X3 (z00 (pv 1) pa_nil)) rfl)
   (z04 (z2b (z14 (pv 1) (z00 (pe_op opAdd (z2l slSeq (pv 4) (z2r pe_int) z4s) (pe_tup (z00 pe_non (z00 (pv 3) (z00 pe_non pa_nil))))) pa_nil)))))
   (z02 (ps_set (i:=5) sc_deeds.nd rfl (U0 rfl) (z74 (hu_of hr) (pv 2) (pJ 4) (λ _ _=>rfl)))
   (z02 (ps_set (i:=6) sc_deeds.nd rfl (U0 rfl) (pe_ix ix_seq (pv 1) (pv 5) (λ _ _=>rfl)))
   (z04 (ps_asg (pe_op opAdd (z2l slSeq (pv 6) z4s (z2r pe_int)) (pe_tup (z00 (pJ 4) (z00 (pJ 6) (z00 (pv 3) pa_nil))))) (pg_sub (pv 1) (pv 5) z5t))))))))
   (z04 (ps_ret (pv 1)))))),?_⟩
  refine ⟨w_0,λ l a0=>?_⟩;intro d a2;have N:l≠d:=z07 upd_same a2;have s0:upd H l (.lst []) d=none->H d=none:=λ z=>by rwa [upd_ne N.symm] at z
  have Z:Same H (upd (upd H l (.lst [])) d (.dK [])):=(Same.upd a0).trans (Same.upd a2);have e1:upd (upd H l (.lst [])) d (.dK []) l=some (.lst []):=by rw [upd_ne N];exact upd_same
  have e2:upd (upd H l (.lst [])) d (.dK []) d=some (.dK []):=upd_same;generalize upd (upd H l (.lst [])) d (.dK [])=H2 at Z e1 e2⊢;have b6:=z03 al;refine ⟨_,rfl,.inr (.inl ⟨t,_,1,.ref te,rfl,rfl,Z.seqT st,z06 (j:=1) rfl,te,ys,rfl,Z.seqT se,?_⟩)⟩;refine zjb (K:=KX w.params) (a:=te) (xs:=ys) (λ i σ L=>∃c f g,L l=some (.lst f)/\All2 (RcAt (kx w) L) c f/\L d=some (.dK g)/\g.length<=i/\c.length<=i/\(∀h,valV g (.inl h)=(lastI h (c.map Rc.h)).map λ j=>V.int (j:Nat))/\dAll i c (C.drop i)=dAll 0 [] C/\dWf i c (C.drop i)/\Same H L/\∃x3 x4 x5 x6,σ=[some (.ref t),some (.ref l),some (.ref d),x3,x4,x5,x6])
   ⟨[],[],[],e1,.nil,e2,t0 _,t0 _,λ h=>rfl,by rw [V5],by rw [V5];exact wf,Z,_,_,_,_,rfl⟩ (λ i σ L h=>?_) ?_ ?_
  ·obtain ⟨c,f,g,_,_,_,_,_,_,_,_,s',_⟩:=h;exact s'.seqT se
  ·rintro i y σ H3 p hy ⟨c,f,g,el,ar,ed,hk,hr',hv,D,dw,s3,x3,x4,x5,x6,rfl⟩ hp;obtain ⟨e,he,ev⟩:=z0f al hy;obtain ⟨hi,ee⟩:=List.getElem?_eq_some_iff.mp he;have dr:C.drop i=e :: C.drop (i + 1):=by rw [j23 hi,ee]
   rw [dr] at D dw;have s4:=s3.trans (Same.upd (o:=.tup [.int i,y]) hp);have R:=(Same.upd (o:=.tup [.int i,y]) hp) _ _ el;have M:=(Same.upd (o:=.tup [.int i,y]) hp) _ _ ed;have W:=z01 (λ a b z=>RcAt.tups (.of (Same.upd (o:=.tup [.int i,y]) hp)) z) ar;have a8:upd H3 p (.tup [.int i,y]) p=some (.tup [.int i,y]):=upd_same;generalize upd H3 p (.tup [.int i,y])=H4 at s4 R M W a8⊢;have b2:=EvAt.tups (.of s4) ev;refine ⟨p,_,rfl,SqT.of a8,rfl,.int i,_,rfl,y,_,rfl,rfl,?_⟩;have lz:f.length=c.length:=z03 W;have b0:100<=sizeLine:=by decide
   have b1:i < 100:=F1 hi hl;cases e with
   | beg h n v x=>
    obtain ⟨I,rfl,J⟩:=b2;refine ⟨_,rfl,.inr (.inl ⟨I,_,0,.str "begin",rfl,rfl,J,z06 (j:=0) rfl,rfl,_,rfl,iteP (decide_eq_true rfl) ?_⟩)⟩;refine ⟨_,rfl,.inl ⟨l,f,rfl,.inl (SqL.of R),⟨_,rfl,⟨_,rfl,.inr (.inl ⟨I,_,1,.int h,rfl,rfl,J,z06 (j:=1) rfl,d,_,rfl,DPut.k (k:=.inl h) M (A1 hk (F1 b1 b0)),?_⟩)⟩⟩⟩⟩;have b8:H d=none:=s0 a2;have t5:Tups (kx w) H4 (upd H4 d (.dK (putK g (.inl h) (.int (f.length:Nat))))):=Tups.dict M;have s5:=Same.keep (o:=.dK (putK g (.inl h) (.int (f.length:Nat)))) s4 b8;have a3:upd H4 d (.dK (putK g (.inl h) (.int (f.length:Nat)))) l=some (.lst f):=by rw [upd_ne N];exact R
    have a9:upd H4 d (.dK (putK g (.inl h) (.int (f.length:Nat)))) d=some (.dK (putK g (.inl h) (.int (f.length:Nat)))):=upd_same;generalize upd H4 d (.dK (putK g (.inl h) (.int (f.length:Nat))))=H5 at t5 s5 a3 a9⊢;have c0:=t5 _ _ J;have b5:=z01 (λ a b z=>RcAt.tups t5 z) W;refine ⟨_,rfl,.inl ⟨rfl,f,SqL.of a3⟩,⟨_,rfl,1,rfl,.inr (.inl ⟨I,_,rfl,c0,λ z=>absurd z.1 (show ¬ HT.sIx 5 0 (some 1)=0 by decide),λ F Y=>?_⟩)⟩⟩;have c1:cutV [V.str "begin",.int h,n,v,x] (some 1) none=[.int h,n,v,x]:=rfl;rw [c1];refine ⟨_,rfl,w_3,λ G X=>.inr (.inr (.inr ⟨F,G,_,_,rfl,rfl,(Same.upd X).seqT (SqT.of upd_same),SqT.of upd_same,by simp,w_7,λ z=>(by cases z),λ _ u a1=>?_⟩))⟩;have B:Same H5 (upd (upd (upd H5 F (.tup [.int h,n,v,x])) G (.tup [.non,.int i,.non])) u (.tup ([.int h,n,v,x]++[.non,.int i,.non]))):=((Same.upd Y).trans (Same.upd X)).trans (Same.upd a1);have O:upd (upd (upd H5 F (.tup [.int h,n,v,x])) G (.tup [.non,.int i,.non])) u (.tup ([.int h,n,v,x]++[.non,.int i,.non])) u=some (.tup ([.int h,n,v,x]++[.non,.int i,.non])):=upd_same;generalize upd (upd (upd H5 F (.tup [.int h,n,v,x])) G (.tup [.non,.int i,.non])) u (.tup ([.int h,n,v,x]++[.non,.int i,.non]))=H6 at B O⊢;have U:=B _ _ a3;have a4:=B _ _ a9;have a5:=z01 (λ a b z=>RcAt.tups (.of B) z) b5;have S:Tups (kx w) H6 (upd H6 l (.lst (f++[.ref u]))):=Tups.lst U;refine ⟨l,f,_,rfl,rfl,U,A1 (A0 (i6 lz) hr') (F1 b1 b0),?_⟩;refine ⟨c++[⟨h,n,v,x,.non,i,none⟩],f++[.ref u],putK g (.inl h) (.int (f.length:Nat)),upd_same,?_,?_,?_,?_,?_,(show dAll (i + 1) (dstep i c (.beg h n v x)) _=_ from D),dw.2,Same.keep (s5.trans B) a0,_,_,_,_,rfl⟩
    ·exact z1d (z01 (λ a b z=>RcAt.tups S z) a5) ⟨u,rfl,S _ _ (SqT.of O)⟩
    ·rw [upd_ne N.symm];exact a4
    ·exact A0 zgc (by omega)
    ·rw [D0];show c.length + 1<=i + 1;omega
    ·intro k;rw [z32,E1];show _=j0g _ (lastI k (c.map Rc.h++[h]));rw [z4t,hv k,o0,lz];by_cases z:h=k
     ·rw [if_pos z,if_pos (by rw [z])];rfl
     ·rw [if_neg z,if_neg (λ y=>z (z8 y).symm)]
   | fin h a=>
    obtain ⟨I,rfl,J⟩:=b2;obtain ⟨j,hj⟩:=Option.isSome_iff_exists.mp (dw.1 h a rfl);have c2:valV g (.inl h)=some (.int (j:Nat)):=by rw [hv h,hj];rfl
    have a6:j < c.length:=by have:=z8v hj;rwa [o0] at this
    have b3:c[j]? = some c[j]:=B0 a6;obtain ⟨yj,b7,pj,rfl,sj⟩:=z0u W b3;have b9:DGet H4 d (.int h) (some (.int (j:Nat))):=c2 ▸ DGet.k (k:=.inl h) M;refine ⟨_,rfl,.inr (.inl ⟨I,_,0,.str "end",rfl,rfl,J,z06 (j:=0) rfl,rfl,_,rfl,iteK ?_⟩)⟩;refine ⟨_,rfl,⟨_,rfl,.inr (.inl ⟨I,_,1,.int h,rfl,rfl,J,z06 (j:=1) rfl,d,_,rfl,b9,?_⟩)⟩⟩;refine ⟨_,rfl,_,rfl,.inl ⟨l,f,j,.ref pj,rfl,rfl,SqL.of R,z06 b7,?_⟩⟩;refine ⟨_,rfl,4,rfl,.inr (.inl ⟨pj,_,rfl,sj,λ z=>absurd z.2 (show ¬ HT.sIx 7 7 (some 4)=7 by decide),λ F Y=>?_⟩)⟩;have c1:cutV [.int c[j].h,c[j].n,c[j].v,c[j].x,c[j].a,.int c[j].b,endV c[j].e] none (some 4)=[.int c[j].h,c[j].n,c[j].v,c[j].x]:=rfl;rw [c1];refine ⟨_,rfl,.inr (.inl ⟨I,_,2,a,rfl,rfl,(Same.upd Y).seqT J,z06 (j:=2) rfl,?_⟩)⟩;refine ⟨_,rfl,.inr (.inl ⟨pj,_,5,.int c[j].b,rfl,rfl,(Same.upd Y).seqT sj,z06 (j:=5) rfl,?_⟩)⟩;refine ⟨_,rfl,w_3,λ G X=>.inr (.inr (.inr ⟨F,G,_,_,rfl,rfl,(Same.upd X).seqT (SqT.of upd_same),SqT.of upd_same,by simp,w_7,λ z=>(by cases z),λ _ u a1=>?_⟩))⟩;have B:Same H4 _:=((Same.upd Y).trans (Same.upd X)).trans (Same.upd (o:=.tup ([.int c[j].h,c[j].n,c[j].v,c[j].x]++[a,.int c[j].b,.int (i:Nat)])) a1);have O:upd (upd (upd H4 F (.tup [.int c[j].h,c[j].n,c[j].v,c[j].x])) G (.tup [a,.int c[j].b,.int (i:Nat)])) u (.tup ([.int c[j].h,c[j].n,c[j].v,c[j].x]++[a,.int c[j].b,.int (i:Nat)])) u=some (.tup ([.int c[j].h,c[j].n,c[j].v,c[j].x]++[a,.int c[j].b,.int (i:Nat)])):=upd_same;generalize upd (upd (upd H4 F (.tup [.int c[j].h,c[j].n,c[j].v,c[j].x])) G (.tup [a,.int c[j].b,.int (i:Nat)])) u (.tup ([.int c[j].h,c[j].n,c[j].v,c[j].x]++[a,.int c[j].b,.int (i:Nat)]))=H6 at B O⊢;have U:=B _ _ R;have a4:=B _ _ M;have a5:=z01 (λ a b z=>RcAt.tups (.of B) z) W;have S:Tups (kx w) H6 (upd H6 l (.lst (f.set j (.ref u)))):=Tups.lst U;refine ⟨_,rfl,_,rfl,l,f,j,j,rfl,rfl,U,zm8 (show j < f.length by rw [lz];exact a6),?_⟩;have dd:dstep i c (.fin h a)=c.modify j (λ r=>{ r with a:=a,e:=some i }):=by unfold dstep;dsimp only;rw [hj]
    have b4:dAll (i + 1) (dstep i c (.fin h a)) (List.drop (i + 1) C)=_:=D;have a7:=dw.2;rw [dd] at b4 a7;have mh:(c.modify j (λ r=>{ r with a:=a,e:=some i })).map Rc.h=c.map Rc.h:=by
     apply M7;intro m;rw [O0,O0,G2];cases c[m]? with
     | none=>rfl
     | some r=>
      show some (if j=m then _ else r).h=some r.h;by_cases z:j=m
      ·rw [if_pos z]
      ·rw [if_neg z]
    refine ⟨_,f.set j (.ref u),g,upd_same,?_,?_,?_,?_,?_,b4,a7,Same.keep (s4.trans B) a0,_,_,_,_,rfl⟩
    ·exact z82 (z01 (λ a b z=>RcAt.tups S z) a5) b3 ⟨u,rfl,S _ _ (SqT.of O)⟩
    ·rw [upd_ne N.symm];exact a4
    ·omega
    ·rw [M4];omega
    ·intro k;rw [mh];exact hv k
  ·rintro σ H3 ⟨c,f,g,el,ar,ed,hk,hr',hv,D,dw,s3,x3,x4,x5,x6,rfl⟩;have:C.drop ys.length=[]:=by rw [b6];exact List.drop_length
   rw [this] at D;have D:c=dAll 0 [] C:=D;rw [<-D] at q;exact ⟨_,rfl,q l f H3 s3 a0 el ar⟩
def z2x:Nat->Str
 | 0=>"strict"
 | 1=>"hands"
 | _=>"bare"
def ltO:Option Nat->Nat->Bool
 | some a,b=>decide (a < b)
 | none,_=>false
def aheadB:Nat->Rc->Rc->Bool
 | 0,r,q=>ltO r.e q.b
 | 1,r,q=>decide (r.h=q.h) && decide (r.b < q.b)
 | _,_,_=>false
theorem dec_lt (a b:Nat):decide ((a:Int) < (b:Int))=decide (a < b):=decide_eq_decide.mpr (by omega)
def z63 (K:b0):Sp:=λ vs H Q _=>∃(x y:V) (r q:Rc) (m:Nat),vs=[x,y,.str (z2x m)]/\RcAt K H r x/\RcAt K H q y/\Q (.bl (aheadB m r q)) H
theorem zb9 (T:TX (kx w) mg):Fo P w mg base CX0 1 231 y0y ["one","other","strictness"] (z63 (kx w)):=by
 refine (z4a w.params).ok za7 (λ g H Q E h=>?_) (λ i A k s H g Q E l h=>?_)
 ·obtain ⟨x,y,r,q,m,rfl,_⟩:=h;rfl
 ·obtain ⟨x,y,r,q,m,rfl,⟨c,rfl,a⟩,⟨d,rfl,f⟩,h⟩:=h;refine ⟨_,(z02 (ps_if (z08 opEq (pv 2) pe_str (nomark _))
   (z04 (ps_ret (pe_and (z18 z9u (pJ 0) pe_non (nomark _)) (pe_one (z18 op_lt (pJ 0) (pJ 1) (nomark _))))))
   z0e)
   (z02 (ps_if (z08 opEq (pv 2) pe_str (nomark _))
   (z04 (ps_ret (pe_and (z18 opEq (pJ 0) (pJ 1) (nomark _)) (pe_one (z18 op_lt (pJ 0) (pJ 1) (nomark _))))))
   z0e)
   (z04 (ps_ret pe_bl)))),?_⟩
  match m,h with
  | 0,h=>
   refine ⟨_,rfl,rfl,_,rfl,iteP (decide_eq_true rfl) ?_⟩;refine ⟨_,rfl,.inr (.inl ⟨c,_,6,endV r.e,rfl,rfl,a,z06 (j:=6) rfl,rfl,_,rfl,?_⟩)⟩;cases re:r.e with
   | none=>
    refine iteN (by show ¬ (!decide (V.non=V.non))=true;decide) ?_;have:aheadB 0 r q=false:=by show ltO r.e q.b=_;rw [re];rfl
    rw [this] at h;exact h
   | some b=>
    refine iteP rfl ?_;refine ⟨_,rfl,.inr (.inl ⟨c,_,6,.int (b:Nat),rfl,rfl,a,z06 (j:=6) (by rw [re];rfl),?_⟩)⟩;refine ⟨_,rfl,.inr (.inl ⟨d,_,5,.int (q.b:Nat),rfl,rfl,f,z06 (j:=5) rfl,b,q.b,rfl,rfl,?_⟩)⟩;have:aheadB 0 r q=decide (b < q.b):=by show ltO r.e q.b=_;rw [re];rfl
    rw [this,<-dec_lt] at h;exact h
  | 1,h=>
   refine ⟨_,rfl,rfl,_,rfl,iteK ?_⟩;refine ⟨_,rfl,rfl,_,rfl,iteP (decide_eq_true rfl) ?_⟩;refine ⟨_,rfl,.inr (.inl ⟨c,_,0,.int r.h,rfl,rfl,a,z06 (j:=0) rfl,?_⟩)⟩;refine ⟨_,rfl,.inr (.inl ⟨d,_,0,.int q.h,rfl,rfl,f,z06 (j:=0) rfl,rfl,_,rfl,?_⟩)⟩;by_cases z:r.h=q.h
   ·refine iteP (decide_eq_true (by rw [z])) ?_;refine ⟨_,rfl,.inr (.inl ⟨c,_,5,.int (r.b:Nat),rfl,rfl,a,z06 (j:=5) rfl,?_⟩)⟩;refine ⟨_,rfl,.inr (.inl ⟨d,_,5,.int (q.b:Nat),rfl,rfl,f,z06 (j:=5) rfl,r.b,q.b,rfl,rfl,?_⟩)⟩;have:aheadB 1 r q=decide (r.b < q.b):=by show (decide (r.h=q.h) && _)=_;rw [decide_eq_true z];rfl
    rw [this,<-dec_lt] at h;exact h
   ·refine iteN (λ e=>z (V.int.inj (of_decide_eq_true e))) ?_;have:aheadB 1 r q=false:=by show (decide (r.h=q.h) && _)=_;rw [decide_eq_false z];rfl
    rw [this] at h;exact h
  | m + 2,h=>refine ⟨_,rfl,rfl,_,rfl,iteN (show ¬ decide (V.str "bare" = V.str "strict")=true by decide +kernel) ?_⟩;refine ⟨_,rfl,rfl,_,rfl,iteN (show ¬ decide (V.str "bare" = V.str "hands")=true by decide +kernel) ?_⟩;exact h
def z1y:Sp:=λ vs H Q _=>∃(m:Nat),vs=[.str (z2x m)]/\Q .non H
theorem zjp {H:Hp}:SqT (kx w) H 210 [.str "strict",.str "hands",.str "bare"]:=
 .inr ⟨⟨(.type "tuple"),none,(.seq #[(.str "strict" 516),(.str "hands" 517),(.str "bare" 518)] 0),#[]⟩,#[(.str "strict" 516),(.str "hands" 517),(.str "bare" 518)],0,by kernel_rfl,rfl,rfl,w_3,.cons ⟨_,rfl⟩ (.cons ⟨_,rfl⟩ (.cons ⟨_,rfl⟩ .nil))⟩
theorem z56 (T:TX (kx w) mg):Fo P w mg base CX0 1 224 y06 ["strictness"] z1y:=by
 refine (z1c w.params).ok z51 (λ a H Q E h=>?_) (λ d A c s H a Q E b h=>?_)
 ·obtain ⟨m,rfl,_⟩:=h;rfl
 ·obtain ⟨m,rfl,h⟩:=h;refine ⟨_,(z04 (ps_if (PW.pt (pw_or (pt_not (pt_val (z09 z0o rfl (T.no (z0l _)) i3 (z00 (pv 0) (z00 (z37 (v:=.ty "str") rfl (T.no (n_str _)) j40 rfl) pa_nil))) (λ _=>rfl))) (pw_or1 (z08 z1b (pv 0) (z6t (v:=.ref 210) rfl (T.of (z8p _)) rfl) (by with_unfolding_all rfl)))))
   (z04 z92)
   z0e)),?_⟩
  refine ⟨_,rfl,_,_,"str",rfl,rfl,by decide +kernel,_,rfl,iteN (by decide) ?_⟩;refine ⟨_,rfl,210,_,rfl,.inr zjp,rfl,rfl,_,rfl,iteN ?_ h⟩
  match m with
  | 0=>decide +kernel
  | 1=>decide +kernel
  | m + 2=>exact (by decide +kernel:¬ (if true=true then !inV (.str "bare") [V.str "strict",.str "hands",.str "bare"] else inV (.str "bare") [V.str "strict",.str "hands",.str "bare"])=true)
def z0i (m:Nat) (rs:List Rc) (a b:Nat):Bool:=match rs[a]?,rs[b]? with|some r,some q=>aheadB m r q|_,_=>false
def rowTo (m:Nat) (rs:List Rc) (a j:Nat):List (Nat×Nat):=((j1 j).filter λ b=>z0i m rs a b).map λ b=>(a,b)
def z2s (m:Nat) (rs:List Rc) (i:Nat):List (Nat×Nat):=(j1 i).flatMap λ a=>rowTo m rs a rs.length
theorem z9q {m:Nat} {rs:List Rc} {a j:Nat}:rowTo m rs a (j + 1)=rowTo m rs a j++if z0i m rs a j then [(a,j)] else []:=by
 unfold rowTo;rw [F8,N4,E1];by_cases z:z0i m rs a j=true
 ·rw [if_pos z];simp [z]
 ·rw [if_neg z];simp [z]
theorem z7c {m:Nat} {rs:List Rc} {i:Nat}:z2s m rs (i + 1)=z2s m rs i++rowTo m rs i rs.length:=by unfold z2s;rw [F8,List.flatMap_append];simp
theorem zd4 {m:Nat} {rs:List Rc} {a j:Nat}:(rowTo m rs a j).length<=j:=by unfold rowTo;rw [o0];exact A0 (K2 _ _) (by rw [Y1];exact t0 _)
theorem z5i {m:Nat} {rs:List Rc} :∀i:Nat,(z2s m rs i).length<=i * rs.length
 | 0=>by simp [z2s]
 | i + 1=>by rw [z7c,D0,Nat.add_mul,Nat.one_mul];exact Nat.add_le_add (z5i i) zd4
theorem zja {i:Nat} {rs:List Rc} {e:Ev}:(dstep i rs e).length<=rs.length + 1:=by
 cases e with
 | beg h n v x=>show (rs++[_]).length<=_;rw [D0];exact t0 _
 | fin h a=>
  unfold dstep;dsimp only;cases lastI h (rs.map Rc.h) with
  | none=>exact F3 _
  | some j=>show (rs.modify j _).length<=_;rw [M4];exact F3 _
theorem z9c :∀{i:Nat} {rs:List Rc} (es:List Ev),(dAll i rs es).length<=rs.length + es.length
 | _,_,[]=>t0 _
 | i,rs,e :: es=>by show (dAll (i + 1) (dstep i rs e) es).length<=_;have:=z9c (i:=i + 1) (rs:=dstep i rs e) es;have:=zja (i:=i) (rs:=rs) (e:=e);rw [P0];omega
def PairAt (H:Hp) (p:Nat×Nat) (y:V):Prop:=∃a,y=.ref a/\H a=some (.tup [.int p.1,.int p.2])
theorem PairAt.same {H H':Hp} {p:Nat×Nat} {y:V} (s:Same H H') (h:PairAt H p y):PairAt H' p y:=h.elim λ a z=>⟨a,z.1,s _ _ z.2⟩
theorem PairAt.wrote {H:Hp} {l:Addr} {zs ws:List V} {p:Nat×Nat} {y:V} (e:H l=some (.lst zs)) (h:PairAt H p y):PairAt (upd H l (.lst ws)) p y:=h.elim λ a z=>⟨a,z.1,by rw [upd_ne (ne_of z.2 e (by intro z;cases z))];exact z.2⟩
def zdl (K:b0):Sp:=λ vs H Q _=>∃(t te:Addr) (th:V) (ys:List V) (es:List Ev) (m:Nat),vs=[.ref t,.str (z2x m)]/\SqT K H t [th,.ref te]/\SqT K H te ys/\All2 (EvAt K H) es ys/\es.length<=100/\dWf 0 [] es/\
 ∀l zs H',Same H H'->H l=none->H' l=some (.lst zs)->All2 (PairAt H') (z2s m (dAll 0 [] es) (dAll 0 [] es).length) zs->Q (.ref l) H'
theorem zid (T:TX (kx w) mg) (c0:Ca P w mg base "deeds" ["tale"] 1 (z95 (kx w))) (c1:Ca P w mg base "check_strictness" ["strictness"] 1 z1y) (c2:Ca P w mg base "goes_ahead" ["one","other","strictness"] 1 (z63 (kx w))):Fo P w mg base CX0 2 217 y2g ["tale","strictness"] (zdl (kx w)):=by
 refine (zc0 w.params).ok sc_has_to (λ vs H Q E h=>?_) (λ c3 A b8 s H vs Q E L h=>?_)
 ·obtain ⟨t,te,th,ys,D,m,rfl,_⟩:=h;rfl
 ·obtain ⟨t,te,th,ys,D,m,rfl,st,se,al,W,wf,q⟩:=h;refine ⟨_,(z02 (z2b (pe_cal c1 (L.mono (by decide)) rfl (z00 (pv 1) pa_nil)))
   (z02 (ps_set (i:=2) sc_has_to.nd rfl (U0 rfl) (pe_cal c0 (L.mono (by decide)) rfl (z00 (pv 0) pa_nil)))
   (z02 (ps_set (i:=3) sc_has_to.nd rfl (U0 rfl) (pe_lst pa_nil))
   (z02 (ps_for K1 rfl (z69 rfl (T.no (z1n _)) (z00 (pv 2) pa_nil)) (pg_tup rfl (z0d (z0g (i:=4) sc_has_to.nd rfl (U0 rfl)) (z0d (z0g (i:=5) sc_has_to.nd rfl (U0 rfl)) z0x)))
   (z04 (ps_for K1 rfl (z69 rfl (T.no (z1n _)) (z00 (pv 2) pa_nil)) (pg_tup rfl (z0d (z0g (i:=6) sc_has_to.nd rfl (U0 rfl)) (z0d (z0g (i:=7) sc_has_to.nd rfl (U0 rfl)) z0x)))
   (z04 (ps_if (pt_val (pe_cal c2 (L.mono (by decide)) rfl (z00 (pv 5) (z00 (pv 7) (z00 (pv 1) pa_nil)))) (λ _=>rfl))
   (z04 (z2b (z14 (pv 3) (z00 (pe_tup (z00 (pv 4) (z00 (pv 6) pa_nil))) pa_nil))))
   z0e)))))
   (z04 (ps_ret (pv 3))))))),?_⟩
  refine ⟨_,rfl,m,rfl,?_⟩;refine ⟨_,rfl,t,te,th,ys,D,rfl,st,se,al,W,wf,λ l g B Y b9 el J=>?_⟩;generalize hrs:dAll 0 [] D=rs at J q;have U:rs.length<=100:=by rw [<-hrs];have:=z9c (i:=0) (rs:=[]) D;simpa using A0 this (by simpa using W)
  have r:g.length=rs.length:=z03 J;refine ⟨w_0,λ d u=>?_⟩;have a2:H d=none:=Y.free u;have nl:l≠d:=z07 el u;have S:Same H (upd B d (.lst [])):=Y.trans (Same.upd u);have M:upd B d (.lst []) l=some (.lst g):=(Same.upd u) _ _ el;have a7:=z01 (λ a b z=>RcAt.tups (.of (Same.upd (o:=.lst []) u)) z) J;have a0:upd B d (.lst []) d=some (.lst []):=upd_same;generalize upd B d (.lst [])=H2 at S M a7 a0⊢;refine ⟨_,rfl,l,g,rfl,SqL.of M,?_⟩;refine z68 (K:=KX w.params) (a:=l) (xs:=g) (λ i σ c=>∃f,c l=some (.lst g)/\All2 (RcAt (kx w) c) rs g/\c d=some (.lst f)/\All2 (PairAt c) (z2s m rs i) f/\Same H c/\∃x4 x5 x6 x7,σ=[some (.ref t),some (.str (z2x m)),some (.ref l),some (.ref d),x4,x5,x6,x7])
   ⟨[],M,a7,a0,.nil,S,_,_,_,_,rfl⟩ (λ i σ c h=>?_) ?_ ?_
  ·obtain ⟨f,e,_⟩:=h;exact SqL.of e
  ·rintro i x σ H3 p hx ⟨f,e3,a3,f3,b3,s3,x4,x5,x6,x7,rfl⟩ hp;obtain ⟨H4,I,v,ep⟩:=newA (.tup [.int i,x]) hp;rw [<-I];have Z:=v _ _ e3;have f4:=v _ _ f3;have a4:=z01 (λ a b z=>RcAt.tups (.of v) z) a3;have b4:=z01 (λ a b z=>PairAt.same v z) b3;have s4:=s3.trans v;refine ⟨p,_,rfl,SqT.of ep,rfl,.int i,_,rfl,x,_,rfl,rfl,?_⟩;have a8:i < rs.length:=by rw [<-r];exact (List.getElem?_eq_some_iff.mp hx).1
   have pl:=z5i (m:=m) (rs:=rs) i;have pm:i * rs.length<=10000:=j22 (A0 (V2 a8) U) U;refine ⟨_,rfl,l,g,rfl,SqL.of Z,?_⟩;refine z68 (K:=KX w.params) (a:=l) (xs:=g) (λ j σ c=>∃f,c l=some (.lst g)/\All2 (RcAt (kx w) c) rs g/\c d=some (.lst f)/\All2 (PairAt c) (z2s m rs i++rowTo m rs i j) f/\Same H c/\∃x6 x7,σ=[some (.ref t),some (.str (z2x m)),some (.ref l),some (.ref d),some (.int (i:Nat)),some x,x6,x7])
    ⟨f,Z,a4,f4,by rw [show rowTo m rs i 0=[] from rfl,N2];exact b4,s4,_,_,rfl⟩ (λ j σ c h=>?_) ?_ ?_
   ·obtain ⟨f,e,_⟩:=h;exact SqL.of e
   ·rintro j y σ R C hy ⟨zs3,e5,a5,f5,b5,s5,x6,x7,rfl⟩ hp';have k:=Same.upd (o:=.tup [.int j,y]) hp';have X:upd R C (.tup [.int j,y]) C=some (.tup [.int j,y]):=upd_same;generalize upd R C (.tup [.int j,y])=H6 at k X⊢;have e6:=k _ _ e5;have O:=k _ _ f5;have F:=z01 (λ a b z=>RcAt.tups (.of k) z) a5;have N:=z01 (λ a b z=>PairAt.same k z) b5;have V:=s5.trans k;refine ⟨C,_,rfl,SqT.of X,rfl,.int j,_,rfl,y,_,rfl,rfl,?_⟩;obtain ⟨r1,b0,a9⟩:=z0f F hx;obtain ⟨r2,a1,b2⟩:=z0f F hy;have b7:j < rs.length:=(List.getElem?_eq_some_iff.mp a1).1;have ah:z0i m rs i j=aheadB m r1 r2:=by unfold z0i;rw [b0,a1]
    refine ⟨_,rfl,_,rfl,_,rfl,x,y,r1,r2,m,rfl,a9,b2,_,rfl,?_⟩;rw [<-ah];have rl:=zd4 (m:=m) (rs:=rs) (a:=i) (j:=j);have zl:zs3.length=(z2s m rs i++rowTo m rs i j).length:=z03 N;rw [D0] at zl;by_cases z:z0i m rs i j=true
    ·refine iteP z ?_;refine ⟨_,rfl,.inl ⟨rfl,zs3,SqL.of O⟩,_,rfl,_,rfl,w_2,λ p2 b1=>?_⟩;obtain ⟨H7,I,n,e7⟩:=newA (.tup [.int (i:Nat),.int (j:Nat)]) b1;rw [<-I];have G:=n _ _ O;refine ⟨d,zs3,_,rfl,rfl,G,A1 (m:=20000) (by omega) (by decide),?_⟩;refine ⟨zs3++[.ref p2],?_,?_,upd_same,?_,Same.keep (V.trans n) a2,_,_,rfl⟩
     ·rw [upd_ne nl];exact n _ _ e6
     ·exact z01 (λ a b z=>RcAt.tups ((Tups.of n).trans (Tups.lst G)) z) F
     ·rw [z9q,if_pos z,<-j02];exact z1d (z01 (λ a b z=>PairAt.wrote G (PairAt.same n z)) N) (PairAt.wrote G ⟨p2,rfl,e7⟩)
    ·refine iteN z ?_;exact ⟨zs3,e6,F,O,by rw [z9q,if_neg z,N2];exact N,V,_,_,rfl⟩
   ·rintro σ R ⟨zs3,e5,a5,f5,b5,s5,x6,x7,rfl⟩;exact ⟨zs3,e5,a5,f5,by rw [z7c,<-r];rw [r] at b5;rw [r];exact b5,s5,_,_,_,_,rfl⟩
  ·rintro σ H3 ⟨f,e3,a3,f3,b3,s3,x4,x5,x6,x7,rfl⟩;rw [r] at b3;exact ⟨_,rfl,q d f H3 s3 a2 f3 b3⟩
end
section
def oStep (os:List Int):Ev->List Int
 | .beg h _ _ _=>os++[h]
 | .fin h _=>os.filter λ k=>decide (k≠h)
def oOk (os:List Int):Ev->Prop
 | .beg h _ _ _=>h∉os
 | .fin h _=>h∈os
def EWf:List Int->List Ev->Prop
 | _,[]=>True
 | os,e :: es=>oOk os e/\EWf (oStep os e) es
theorem EWf.snoc :∀{es:List Ev} {os:List Int} {e:Ev},EWf os es->oOk (es.foldl oStep os) e->EWf os (es++[e])
 | [],os,e,_,h=>⟨h,trivial⟩
 | x :: es,os,e,w,h=>⟨w.1,EWf.snoc w.2 h⟩
theorem zdz {h:Int} (hs:List Int) :∀{j:Nat},lastI h hs=some j->hs[j]? = some h/\∀k,j < k->hs[k]?≠some h:=by
 suffices key :∀n (hs:List Int),hs.length=n->∀{j:Nat},lastI h hs=some j->hs[j]? = some h/\∀k,j < k->hs[k]?≠some h from λ {j} a=>key _ hs rfl a;intro n;induction n with
 | zero=>intro hs e j a;have:=z8v a;omega
 | succ n ih=>
  intro hs e j a;have ne:hs≠[]:=λ z=>by rw [z] at e;cases e
  obtain ⟨b,t,rfl⟩ :∃b t,hs=b++[t]:=⟨hs.dropLast,hs.getLast ne,(T4 ne).symm⟩
  rw [D0] at e;have e:b.length=n:=by simpa using e
  rw [z4t] at a;by_cases z:t=h
  ·rw [if_pos z] at a;cases a;refine ⟨by simp [z],λ k c=>?_⟩;rw [J3 (by rw [D0];show b.length + 1<=k;omega)];intro y;cases y
  ·rw [if_neg z] at a;obtain ⟨f,d⟩:=ih b e a;have lt:=z8v a;refine ⟨by rw [F2 lt];exact f,λ k c=>?_⟩;by_cases y:k < b.length
   ·rw [F2 y];exact d k c
   ·by_cases y2:k=b.length
    ·subst y2;rw [W1 (t0 _)];simp;exact z
    ·rw [J3 (by rw [D0];show b.length + 1<=k;omega)];intro y;cases y
theorem z9v {h:Int} (hs:List Int) (hm:h∈hs):(lastI h hs).isSome=true:=by
 suffices key :∀n (hs:List Int),hs.length=n->h∈hs->(lastI h hs).isSome=true from key _ hs rfl hm;intro n;induction n with
 | zero=>intro hs e hm;rw [List.length_eq_zero_iff.mp e] at hm;cases hm
 | succ n ih=>
  intro hs e hm;have ne:hs≠[]:=λ z=>by rw [z] at e;cases e
  obtain ⟨a,t,rfl⟩ :∃a t,hs=a++[t]:=⟨hs.dropLast,hs.getLast ne,(T4 ne).symm⟩
  rw [D0] at e;rw [z4t];by_cases z:t=h
  ·rw [if_pos z];rfl
  ·rw [if_neg z];refine ih a (by simpa using e) ?_;rcases List.mem_append.mp hm with y|y
   ·exact y
   ·exact absurd (List.mem_singleton.mp y).symm z
structure DInv (i:Nat) (rs:List Rc) (os:List Int):Prop where
 b :∀r∈rs,r.b < i
 e :∀r∈rs,∀e,r.e=some e->e < i
 p :∀(x y:Nat) (r q:Rc),x < y->rs[x]? = some r->rs[y]? = some q->r.b < q.b/\(r.h=q.h->∃e,r.e=some e/\e < q.b)
 o :∀r∈rs,r.h∉os->r.e.isSome=true
 m :∀h∈os,h∈rs.map Rc.h
theorem DInv.nil:DInv 0 [] []:=⟨λ _ h=>(by cases h),λ _ h=>(by cases h),λ x y r q _ h=>(by simp at h),λ _ h=>(by cases h),λ _ h=>(by cases h)⟩
theorem zg7 {rs:List Rc} {j:Nat} {f:Rc->Rc} (hf :∀r,(f r).h=r.h):(rs.modify j f).map Rc.h=rs.map Rc.h:=by
 apply M7;intro m;rw [O0,O0,G2];cases rs[m]? with
 | none=>rfl
 | some r=>
  show some (if j=m then f r else r).h=some r.h;by_cases z:j=m
  ·rw [if_pos z,hf]
  ·rw [if_neg z]
theorem DInv.step {i:Nat} {rs:List Rc} {os:List Int} (I:DInv i rs os) {e:Ev} (ok:oOk os e):DInv (i + 1) (dstep i rs e) (oStep os e)/\∀h a,e=.fin h a->(lastI h (rs.map Rc.h)).isSome=true:=by
 cases e with
 | beg h n v x=>
  have ok:h∉os:=ok;refine ⟨⟨λ r d=>?_,λ r d e c=>?_,λ t g r q E J D=>?_,λ r d B=>?_,λ k M=>?_⟩,λ h a e=>by cases e⟩
  ·rcases List.mem_append.mp d with z|z
   ·have:=I.b r z;omega
   ·rw [List.mem_singleton.mp z];exact O2 i
  ·rcases List.mem_append.mp d with z|z
   ·have:=I.e r z e c;omega
   ·rw [List.mem_singleton.mp z] at c;cases c
  ·have a1:g < (dstep i rs (.beg h n v x)).length:=(List.getElem?_eq_some_iff.mp D).1;have hl:(dstep i rs (.beg h n v x)).length=rs.length + 1:=by show (rs++[_]).length=_;rw [D0];rfl
   have R:rs[t]? = some r:=by
    have:(rs++[_])[t]? = some r:=J
    rwa [F2 (by omega)] at this
   by_cases z:g < rs.length
   ·have a0:rs[g]? = some q:=by
     have:(rs++[_])[g]? = some q:=D
     rwa [F2 z] at this
    exact I.p t g r q E R a0
   ·have F:(rs++[_])[g]? = some q:=D;have ey:g=rs.length:=by omega
    subst ey;rw [W1 (t0 _)] at F;simp at F;have O:=G0 R;rw [<-F];refine ⟨I.b r O,λ A=>?_⟩;have:r.e.isSome=true:=I.o r O (by rw [A];exact ok);obtain ⟨e,c⟩:=Option.isSome_iff_exists.mp this;exact ⟨e,c,I.e r O e c⟩
  ·rcases List.mem_append.mp d with z|z
   ·exact I.o r z λ y=>B (List.mem_append.mpr (.inl y))
   ·rw [List.mem_singleton.mp z] at B;exact absurd (List.mem_append.mpr (.inr (List.mem_singleton.mpr rfl))) B
  ·show k∈(rs++[_]).map Rc.h;rw [E1];rcases List.mem_append.mp M with z|z
   ·exact List.mem_append.mpr (.inl (I.m k z))
   ·rw [List.mem_singleton.mp z];exact List.mem_append.mpr (.inr (List.mem_singleton.mpr rfl))
 | fin h a=>
  have ok:h∈os:=ok;obtain ⟨j,G⟩:=Option.isSome_iff_exists.mp (z9v _ (I.m h ok));refine ⟨?_,λ h' a' e=>by cases e;rw [G];rfl⟩;obtain ⟨Q,S⟩:=zdz _ G;have hd:dstep i rs (.fin h a)=rs.modify j (λ r=>{ r with a:=a,e:=some i }):=by unfold dstep;dsimp only;rw [G]
  rw [hd];have Z:oStep os (.fin h a)=os.filter λ k=>decide (k≠h):=rfl;rw [Z];rw [O0] at Q;obtain ⟨Y,P,T⟩:=Option.map_eq_some_iff.mp Q;have get :∀m q,(rs.modify j (λ r=>{ r with a:=a,e:=some i }))[m]? = some q->∃r,rs[m]? = some r/\q.h=r.h/\q.b=r.b/\(m=j->q.e=some i)/\(m≠j->q=r):=λ m q U=>by
   rw [G2] at U;obtain ⟨r,d,e⟩:=Option.map_eq_some_iff.mp U;refine ⟨r,d,?_⟩;by_cases z:j=m
   ·rw [if_pos z] at e;rw [<-e];exact ⟨rfl,rfl,λ _=>rfl,λ y=>absurd z.symm y⟩
   ·rw [if_neg z] at e;rw [<-e];exact ⟨rfl,rfl,λ y=>absurd y.symm z,λ _=>rfl⟩
  refine ⟨λ r d=>?_,λ r d e c=>?_,λ t g r q E J D=>?_,λ r d B=>?_,λ k M=>?_⟩
  ·obtain ⟨m,C⟩:=List.mem_iff_getElem?.mp d;obtain ⟨s,u,_,h3,_⟩:=get m r C;have:=I.b s (G0 u);omega
  ·obtain ⟨m,C⟩:=List.mem_iff_getElem?.mp d;obtain ⟨s,u,_,_,H,N⟩:=get m r C;by_cases z:m=j
   ·rw [H z] at c;cases c;exact O2 i
   ·rw [N z] at c;have:=I.e s (G0 u) e c;omega
  ·obtain ⟨s,L,r2,r3,r4,r5⟩:=get t r J;obtain ⟨W,X,V,q3,_⟩:=get g q D;obtain ⟨p1,K⟩:=I.p t g s W E L X;refine ⟨by omega,λ A=>?_⟩;by_cases z:t=j
   ·subst z;rw [P] at L;cases L;refine absurd ?_ (S g E);rw [O0,X];show some W.h=some h;rw [<-V,<-A,r2,T]
   ·rw [r5 z] at A⊢;rw [V] at A;obtain ⟨e,c,lt⟩:=K A;exact ⟨e,c,by omega⟩
  ·obtain ⟨m,C⟩:=List.mem_iff_getElem?.mp d;obtain ⟨s,u,h2,_,H,N⟩:=get m r C;by_cases z:m=j
   ·rw [H z];rfl
   ·rw [N z] at B⊢;by_cases y:s.h=h
    ·have lt:m < j:=by
      rcases Nat.lt_or_gt_of_ne z with l|l
      ·exact l
      ·exact absurd (by rw [O0,u];show some s.h=_;rw [y]) (S m l)
     obtain ⟨_,K⟩:=I.p m j s Y lt u P;obtain ⟨e,c,_⟩:=K (by rw [y,T]);rw [c];rfl
    ·exact I.o s (G0 u) λ w=>B (List.mem_filter.mpr ⟨w,decide_eq_true y⟩)
  ·rw [zg7 (f:=λ r=>{ r with a:=a,e:=some i }) (λ r=>rfl)];exact I.m k (List.mem_filter.mp M).1
theorem DInv.all :∀{es:List Ev} {i:Nat} {rs:List Rc} {os:List Int},DInv i rs os->EWf os es->dWf i rs es/\∃os',DInv (i + es.length) (dAll i rs es) os'
 | [],i,rs,os,I,_=>⟨trivial,os,I⟩
 | e :: es,i,rs,os,I,w=>by obtain ⟨c,b⟩:=I.step w.1;obtain ⟨a,os',d⟩:=DInv.all c w.2;refine ⟨⟨b,a⟩,os',?_⟩;rw [P0,show i + (es.length + 1)=i + 1 + es.length by omega];exact d
theorem zj9 {kvs:zK} {h:Int} :∀{os:List Int},kvs.map (·.1)=os.map Sum.inl->(dropK kvs (.inl h)).map (·.1)=(os.filter λ k=>decide (k≠h)).map Sum.inl:=by
 induction kvs with
 | nil=>intro os e;cases os with|nil=>rfl|cons o os=>cases e
 | cons p r ih=>
  intro os e;cases os with
  | nil=>cases e
  | cons o os=>
   rw [X0,X0] at e;injection e with e1 e2;by_cases z:o=h
   ·rw [zdd (by rw [e1,z]),D2 (by simp [z])];exact ih e2
   ·rw [zd3 (by rw [e1];exact λ y=>z (z8 y)),C2 (by simp [z]),X0,X0,e1,ih e2]
theorem z8b {α β:Type} {R S:α->β->Prop} :∀{xs:List α} {ys:List β},(∀a b,b∈ys->R a b->S a b)->All2 R xs ys->All2 S xs ys
 | _,_,_,.nil=>.nil
 | _,_,h,.cons a r=>.cons (h _ _ L0 a) (z8b (λ x y c z=>h x y (V0 _ c) z) r)
theorem z27 {α β:Type} {R:α->β->Prop} :∀{xs:List α} {ys:List β},ys.length=xs.length->(∀(k:Nat) a b,xs[k]? = some a->ys[k]? = some b->R a b)->All2 R xs ys
 | [],[],_,_=>.nil
 | [],y :: ys,h,_=>by cases h
 | x :: xs,[],h,_=>by cases h
 | x :: xs,y :: ys,h,f=>.cons (f 0 x y rfl rfl) (z27 (by simpa using h) λ k a b c d=>f (k + 1) a b (by rw [S1];exact c) (by rw [S1];exact d))
end
section
theorem z4g {m:Nat} {rs:List Rc} {a b:Nat} {r q:Rc} (ha:rs[a]? = some r) (hb:rs[b]? = some q):z0i m rs a b=aheadB m r q:=by unfold z0i;rw [ha,hb]
theorem mem_pairsTo {m:Nat} {rs:List Rc} {p:Nat×Nat} {n:Nat}:p∈z2s m rs n↔p.1 < n/\p.2 < rs.length/\z0i m rs p.1 p.2=true:=by
 unfold z2s rowTo;rw [List.mem_flatMap];constructor
 ·rintro ⟨a,ha,h⟩;obtain ⟨b,e,rfl⟩:=List.mem_map.mp h;obtain ⟨d,c⟩:=List.mem_filter.mp e;exact ⟨List.mem_range.mp ha,List.mem_range.mp d,c⟩
 ·rintro ⟨d,c,h3⟩;exact ⟨p.1,List.mem_range.mpr d,List.mem_map.mpr ⟨p.2,List.mem_filter.mpr ⟨List.mem_range.mpr c,h3⟩,rfl⟩⟩
end
section
variable {P:Program} {w:R0} {mg:Str->Option Value} {base:Heap}
def near (i:Int):Prop:=-1000000000<=i/\i<=1000000000
inductive DeedOk:Str->Str->Dt->Prop
 | regR:DeedOk "register" "read" .non
 | regW {i:Int}:near i->DeedOk "register" "write" (.int i)
 | cntR:DeedOk "counter" "read" .non
 | cntA {i:Int}:near i->DeedOk "counter" "add" (.int i)
 | quP {i:Int}:near i->DeedOk "queue" "put" (.int i)
 | quT:DeedOk "queue" "take" .non
 | setP {i:Int}:near i->DeedOk "set" "put" (.int i)
 | setC {i:Int}:near i->DeedOk "set" "cut" (.int i)
 | setH {i:Int}:near i->DeedOk "set" "has" (.int i)
 | celR:DeedOk "cell" "read" .non
 | celW {i:Int}:near i->DeedOk "cell" "write" (.int i)
 | celS {i j:Int}:near i->near j->DeedOk "cell" "swap" (.tup [.int i,.int j])
def kinds5:List Str:=["register","counter","queue","set","cell"]
noncomputable def verbsT (k:Str):List Str:=if k = "register" then ["write","read"] else if k = "counter" then ["add","read"] else if k = "queue" then ["put","take"] else if k = "set" then ["put","cut","has"] else ["read","write","swap","swap"]
def VerbOk (k v:Str):Prop:=((v = "read"\/v = "take")/\DeedOk k v .non)\/(v = "swap"/\∀i j,near i->near j->DeedOk k v (.tup [.int i,.int j]))\/(v≠"read"/\v≠"take"/\v≠"swap"/\∀i,near i->DeedOk k v (.int i))
theorem zlw {k v:Str} (hk:k∈kinds5) (hv:v∈verbsT k):VerbOk k v:=by
 unfold kinds5 at hk;simp only [B1,j0,or_false] at hk;rcases hk with rfl|rfl|rfl|rfl|rfl
 ·rw [show verbsT "register" = (["write","read"]:List Str) by decide +kernel] at hv;simp only [B1,j0,or_false] at hv;rcases hv with rfl|rfl
  ·exact .inr (.inr ⟨by decide +kernel,by decide +kernel,by decide +kernel,λ i h=>.regW h⟩)
  ·exact .inl ⟨.inl rfl,.regR⟩
 ·rw [show verbsT "counter" = (["add","read"]:List Str) by decide +kernel] at hv;simp only [B1,j0,or_false] at hv;rcases hv with rfl|rfl
  ·exact .inr (.inr ⟨by decide +kernel,by decide +kernel,by decide +kernel,λ i h=>.cntA h⟩)
  ·exact .inl ⟨.inl rfl,.cntR⟩
 ·rw [show verbsT "queue" = (["put","take"]:List Str) by decide +kernel] at hv;simp only [B1,j0,or_false] at hv;rcases hv with rfl|rfl
  ·exact .inr (.inr ⟨by decide +kernel,by decide +kernel,by decide +kernel,λ i h=>.quP h⟩)
  ·exact .inl ⟨.inr rfl,.quT⟩
 ·rw [show verbsT "set" = (["put","cut","has"]:List Str) by decide +kernel] at hv;simp only [B1,j0,or_false] at hv;rcases hv with rfl|rfl|rfl
  ·exact .inr (.inr ⟨by decide +kernel,by decide +kernel,by decide +kernel,λ i h=>.setP h⟩)
  ·exact .inr (.inr ⟨by decide +kernel,by decide +kernel,by decide +kernel,λ i h=>.setC h⟩)
  ·exact .inr (.inr ⟨by decide +kernel,by decide +kernel,by decide +kernel,λ i h=>.setH h⟩)
 ·rw [show verbsT "cell" = (["read","write","swap","swap"]:List Str) by decide +kernel] at hv;simp only [B1,j0,or_false] at hv;rcases hv with rfl|rfl|rfl|rfl
  ·exact .inl ⟨.inl rfl,.celR⟩
  ·exact .inr (.inr ⟨by decide +kernel,by decide +kernel,by decide +kernel,λ i h=>.celW h⟩)
  ·exact .inr (.inl ⟨rfl,λ i j b a=>.celS b a⟩)
  ·exact .inr (.inl ⟨rfl,λ i j b a=>.celS b a⟩)
theorem zna (z:Str) (ws:List Str):inV (.str z) (ws.map V.str)=decide (z∈ws):=by
 unfold inV;rw [j3d,Bool.eq_iff_iff,X7,decide_eq_true_eq];constructor
 ·rintro ⟨x,hx,e⟩;have e:x=z:=eq_of_beq (show (x == z)=true from e);rw [<-e];exact hx
 ·exact λ h=>⟨z,h,(show (z == z)=true from beq_self_eq_true z)⟩
theorem zcf {L:List Addr} {H H':Hp} (k:KeptL L H H') (n :∀l∈L,H l=none):Same H H':=λ b o e=>k b o (λ z=>by rw [n b z] at e;cases e) e
structure WordsAt (H:Hp) (p:Addr) (n:Nat) (f:Str->Option (List Str)):Prop where
 ex :∃kvs:zK,H p=some (.dK kvs)/\kvs.length<=n/\∀k ws,f k=some ws->∃l,valV kvs (.inr k)=some (.ref l)/\H l=some (.lst (ws.map V.str))
theorem z99 (kvs:zK) (k:Key) (v:V):(putK kvs k v).length<=kvs.length + 1:=by
 unfold putK;split
 ·rw [o0];exact F3 _
 ·rw [D0];exact t0 _
theorem WordsAt.put {H:Hp} {p l:Addr} {n:Nat} {f:Str->Option (List Str)} {kvs:zK} {k:Str} {ws:List Str} (hl:H l=none) (e:H p=some (.dK kvs)) (hn:kvs.length<=n) (h :∀k ws,f k=some ws->∃l,valV kvs (.inr k)=some (.ref l)/\H l=some (.lst (ws.map V.str))) :
  ∃H',H'=upd (upd H l (.lst (ws.map V.str))) p (.dK (putK kvs (.inr k) (.ref l)))/\WordsAt H' p (n + 1) (λ j=>if j=k then some ws else f j)/\KeptL [p] H H':=by
 have q:p≠l:=z07 e hl;refine ⟨_,rfl,⟨_,upd_same,A0 (z99 _ _ _) (C6 hn),λ j i a=>?_⟩,λ b o r d=>?_⟩
 ·by_cases z:j=k
  ·subst z;rw [if_pos rfl] at a;cases a;refine ⟨l,by rw [z32,if_pos rfl],?_⟩;rw [upd_ne q.symm];exact upd_same
  ·rw [if_neg z] at a;obtain ⟨m,t,c⟩:=h j i a;refine ⟨m,by rw [z32,if_neg (λ y=>z (u8 y))];exact t,?_⟩;have g:m≠p:=λ y=>by rw [y,e] at c;cases c
   rw [upd_ne g,upd_ne (z07 c hl)];exact c
 ·have s:b≠p:=λ z=>r (by rw [z];exact List.mem_singleton.mpr rfl);rw [upd_ne s,upd_ne (z07 d hl)];exact d
theorem words3 {H:Hp} {p l1 l2 l3:Addr} {k1 k2 k3:Str} {w1 w2 w3:List Str} (hp:H p=none) (h1:upd H p (.dK []) l1=none) (h2:upd (upd H p (.dK [])) l1 (.lst (w1.map V.str)) l2=none)
  (h3:upd (upd (upd H p (.dK [])) l1 (.lst (w1.map V.str))) l2 (.lst (w2.map V.str)) l3=none) (n12:k1≠k2) (n13:k1≠k3) (n23:k2≠k3) :
  upd (upd (upd (upd H p (.dK [])) l1 (.lst (w1.map V.str))) l2 (.lst (w2.map V.str))) l3 (.lst (w3.map V.str)) p=some (.dK [])/\
  ∃H',H'=upd (upd (upd (upd (upd H p (.dK [])) l1 (.lst (w1.map V.str))) l2 (.lst (w2.map V.str))) l3 (.lst (w3.map V.str))) p (.dK [(.inr k1,.ref l1),(.inr k2,.ref l2),(.inr k3,.ref l3)])/\Same H H'/\
   H' p=some (.dK [(.inr k1,.ref l1),(.inr k2,.ref l2),(.inr k3,.ref l3)])/\∀k ws,(if k=k1 then some w1 else if k=k2 then some w2 else if k=k3 then some w3 else none)=some ws->∃l,valV [((.inr k1:Key),V.ref l1),(.inr k2,.ref l2),(.inr k3,.ref l3)] (.inr k)=some (.ref l)/\H' l=some (.lst (ws.map V.str)):=by
 have c:p≠l1:=z07 upd_same h1;have d:p≠l2:=z07 (by rw [upd_ne c];exact upd_same) h2;have f:p≠l3:=z07 (by rw [upd_ne d,upd_ne c];exact upd_same) h3;have g:l1≠l2:=z07 upd_same h2;have i:l1≠l3:=z07 (by rw [upd_ne g];exact upd_same) h3;have j:l2≠l3:=z07 upd_same h3;refine ⟨by rw [upd_ne f,upd_ne d,upd_ne c];exact upd_same,_,rfl,λ b o e=>?_,upd_same,λ k ws e=>?_⟩
 ·rw [upd_ne (z07 e hp)];exact ((((Same.upd hp).trans (Same.upd h1)).trans (Same.upd h2)).trans (Same.upd h3)) b o e
 ·have ne :∀{a b:Str},a≠b->(Sum.inr a:Key)≠Sum.inr b:=λ h e=>h (u8 e);by_cases z1:k=k1
  ·rw [if_pos z1] at e;cases e;exact ⟨l1,by rw [z1];exact z0q rfl,by rw [upd_ne c.symm,upd_ne i,upd_ne g];exact upd_same⟩
  ·rw [if_neg z1] at e;by_cases z2:k=k2
   ·rw [if_pos z2] at e;cases e;exact ⟨l2,by rw [z2,z0p (ne n12)];exact z0q rfl,by rw [upd_ne d.symm,upd_ne j];exact upd_same⟩
   ·rw [if_neg z2] at e;by_cases z3:k=k3
    ·rw [if_pos z3] at e;cases e;exact ⟨l3,by rw [z3,z0p (ne n13),z0p (ne n23)];exact z0q rfl,by rw [upd_ne f.symm];exact upd_same⟩
    ·rw [if_neg z3] at e;cases e
def WorthIn (H:Hp) (d:Dt) (x:V):Prop:=∀a b:Int,d=.tup [.int a,.int b]->∃t,x=.ref t/\H t=some (.tup [.int a,.int b])
theorem e9:(10:Int) ^ (9:Int).toNat=1000000000:=by decide
theorem p9:CPow 10 9:=⟨by decide,by decide,by decide⟩
end
section
inductive Sv
 | num (i:Int)
 | row (ns:List Int)
def rowK (k:Str):Prop:=k = "queue"\/k = "set"
instance (k:Str):Decidable (rowK k):=by unfold rowK;infer_instance
noncomputable def opOf (k v:Str):Nat:=if k = "queue" then (if v = "put" then 0 else 1) else if k = "set" then (if v = "put" then 2 else if v = "cut" then 3 else 4) else if v = "read" then 5 else if v = "add" then 6 else if v = "write" then 7 else 8
def dI:Dt->Int
 | .int i=>i
 | _=>0
def srtI (ns:List Int):List Int:=ns.mergeSort λ a b=>decide (a<=b)
noncomputable def dzo:Nat->Dt->Sv->Sv×V
 | 0,d,.row ns=>(.row (ns++[dI d]),.str "ok")
 | 1,_,.row []=>(.row [],.str "none")
 | 1,_,.row (m :: r)=>(.row r,.int m)
 | 2,d,.row ns=>if dI d∈ns then (.row ns,.int 0) else (.row (srtI (ns++[dI d])),.int 1)
 | 3,d,.row ns=>(.row (ns.filter λ j=>!decide (j=dI d)),.int (if dI d∈ns then 1 else 0))
 | 4,d,.row ns=>(.row ns,.int (if dI d∈ns then 1 else 0))
 | 5,_,.num i=>(.num i,.int i)
 | 6,d,.num i=>(.num (i + dI d),.int i)
 | 7,d,.num _=>(.num (dI d),.str "ok")
 | 8,.tup [.int a,.int b],.num i=>if i=a then (.num b,.int 1) else (.num i,.int 0)
 | _,_,s=>(s,.non)
noncomputable def dz (k v:Str) (d:Dt) (s:Sv):Sv×V:=dzo (opOf k v) d s
theorem dz_at {k v:Str} {d:Dt} {s:Sv} {n:Nat} (h:opOf k v=n):dz k v d s=dzo n d s:=by unfold dz;rw [h]
theorem dz_quP {i:Int} {ns:List Int}:dz "queue" "put" (.int i) (.row ns)=(.row (ns++[i]),.str "ok"):=dz_at (n:=0) (by decide +kernel)
theorem zfv {d:Dt}:dz "queue" "take" d (.row [])=(.row [],.str "none"):=dz_at (n:=1) (by decide +kernel)
theorem dz_quT {d:Dt} {m:Int} {r:List Int}:dz "queue" "take" d (.row (m :: r))=(.row r,.int m):=dz_at (n:=1) (by decide +kernel)
theorem ze4 {i:Int} {ns:List Int}:dz "set" "put" (.int i) (.row ns)=if i∈ns then (.row ns,.int 0) else (.row (srtI (ns++[i])),.int 1):=dz_at (n:=2) (by decide +kernel)
theorem zhk {i:Int} {ns:List Int}:dz "set" "cut" (.int i) (.row ns)=(.row (ns.filter λ j=>!decide (j=i)),.int (if i∈ns then 1 else 0)):=dz_at (n:=3) (by decide +kernel)
theorem zfb {i:Int} {ns:List Int}:dz "set" "has" (.int i) (.row ns)=(.row ns,.int (if i∈ns then 1 else 0)):=dz_at (n:=4) (by decide +kernel)
theorem zh0 {d:Dt} {i:Int}:dz "register" "read" d (.num i)=(.num i,.int i):=dz_at (n:=5) (by decide +kernel)
theorem zhx {d:Dt} {i:Int}:dz "counter" "read" d (.num i)=(.num i,.int i):=dz_at (n:=5) (by decide +kernel)
theorem zge {d:Dt} {i:Int}:dz "cell" "read" d (.num i)=(.num i,.int i):=dz_at (n:=5) (by decide +kernel)
theorem zhz {i j:Int}:dz "counter" "add" (.int j) (.num i)=(.num (i + j),.int i):=dz_at (n:=6) (by decide +kernel)
theorem zg8 {i j:Int}:dz "register" "write" (.int j) (.num i)=(.num j,.str "ok"):=dz_at (n:=7) (by decide +kernel)
theorem zhn {i j:Int}:dz "cell" "write" (.int j) (.num i)=(.num j,.str "ok"):=dz_at (n:=7) (by decide +kernel)
theorem zcz {i a b:Int}:dz "cell" "swap" (.tup [.int a,.int b]) (.num i)=if i=a then (.num b,.int 1) else (.num i,.int 0):=dz_at (n:=8) (by decide +kernel)
theorem z9l (ns:List Int):(srtI ns).Perm ns:=List.mergeSort_perm ns _
theorem z5c (ns:List Int):(srtI ns).Pairwise (·<=·):=by have:=j36 (le:=λ a b:Int=>decide (a<=b)) (λ a b c e d=>decide_eq_true (Int.le_trans (of_decide_eq_true e) (of_decide_eq_true d))) (λ a b=>by rcases Int.le_total a b with h|h<;>simp [h]) ns;exact this.imp λ h=>of_decide_eq_true h
theorem zdr {xs ys:List Int} (p:xs.Perm ys) (hx:xs.Pairwise (·<=·)) (hy:ys.Pairwise (·<=·)):xs=ys:=p.eq_of_pairwise (le:=(·<=·)) (λ _ _ _ _ b a=>j19 b a) hx hy
theorem zly {ns:List Int} (h:ns.Pairwise (· < ·)):ns.Nodup:=h.imp λ z e=>by omega
noncomputable def SvOk (n:Nat) (k:Str):Sv->Prop
 | .row ns=>rowK k/\ns.length<=n/\(∀i∈ns,near i)/\(k = "set"->ns.Pairwise (· < ·))
 | .num i=>¬ rowK k/\-(1000000000 * (n:Int))<=i/\i<=1000000000 * (n:Int)
def AnsV (a:V):Prop:=a=.str "ok"\/a=.str "none"\/∃i:Int,a=.int i/\-100000000000<=i/\i<=100000000000
theorem SvOk.le {n m:Nat} {k:Str} :∀{s:Sv},n<=m->SvOk n k s->SvOk m k s
 | .row _,l,h=>⟨h.1,A0 h.2.1 l,h.2.2⟩
 | .num _,l,h=>⟨h.1,by have:=h.2.1;omega,by have:=h.2.2;omega⟩
theorem SvOk.isRow {n:Nat} {k:Str} :∀{s:Sv},SvOk n k s->rowK k->∃ns,s=.row ns/\ns.length<=n/\(∀i∈ns,near i)/\(k = "set"->ns.Pairwise (· < ·))
 | .row ns,h,_=>⟨ns,rfl,h.2⟩
 | .num _,h,hk=>absurd hk h.1
theorem SvOk.isNum {n:Nat} {k:Str} :∀{s:Sv},SvOk n k s->¬ rowK k->∃i,s=.num i/\-(1000000000 * (n:Int))<=i/\i<=1000000000 * (n:Int)
 | .row _,h,hk=>absurd h.1 hk
 | .num i,h,_=>⟨i,rfl,h.2⟩
theorem SvOk.row {n:Nat} {k:Str} {ns:List Int} (h1:rowK k) (h2:ns.length<=n) (h3 :∀i∈ns,near i) (h4:k = "set"->ns.Pairwise (· < ·)):SvOk n k (.row ns):=⟨h1,h2,h3,h4⟩
theorem SvOk.num {n:Nat} {k:Str} {i:Int} (h1:¬ rowK k) (h2:-(1000000000 * (n:Int))<=i) (h3:i<=1000000000 * (n:Int)):SvOk n k (.num i):=⟨h1,h2,h3⟩
theorem z34 {i:Int} (h0:-100000000000<=i) (h1:i<=100000000000):AnsV (.int i):=.inr (.inr ⟨i,rfl,h0,h1⟩)
theorem ans_b {p:Prop} [Decidable p]:AnsV (.int (if p then 1 else 0)):=by
 by_cases h:p
 ·rw [if_pos h];exact z34 (by decide) (by decide)
 ·rw [if_neg h];exact z34 (by decide) (by decide)
theorem dz_ok {n:Nat} {k v:Str} {d:Dt} {s:Sv} (hd:DeedOk k v d) (h:SvOk n k s) (hn:n < 63):SvOk (n + 1) k (dz k v d s).1/\AnsV (dz k v d s).2:=by
 have t:rowK "queue":=.inl rfl;have q:rowK "set":=.inr rfl;have A:("queue" : Str)≠"set":=by decide +kernel
 have w:¬ rowK "register":=by decide +kernel
 have u:¬ rowK "counter":=by decide +kernel
 have p:¬ rowK "cell":=by decide +kernel
 cases hd with
 | quP ni=>
  obtain ⟨l,rfl,f,c,o⟩:=h.isRow t;rw [dz_quP];refine ⟨.row t (by rw [D0];exact C6 f) (λ j g=>?_) λ z=>absurd z A,.inl rfl⟩;rcases List.mem_append.mp g with y|y
  ·exact c j y
  ·rw [List.mem_singleton.mp y];exact ni
 | quT=>
  obtain ⟨l,rfl,f,c,o⟩:=h.isRow t;cases l with
  | nil=>rw [zfv];exact ⟨.row t (Q1 _) (λ j g=>by cases g) (λ z=>absurd z A),.inr (.inl rfl)⟩
  | cons m r=>rw [dz_quT];rw [P0] at f;have B:=c m L0;exact ⟨.row t (by omega) (λ j g=>c j (V0 _ g)) (λ z=>absurd z A),z34 (by have:=B.1;omega) (by have:=B.2;omega)⟩
 | setP ni=>
  rename_i i;obtain ⟨l,rfl,f,c,o⟩:=h.isRow q;rw [ze4];by_cases z:i∈l
  ·rw [if_pos z];exact ⟨.row q (A5 f) c o,z34 (by decide) (by decide)⟩
  ·rw [if_neg z];have x:=z9l (l++[i]);refine ⟨.row q (by rw [x.length_eq,D0];exact C6 f) (λ j g=>?_) (λ _=>?_),z34 (by decide) (by decide)⟩
   ·rcases List.mem_append.mp (x.mem_iff.mp g) with y|y
    ·exact c j y
    ·rw [List.mem_singleton.mp y];exact ni
   ·have E:(srtI (l++[i])).Nodup:=x.nodup_iff.mpr (by rw [E3];exact ⟨zly (o rfl),by simp,λ a D b C e=>z (by rw [<-List.mem_singleton.mp C,<-e];exact D)⟩);exact ((z5c (l++[i])).and E).imp λ h=>by have:=h.1;have:=h.2;omega
 | setC ni=>obtain ⟨l,rfl,f,c,o⟩:=h.isRow q;rw [zhk];exact ⟨.row q (A0 (K2 _ _) (A5 f)) (λ j g=>c j (List.mem_filter.mp g).1) (λ z=>(o z).filter _),ans_b⟩
 | setH ni=>obtain ⟨l,rfl,f,c,o⟩:=h.isRow q;rw [zfb];exact ⟨.row q (A5 f) c o,ans_b⟩
 | regR=>obtain ⟨a,rfl,f,c⟩:=h.isNum w;rw [zh0];exact ⟨.num w (by omega) (by omega),z34 (by omega) (by omega)⟩
 | cntR=>obtain ⟨a,rfl,f,c⟩:=h.isNum u;rw [zhx];exact ⟨.num u (by omega) (by omega),z34 (by omega) (by omega)⟩
 | celR=>obtain ⟨a,rfl,f,c⟩:=h.isNum p;rw [zge];exact ⟨.num p (by omega) (by omega),z34 (by omega) (by omega)⟩
 | cntA ni=>obtain ⟨a,rfl,f,c⟩:=h.isNum u;rw [zhz];have:=ni.1;have:=ni.2;exact ⟨.num u (by omega) (by omega),z34 (by omega) (by omega)⟩
 | regW ni=>obtain ⟨a,rfl,f,c⟩:=h.isNum w;rw [zg8];have:=ni.1;have:=ni.2;exact ⟨.num w (by omega) (by omega),.inl rfl⟩
 | celW ni=>obtain ⟨a,rfl,f,c⟩:=h.isNum p;rw [zhn];have:=ni.1;have:=ni.2;exact ⟨.num p (by omega) (by omega),.inl rfl⟩
 | celS ni nj=>
  rename_i i j;obtain ⟨a,rfl,f,c⟩:=h.isNum p;rw [zcz];have:=nj.1;have:=nj.2;by_cases z:a=i
  ·rw [if_pos z];exact ⟨.num p (by omega) (by omega),z34 (by decide) (by decide)⟩
  ·rw [if_neg z];exact ⟨.num p (by omega) (by omega),z34 (by decide) (by decide)⟩
def StZ (K:b0) (H:Hp):Sv->V->Prop
 | .row ns,v=>∃p,v=.ref p/\SqT K H p (ns.map V.int)
 | .num i,v=>v=.int i
theorem StZ.tups {K:b0} {H H':Hp} (t:Tups K H H') :∀{s:Sv} {v:V},StZ K H s v->StZ K H' s v
 | .row _,_,h=>h.elim λ p z=>⟨p,z.1,t _ _ z.2⟩
 | .num _,_,h=>h
def zeroK (k:Str):Sv:=if rowK k then .row [] else .num 0
theorem zha (k:Str):SvOk 0 k (zeroK k):=by
 unfold zeroK;by_cases h:rowK k
 ·rw [if_pos h];exact .row h (t0 _) (λ i a=>by cases a) (λ _=>.nil)
 ·rw [if_neg h];exact .num h (by omega) (by omega)
end
section
variable {P:Program} {w:R0} {mg:Str->Option Value} {base:Heap}
structure Tt (K:b0) (H H':Hp):Prop where
 t:Tups K H H'
 l :∀a xs,H a=some (.tup xs)->H' a=some (.tup xs)
theorem Tt.of {K:b0} {H H':Hp} (s:Same H H'):Tt K H H':=⟨.of s,λ _ _ h=>s _ _ h⟩
theorem Tt.trans {K:b0} {H H1 H2:Hp} (a:Tt K H H1) (b:Tt K H1 H2):Tt K H H2:=⟨a.t.trans b.t,λ _ _ h=>b.l _ _ (a.l _ _ h)⟩
def MutAt (H:Hp) (l:Addr):Prop:=(∃zs,H l=some (.lst zs))\/∃kvs:zK,H l=some (.dK kvs)
theorem KeptL.tt {K:b0} {L:List Addr} {H H':Hp} (k:KeptL L H H') (m :∀l∈L,MutAt H l):Tt K H H':=by
 refine ⟨λ a b h=>?_,λ a b h=>k _ _ (λ z=>?_) h⟩
 ·rcases h with (h|⟨ob,h⟩)|h
  ·exact .inl (.inl (k _ _ (λ z=>by rcases m a z with ⟨_,e⟩|⟨_,e⟩<;>(rw [h] at e;cases e)) h))
  ·exact .inl (.inr ⟨ob,k _ _ (λ z=>by rcases m a z with ⟨_,e⟩|⟨_,e⟩<;>(rw [h] at e;cases e)) h⟩)
  ·exact .inr h
 ·rcases m a z with ⟨_,e⟩|⟨_,e⟩<;>(rw [h] at e;cases e)
def ThAt (H:Hp) (p:Addr) (ts:zT):Prop:=∃ys,H p=some (.tup ys)/\All2 (λ (t:Str×Str) y=>∃b,y=.ref b/\H b=some (.tup [.str t.1,.str t.2])) ts ys
structure ThOk (ts:zT):Prop where
 n0:0 < ts.length
 n6:ts.length<=6
 nd:(ts.map (·.1)).Nodup
 ks :∀t∈ts,t.2∈kinds5
theorem ThAt.tt {K:b0} {H H':Hp} {p:Addr} {ts:zT} (t:Tt K H H') (h:ThAt H p ts):ThAt H' p ts:=h.elim λ a z=>⟨a,t.l _ _ z.1,z01 (λ _ _ y=>y.elim λ b x=>⟨b,x.1,t.l _ _ x.2⟩) z.2⟩
def kindR (K:b0) (x y:V) (H:Hp):Prop:=∃(n k:Str) (b:Addr),x=.str n/\y=.ref b/\k∈kinds5/\H b=some (.tup [.str n,.str k])
theorem z8c {K:b0} {H:Hp} :∀{ks:List Str} {ys:List V},All2 (λ x y=>kindR K x y H) (ks.map V.str) ys->∃ts:zT,ts.map (·.1)=ks/\(∀t∈ts,t.2∈kinds5)/\All2 (λ (t:Str×Str) y=>∃b,y=.ref b/\H b=some (.tup [.str t.1,.str t.2])) ts ys
 | [],_,h=>by cases h;exact ⟨[],rfl,λ _ z=>absurd z j0,.nil⟩
 | n :: ks,_,h=>by
  cases h with
  | cons a r=>
   obtain ⟨ts,e,g,f⟩:=z8c r;obtain ⟨m,k,b,l,i,d,j⟩:=a;cases l;refine ⟨(n,k) :: ts,by rw [X0,e],λ t c=>?_,.cons ⟨b,i,j⟩ f⟩;rcases List.mem_cons.mp c with z|z
   ·rw [z];exact d
   ·exact g t z
theorem WorthIn.tt {K:b0} {H H':Hp} {d:Dt} {x:V} (t:Tt K H H') (h:WorthIn H d x):WorthIn H' d x:=λ a b e=>(h a b e).elim λ p z=>⟨p,z.1,t.l _ _ z.2⟩
theorem do_can {H:Hp} {k v:Str} {st x:V} {d:Dt} {n:Nat} {sv:Sv} {Q:VK} {E:XK} (so:SvOk n k sv) (sz:StZ (kx w) H sv st) (hn:n < 63) (hd:DeedOk k v d) (hx:IsDt (kx w) H d x) (wi:WorthIn H d x)
  (q :∀p st' H',Same H H'->H' p=some (.tup [st',(dz k v d sv).2])->StZ (kx w) H' (dz k v d sv).1 st'->Q (.ref p) H'):sp_do (kx w) [.str k,st,.str v,x] H Q E:=by
 have C :∀i:Int,Flat H (.int i):=λ i M e=>by cases e
 have D:Flat H .non:=λ M e=>by cases e
 have s :∀i:Int,near i->z11 (.int i) 1000000000=true:=λ i h=>by unfold z11;dsimp only;rw [decide_eq_true h.1,decide_eq_true h.2];rfl
 have K:rowK "queue":=.inl rfl;have G:rowK "set":=.inr rfl;cases hd with
 | quP ni=>rename_i i;obtain ⟨o,rfl,F,_,_⟩:=so.isRow K;obtain ⟨t,rfl,l⟩:=sz;cases (show x=V.int i from hx);rw [dz_quP] at q;refine ⟨_,_,_,_,_,_,_,rfl,rfl,C i,(deedB1 (by decide +kernel)).trans (s i ni),by decide +kernel,.inr (.inr (.inr (.inl ⟨rfl,rfl⟩))),λ H' b=>⟨t,_,_,rfl,b.seqT l,by rw [o0];omega,λ p B A c f u=>q p _ _ (b.trans c) f ⟨B,rfl,?_⟩⟩⟩;rw [show (o++[i]).map V.int=o.map V.int++[V.int i] by rw [E1];rfl];exact u
 | quT=>
  obtain ⟨o,rfl,F,_,_⟩:=so.isRow K;obtain ⟨t,rfl,l⟩:=sz;cases (show x=V.non from hx);refine ⟨_,_,_,_,_,_,_,rfl,rfl,D,(deedB0 (by decide +kernel)).trans rfl,by decide +kernel,.inr (.inr (.inr (.inr (.inl ⟨rfl,rfl⟩)))),λ H' b=>⟨t,o.map V.int,_,rfl,b.seqT l,λ e p A c f=>?_,λ m r e p B A c f u=>?_⟩⟩
  ·cases o with
   | nil=>rw [zfv] at q;exact q p _ _ (b.trans c) f ⟨t,rfl,(b.trans c).seqT l⟩
   | cons m r=>cases e
  ·cases o with
   | nil=>cases e
   | cons m' r'=>rw [dz_quT] at q;rw [X0] at e;injection e with e1 e3;subst e1 e3;exact q p _ _ (b.trans c) f ⟨B,rfl,u⟩
 | setP ni=>
  rename_i i;obtain ⟨o,rfl,F,_,I⟩:=so.isRow G;obtain ⟨t,rfl,l⟩:=sz;cases (show x=V.int i from hx);rw [ze4] at q;refine ⟨_,_,_,_,_,_,_,rfl,rfl,C i,(deedB1 (by decide +kernel)).trans (s i ni),by decide +kernel,.inr (.inr (.inr (.inr (.inr (.inl ⟨rfl,rfl⟩))))),λ H' b=>⟨t,o,_,rfl,b.seqT l,by omega,λ z p A c f=>?_,λ z p B R A c f u O P=>?_⟩⟩
  ·rw [if_pos z] at q;exact q p _ _ (b.trans c) f ⟨t,rfl,(b.trans c).seqT l⟩
  ·rw [if_neg z] at q;rw [zdr (O.trans (z9l _).symm) P (z5c _)] at u;exact q p _ _ (b.trans c) f ⟨B,rfl,u⟩
 | setC ni=>
  rename_i i;obtain ⟨o,rfl,F,_,I⟩:=so.isRow G;obtain ⟨t,rfl,l⟩:=sz;cases (show x=V.int i from hx);rw [zhk] at q;refine ⟨_,_,_,_,_,_,_,rfl,rfl,C i,(deedB1 (by decide +kernel)).trans (s i ni),by decide +kernel,.inr (.inr (.inr (.inr (.inr (.inr (.inl ⟨rfl,rfl⟩)))))),λ H' b=>⟨t,o,_,rfl,b.seqT l,by omega,λ z p A c f=>?_,λ z p B A c f u=>?_⟩⟩
  ·rw [if_neg z,List.filter_eq_self.mpr (λ j N=>by simp;exact λ e=>z (e ▸ N))] at q;exact q p _ _ (b.trans c) f ⟨t,rfl,(b.trans c).seqT l⟩
  ·rw [if_pos z] at q;exact q p _ _ (b.trans c) f ⟨B,rfl,u⟩
 | setH ni=>rename_i i;obtain ⟨o,rfl,F,_,I⟩:=so.isRow G;obtain ⟨t,rfl,l⟩:=sz;cases (show x=V.int i from hx);rw [zfb] at q;exact ⟨_,_,_,_,_,_,_,rfl,rfl,C i,(deedB1 (by decide +kernel)).trans (s i ni),by decide +kernel,.inr (.inr (.inr (.inr (.inr (.inr (.inr (.inl ⟨rfl,rfl⟩))))))),λ H' b=>⟨t,o,_,rfl,b.seqT l,λ p A c f=>q p _ _ (b.trans c) f ⟨t,rfl,(b.trans c).seqT l⟩⟩⟩
 | regR=>obtain ⟨a,rfl,_⟩:=so.isNum (by decide +kernel);cases (show st=V.int a from sz);cases (show x=V.non from hx);rw [zh0] at q;exact ⟨_,_,_,_,_,_,_,rfl,rfl,D,(deedB0 (by decide +kernel)).trans rfl,by decide +kernel,.inl ⟨rfl,rfl⟩,λ H' b=>⟨_,_,rfl,λ p g=>q p _ _ (b.trans (Same.upd g)) upd_same rfl⟩⟩
 | cntR=>obtain ⟨a,rfl,_⟩:=so.isNum (by decide +kernel);cases (show st=V.int a from sz);cases (show x=V.non from hx);rw [zhx] at q;exact ⟨_,_,_,_,_,_,_,rfl,rfl,D,(deedB0 (by decide +kernel)).trans rfl,by decide +kernel,.inl ⟨rfl,rfl⟩,λ H' b=>⟨_,_,rfl,λ p g=>q p _ _ (b.trans (Same.upd g)) upd_same rfl⟩⟩
 | celR=>obtain ⟨a,rfl,_⟩:=so.isNum (by decide +kernel);cases (show st=V.int a from sz);cases (show x=V.non from hx);rw [zge] at q;exact ⟨_,_,_,_,_,_,_,rfl,rfl,D,(deedB0 (by decide +kernel)).trans rfl,by decide +kernel,.inl ⟨rfl,rfl⟩,λ H' b=>⟨_,_,rfl,λ p g=>q p _ _ (b.trans (Same.upd g)) upd_same rfl⟩⟩
 | cntA ni=>rename_i i;obtain ⟨a,rfl,_⟩:=so.isNum (by decide +kernel);cases (show st=V.int a from sz);cases (show x=V.int i from hx);rw [zhz] at q;exact ⟨_,_,_,_,_,_,_,rfl,rfl,C i,(deedB1 (by decide +kernel)).trans (s i ni),by decide +kernel,.inr (.inr (.inl ⟨rfl,rfl⟩)),λ H' b=>⟨_,_,rfl,λ p g=>q p _ _ (b.trans (Same.upd g)) upd_same rfl⟩⟩
 | regW ni=>rename_i i;obtain ⟨a,rfl,_⟩:=so.isNum (by decide +kernel);cases (show st=V.int a from sz);cases (show x=V.int i from hx);rw [zg8] at q;exact ⟨_,_,_,_,_,_,_,rfl,rfl,C i,(deedB1 (by decide +kernel)).trans (s i ni),by decide +kernel,.inr (.inl ⟨rfl,rfl⟩),λ H' b=>⟨_,_,rfl,λ p g=>q p _ _ (b.trans (Same.upd g)) upd_same rfl⟩⟩
 | celW ni=>rename_i i;obtain ⟨a,rfl,_⟩:=so.isNum (by decide +kernel);cases (show st=V.int a from sz);cases (show x=V.int i from hx);rw [zhn] at q;exact ⟨_,_,_,_,_,_,_,rfl,rfl,C i,(deedB1 (by decide +kernel)).trans (s i ni),by decide +kernel,.inr (.inl ⟨rfl,rfl⟩),λ H' b=>⟨_,_,rfl,λ p g=>q p _ _ (b.trans (Same.upd g)) upd_same rfl⟩⟩
 | celS ni nj=>
  rename_i i j;obtain ⟨a,rfl,_⟩:=so.isNum (by decide +kernel);cases (show st=V.int a from sz);obtain ⟨t,rfl,e⟩:=wi i j rfl;have J:tupOf H (.ref t)=some [.int i,.int j]:=by unfold tupOf;dsimp only;rw [e]
  rw [zcz] at q;refine ⟨_,_,_,_,_,_,"tuple",rfl,.inr (.inl ⟨⟨_,e⟩,rfl⟩),λ M z=>?_,?_,by decide +kernel,.inr (.inr (.inr (.inr (.inr (.inr (.inr (.inr ⟨rfl,rfl⟩))))))),λ H' b=>⟨a,i,j,t,rfl,SqT.of (b _ _ e),λ p g=>?_⟩⟩
  ·rw [J] at z;cases z;exact ⟨(show (2:Nat)<=1000 by decide),λ y L=>⟨"int",by simp only [B1,j0,or_false] at L;rcases L with rfl|rfl<;>rfl⟩⟩
  ·rw [deedB2 (by decide +kernel) J];show (true && (z11 (.int i) 1000000000 && (z11 (.int j) 1000000000 && true)))=true;rw [s i ni,s j nj];rfl
  ·by_cases z:a=i
   ·rw [if_pos z] at q⊢;exact q p _ _ (b.trans (Same.upd g)) upd_same rfl
   ·rw [if_neg z] at q⊢;exact q p _ _ (b.trans (Same.upd g)) upd_same rfl
def IsA (a:V):Prop:=(∃i,a=.int i)\/∃z,a=.str z
theorem AnsV.isA {a:V} (h:AnsV a):IsA a:=by
 rcases h with rfl|rfl|⟨i,rfl,_⟩
 ·exact .inr ⟨_,rfl⟩
 ·exact .inr ⟨_,rfl⟩
 ·exact .inl ⟨_,rfl⟩
theorem IsA.scal {a b:V} (ha:IsA a\/a=.non) (hb:IsA b\/b=.non):L2.scal a b=true:=by rcases ha with (⟨i,rfl⟩|⟨i,rfl⟩)|rfl<;>rcases hb with (⟨j,rfl⟩|⟨j,rfl⟩)|rfl<;>rfl
noncomputable def EvGd (K:b0) (H:Hp) (ts:zT):Ev->Prop
 | .beg _ n v x=>∃(nm k vb:Str) (dt:Dt),n=.str nm/\v=.str vb/\(nm,k)∈ts/\DeedOk k vb dt/\IsDt K H dt x/\WorthIn H dt x
 | .fin _ a=>IsA a
theorem EvGd.tt {K:b0} {H H':Hp} {ts:zT} (t:Tt K H H') :∀{e:Ev},EvGd K H ts e->EvGd K H' ts e
 | .beg _ _ _ _,⟨nm,k,vb,dt,e1,e2,hm,dk,ix,wi⟩=>⟨nm,k,vb,dt,e1,e2,hm,dk,IsDt.mono' t.t dt _ ix,wi.tt t⟩
 | .fin _ _,h=>h
structure DD where
 nm:Str
 k:Str
 vb:Str
 dt:Dt
def RcGd (K:b0) (H:Hp) (ts:zT) (r:Rc) (p:DD):Prop:=r.n=.str p.nm/\r.v=.str p.vb/\(p.nm,p.k)∈ts/\DeedOk p.k p.vb p.dt/\IsDt K H p.dt r.x/\WorthIn H p.dt r.x/\((r.e=none/\r.a=.non)\/(r.e.isSome=true/\IsA r.a))
theorem RcGd.tt {K:b0} {H H':Hp} {ts:zT} {r:Rc} {p:DD} (t:Tt K H H') (h:RcGd K H ts r p):RcGd K H' ts r p:=⟨h.1,h.2.1,h.2.2.1,h.2.2.2.1,IsDt.mono' t.t _ _ h.2.2.2.2.1,h.2.2.2.2.2.1.tt t,h.2.2.2.2.2.2⟩
theorem zct {α β:Type} {R:α->β->Prop} {f:α->α} (hf :∀x y,R x y->R (f x) y) :∀{xs:List α} {ys:List β} (j:Nat),All2 R xs ys->All2 R (xs.modify j f) ys
 | _,_,j,.nil=>by cases j<;>exact .nil
 | _,_,0,.cons a r=>.cons (hf _ _ a) r
 | _,_,j + 1,.cons a r=>.cons a (zct hf j r)
theorem rc_gd {K:b0} {H:Hp} {ts:zT} :∀{es:List Ev} {i:Nat} {rs:List Rc} {ps:List DD},(∀e∈es,EvGd K H ts e)->All2 (RcGd K H ts) rs ps->∃ps',All2 (RcGd K H ts) (dAll i rs es) ps'
 | [],_,_,ps,_,h=>⟨ps,h⟩
 | e :: es,i,rs,ps,g,h=>by
  have b:=g e L0;have c :∀x∈es,EvGd K H ts x:=λ x r=>g x (V0 _ r);cases e with
  | beg hd n v x=>obtain ⟨f,k,q,o,s,t,d,m,p,l⟩:=b;exact rc_gd (es:=es) c (z1d (x:=(⟨hd,n,v,x,.non,i,none⟩:Rc)) (y:=(⟨f,k,q,o⟩:DD)) h ⟨s,t,d,m,p,l,.inl ⟨rfl,rfl⟩⟩)
  | fin hd a=>
   have b:IsA a:=b;show∃ps',All2 _ (dAll (i + 1) (dstep i rs (.fin hd a)) es) ps';unfold dstep;dsimp only;cases lastI hd (rs.map Rc.h) with
   | none=>exact rc_gd (es:=es) c h
   | some j=>exact rc_gd (es:=es) c (zct (λ x y z=>⟨z.1,z.2.1,z.2.2.1,z.2.2.2.1,z.2.2.2.2.1,z.2.2.2.2.2.1,.inr ⟨rfl,b⟩⟩) j h)
end
section
def nsV (ns:List Nat):List V:=ns.map λ (n:Nat)=>V.int (n:Int)
theorem z7z (ns:List Nat):(nsV ns).length=ns.length:=o0 ..
theorem inV_ns (i:Nat) (ns:List Nat):inV (.int (i:Nat)) (nsV ns)=decide (i∈ns):=by
 unfold inV nsV;rw [j3d,Bool.eq_iff_iff,X7,decide_eq_true_iff];constructor
 ·rintro ⟨n,hn,e⟩;have e:((n:Int))=i:=of_decide_eq_true e;rw [show i=n by omega];exact hn
 ·exact λ h=>⟨i,h,decide_eq_true rfl⟩
theorem z4y (ns:List Nat):(nsV ns).all flatV=true:=by unfold nsV;rw [List.all_map];exact List.all_eq_true.mpr λ _ _=>rfl
theorem zl2 {ns:List Nat} {us:List V} (h:All2 (λ (a:Nat) y=>y=V.int (a:Nat)) ns us):us=nsV ns:=by
 induction h with
 | nil=>rfl
 | cons a r ih=>subst a;rw [ih];rfl
def srtN (ns:List Nat):List Nat:=ns.mergeSort λ a b=>decide (a<=b)
theorem z9i (ns:List Nat):(srtN ns).Perm ns:=List.mergeSort_perm ns _
theorem zet (ns:List Nat):(srtN ns).Pairwise (·<=·):=by have:=j36 (le:=λ a b:Nat=>decide (a<=b)) (λ a b c e d=>decide_eq_true (A0 (of_decide_eq_true e) (of_decide_eq_true d))) (λ a b=>by rcases Nat.le_total a b with h|h<;>simp [h]) ns;exact this.imp λ h=>of_decide_eq_true h
theorem zk0 {ns':List Int} {xs:List Nat} (p:ns'.Perm (xs.map λ (n:Nat)=>(n:Int))) (s:ns'.Pairwise (·<=·)):ns'.map V.int=nsV (srtN xs):=by
 have e:ns'=(srtN xs).map λ (n:Nat)=>(n:Int):=by refine (p.trans ((z9i xs).symm.map _)).eq_of_pairwise (le:=(·<=·)) (λ _ _ _ _ d c=>j19 d c) s ?_;exact List.Pairwise.map _ (λ a b h=>Int.ofNat_le.mpr h) (zet xs)
 rw [e];unfold nsV;rw [S2];rfl
theorem idx_eq :∀{l:List Str} {x:Str} {i:Nat},l.Nodup->l[i]? = some x->l.idxOf x=i
 | [],_,_,_,h=>by cases h
 | y :: l,x,i,nd,h=>by
  rw [O5] at nd;rw [List.idxOf_cons];cases i with
  | zero=>rw [Z1] at h;cases h;rw [beq_self_eq_true];rfl
  | succ i=>rw [S1] at h;have:¬ y=x:=λ z=>nd.1 (z ▸ G0 h);rw [beq_eq_false_iff_ne.mpr this];show l.idxOf x + 1=_;rw [idx_eq nd.2 h]
abbrev Pl:=List Nat×List Sv
abbrev Stp:=Nat×V×Pl
def ixT (ts:zT) (nm:Str):Nat:=(ts.map (·.1)).idxOf nm
noncomputable def stp (ts:zT) (r:Rc) (p:DD) (n:Nat) (pl:Pl):Option Stp:=match pl.2[ixT ts p.nm]? with
 | some s=>if r.e.isNone || decide ((dz p.k p.vb p.dt s).2=r.a) then some (n,(dz p.k p.vb p.dt s).2,(srtN (pl.1++[n]),pl.2.set (ixT ts p.nm) (dz p.k p.vb p.dt s).1)) else none
 | none=>none
noncomputable def nexAt (c:Nat->Bool) (ts:zT) (rs:List Rc) (ps:List DD) (pl:Pl) (n:Nat):Option Stp:=if c n=true then (match rs[n]?,ps[n]? with|some r,some p=>stp ts r p n pl|_,_=>none) else none
noncomputable def nexT (c:Nat->Bool) (ts:zT) (rs:List Rc) (ps:List DD) (pl:Pl) (i:Nat):List Stp:=(j1 i).filterMap (nexAt c ts rs ps pl)
theorem z4p {c:Nat->Bool} {ts:zT} {rs:List Rc} {ps:List DD} {pl:Pl} {i:Nat}:nexT c ts rs ps pl (i + 1)=nexT c ts rs ps pl i++(nexAt c ts rs ps pl i).toList:=by unfold nexT;rw [F8,List.filterMap_append];congr 1
theorem zcl {c:Nat->Bool} {ts:zT} {rs:List Rc} {ps:List DD} {pl:Pl} {i:Nat}:(nexT c ts rs ps pl i).length<=i:=by unfold nexT;exact A0 (j4 _ _) (by rw [Y1];exact t0 _)
noncomputable def cO (m:Nat) (rs:List Rc) (ns:List Nat) (n:Nat):Bool:=decide (n∉ns) && decide (∀a∈j1 rs.length,z0i m rs a n=true->a∈ns)
noncomputable def cP (m:Nat) (rs:List Rc) (ns:List Nat) (n:Nat):Bool:=cO m rs ns n && decide (∀b∈j1 rs.length,z0i m rs n b=true->b∉ns)
noncomputable def cM (m:Nat) (rs:List Rc) (ns:List Nat) (n:Nat):Bool:=decide (n∉ns) && decide (∀a∈j1 rs.length,z0i m rs a n=true->(∃r,rs[a]? = some r/\r.e.isSome=true)->a∈ns) && decide (∀b∈ns,z0i m rs n b=false)
theorem z2h {m:Nat} {rs:List Rc} {a b:Nat} (h:z0i m rs a b=true):a < rs.length/\b < rs.length:=by
 unfold z0i at h;cases ea:rs[a]? with
 | none=>rw [ea] at h;cases h
 | some r=>
  cases eb:rs[b]? with
  | none=>rw [ea,eb] at h;cases h
  | some q=>exact ⟨(List.getElem?_eq_some_iff.mp ea).1,(List.getElem?_eq_some_iff.mp eb).1⟩
theorem zi7 {i m:Nat} {rs:List Rc} {os:List Int} {a b:Nat} {r:Rc} (I:DInv i rs os) (h:z0i m rs a b=true) (ha:rs[a]? = some r):r.e.isSome=true:=by
 obtain ⟨_,f⟩:=z2h h;have c:rs[b]? = some rs[b]:=B0 f;generalize rs[b]=q at c;rw [z4g ha c] at h
 match m,h with
 | 0,h=>
  have h:ltO r.e q.b=true:=h;cases e:r.e with
  | none=>rw [e] at h;cases h
  | some x=>rfl
 | 1,h=>
  have h:(decide (r.h=q.h) && decide (r.b < q.b))=true:=h;rw [A2,decide_eq_true_iff,decide_eq_true_iff] at h;have d:a < b:=by
   rcases d6 a b with z|z|z
   ·exact z
   ·subst z;rw [ha] at c;cases c;omega
   ·have:=(I.p b a q r z c ha).1;omega
  obtain ⟨x,g,_⟩:=(I.p a b r q d ha c).2 h.1;rw [g];rfl
 | m + 2,h=>cases (show false=true from h)
theorem cM_cP {i m:Nat} {rs:List Rc} {os:List Int} (I:DInv i rs os) {ns:List Nat} (lt :∀x∈ns,x < rs.length) {n:Nat}:cM m rs ns n=cP m rs ns n:=by
 unfold cM cP cO;rw [Bool.eq_iff_iff];simp only [A2,decide_eq_true_iff];constructor
 ·rintro ⟨⟨h1,h2⟩,h3⟩;refine ⟨⟨h1,λ a d h=>h2 a d h ?_⟩,λ b _ c z=>?_⟩
  ·have g:=List.mem_range.mp d;have f:rs[a]? = some rs[a]:=B0 g;exact ⟨_,f,zi7 I h f⟩
  ·rw [h3 b z] at c;cases c
 ·rintro ⟨⟨h1,h2⟩,h3⟩;refine ⟨⟨h1,λ a d h _=>h2 a d h⟩,λ b c=>?_⟩;cases e:z0i m rs n b with
  | false=>rfl
  | true=>exact absurd c (h3 b (List.mem_range.mpr (lt b c)) e)
structure PlOk (ts:zT) (N n:Nat) (pl:Pl):Prop where
 nd:pl.1.Nodup
 lt :∀x∈pl.1,x < N
 so:All2 (λ (t:Str×Str) s=>SvOk n t.2 s) ts pl.2
 nb:n<=4\/n<=pl.1.length
theorem z4w :∀(n:Nat) (ns:List Nat),ns.Nodup->(∀x∈ns,x < n)->ns.length<=n
 | 0,ns,_,h=>by
  cases ns with
  | nil=>exact t0 _
  | cons x r=>exact absurd (h x L0) (R3 _)
 | n + 1,ns,nd,h=>by
  have:=z4w n (ns.erase n) (nd.erase n) λ x a=>by have a:=(List.Nodup.mem_erase_iff nd).mp a;have:=h x a.2;omega
  by_cases m:n∈ns
  ·rw [j2b m] at this;omega
  ·rw [List.erase_of_not_mem m] at this;omega
theorem PlOk.n63 {ts:zT} {N n j:Nat} {pl:Pl} (h:PlOk ts N n pl) (N63:N<=63) (hj:j < N) (nj:j∉pl.1):n < 63/\pl.1.length < 63:=by
 have:=z4w N (j :: pl.1) (List.nodup_cons.mpr ⟨nj,h.nd⟩) λ x a=>by
  rcases List.mem_cons.mp a with z|z
  ·omega
  ·exact h.lt x z
 rw [P0] at this;rcases h.nb with z|z<;>omega
end
section
variable {P:Program} {w:R0} {mg:Str->Option Value} {base:Heap}
theorem lk_eq {f:Str} {v:V} {fs:zV}:(putF f v fs).lookup f=some v:=by rw [z3n,if_pos rfl]
theorem lk_ne {f g:Str} {v:V} {fs:zV} (h:g≠f):(putF f v fs).lookup g=fs.lookup g:=by rw [z3n,if_neg h]
theorem lk_n {f g:Str} {v:V} {fs:zV} {o:Option V} (e:fs.lookup g=o) (h:g≠f:=by decide +kernel):(putF f v fs).lookup g=o:=(lk_ne h).trans e
theorem zds {x dx:Addr} {o1 o2:HO} {H H':Hp} (hx:H x=none) (hd:H dx=none) (k:Kept x (upd (upd H dx o1) x o2) H'):Same H H':=λ p o e=>by
 have a:p≠x:=λ z=>by rw [z,hx] at e;cases e
 have b:p≠dx:=λ z=>by rw [z,hd] at e;cases e
 exact k p o a (by rw [upd_ne a,upd_ne b];exact e)
theorem z3e {K:b0} {ta tv:TE} {f:Str} {rest:TS} {D:Ends} {σ:L2.St} {H:Hp} (h:tv σ H λ y H1=>ta σ H1 λ x H2=>∃a C dx fs,x=.ref a/\H2 a=some (.ins C dx fs)/\Cls K C/\NoAttr K C f/\fs.length < 1000/\rest D σ (upd H2 a (.ins C dx (putF f y fs)))):tSeq (sFld K ta tv f) rest D σ H:=h
theorem znb {K:b0} {ta tv:TE} {f:Str} {D:Ends} {σ:L2.St} {H:Hp} (h:tv σ H λ y H1=>ta σ H1 λ x H2=>∃a C dx fs,x=.ref a/\H2 a=some (.ins C dx fs)/\Cls K C/\NoAttr K C f/\fs.length < 1000/\D.nx σ (upd H2 a (.ins C dx (putF f y fs)))):sFld K ta tv f D σ H:=h
theorem zgj (f:Str) (v:V) :∀fs:zV,(putF f v fs).length<=fs.length + 1
 | []=>t0 _
 | (g,x) :: r=>by
  unfold putF;split
  ·simp
  ·have:=zgj f v r;simp only [P0];omega
theorem z1j {K:b0} {x dx C:Addr} {H H1:Hp} {fs:zV} {R:L2.St->Hp->Prop} {σ:L2.St} {f:Str} {y:V} {i n:Nat} (k:Kept x H H1) (e:H1 x=some (.ins C dx fs)) (hv:σ[i]? = some (some (.ref x))) (c:Cls K C) (na:NoAttr K C f) (l:fs.length<=n) (hn:n < 100)
  (q :∀H2,Kept x H H2->(∀b o,b≠x->H1 b=some o->H2 b=some o)->H2 x=some (.ins C dx (putF f y fs))->(putF f y fs).length<=n + 1->R σ H2) :
  tVar i σ H1 λ z H2=>∃a C dx fs,z=.ref a/\H2 a=some (.ins C dx fs)/\Cls K C/\NoAttr K C f/\fs.length < 1000/\R σ (upd H2 a (.ins C dx (putF f y fs))):=
 ⟨_,hv,x,C,dx,fs,rfl,e,c,na,by omega,q _ (k.trans .set) (λ b o d g=>by rw [upd_ne d];exact g) upd_same (A0 (zgj f y fs) (by omega))⟩
theorem ins_tt {K:b0} {x C dx:Addr} {fs:zV} {H H':Hp} (e:H x=some (.ins C dx fs)) (k:Kept x H H'):Tt K H H':=by
 refine ⟨λ a b h=>?_,λ a b h=>k _ _ (λ z=>by rw [z,e] at h;cases h) h⟩;rcases h with (h|⟨ob,h⟩)|h
 ·exact .inl (.inl (k _ _ (λ z=>by rw [z,e] at h;cases h) h))
 ·exact .inl (.inr ⟨ob,k _ _ (λ z=>by rw [z,e] at h;cases h) h⟩)
 ·exact .inr h
theorem zk2 {ps:List (Nat×Nat)} {q:Nat×Nat->Bool} {f:Nat×Nat->Nat} {us:List V} (h:All2 (λ (i:Nat) y=>∃p,ps[i]? = some p/\y=V.int (f p:Nat)) ((j1 ps.length).filter λ i=>(ps[i]?.map q).getD false) us) :∃as,us=nsV as/\as.length<=ps.length/\∀a,a∈as↔∃p∈ps,q p=true/\f p=a:=by
 refine ⟨((j1 ps.length).filter λ i=>(ps[i]?.map q).getD false).map λ i=>f (ps[i]?.getD (0,0)),?_,?_,λ a=>?_⟩
 ·generalize (j1 ps.length).filter (λ i=>(ps[i]?.map q).getD false)=is at h;induction h with
  | nil=>rfl
  | cons a r ih=>obtain ⟨p,d,b⟩:=a;rw [ih,b,X0,d];rfl
 ·rw [o0];exact A0 (K2 _ _) (by rw [Y1];exact t0 _)
 ·rw [List.mem_map];constructor
  ·rintro ⟨i,c,e⟩;obtain ⟨d,b⟩:=List.mem_filter.mp c;have j:=List.mem_range.mp d;have g:ps[i]? = some ps[i]:=B0 j;rw [g] at b e;exact ⟨_,G0 g,b,e⟩
  ·rintro ⟨p,g,d,b⟩;obtain ⟨i,c⟩:=List.mem_iff_getElem?.mp g;refine ⟨i,List.mem_filter.mpr ⟨List.mem_range.mpr (List.getElem?_eq_some_iff.mp c).1,?_⟩,?_⟩
   ·rw [c];exact d
   ·rw [c];exact b
theorem dec_iN (i j:Nat):decide (V.int (i:Int)=V.int (j:Int))=decide (i=j):=decide_eq_decide.mpr ⟨λ e=>by have:=V.int.inj e;omega,λ e=>by rw [e]⟩
def z1l (K:b0):Sp:=λ vs H Q _=>∃(x dx lp:Addr) (n:Nat) (iv kv y:V) (zs:List V) (ps:List (Nat×Nat)) (r:Rc),vs=[.ref x,.int n,y,iv,kv,.ref lp]/\H x=some (.ins 253 dx [])/\RcAt K H r y/\H lp=some (.lst zs)/\All2 (PairAt H) ps zs/\ps.length<=10000/\
 ∀fs la lb as bs H',Kept x H H'->H' x=some (.ins 253 dx fs)->fs.lookup ("number" : Str)=some (.int n)->fs.lookup ("thing" : Str)=some iv->fs.lookup ("kind" : Str)=some kv->fs.lookup ("verb" : Str)=some r.v->fs.lookup ("worth" : Str)=some r.x->fs.lookup ("answer" : Str)=some r.a->fs.lookup ("aheads" : Str)=some (.ref la)->fs.lookup ("behinds" : Str)=some (.ref lb)->fs.lookup ("may_stand" : Str)=none->H' la=some (.lst (nsV as))->H' lb=some (.lst (nsV bs))->(∀a,a∈as↔(a,n)∈ps)->(∀b,b∈bs↔(n,b)∈ps)->as.length<=10000->bs.length<=10000->H la=none->H lb=none->Q .non H'
theorem zcq (T:TX (kx w) mg):Fo P w mg base (CXE P w base) 1 243 y02 ["self","number","deed","thing","kind","pairs"] (z1l (kx w)):=by
 refine (z1r w.params).okE z3t (λ vs H Q E h=>?_) (λ c2 A b9 s H vs Q E hr h=>?_)
 ·obtain ⟨x,dx,W,n,iv,kv,y,D,B,r,rfl,_⟩:=h;rfl
 ·obtain ⟨x,dx,W,n,iv,kv,y,D,B,r,rfl,C,⟨p,rfl,Z⟩,O,al,pl,q⟩:=h;refine ⟨_,(z02 (ps_fld (pv 0) (pv 1) rfl)
   (z02 (ps_fld (pv 0) (pv 3) rfl)
   (z02 (ps_fld (pv 0) (pv 4) rfl)
   (z02 (ps_fld (pv 0) (pJ 2) rfl)
   (z02 (ps_fld (pv 0) (pJ 2) rfl)
   (z02 (ps_fld (pv 0) (pJ 2) rfl)
   (z02 (ps_fld (pv 0) (pe_cg (xs:=["ahead","behind"]) (g:=gTup (kx w) 2 (gCons (gName 0) (gCons (gName 1) gNil))) (fr:=[(1,"number")]) (z17 (pv 5)) (λ _ _ _ _ _=>(pg_tup rfl (z0d (pg_cn (N:=["ahead","behind","number"]) 0) (z0d (pg_cn (N:=["ahead","behind","number"]) 1) z0x)))) (λ _ _ _ _ _=>(pf_one (z08 opEq (pv 1) (pv 2) (nomark _)))) (λ _ _ _ _ _=>(pv 0))) rfl)
   (z04 (ps_fld (pv 0) (pe_cg (xs:=["ahead","behind"]) (g:=gTup (kx w) 2 (gCons (gName 0) (gCons (gName 1) gNil))) (fr:=[(1,"number")]) (z17 (pv 5)) (λ _ _ _ _ _=>(pg_tup rfl (z0d (pg_cn (N:=["ahead","behind","number"]) 0) (z0d (pg_cn (N:=["ahead","behind","number"]) 1) z0x)))) (λ _ _ _ _ _=>(pf_one (z08 opEq (pv 0) (pv 2) (nomark _)))) (λ _ _ _ _ _=>(pv 1))) rfl))))))))),?_⟩
  have a7 :∀{H1 S:Hp} {l:Addr},Kept x H H1->Kept x H1 S->l≠x->S l=none->H l=none:=λ {H1 S l} k k' nl hl=>by
   cases z:H l with
   | none=>rfl
   | some o=>rw [k' l o nl (k l o nl z)] at hl;cases hl
  refine z3e ⟨_,rfl,z1j Kept.refl C rfl (z0a _) (z0r _) (n:=0) (t0 _) (by decide) λ H1 e _ e1 c=>?_⟩;refine z3e ⟨_,rfl,z1j e e1 rfl (z0a _) (z2a _) c (by decide) λ S d _ e2 c=>?_⟩;refine z3e ⟨_,rfl,z1j d e2 rfl (z0a _) (z2q _) c (by decide) λ H3 k3 _ e3 c=>?_⟩;have t3:Tt (kx w) H H3:=ins_tt C k3;refine z3e ⟨_,rfl,.inr (.inl ⟨p,_,2,r.v,rfl,rfl,t3.t _ _ Z,z06 (j:=2) rfl,z1j k3 e3 rfl (z0a _) (z2t _) c (by decide) λ H4 k4 _ e4 c=>?_⟩)⟩;refine z3e ⟨_,rfl,.inr (.inl ⟨p,_,3,r.x,rfl,rfl,(ins_tt C k4).t _ _ Z,z06 (j:=3) rfl,z1j k4 e4 rfl (z0a _) (z29 _) c (by decide) λ H5 k5 _ e5 c=>?_⟩)⟩;refine z3e ⟨_,rfl,.inr (.inl ⟨p,_,4,r.a,rfl,rfl,(ins_tt C k5).t _ _ Z,z06 (j:=4) rfl,z1j k5 e5 rfl (z0a _) (z12 _) c (by decide) λ H6 X _ e6 c=>?_⟩)⟩;have a6:W≠x:=λ z=>by rw [z,C] at O;cases O
  have zl:D.length=B.length:=z03 al;have b0 :∀{J:Hp},Kept x H J->All2 (PairAt J) B D:=λ k=>z01 (λ _ _ z=>z.elim λ b y=>⟨b,y.1,(ins_tt (K:=KX w.params) C k).l _ _ y.2⟩) al;refine z3e ?_;refine z5p (K:=KX w.params) (a:=W) (xs:=D) (H1:=H6) (λ i=>(B[i]?.map λ p=>decide (p.2=n)).getD false) (λ i y _=>∃p,B[i]? = some p/\y=.int (((λ p:Nat×Nat=>p.1) p:Nat):Int)) (λ _ _ _ _ _ z=>z) (λ R h=>⟨_,rfl,h⟩) (SqL.of (X _ _ a6 O)) (A0 (m:=10000) (by omega) (by decide)) (λ i hi v J s' hv KT KF e d=>?_) λ G H7 us Y L a9=>?_
  ·obtain ⟨u,hp,b,rfl,eb⟩:=z0f (b0 X) hv;rw [hp] at e d;refine ⟨b,_,rfl,SqT.of (s' _ _ eb),rfl,_,_,rfl,_,_,rfl,rfl,[some (.int u.1),some (.int u.2)],rfl,rfl,?_⟩;refine ⟨_,rfl,_,rfl,rfl,_,rfl,?_⟩;rw [dec_iN];exact ite2 (λ z=>⟨_,rfl,e z _ _ (Same.refl _) ⟨u,rfl,rfl⟩⟩) λ z=>d (Bool.eq_false_iff.mpr z) _ (Same.refl _)
  rw [zl] at a9;obtain ⟨F,rfl,c1,b7⟩:=zk2 (q:=λ p=>decide (p.2=n)) (f:=λ p=>p.1) a9;have s8:=Y.trans (Same.upd (o:=.lst (nsV F)) L);have b1:upd H7 G (.lst (nsV F)) G=some (.lst (nsV F)):=upd_same;have a0:G≠x:=λ z=>by rw [z,Y _ _ e6] at L;cases L
  generalize upd H7 G (.lst (nsV F))=H8 at s8 b1⊢;refine z1j (X.trans s8.kept) (s8 _ _ e6) rfl (z0a _) (z1z _) c (by decide) λ H9 V b6 e9 c=>?_;have b4:=b6 _ _ a0 b1;refine znb ?_;refine z5p (K:=KX w.params) (a:=W) (xs:=D) (H1:=H9) (λ i=>(B[i]?.map λ p=>decide (p.1=n)).getD false) (λ i y _=>∃p,B[i]? = some p/\y=.int (((λ p:Nat×Nat=>p.2) p:Nat):Int)) (λ _ _ _ _ _ z=>z) (λ R h=>⟨_,rfl,h⟩) (SqL.of (V _ _ a6 O)) (A0 (m:=10000) (by omega) (by decide)) (λ i hi v J s' hv KT KF e d=>?_) λ I a2 us a1 U a3=>?_
  ·obtain ⟨u,hp,b,rfl,eb⟩:=z0f (b0 V) hv;rw [hp] at e d;refine ⟨b,_,rfl,SqT.of (s' _ _ eb),rfl,_,_,rfl,_,_,rfl,rfl,[some (.int u.1),some (.int u.2)],rfl,rfl,?_⟩;refine ⟨_,rfl,_,rfl,rfl,_,rfl,?_⟩;rw [dec_iN];exact ite2 (λ z=>⟨_,rfl,e z _ _ (Same.refl _) ⟨u,rfl,rfl⟩⟩) λ z=>d (Bool.eq_false_iff.mpr z) _ (Same.refl _)
  rw [zl] at a3;obtain ⟨bs,rfl,c0,b3⟩:=zk2 (q:=λ p=>decide (p.1=n)) (f:=λ p=>p.2) a3;have M:=a1.trans (Same.upd (o:=.lst (nsV bs)) U);have a4:upd a2 I (.lst (nsV bs)) I=some (.lst (nsV bs)):=upd_same;have a5:I≠x:=λ z=>by rw [z,a1 _ _ e9] at U;cases U
  generalize upd a2 I (.lst (nsV bs))=H11 at M a4⊢;refine z1j (V.trans M.kept) (M _ _ e9) rfl (z0a _) (z1o _) c (by decide) λ b8 b2 a8 b5 c=>?_;refine q _ G I F bs b8 b2 b5 (lk_n (lk_n (lk_n (lk_n (lk_n (lk_n (lk_n lk_eq))))))) (lk_n (lk_n (lk_n (lk_n (lk_n (lk_n lk_eq)))))) (lk_n (lk_n (lk_n (lk_n (lk_n lk_eq))))) (lk_n (lk_n (lk_n (lk_n lk_eq)))) (lk_n (lk_n (lk_n lk_eq))) (lk_n (lk_n lk_eq)) (lk_n lk_eq) lk_eq (lk_n (lk_n (lk_n (lk_n (lk_n (lk_n (lk_n (lk_n rfl)))))))) (a8 _ _ a0 (M _ _ b4)) (a8 _ _ a5 a4) (λ a=>(b7 a).trans ⟨λ ⟨p,h1,h2,h3⟩=>?_,λ h=>⟨_,h,decide_eq_true rfl,rfl⟩⟩) (λ b=>(b3 b).trans ⟨λ ⟨p,h1,h2,h3⟩=>?_,λ h=>⟨_,h,decide_eq_true rfl,rfl⟩⟩) (by omega) (by omega) (a7 X (Y.kept (r:=x)) a0 L) (a7 V (a1.kept (r:=x)) a5 U)
  ·rw [<-h3,<-of_decide_eq_true h2];exact h1
  ·rw [<-h3,<-of_decide_eq_true h2];exact h1
def CaAt (H:Hp) (m:Nat) (rs:List Rc) (ts:zT) (n:Nat) (r:Rc) (p:DD) (y:V):Prop:=∃x dx fs la lb as bs,y=.ref x/\H x=some (.ins 253 dx fs)/\fs.lookup ("number" : Str)=some (.int (n:Nat))/\fs.lookup ("thing" : Str)=some (.int (ixT ts p.nm:Nat))/\fs.lookup ("kind" : Str)=some (.str p.k)/\fs.lookup ("verb" : Str)=some r.v/\fs.lookup ("worth" : Str)=some r.x/\fs.lookup ("answer" : Str)=some r.a/\fs.lookup ("aheads" : Str)=some (.ref la)/\fs.lookup ("behinds" : Str)=some (.ref lb)/\fs.lookup ("may_stand" : Str)=none/\H la=some (.lst (nsV as))/\H lb=some (.lst (nsV bs))/\(∀a,a∈as↔z0i m rs a n=true)/\(∀b,b∈bs↔z0i m rs n b=true)/\as.length<=10000/\bs.length<=10000
theorem CaAt.same {H H':Hp} {m:Nat} {rs:List Rc} {ts:zT} {n:Nat} {r:Rc} {p:DD} {y:V} (s:Same H H') (h:CaAt H m rs ts n r p y):CaAt H' m rs ts n r p y:=by obtain ⟨x,t,fs,c,k,o,bs,f,j,b,d,u,w,g,q,z,i,l,e,v,a⟩:=h;exact ⟨x,t,fs,c,k,o,bs,f,s _ _ j,b,d,u,w,g,q,z,i,l,s _ _ e,s _ _ v,a⟩
def z1f (K:b0):Sp:=λ vs H Q _=>∃(y:V) (pa:Addr) (m n:Nat) (rs:List Rc) (ts:zT) (r:Rc) (p:DD) (ns:List Nat),vs=[y,.ref pa]/\CaAt H m rs ts n r p y/\SqT K H pa (nsV ns)/\Q (.bl (cP m rs ns n)) H
theorem z2z (T:TX (kx w) mg):Fo P w mg base CX0 1 250 y01 ["self","done"] (z1f (kx w)):=by
 refine (z1k w.params).ok sc_Candidate_may_stand (λ X H Q E h=>?_) (λ a0 A a1 s H X Q E hr h=>?_)
 ·obtain ⟨y,f,m,n,o,W,r,p,d,rfl,_⟩:=h;rfl
 ·obtain ⟨y,f,m,n,o,W,r,p,d,rfl,⟨x,F,fs,I,L,t,bs,rfl,G,S,f2,f3,f4,f5,f6,f7,U,f9,M,N,J,R,al,bl⟩,B,q⟩:=h;refine ⟨_,(z02 (ps_if (z08 z1x (pe_fld (pv 0) rfl) (pv 1) (by with_unfolding_all rfl))
   (z04 (ps_ret pe_bl))
   z0e)
   (z02 (ps_for K1 rfl (z17 (pe_fld (pv 0) rfl)) (z0g (i:=2) sc_Candidate_may_stand.nd rfl (U0 rfl))
   (z04 (ps_if (z08 z1b (pv 2) (pv 1) (by with_unfolding_all rfl))
   (z04 (ps_ret pe_bl))
   z0e)))
   (z02 (ps_for K1 rfl (z17 (pe_fld (pv 0) rfl)) (z0g (i:=3) sc_Candidate_may_stand.nd rfl (U0 rfl))
   (z04 (ps_if (z08 z1x (pv 3) (pv 1) (by with_unfolding_all rfl))
   (z04 (ps_ret pe_bl))
   z0e)))
   (z04 (ps_ret pe_bl))))),?_⟩
  refine sq_if ?_;refine ⟨_,rfl,x,_,F,fs,_,rfl,G,z0a _,z0r _,S,_,rfl,f,_,rfl,.inr B,rfl,z4y _,_,rfl,?_⟩;have q:=λ b (h:b=cP m o d n)=>(show Q (.bl b) H from h ▸ q)
  by_cases z1:n∈d
  ·refine iteP ?_ (q _ ?_)
   ·rw [inV_ns];exact decide_eq_true z1
   ·unfold cP cO;rw [decide_eq_false (λ h=>h z1)];rfl
  refine iteN (λ h=>z1 (of_decide_eq_true (by rw [inV_ns] at h;exact h))) ?_;refine t_nx ?_;have O :∀{t:List Nat} {j:Nat} {y:V},(nsV t)[j]? = some y->∃a,t[j]? = some a/\y=.int (a:Nat):=λ h=>by unfold nsV at h;rw [O0] at h;obtain ⟨a,Y,h2⟩:=Option.map_eq_some_iff.mp h;exact ⟨a,Y,h2.symm⟩
  refine ⟨_,rfl,x,_,F,fs,_,rfl,G,z0a _,z1z _,f7,I,rfl,⟨_,SqL.of M⟩,?_⟩;refine z2e (K:=KX w.params) (a:=I) (xs:=nsV t) (λ i σ g=>g=H/\(∀k a,k < i->t[k]? = some a->a∈d)/\∃x2 x3,σ=[some (.ref x),some (.ref f),x2,x3]) ⟨rfl,λ k a c=>absurd c (R3 _),_,_,rfl⟩ (λ _ σ g _ h=>by rw [h.1];exact SqL.of M) ?_ ?_
  ·rintro j y σ g D ⟨rfl,fj,x2,x3,rfl⟩;obtain ⟨a,l,rfl⟩:=O D;refine g_name ⟨_,rfl,_,rfl,f,_,rfl,.inr B,rfl,z4y _,_,rfl,?_⟩;by_cases z2:a∈d
   ·refine iteN (λ h=>?_) ⟨rfl,λ k C c e=>?_,_,_,rfl⟩
    ·rw [inV_ns,decide_eq_true z2] at h;cases h
    ·by_cases z:k=j
     ·subst z;rw [l] at e;cases e;exact z2
     ·exact fj k C (by omega) e
   ·refine iteP ?_ (q _ ?_)
    ·rw [inV_ns,decide_eq_false z2];rfl
    ·have h:=(J a).mp (G0 l);unfold cP cO;rw [decide_eq_false (p:=∀a∈j1 o.length,z0i m o a n=true->a∈d) (λ v=>z2 (v a (List.mem_range.mpr (z2h h).1) h)),W8,i7]
  rintro σ g ⟨rfl,fj,x2,x3,rfl⟩;refine t_nx ?_;have Z:cO m o d n=true:=by unfold cO;rw [A2,decide_eq_true_iff,decide_eq_true_iff];refine ⟨z1,λ a _ h=>?_⟩;obtain ⟨k,c⟩:=List.mem_iff_getElem?.mp ((J a).mpr h);exact fj k a (by rw [z7z];exact (List.getElem?_eq_some_iff.mp c).1) c
  refine ⟨_,rfl,x,_,F,fs,_,rfl,G,z0a _,z1o _,U,L,rfl,⟨_,SqL.of N⟩,?_⟩;refine z2e (K:=KX w.params) (a:=L) (xs:=nsV bs) (λ i σ u=>u=g/\(∀k a,k < i->bs[k]? = some a->a∉d)/\∃x2 x3,σ=[some (.ref x),some (.ref f),x2,x3]) ⟨rfl,λ k a c=>absurd c (R3 _),_,_,rfl⟩ (λ _ σ u _ h=>by rw [h.1];exact SqL.of N) ?_ ?_
  ·rintro j y σ u D ⟨rfl,gj,x2,x3,rfl⟩;obtain ⟨a,l,rfl⟩:=O D;refine g_name ⟨_,rfl,_,rfl,f,_,rfl,.inr B,rfl,z4y _,_,rfl,?_⟩;by_cases z2:a∈d
   ·refine iteP ?_ (q _ ?_)
    ·rw [inV_ns];exact decide_eq_true z2
    ·have h:=(R a).mp (G0 l);unfold cP;rw [decide_eq_false (λ v=>v a (List.mem_range.mpr (z2h h).2) h z2),W8]
   ·refine iteN (λ h=>?_) ⟨rfl,λ k C c e=>?_,_,_,rfl⟩
    ·rw [inV_ns] at h;exact z2 (of_decide_eq_true h)
    ·by_cases z:k=j
     ·subst z;rw [l] at e;cases e;exact z2
     ·exact gj k C (by omega) e
  rintro σ u ⟨rfl,gj,x2,x3,rfl⟩;refine t_nx (q _ ?_);unfold cP;rw [Z,E9];refine (decide_eq_true λ b _ h=>?_).symm;obtain ⟨k,c⟩:=List.mem_iff_getElem?.mp ((R b).mpr h);exact gj k b (by rw [z7z];exact (List.getElem?_eq_some_iff.mp c).1) c
theorem zgh {X:Cx} {K:b0} (hK:X.K=K):OpR X (B2 .In) (rIn K false):=hK ▸ z1x
def PlZ (K:b0) (H:Hp) (p:Addr) (pl:Pl):Prop:=∃pa pb vs,SqT K H p [.ref pa,.ref pb]/\SqT K H pa (nsV pl.1)/\SqT K H pb vs/\All2 (StZ K H) pl.2 vs
theorem PlZ.tups {K:b0} {H H':Hp} {p:Addr} {pl:Pl} (t:Tups K H H') (h:PlZ K H p pl):PlZ K H' p pl:=by obtain ⟨g,f,d,c,b,e,a⟩:=h;exact ⟨g,f,d,t _ _ c,t _ _ b,t _ _ e,z01 (λ _ _ z=>StZ.tups t z) a⟩
def StpZ (K:b0) (H:Hp) (s:Stp) (y:V):Prop:=∃b p,y=.ref b/\SqT K H b [.int (s.1:Nat),s.2.1,.ref p]/\PlZ K H p s.2.2
theorem StpZ.tups {K:b0} {H H':Hp} {s:Stp} {y:V} (t:Tups K H H') (h:StpZ K H s y):StpZ K H' s y:=by obtain ⟨b,p,d,a,c⟩:=h;exact ⟨b,p,d,t _ _ a,c.tups t⟩
structure ThW (ts:zT):Prop where
 n6:ts.length<=6
 nd:(ts.map (·.1)).Nodup
 ks :∀t∈ts,t.2∈kinds5
theorem ThOk.thw {ts:zT} (h:ThOk ts):ThW ts:=⟨h.n6,h.nd,h.ks⟩
theorem zlp {H:Hp} {k:Str} (hk:k∈kinds5) :∃v,kl_FIRST_STATES.lookup k=some v/\StZ (kx w) H (zeroK k) v:=by
 have a:SqT (kx w) H 100 []:=.inr ⟨⟨.type "tuple",none,.seq #[] 0,#[]⟩,#[],0,by kernel_rfl,rfl,rfl,by decide,.nil⟩;have b:SqT (kx w) H 101 []:=.inr ⟨⟨.type "tuple",none,.seq #[] 0,#[]⟩,#[],0,by kernel_rfl,rfl,rfl,by decide,.nil⟩;unfold kinds5 at hk;simp only [B1,j0,or_false] at hk;unfold zeroK;rcases hk with rfl|rfl|rfl|rfl|rfl
 ·exact ⟨.int 0,by decide +kernel,by rw [if_neg (by decide +kernel)];rfl⟩
 ·exact ⟨.int 0,by decide +kernel,by rw [if_neg (by decide +kernel)];rfl⟩
 ·exact ⟨.ref 100,by decide +kernel,by rw [if_pos (by decide +kernel)];exact ⟨_,rfl,a⟩⟩
 ·exact ⟨.ref 101,by decide +kernel,by rw [if_pos (by decide +kernel)];exact ⟨_,rfl,b⟩⟩
 ·exact ⟨.int 0,by decide +kernel,by rw [if_neg (by decide +kernel)];rfl⟩
def TaleAt (K:b0) (H:Hp) (t:Addr) (ts:zT) (es:List Ev):Prop:=∃pt te ys,H t=some (.tup [.ref pt,.ref te])/\ThAt H pt ts/\H te=some (.tup ys)/\All2 (EvAt K H) es ys
theorem TaleAt.tt {K:b0} {H H':Hp} {t:Addr} {ts:zT} {es:List Ev} (x:Tt K H H') (h:TaleAt K H t ts es):TaleAt K H' t ts es:=by obtain ⟨pt,c,b,e,f,d,a⟩:=h;exact ⟨pt,c,b,x.l _ _ e,f.tt x,x.l _ _ d,z01 (λ _ _ z=>EvAt.tups x.t z) a⟩
theorem ixT_at {ts:zT} (ok:ThW ts) {t:Str×Str} {i:Nat} (h:ts[i]? = some t):ixT ts t.1=i:=idx_eq ok.nd (by rw [O0,h];rfl)
theorem ixT_of {ts:zT} (ok:ThW ts) {nm k:Str} (h:(nm,k)∈ts):ts[ixT ts nm]? = some (nm,k):=by obtain ⟨i,a⟩:=List.mem_iff_getElem?.mp h;rw [show ixT ts nm=i from ixT_at ok a];exact a
theorem set_sl {K:b0} {σ:L2.St} {H:Hp} {Q:VK} {t1 t2 ti tv tj:TE} {pb:Addr} {vs:List V} {i:Nat} {v:V} (h1 :∀(H':Hp) (R:VK),Same H H'->R (.ref pb) H'->t1 σ H' R) (h2 :∀(H':Hp) (R:VK),Same H H'->R (.ref pb) H'->t2 σ H' R) (hi :∀(H':Hp) (R:VK),Same H H'->R (.int (i:Nat)) H'->ti σ H' R) (hv :∀(H':Hp) (R:VK),Same H H'->R v H'->tv σ H' R) (hj :∀(H':Hp) (R:VK),Same H H'->R (.int ((i:Int) + 1)) H'->tj σ H' R)
  (sq:SqT K H pb vs) (il:i < vs.length) (l9:vs.length<=90) (q :∀p5 H',Same H H'->SqT K H' p5 (vs.set i v)->Q (.ref p5) H') :
  tOp (λ x y H Q=>rCatS K x y H Q\/rCatT K x y H Q) (tOp (λ x y H Q=>rCatS K x y H Q\/rCatT K x y H Q) (tSl (λ x lo hi H Q=>rSlL K x lo hi H Q\/rSlT K x lo hi H Q\/rSlS x lo hi H Q) t1 zhr (tPart ti)) (tTup (tCons tv tNil))) (tSl (λ x lo hi H Q=>rSlL K x lo hi H Q\/rSlT K x lo hi H Q\/rSlS x lo hi H Q) t2 (tPart tj) zhr) σ H Q:=by
 refine h1 _ _ (Same.refl _) (hi _ _ (Same.refl _) ⟨i,rfl,.inr (.inl ⟨pb,vs,rfl,sq,λ z=>?_,λ c t=>?_⟩)⟩)
 ·have:=z.2;rw [HT.sIx_nat] at this;omega
 have E:cutV vs none (some (i:Int))=vs.take i:=by unfold cutV;rw [HT.sIx_none,HT.sIx_nat,V5,Nat.sub_zero,j18 (by omega)]
 have j:=Same.upd (o:=.tup (cutV vs none (some (i:Int)))) t;have p:upd H c (.tup (cutV vs none (some (i:Int)))) c=some (.tup (vs.take i)):=by rw [upd_same,E]
 generalize upd H c (.tup (cutV vs none (some (i:Int))))=H1 at j p⊢;refine hv _ _ j ⟨w_1,λ s F=>?_⟩;obtain ⟨I,u,l,G⟩:=newA (.tup [v]) F;rw [<-u];refine .inl ⟨c,s,vs.take i,[v],rfl,rfl,SqT.of (l _ _ p),SqT.of G,by simp,A0 (m:=100) (by rw [L3];show _ + 1<=100;omega) (by decide),λ n h w A=>?_⟩;have b:Same H h:=(j.trans l).trans w;refine h2 _ _ b (hj _ _ b ⟨_,rfl,.inr (.inl ⟨pb,vs,rfl,b.seqT sq,λ z=>?_,λ a C=>?_⟩)⟩)
 ·have:=z.1;rw [show (i:Int) + 1=((i + 1:Nat):Int) from rfl,HT.sIx_nat] at this;omega
 have B:cutV vs (some ((i:Int) + 1)) none=vs.drop (i + 1):=by unfold cutV;rw [show (i:Int) + 1=((i + 1:Nat):Int) from rfl,HT.sIx_none,HT.sIx_nat,j18 (by omega)];exact K4 (by rw [u6];exact t0 _)
 have f:=Same.upd (o:=.tup (cutV vs (some ((i:Int) + 1)) none)) C;have g:upd h a (.tup (cutV vs (some ((i:Int) + 1)) none)) a=some (.tup (vs.drop (i + 1))):=by rw [upd_same,B]
 generalize upd h a (.tup (cutV vs (some ((i:Int) + 1)) none))=H4 at f g⊢;have d:vs.take i++[v]++vs.drop (i + 1)=vs.set i v:=by rw [U9,if_pos il,j02];rfl
 have e:=f.seqT A;have r:(vs.take i++[v]).length + (vs.drop (i + 1)).length<=sizeLine:=A0 (m:=100) (by rw [<-D0,d,j0h];omega) (by decide);by_cases hd:vs.drop (i + 1)=[]
 ·refine .inr ⟨n,a,_,_,rfl,rfl,e,SqT.of g,by simp,r,λ _=>?_,λ z=>absurd hd z⟩;rw [hd,N2] at d;rw [d] at e;exact q _ _ (b.trans f) e
 ·refine .inl ⟨n,a,_,_,rfl,rfl,e,SqT.of g,hd,r,λ p5 J D k=>?_⟩;rw [d] at k;exact q _ _ ((b.trans f).trans D) k
theorem zj7 {α β:Type} {R:α->β->Prop} {xs:List α} {ys:List β} {x:α} {y:β} (h:All2 R xs ys) (hx:R x y) :∀i,All2 R (xs.set i x) (ys.set i y):=by
 induction h with
 | nil=>intro i;exact .nil
 | cons a r ih=>
  intro i;cases i with
  | zero=>exact .cons hx r
  | succ i=>exact .cons a (ih i)
noncomputable def stq (ts:zT) (p:DD) (n:Nat) (pl:Pl) (s:Sv):Stp:=(n,(dz p.k p.vb p.dt s).2,(srtN (pl.1++[n]),pl.2.set (ixT ts p.nm) (dz p.k p.vb p.dt s).1))
theorem stp_of {ts:zT} {r:Rc} {p:DD} {n:Nat} {pl:Pl} {s:Sv} (h:pl.2[ixT ts p.nm]? = some s):stp ts r p n pl=if r.e.isNone || decide ((dz p.k p.vb p.dt s).2=r.a) then some (stq ts p n pl s) else none:=by unfold stp;rw [h];rfl
def z9y (K:b0):Sp:=λ vs H Q _=>∃(y:V) (pp:Addr) (m n k N:Nat) (rs:List Rc) (ts:zT) (r:Rc) (p:DD) (pl:Pl),vs=[y,.ref pp]/\CaAt H m rs ts n r p y/\RcGd K H ts r p/\ThW ts/\PlZ K H pp pl/\PlOk ts N k pl/\N<=63/\n < N/\n∉pl.1/\
 ∀s b q H',pl.2[ixT ts p.nm]? = some s->SvOk k p.k s->Same H H'->H' b=some (.tup [.int (n:Nat),(dz p.k p.vb p.dt s).2,.ref q])->StpZ K H' (stq ts p n pl s) (.ref b)->Q (.ref b) H'
theorem zf5 (T:TX (kx w) mg) (c0:Ca P w mg base "do" ["kind","state","verb","worth"] 5 (sp_do (kx w))):Fo P w mg base CX0 6 304 y20 ["candidate","place"] (z9y (kx w)):=by
 refine (z8q w.params).ok sc_step_of (λ c H Q E h=>?_) (λ c5 A c2 s H c Q E hr h=>?_)
 ·obtain ⟨y,M,m,n,k,N,rs,u,r,p,a,rfl,_⟩:=h;rfl
 ·obtain ⟨y,M,m,n,k,N,rs,u,r,p,a,rfl,⟨x,d,fs,la,lb,as,bs,rfl,e,f1,f2,f3,f4,f5,f6,f7,f8,f9,ea,eb,ma,mb,al,bl⟩,gd,ok,⟨pa,pb,c,sp,sa,sb,sz⟩,K,b8,hn,nn,q⟩:=h;refine ⟨_,(z02 (ps_set (i:=2) sc_step_of.nd rfl (U0 rfl) (pe_fld (pv 0) rfl))
   (z02 (ps_set (i:=3) sc_step_of.nd rfl (U0 rfl) (pJ 1))
   (z02 (ps_set (i:=4) sc_step_of.nd rfl (U0 rfl) (pe_cal c0 (hr.mono (by decide)) rfl (z00 (pe_fld (pv 0) rfl) (z00 (pe_ix ix_seq (pv 3) (pv 2) (λ _ _=>rfl)) (z00 (pe_fld (pv 0) rfl) (z00 (pe_fld (pv 0) rfl) pa_nil))))))
   (z02 (ps_set (i:=5) sc_step_of.nd rfl (U0 rfl) (z0t z0j rfl (T.no (z2u _)) E4 (z00 (z09 z19 rfl (T.no (z22 _)) Y4 (z00 (pe_op op_catS (pJ 1) (pe_tup (z00 (pe_fld (pv 0) rfl) pa_nil))) pa_nil)) pa_nil)))
   (z04 (ps_ret (pe_tup (z00 (pe_fld (pv 0) rfl) (z00 (pJ 4) (z00 (pe_tup (z00 (pv 5) (z00 (pe_op (op_catS.or z86) (pe_op (op_catS.or z86) (z2l slSeq (pv 3) z4s (z2r (pv 2))) (pe_tup (z00 (pJ 4) pa_nil))) (z2l slSeq (pv 3) (z2r (pe_op opAdd (pv 2) pe_int)) z4s)) pa_nil))) pa_nil)))))))))),?_⟩
  obtain ⟨g1,g2,hm,dk,ix,wi,ga⟩:=gd;have a9:=ixT_of ok hm;obtain ⟨s,hs,W⟩:=z0u K.so a9;obtain ⟨v,hv,hz⟩:=z0u sz hs;obtain ⟨a5,c4⟩:=K.n63 b8 hn nn;have vl:c.length=a.2.length:=z03 sz;have sl:a.2.length=u.length:=z03 K.so;have it:ixT u p.nm < c.length:=(List.getElem?_eq_some_iff.mp hv).1;rw [g2] at f4;refine ⟨_,rfl,x,_,d,fs,_,rfl,e,z0a _,z2a _,f2,?_⟩;refine g_name (t_nx ?_);refine ⟨_,rfl,.inr (.inl ⟨M,_,1,.ref pb,rfl,rfl,sp,z06 (j:=1) rfl,?_⟩)⟩;refine g_name (t_nx ?_);refine ⟨_,rfl,x,_,d,fs,_,rfl,e,z0a _,z2q _,f3,?_⟩;refine ⟨_,rfl,_,rfl,.inr (.inl ⟨pb,c,_,v,rfl,rfl,sb,z06 hv,?_⟩)⟩;refine ⟨_,rfl,x,_,d,fs,_,rfl,e,z0a _,z2t _,f4,?_⟩;refine ⟨_,rfl,x,_,d,fs,_,rfl,e,z0a _,z29 _,f5,?_⟩;refine do_can (w:=w) (E:=E0) W hz a5 dk ix wi λ p6 O J D e6 b9=>?_;refine g_name (t_nx ?_);refine z0k ?_;refine ⟨_,rfl,.inr (.inl ⟨M,_,0,.ref pa,rfl,rfl,D.seqT sp,z06 (j:=0) rfl,?_⟩)⟩;refine ⟨_,rfl,x,_,d,fs,_,rfl,D _ _ e,z0a _,z0r _,f1,w_1,λ B X=>?_⟩;have Y:=D.trans (Same.upd (o:=.tup [.int (n:Nat)]) X);have Z:=Same.upd (o:=.tup [.int (n:Nat)]) X;have e7:upd J B (.tup [.int (n:Nat)]) B=some (.tup [.int (n:Nat)]):=upd_same;generalize upd J B (.tup [.int (n:Nat)])=H7 at Y Z e7⊢;refine ⟨pa,B,nsV a.1,[.int (n:Nat)],rfl,rfl,Y.seqT sa,SqT.of e7,by simp,A0 (m:=100) (by rw [z7z];show _ + 1<=100;omega) (by decide),λ b2 H8 r8 q8=>?_⟩;rw [show nsV a.1++[.int (n:Nat)]=((a.1++[n]).map λ (n:Nat)=>(n:Int)).map V.int by unfold nsV;rw [S2,E1];rfl] at q8;refine ⟨b2,_,rfl,.inr q8,by rw [o0,D0];show _ + 1 < 64;omega,λ l3 c3 a7 pm pw=>?_⟩;rw [zk0 pm pw];obtain ⟨H9,l,r9,e9⟩:=newA (.lst (nsV (srtN (a.1++[n])))) a7;rw [<-l];refine ⟨l3,_,rfl,.inl ⟨SqL.of e9,λ f a8=>?_⟩⟩;obtain ⟨U,l,b3,b7⟩:=newA (.tup (nsV (srtN (a.1++[n])))) a8;rw [<-l];refine g_name ?_;have F:Same J U:=((Z.trans r8).trans r9).trans b3;have I:=D.trans F;refine sq_ret ?_;refine ⟨_,rfl,x,_,d,fs,_,rfl,I _ _ e,z0a _,z0r _,f1,?_⟩;refine ⟨_,rfl,.inr (.inl ⟨p6,_,1,_,rfl,rfl,SqT.of (F _ _ e6),z06 (j:=1) rfl,?_⟩)⟩;refine ⟨_,rfl,zbu (set_sl (i:=ixT u p.nm) (v:=O) (λ C R t h=>⟨_,rfl,h⟩) (λ C R t h=>⟨_,rfl,h⟩) (λ C R t h=>⟨_,rfl,h⟩) (λ C R t h=>⟨_,rfl,.inr (.inl ⟨p6,_,0,O,rfl,rfl,SqT.of (t _ _ (F _ _ e6)),z06 (j:=0) rfl,h⟩)⟩) (λ C R t h=>⟨_,rfl,.inl ⟨_,1,rfl,rfl,h⟩⟩) (I.seqT sb) it (by have:=ok.n6;omega) λ g a4 b0 a6=>?_)⟩;refine ⟨w_2,λ b c1=>⟨w_3,λ b6 a2=>?_⟩⟩;have S:=Same.upd (o:=.tup [.ref f,.ref g]) c1;have a1:upd a4 b (.tup [.ref f,.ref g]) b=some (.tup [.ref f,.ref g]):=upd_same;generalize upd a4 b (.tup [.ref f,.ref g])=H12 at S a1 a2⊢;obtain ⟨a3,l,L,a0⟩:=newA (.tup [.int (n:Nat),(dz p.k p.vb p.dt s).2,.ref b]) a2;rw [<-l];have G:Same U a3:=(b0.trans S).trans L;refine q s b6 b a3 hs W (I.trans G) a0 ⟨b6,b,rfl,SqT.of a0,f,g,c.set (ixT u p.nm) O,SqT.of (L _ _ a1),SqT.of (G _ _ b7),(S.trans L).seqT a6,zj7 (z01 (λ _ _ z=>StZ.tups (.of (I.trans G)) z) sz) (b9.tups (.of (F.trans G))) _⟩
def EndL (rs:List Rc) (es:List Nat):Prop:=es.length<=rs.length/\∀n,n∈es↔∃r,rs[n]? = some r/\r.e.isSome=true
def z2w (K:b0):Sp:=λ vs H Q _=>∃(l:Addr) (zs:List V) (rs:List Rc),vs=[.ref l]/\H l=some (.lst zs)/\All2 (RcAt K H) rs zs/\rs.length<=100/\
 ∀le es H',Same H H'->H' le=some (.lst (nsV es))->EndL rs es->Q (.ref le) H'
theorem z6b (T:TX (kx w) mg):Fo P w mg base CX0 1 309 y0a ["told"] (z2w (kx w)):=by
 refine (z21 w.params).ok z6r (λ D H Q E h=>?_) (λ X A Y s H D Q E hr h=>?_)
 ·obtain ⟨l,f,k,rfl,_⟩:=h;rfl
 ·obtain ⟨l,f,k,rfl,M,o,S,q⟩:=h;refine ⟨_,(z04 (ps_ret (pe_cg (xs:=["number","deed"]) (g:=gTup (kx w) 2 (gCons (gName 0) (gCons (gName 1) gNil))) (fr:=[]) (z69 rfl (T.no (z1n _)) (z00 (pv 0) pa_nil)) (λ _ _ _ _ _=>(pg_tup rfl (z0d (pg_cn (N:=["number","deed"]) 0) (z0d (pg_cn (N:=["number","deed"]) 1) z0x)))) (λ _ _ _ _ _=>(pf_one (z08 z9u (pe_ix (z8a (K:=KX w.params) rfl) (pv 1) pe_int (λ _ _=>rfl)) pe_non (nomark _)))) (λ _ _ _ _ _=>(pv 0))))),?_⟩;have t:f.length=k.length:=z03 o;refine sq_ret ?_;refine zje (K:=KX w.params) (a:=l) (xs:=f) (H1:=H) (λ i=>(k[i]?.map λ r=>r.e.isSome).getD false) (λ i y _=>y=.int (i:Nat)) (λ _ _ _ _ _ z=>z) (λ R h=>⟨_,rfl,h⟩) (SqL.of M) (A0 (m:=100) (by omega) (by decide)) ?_ ?_
  ·intro i U v u d I KT W c b;obtain ⟨x,C,G,rfl,L⟩:=I;obtain ⟨r,J,p,rfl,B⟩:=z0f o G;rw [J] at c b;refine ⟨C,_,rfl,SqT.of L,rfl,_,_,rfl,_,_,rfl,rfl,[some (.int (i:Nat)),some (.ref p)],rfl,rfl,?_⟩;refine ⟨_,rfl,.inr (.inl ⟨p,_,6,endV r.e,rfl,rfl,d.seqT B,z06 (j:=6) rfl,rfl,_,rfl,?_⟩)⟩;have c:=λ z=>c (show r.e.isSome=true from z);have b:=λ z=>b (show r.e.isSome=false from z);cases re:r.e with
   | none=>exact iteN (by show ¬ (!decide (V.non=V.non))=true;decide) (b (by rw [re];rfl) _ (Same.refl _))
   | some e=>exact iteP rfl ⟨_,rfl,c (by rw [re];rfl) _ _ (Same.refl _) rfl⟩
  intro le u Z d F O;rw [zl2 O];refine q le _ _ (d.trans (Same.upd F)) upd_same ⟨?_,λ n=>?_⟩
  ·exact A0 (K2 _ _) (by rw [Y1,t];exact t0 _)
  ·rw [List.mem_filter,List.mem_range,t];constructor
   ·rintro ⟨h1,h2⟩;rw [B0 h1] at h2;exact ⟨_,B0 h1,h2⟩
   ·rintro ⟨r,h1,h2⟩;exact ⟨(List.getElem?_eq_some_iff.mp h1).1,by rw [h1];exact h2⟩
def z76 (K:b0):Sp:=λ vs H Q _=>∃(pa le:Addr) (ns es:List Nat),vs=[.ref pa,.ref le]/\SqT K H pa (nsV ns)/\H le=some (.lst (nsV es))/\es.length<=100/\∀b H',Same H H'->(b=true↔∀n∈es,n∈ns)->Q (.bl b) H'
theorem zce (T:TX (kx w) mg):Fo P w mg base CX0 1 314 y1a ["done","numbers"] (z76 (kx w)):=by
 refine (z5f w.params).ok zbl (λ I H Q E h=>?_) (λ Y A Z s H I Q E hr h=>?_)
 ·obtain ⟨t,le,u,k,rfl,_⟩:=h;rfl
 ·obtain ⟨t,le,u,k,rfl,M,O,X,q⟩:=h;refine ⟨_,(z04 (ps_ret (z09 (zdt rfl) rfl (T.no (n_all _)) boot_all (z00 (pe_cg (xs:=["number"]) (g:=gName 0) (fr:=[(0,"done")]) (z17 (pv 1)) (λ _ _ _ _ _=>(pg_cn (N:=["number","done"]) 0)) (λ _ _ _ _ _=>pf_nil) (λ _ _ _ _ _=>(z18 (zgh (K:=KX w.params) rfl) (pv 0) (pv 1) (by with_unfolding_all rfl)))) pa_nil)))),?_⟩;refine sq_ret (e_cb1 ?_);refine z5p (K:=KX w.params) (a:=le) (xs:=nsV k) (H1:=H) (λ _=>true) (λ i y _=>∃n,k[i]? = some n/\y=.bl (decide (n∈u))) (λ _ _ _ _ _ z=>z) (λ R h=>⟨_,rfl,h⟩) (SqL.of O) (A0 (m:=100) (by rw [z7z];omega) (by decide)) ?_ ?_
  ·intro i b v C f l KT W G S;unfold nsV at l;rw [O0] at l;obtain ⟨n,c,rfl⟩:=Option.map_eq_some_iff.mp l;refine ⟨[some (.int (n:Nat))],rfl,rfl,iteT ?_⟩;refine ⟨_,rfl,_,rfl,t,_,rfl,.inr (f.seqT M),rfl,z4y _,?_⟩;exact G rfl _ _ (Same.refl _) ⟨n,c,by rw [<-inV_ns];rfl⟩
  intro F C o f D d;rw [List.filter_eq_self.mpr (λ _ _=>rfl),z7z] at d;have J:=z03 d;rw [Y1] at J;refine ⟨F,o,rfl,SqL.of upd_same,λ y p=>?_,q _ _ (f.trans (Same.upd D)) ?_⟩
  ·obtain ⟨i,b⟩:=List.mem_iff_getElem?.mp p;obtain ⟨j,_,n,_,e⟩:=z0f d b;exact ⟨_,e⟩
  ·rw [Y7];constructor
   ·intro h n c;obtain ⟨i,b⟩:=List.mem_iff_getElem?.mp c;have L:=(List.getElem?_eq_some_iff.mp b).1;have x:o[i]? = some o[i]:=B0 (by omega);obtain ⟨j,r,U,B,e⟩:=z0f d x;rw [o9 L] at r;cases r;rw [b] at B;cases B;have:=of_decide_eq_true (h _ (G0 x));rw [e] at this;exact of_decide_eq_true (V.bl.inj this)
   ·intro h y p;obtain ⟨i,b⟩:=List.mem_iff_getElem?.mp p;obtain ⟨j,_,n,c,e⟩:=z0f d b;rw [e,decide_eq_true (h n (G0 c))];exact decide_eq_true rfl
theorem zix {K:b0} {H:Hp} {ts:zT} {vs:List V} (al:All2 (λ (i:Nat) y=>∃t,ts[i]? = some t/\StZ K H (zeroK t.2) y) (j1 ts.length) vs):All2 (StZ K H) (ts.map λ t=>zeroK t.2) vs:=by have b:=z03 al;rw [Y1] at b;refine z27 (by rw [o0,b]) λ i z v c g=>?_;rw [O0] at c;obtain ⟨t,a,rfl⟩:=Option.map_eq_some_iff.mp c;obtain ⟨j,e,h,d,f⟩:=z0f al g;rw [o9 (List.getElem?_eq_some_iff.mp a).1] at e;cases e;rw [a] at d;cases d;exact f
def z53 (K:b0):Sp:=λ vs H Q _=>∃(t:Addr) (ts:zT) (es:List Ev),vs=[.ref t]/\TaleAt K H t ts es/\ThW ts/\∀p H',Same H H'->PlZ K H' p ([],ts.map λ t=>zeroK t.2)->Q (.ref p) H'
theorem z8h (T:TX (kx w) mg) (c0:Ca P w mg base "first_state" ["kind"] 2 z4x):Fo P w mg base CX0 3 319 y0q ["tale"] (z53 (kx w)):=by
 refine (z2y w.params).ok z9b (λ d H Q E h=>?_) (λ a3 A a4 s H d Q E hr h=>?_)
 ·obtain ⟨t,p,V,rfl,_⟩:=h;rfl
 ·obtain ⟨t,p,V,rfl,⟨pt,te,ys,U,⟨yt,I,l⟩,a6,al⟩,ok,q⟩:=h;refine ⟨_,(z04 (ps_ret (pe_tup (z00 (pe_tup pa_nil) (z00 (z0t z0j rfl (T.no (z2u _)) E4 (z00 (pe_cg (xs:=["name","kind"]) (g:=gTup (kx w) 2 (gCons (gName 0) (gCons (gName 1) gNil))) (fr:=[]) (pi_tup (pJ 0)) (λ _ _ _ _ _=>(pg_tup rfl (z0d (pg_cn (N:=["name","kind"]) 0) (z0d (pg_cn (N:=["name","kind"]) 1) z0x)))) (λ _ _ _ _ _=>pf_nil) (λ _ _ _ _ _=>(pe_cal c0 (hr.mono (by decide)) rfl (z00 (pv 1) pa_nil)))) pa_nil)) pa_nil))))),?_⟩;refine sq_ret ?_;refine ⟨w_0,λ C M=>?_⟩;obtain ⟨H3,c,f,e3⟩:=newA (.tup []) M;rw [<-c];refine zbu (e_cb1 ?_);refine z3s (K:=KX w.params) (a:=pt) (xs:=yt) (H1:=H3) (λ _=>true) (λ i y H'=>∃t,p[i]? = some t/\StZ (kx w) H' (zeroK t.2) y) (λ _ _ _ _ s ⟨t,h1,h2⟩=>⟨t,h1,h2.tups (.of s)⟩) (λ R h=>⟨_,rfl,.inr (.inl ⟨t,_,0,.ref pt,rfl,rfl,SqT.of (f _ _ U),z06 (j:=0) rfl,h⟩)⟩) (f.seqT (SqT.of I)) (A0 (m:=6) (by rw [z03 l];exact ok.n6) (by decide)) ?_ ?_
  ·intro i hi v k e n KT KF W k2;obtain ⟨t,u,b,rfl,eb⟩:=z0f l n;have G:=(f.trans e) _ _ eb;obtain ⟨v,n,X⟩:=zlp (w:=w) (H:=k) (ok.ks t (G0 u));refine ⟨b,_,rfl,SqT.of G,rfl,_,_,rfl,_,_,rfl,rfl,[some (.str t.1),some (.str t.2)],rfl,rfl,iteT ?_⟩;exact ⟨_,rfl,t.2,v,rfl,n,W rfl _ _ (Same.refl _) ⟨t,u,X⟩⟩
  intro O k d e L D;rw [List.filter_eq_self.mpr (λ _ _=>rfl),z03 l] at D;obtain ⟨H5,c,a2,e5⟩:=newA (.lst d) L;rw [<-c];refine ⟨O,d,rfl,.inl ⟨SqL.of e5,λ B Z=>?_⟩⟩;obtain ⟨H6,c,F,J⟩:=newA (.tup d) Z;rw [<-c];refine ⟨w_2,λ Y a1=>?_⟩;obtain ⟨r,c,x,S⟩:=newA (.tup [.ref C,.ref B]) a1;rw [<-c];have o:Same k r:=(a2.trans F).trans x;exact q Y r ((f.trans e).trans o) ⟨C,B,d,SqT.of S,SqT.of ((e.trans o) _ _ e3),SqT.of (x _ _ J),zix (z01 (λ _ _ z=>z.elim λ t y=>⟨t,y.1,y.2.tups (.of o)⟩) D)⟩
def hide (r:Addr) (H:Hp):Hp:=λ p=>if p=r then none else H p
theorem z0s {r p:Addr} {H:Hp} {o:HO} (n:p≠r) (e:H p=some o):hide r H p=some o:=by unfold hide;rw [if_neg n];exact e
theorem hide_same {r:Addr} {H:Hp}:Same (hide r H) H:=λ p o e=>by
 unfold hide at e;by_cases z:p=r
 ·rw [if_pos z] at e;cases e
 ·rw [if_neg z] at e;exact e
theorem zn3 {r p:Addr} {H:Hp} {o:HO} (e:hide r H p=some o):p≠r:=λ z=>by unfold hide at e;rw [if_pos z] at e;cases e
theorem z10 {r:Addr} {H H':Hp} (s:Same H H'):Same (hide r H) (hide r H'):=λ p o e=>z0s (zn3 e) (s _ _ (hide_same _ _ e))
theorem z36 {l:Addr} {H:Hp} {o:HO}:hide l (upd H l o)=hide l H:=by
 funext q;unfold hide;by_cases z:q=l
 ·rw [if_pos z,if_pos z]
 ·rw [if_neg z,if_neg z,upd_ne z]
theorem z8d {ts:zT} {f:Str×Str->Str} {us:List V} (h:All2 (λ (i:Nat) y=>∃t,ts[i]? = some t/\y=V.str (f t)) (j1 ts.length) us):us=ts.map λ t=>V.str (f t):=by
 have c:=z03 h;rw [Y1] at c;apply M7;intro i;rw [O0];cases hu:us[i]? with
 | none=>rw [J3 (by have:=List.getElem?_eq_none_iff.mp hu;omega)];rfl
 | some y=>obtain ⟨j,a,t,d,b⟩:=z0f h hu;rw [o9 (by have:=(List.getElem?_eq_some_iff.mp hu).1;omega)] at a;cases a;rw [d,b];rfl
def CaL (H:Hp) (m:Nat) (rs:List Rc) (ts:zT) (ps:List DD) (cs:List V):Prop:=∀n r p y,rs[n]? = some r->ps[n]? = some p->cs[n]? = some y->CaAt H m rs ts n r p y
structure BoF (K:b0) (H:Hp) (m:Nat) (rs:List Rc) (ts:zT) (ps:List DD) (fs:zV):Prop where
 cand :∃lc cs,fs.lookup ("candidates" : Str)=some (.ref lc)/\H lc=some (.lst cs)/\cs.length=rs.length/\CaL H m rs ts ps cs
 first :∃p0,fs.lookup ("first" : Str)=some (.ref p0)/\PlZ K H p0 ([],ts.map λ t=>zeroK t.2)
 ended :∃le en,fs.lookup ("ended" : Str)=some (.ref le)/\H le=some (.lst (nsV en))/\EndL rs en
 kinds :∃lk,fs.lookup ("kinds" : Str)=some (.ref lk)/\H lk=some (.lst (ts.map λ t=>V.str t.2))
 nm :∀z:Str,z∈(["steps_from","ends_at","has_place"]:List Str)->fs.lookup z=none
theorem BoF.same {K:b0} {H H':Hp} {m:Nat} {rs:List Rc} {ts:zT} {ps:List DD} {fs:zV} (s:Same H H') (h:BoF K H m rs ts ps fs):BoF K H' m rs ts ps fs:=
 ⟨h.cand.elim λ b z=>z.elim λ c y=>⟨b,c,y.1,s _ _ y.2.1,y.2.2.1,λ n r p v d a e=>(y.2.2.2 n r p v d a e).same s⟩,h.first.elim λ p z=>⟨p,z.1,z.2.tups (.of s)⟩,h.ended.elim λ le z=>z.elim λ g y=>⟨le,g,y.1,s _ _ y.2.1,y.2.2⟩,h.kinds.elim λ f z=>⟨f,z.1,s _ _ z.2⟩,h.nm⟩
def z0w (K:b0):Sp:=λ vs H Q _=>∃(x dx t:Addr) (ts:zT) (es:List Ev) (ps:List DD) (m:Nat),vs=[.ref x,.ref t,.str (z2x m)]/\H x=some (.ins 293 dx [])/\TaleAt K H t ts es/\ThW ts/\es.length<=63/\EWf [] es/\All2 (RcGd K H ts) (dAll 0 [] es) ps/\
 ∀fs H',Kept x H H'->H' x=some (.ins 293 dx fs)->BoF K H' m (dAll 0 [] es) ts ps fs->Q .non H'
theorem zky (T:TX (kx w) mg) (c0:Ca P w mg base "has_to" ["tale","strictness"] 2 (zdl (kx w))) (c1:Ca P w mg base "deeds" ["tale"] 1 (z95 (kx w))) (c2:Ca P w mg base "first_place" ["tale"] 3 (z53 (kx w))) (c3:Ca P w mg base "ended_numbers" ["told"] 1 (z2w (kx w))) (c4:Fo P w mg base (CXE P w base) 1 243 y02 ["self","number","deed","thing","kind","pairs"] (z1l (kx w))):Fo P w mg base (CXE P w base) 5 269 y03 ["self","tale","strictness"] (z0w (kx w)):=by
 refine (z3j w.params).okE sc_Board___init__ (λ vs H Q E h=>?_) (λ l8 A l1 s H vs Q E hr h=>?_)
 ·obtain ⟨x,dx,t,u,M,ps,m,rfl,_⟩:=h;rfl
 ·obtain ⟨x,dx,t,u,M,ps,m,rfl,ex,ta,ok,l0,wf,gd,q⟩:=h;refine ⟨_,(z02 (ps_set (i:=3) sc_Board___init__.nd rfl (U0 rfl) (pe_cal c0 (hr.mono (by decide)) rfl (z00 (pv 1) (z00 (pv 2) pa_nil))))
   (z02 (ps_set (i:=4) sc_Board___init__.nd rfl (U0 rfl) (pe_cal c1 (hr.mono (by decide)) rfl (z00 (pv 1) pa_nil)))
   (z02 (ps_fld (pv 0) (pe_cg (xs:=["name","kind"]) (g:=gTup (kx w) 2 (gCons (gName 0) (gCons (gName 1) gNil))) (fr:=[]) (pi_tup (pJ 1)) (λ _ _ _ _ _=>(pg_tup rfl (z0d (pg_cn (N:=["name","kind"]) 0) (z0d (pg_cn (N:=["name","kind"]) 1) z0x)))) (λ _ _ _ _ _=>pf_nil) (λ _ _ _ _ _=>(pv 1))) rfl)
   (z02 (ps_fld (pv 0) (pe_cal c2 (hr.mono (by decide)) rfl (z00 (pv 1) pa_nil)) rfl)
   (z02 (ps_fld (pv 0) (pe_cal c3 (hr.mono (by decide)) rfl (z00 (pv 4) pa_nil)) rfl)
   (z02 (ps_fld (pv 0) (pe_lst pa_nil) rfl)
   (z02 (zcw (i:=5) sc_Board___init__.nd rfl (U0 rfl) (xs:=["name","kind"]) (g:=gTup (kx w) 2 (gCons (gName 0) (gCons (gName 1) gNil))) (fr:=[]) rfl (pi_tup (pJ 1)) (λ _ z=>absurd z j0) (z9o rfl) (λ _ z=>absurd z j0) (by decide +kernel) rfl (by decide +kernel) (λ _ _ _ _ _=>(pg_tup rfl (z0d (pg_cn (N:=["name","kind"]) 0) (z0d (pg_cn (N:=["name","kind"]) 1) z0x)))) (λ _ _ _ _ _=>pf_nil) (λ _ _ _ _ _=>(pv 0)))
   (z04 (PS.nox (ps_for K1 rfl (z69 rfl (T.no (z1n _)) (z00 (pv 4) pa_nil)) (pg_tup rfl (z0d (z0g (i:=6) sc_Board___init__.nd rfl (U0 rfl)) (z0d (z0g (i:=7) sc_Board___init__.nd rfl (U0 rfl)) z0x)))
   (z02 (ps_set (i:=8) sc_Board___init__.nd rfl (U0 rfl) (zhv (pv 5) (z00 (pJ 7) pa_nil)))
   (z04 (z2b (z14 (pe_fld (pv 0) rfl) (z00 (zg3 (zc5 _) c4 (hr.mono (by decide)) rfl (T.of (zeb _)) (z4l _) .nil passN (z00 (pv 6) (z00 (pv 7) (z00 (pv 8) (z00 (pe_ix ix_seq (pe_fld (pv 0) rfl) (pv 8) (λ _ _=>rfl)) (z00 (pv 3) pa_nil)))))) pa_nil))))))))))))))),?_⟩
  obtain ⟨pt,te,ys,et,⟨yt,f0,Z⟩,e6,al⟩:=id ta;obtain ⟨dw,os,DI⟩:=DInv.all DInv.nil wf;have rl:(dAll 0 [] M).length<=63:=by have:=z9c (i:=0) (rs:=[]) M;simp only [R4,d7] at this;omega
  refine ⟨_,rfl,_,rfl,t,te,.ref pt,ys,M,m,rfl,SqT.of et,SqT.of e6,al,by omega,dw,λ lp zp H1 s1 l3 d2 ap=>?_⟩;refine g_name (t_nx ?_);refine ⟨_,rfl,t,te,.ref pt,ys,M,rfl,s1.seqT (SqT.of et),s1.seqT (SqT.of e6),z01 (λ _ _ z=>EvAt.tups (.of s1) z) al,by omega,dw,λ lt zt C s2 l5 a2 ar=>?_⟩;refine g_name (t_nx ?_);have a1:=s1.trans s2;generalize dAll 0 [] M=rs at *;have zl:zt.length=rs.length:=z03 ar;have pl:=z5i (m:=m) (rs:=rs) rs.length;have pm:rs.length * rs.length<=63 * 63:=j22 rl rl;have g0 :∀{a:Addr} {o:HO} {L:Hp},L x=some (.ins 293 dx [])->L a=some o->(∀d f,o≠.ins 293 d f)->a≠x:=λ e1 e2 n z=>by rw [z,e1] at e2;cases e2;exact n _ _ rfl
  have a9:=a1 _ _ ex;have j9:lp≠x:=g0 a9 (s2 _ _ d2) λ _ _ z=>by cases z
  have d0:lt≠x:=g0 a9 a2 λ _ _ z=>by cases z
  refine z3e ?_;refine z3s (K:=KX w.params) (a:=pt) (xs:=yt) (H1:=C) (λ _=>true) (λ i y _=>∃t,u[i]? = some t/\y=.str t.2) (λ _ _ _ _ s z=>z) (λ R h=>⟨_,rfl,.inr (.inl ⟨t,_,0,.ref pt,rfl,rfl,SqT.of (a1 _ _ et),z06 (j:=0) rfl,h⟩)⟩) (a1.seqT (SqT.of f0)) (A0 (m:=6) (by rw [z03 Z];exact ok.n6) (by decide)) ?_ ?_
  ·intro i hi v H3 s3 hv KT KF k1 k2;obtain ⟨t,ht,b,rfl,eb⟩:=z0f Z hv;refine ⟨b,_,rfl,SqT.of ((a1.trans s3) _ _ eb),rfl,_,_,rfl,_,_,rfl,rfl,[some (.str t.1),some (.str t.2)],rfl,rfl,iteT ?_⟩;exact ⟨_,rfl,k1 rfl _ _ (Same.refl _) ⟨t,ht,rfl⟩⟩
  intro I H3 us s3 b6 e0;rw [List.filter_eq_self.mpr (λ _ _=>rfl),z03 Z] at e0;rw [z8d (f:=λ t=>t.2) e0];have d3:=s3.trans (Same.upd (o:=.lst (u.map λ t=>V.str t.2)) b6);have b8:upd H3 I (.lst (u.map λ t=>V.str t.2)) I=some (.lst (u.map λ t=>V.str t.2)):=upd_same;have g5:I≠x:=λ z=>by rw [z,s3 _ _ a9] at b6;cases b6
  generalize upd H3 I (.lst (u.map λ t=>V.str t.2))=H4 at d3 b8⊢;have s4:=a1.trans d3;refine z1j s4.kept (s4 _ _ ex) rfl (z1i _) (z50 _) (n:=0) (t0 _) (by decide) λ H5 k5 h6 e5 ln=>?_;refine z3e ?_;refine ⟨_,rfl,t,u,M,rfl,ta.tt (ins_tt ex k5),ok,λ p0 H6 s6 pz=>?_⟩;refine z1j (k5.trans s6.kept) (s6 _ _ e5) rfl (z1i _) (z4n _) ln (by decide) λ H7 k7 c9 e7 ln=>?_;refine z3e ?_;have b0:Kept x C H7:=(d3.kept.trans h6).trans (s6.kept.trans c9);have i5:Tt (kx w) C H7:=ins_tt a9 b0;refine ⟨_,rfl,lt,zt,rs,rfl,b0 _ _ d0 a2,z01 (λ _ _ z=>RcAt.tups i5.t z) ar,by omega,λ le en H8 F b4 EL=>?_⟩;refine z1j (k7.trans F.kept) (F _ _ e7) rfl (z1i _) (z58 _) ln (by decide) λ H9 k9 X e9 ln=>?_;refine z3e ⟨w_0,λ c a0=>?_⟩;have G:=Same.upd (o:=.lst []) a0;have d8:upd H9 c (.lst []) c=some (.lst []):=upd_same;have b3:c≠x:=λ z=>by rw [z,e9] at a0;cases a0
  generalize upd H9 c (.lst [])=H10 at G d8⊢;refine z1j (k9.trans G.kept) (G _ _ e9) rfl (z1i _) (z0z _) ln (by decide) λ d5 g7 a6 e8 ln=>?_;have g8:=a6 _ _ b3 d8;have k0:Kept x C d5:=(b0.trans (F.kept.trans X)).trans (G.kept.trans a6);have d1:Tt (kx w) H d5:=ins_tt ex g7;refine z0k ?_;refine z3s (K:=KX w.params) (a:=pt) (xs:=yt) (H1:=d5) (λ _=>true) (λ i y _=>∃t,u[i]? = some t/\y=.str t.1) (λ _ _ _ _ s z=>z) (λ R h=>⟨_,rfl,.inr (.inl ⟨t,_,0,.ref pt,rfl,rfl,SqT.of (d1.l _ _ et),z06 (j:=0) rfl,h⟩)⟩) (d1.t _ _ (SqT.of f0)) (A0 (m:=6) (by rw [z03 Z];exact ok.n6) (by decide)) ?_ ?_
  ·intro i hi v d4 a4 hv KT KF k1 k2;obtain ⟨t,ht,b,rfl,eb⟩:=z0f Z hv;refine ⟨b,_,rfl,SqT.of (a4 _ _ (d1.l _ _ eb)),rfl,_,_,rfl,_,_,rfl,rfl,[some (.str t.1),some (.str t.2)],rfl,rfl,iteT ?_⟩;exact ⟨_,rfl,k1 rfl _ _ (Same.refl _) ⟨t,ht,rfl⟩⟩
  intro S d4 us a4 a3 d6;rw [List.filter_eq_self.mpr (λ _ _=>rfl),z03 Z] at d6;rw [z8d (f:=λ t=>t.1) d6];have D:=a4.trans (Same.upd (o:=.lst (u.map λ t=>V.str t.1)) a3);have d9:upd d4 S (.lst (u.map λ t=>V.str t.1)) S=some (.lst (u.map λ t=>V.str t.1)):=upd_same;have l4:S≠x:=λ z=>by rw [z,a4 _ _ e8] at a3;cases a3
  have i2:S≠c:=λ z=>by rw [z,a4 _ _ g8] at a3;cases a3
  generalize upd d4 S (.lst (u.map λ t=>V.str t.1))=HB at D d9⊢;refine g_name ?_;have eB:=D _ _ e8;have b9:=D _ _ g8;have kB:Kept x H HB:=g7.trans D.kept;have b1:Kept x C HB:=k0.trans D.kept;have c7:C c=none:=by
   cases z:C c with
   | none=>rfl
   | some o=>have:=((b0.trans (F.kept.trans X))) _ _ b3 z;rw [a0] at this;cases this
  have j4:H c=none:=a1.free c7;have j7:lt≠c:=λ z=>by rw [z,c7] at a2;cases a2
  have j5:lp≠c:=λ z=>by have:=s2 _ _ d2;rw [z,c7] at this;cases this
  have w5:Kept x H4 H5:=h6;have h4:Kept x H4 H9:=(w5.trans (s6.kept.trans c9)).trans (F.kept.trans X);have e3:I≠c:=λ z=>by have h:=h4 _ _ g5 b8;rw [z,a0] at h;cases h
  have h7:HB I=some (.lst (u.map λ t=>V.str t.2)):=((h4.trans (G.kept.trans a6)).trans D.kept) _ _ g5 b8;refine ⟨_,rfl,lt,zt,rfl,SqL.of (b1 _ _ d0 a2),?_⟩;refine z68 (K:=KX w.params) (a:=lt) (xs:=zt) (λ i σ L=>∃B,KeptL [c] HB L/\L c=some (.lst B)/\B.length=i/\CaL (hide c L) m rs u ps B/\∃x6 x7 x8,σ=[some (.ref x),some (.ref t),some (.str (z2x m)),some (.ref lp),some (.ref lt),some (.ref S),x6,x7,x8])
   ⟨[],KeptL.refl,b9,rfl,λ n r p y _ _ h=>(by cases h),_,_,_,rfl⟩ (λ i σ L h=>?_) ?_ ?_
  ·obtain ⟨B,kk,_⟩:=h;exact SqL.of (kk _ _ (by simp [j7]) (b1 _ _ d0 a2))
  ·rintro i y σ b5 pq hy ⟨B,k13,e13,cl,ca,x6,x7,x8,rfl⟩ hpq;obtain ⟨a5,v_,sp,i9⟩:=newA (.tup [.int i,y]) hpq;rw [<-v_];refine ⟨pq,_,rfl,SqT.of i9,rfl,.int i,_,rfl,y,_,rfl,rfl,?_⟩;have l6:i < rs.length:=by rw [<-zl];exact (List.getElem?_eq_some_iff.mp hy).1
   obtain ⟨r,g4,py,rfl,h5⟩:=z0f ar hy;obtain ⟨O,j3,g1,g2,hm,dk,ix,wi,ga⟩:=z0u gd g4;have mB :∀l∈[c],MutAt HB l:=λ l hl=>by rw [List.mem_singleton.mp hl];exact .inl ⟨_,b9⟩
   have i3:Tt (kx w) C HB:=ins_tt a9 b1;have c6:Tt (kx w) C a5:=(i3.trans (KeptL.tt k13 mB)).trans (.of sp);have a7:KeptL [c] HB a5:=k13.trans sp.keptL;have g3:=c6.t _ _ h5;rw [g1] at g3;have c5:=ixT_of ok hm;have l7:ixT u O.nm < u.length:=(List.getElem?_eq_some_iff.mp c5).1;have g9:(u.map (·.1))[ixT u O.nm]? = some O.nm:=by rw [O0,c5];rfl
   have i1:u.map (λ t=>V.str t.1)=(u.map (·.1)).map V.str:=by rw [S2];rfl
   have b7:=a7 _ _ (by simp [i2]) d9;rw [i1] at b7;refine ⟨_,rfl,.inl ⟨rfl,_,SqL.of b7⟩,_,rfl,.inr (.inl ⟨py,_,1,.str O.nm,rfl,rfl,g3,z06 (j:=1) rfl,S,u.map (·.1),O.nm,ixT u O.nm,rfl,rfl,b7,A0 (m:=6) (by rw [o0];exact ok.n6) (by decide),g9,λ m' l2 e=>?_,?_⟩)⟩
   ·have:=(j00 (List.getElem?_eq_some_iff.mp e).1 ok.nd).mp (e.trans g9.symm);omega
   refine g_name (t_nx ?_);have h0:=a7 _ _ (by simp [b3.symm]) eB;have a8:=sp _ _ e13;have k3:=a7 _ _ (by simp [e3]) h7;have j6:=a7 _ _ (by simp [j5]) (b1 _ _ j9 (s2 _ _ d2));refine ⟨_,rfl,x,_,dx,_,_,rfl,h0,z1i _,z0z _,lk_eq,.inl ⟨rfl,_,SqL.of a8⟩,?_⟩;refine ⟨_,rfl,_,rfl,_,rfl,_,rfl,x,_,dx,_,_,rfl,h0,z1i _,z50 _,lk_n (lk_n (lk_n lk_eq)),?_⟩;refine ⟨_,rfl,.inl ⟨I,_,_,.str O.k,rfl,rfl,SqL.of k3,z06 (by rw [O0,c5];rfl),?_⟩⟩;refine ⟨_,rfl,λ Y dc b2 e4 nc=>?_⟩;have sC:Same a5 (upd (upd a5 dc (.own Y)) Y (.ins 253 dc [])):=(Same.upd e4).trans (Same.upd (by rw [upd_ne nc.symm];exact b2));refine ⟨Y,dc,lp,i,_,_,.ref py,zp,z2s m rs rs.length,r,rfl,upd_same,⟨py,rfl,sC.seqT (c6.t _ _ h5)⟩,sC _ _ j6,z01 (λ _ _ z=>z.elim λ b y=>⟨b,y.1,sC _ _ (c6.l _ _ (s2 _ _ y.2))⟩) ap,by omega,λ fs la lb as bs j2 k8 k6 f1 f2 f3 f4 f5 f6 f7 f8 f9 ea eb ma mb h8 j8 fa fb=>⟨rfl,?_⟩⟩;have c8:Same a5 j2:=zds b2 e4 k8;have i0:=c8 _ _ a8;refine ⟨c,B,_,rfl,rfl,i0,A1 (m:=100) (by omega) (by decide),?_⟩;have j1:Y≠c:=λ z=>by rw [z,a8] at b2;cases b2
   have i8:la≠c:=λ z=>by rw [z,sC _ _ a8] at fa;cases fa
   have i4:lb≠c:=λ z=>by rw [z,sC _ _ a8] at fb;cases fb
   refine ⟨B++[.ref Y],(a7.trans c8.keptL).trans (KeptL.set (by simp)),upd_same,by rw [D0];show B.length + 1=_;omega,λ n r' p' y' U W J=>?_,_,_,_,rfl⟩;rw [z36];by_cases z:n < B.length
   ·rw [F2 z] at J;exact (ca n r' p' y' U W J).same (z10 (sp.trans c8))
   ·have hn:n=B.length:=by have:=(List.getElem?_eq_some_iff.mp J).1;rw [D0] at this;have:n < B.length + 1:=this;omega
    rw [hn,W1 (t0 _),Nat.sub_self] at J;cases J;rw [hn,cl] at U W;rw [g4] at U;rw [j3] at W;cases U;cases W;rw [hn,cl];exact ⟨Y,dc,fs,la,lb,as,bs,rfl,z0s j1 k6,f1,f2,f3,f4,f5,f6,f7,f8,f9,z0s i8 ea,z0s i4 eb,λ a=>(ma a).trans ⟨λ h=>(mem_pairsTo.mp h).2.2,λ h=>mem_pairsTo.mpr ⟨(z2h h).1,(z2h h).2,h⟩⟩,λ b=>(mb b).trans ⟨λ h=>(mem_pairsTo.mp h).2.2,λ h=>mem_pairsTo.mpr ⟨(z2h h).1,(z2h h).2,h⟩⟩,h8,j8⟩
  ·rintro σ b5 ⟨B,k13,e13,cl,ca,x6,x7,x8,rfl⟩;have i7 :∀b o,b≠x->b≠c->H8 b=some o->b5 b=some o:=λ b o n1 n2 e=>k13 _ _ (by simp [n2]) (D _ _ (a6 _ _ n1 (G _ _ (X _ _ n1 e))));have g6:le≠x:=λ z=>by rw [z,F _ _ e7] at b4;cases b4
   have h9:le≠c:=λ z=>by have h:=X _ _ g6 b4;rw [z,a0] at h;cases h
   have i6 :∀l∈[c],MutAt HB l:=λ l hl=>by rw [List.mem_singleton.mp hl];exact .inl ⟨_,b9⟩
   have k4:Tt (kx w) H6 b5:=((ins_tt (s6 _ _ e5) c9).trans ((Tt.of F).trans ((ins_tt (F _ _ e7) X).trans ((Tt.of G).trans ((ins_tt (G _ _ e9) a6).trans (.of D)))))).trans (KeptL.tt k13 i6);refine q _ b5 (λ b o nb e=>k13 _ _ (λ z=>by rw [List.mem_singleton.mp z,j4] at e;cases e) (kB b o nb e)) (k13 _ _ (by simp [b3.symm]) eB) ⟨⟨c,B,lk_eq,e13,by omega,λ n r p y U W J=>(ca n r p y U W J).same hide_same⟩,⟨p0,lk_n (lk_n lk_eq),pz.tups k4.t⟩,⟨le,en,lk_n lk_eq,i7 _ _ g6 h9 b4,EL⟩,⟨I,lk_n (lk_n (lk_n lk_eq)),k13 _ _ (by simp [e3]) h7⟩,λ z hz=>?_⟩;simp only [B1,j0,or_false] at hz;rcases hz with rfl|rfl|rfl<;>exact (lk_n (lk_n (lk_n (lk_n rfl))))
theorem zbq {α β:Type} {R:α->β->Prop} {xs xs':List α} {ys ys':List β} (h:All2 R xs ys) (h':All2 R xs' ys'):All2 R (xs++xs') (ys++ys'):=by
 induction h with
 | nil=>exact h'
 | cons a r ih=>exact .cons a ih
theorem if_any {tc:TT} {ta tb:TS} {D:Ends} {σ:L2.St} {H:Hp} (R:Hp->Prop) (k :∀H',R H'->ta D σ H') (h:(∀H',R H'->ta D σ H')->tIfS tc ta tb D σ H):tIfS tc ta tb D σ H:=h k
def BoAt (K:b0) (H:Hp) (m:Nat) (rs:List Rc) (ts:zT) (ps:List DD) (b:Addr):Prop:=∃dx fs,H b=some (.ins 293 dx fs)/\BoF K H m rs ts ps fs
theorem BoAt.same {K:b0} {H H':Hp} {m:Nat} {rs:List Rc} {ts:zT} {ps:List DD} {b:Addr} (s:Same H H') (h:BoAt K H m rs ts ps b):BoAt K H' m rs ts ps b:=h.elim λ a z=>z.elim λ fs y=>⟨a,fs,s _ _ y.1,y.2.same s⟩
def z16 (K:b0):Sp:=λ vs H Q _=>∃(b pp:Addr) (m k:Nat) (rs:List Rc) (ts:zT) (ps:List DD) (pl:Pl),vs=[.ref b,.ref pp]/\BoAt K H m rs ts ps b/\All2 (RcGd K H ts) rs ps/\ThW ts/\PlZ K H pp pl/\PlOk ts rs.length k pl/\rs.length<=63/\
 ∀l ys H',Same H H'->H l=none->H' l=some (.lst ys)->All2 (StpZ K H') (nexT (cP m rs pl.1) ts rs ps pl rs.length) ys->Q (.ref l) H'
theorem z59 (T:TX (kx w) mg) (c0:Fo P w mg base CX0 1 250 y01 ["self","done"] (z1f (kx w))) (c1:Ca P w mg base "step_of" ["candidate","place"] 6 (z9y (kx w))):Fo P w mg base CX0 7 276 y00 ["self","place"] (z16 (kx w)):=by
 refine (z28 w.params).ok sc_Board_steps_from (λ vs H Q E h=>?_) (λ a6 A a5 s H vs Q E hr h=>?_)
 ·obtain ⟨b,u,m,k,d,l,D,c,rfl,_⟩:=h;rfl
 ·obtain ⟨b,u,m,k,d,l,D,c,rfl,⟨dx,fs,eb,⟨⟨lc,cs,fc,ec,cl,ca⟩,_,_,_,fn⟩⟩,gd,ok,pz,po,rl,q⟩:=h;refine ⟨_,(z02 (ps_set (i:=2) sc_Board_steps_from.nd rfl (U0 rfl) (pe_lst pa_nil))
   (z02 (ps_for K1 rfl (z17 (pe_fld (pv 0) rfl)) (z0g (i:=3) sc_Board_steps_from.nd rfl (U0 rfl))
   (z04 (ps_if (pt_val (zda (pv 3) (z0a _) (z39 _) c0 (hr.mono (by decide)) (z3u _) .nil pass0 (z00 (pJ 1) pa_nil)) (λ _=>rfl))
   (z02 (ps_set (i:=4) sc_Board_steps_from.nd rfl (U0 rfl) (pe_cal c1 (hr.mono (by decide)) rfl (z00 (pv 3) (z00 (pv 1) pa_nil))))
   (z04 (ps_if (PW.pt (pw_or (z08 op_isN (pe_fld (pv 3) rfl) pe_non (nomark _)) (pw_or1 (z08 opEq (pe_fld (pv 3) rfl) (pJ 4) (nomark _)))))
   (z04 (z2b (z14 (pv 2) (z00 (pv 4) pa_nil))))
   z0e)))
   z0e)))
   (z04 (ps_ret (pv 2))))),?_⟩
  refine ⟨w_0,λ o S=>?_⟩;obtain ⟨H1,v_,O,F⟩:=newA (.lst []) S;rw [<-v_];refine g_name (t_nx ?_);refine ⟨_,rfl,b,_,dx,fs,_,rfl,O _ _ eb,z1i _,z0z _,fc,lc,rfl,⟨_,SqL.of (O _ _ ec)⟩,?_⟩;refine z2e (K:=KX w.params) (a:=lc) (xs:=cs) (λ i σ f=>∃ys,Same H f/\f o=some (.lst ys)/\All2 (StpZ (kx w) f) (nexT (cP m d c.1) l d D c i) ys/\∃x3 x4,σ=[some (.ref b),some (.ref u),some (.ref o),x3,x4])
   ⟨[],O,F,.nil,_,_,rfl⟩ (λ i σ f _ h=>SqL.of (h.choose_spec.1 _ _ ec)) ?_ ?_
  ·rintro i y σ X hy ⟨ys,s2,e2,al2,x3,x4,rfl⟩;have a0:i < d.length:=by rw [<-cl];exact (List.getElem?_eq_some_iff.mp hy).1
   have B:d[i]? = some d[i]:=B0 a0;obtain ⟨p,W,g⟩:=z0u gd B;generalize d[i]=r at B g;have J:=(ca i r p y B W hy).same s2;obtain ⟨N,pb,vs,sp,sa,sb,sz⟩:=id pz;refine g_name ?_;have a3 :∀{f:Hp} {R:VK},Same H f->R (.ref N) f->tOp (rIx (kx w)) (tVar 1) (tC (.int 0)) [some (.ref b),some (.ref u),some (.ref o),some y,x4] f R:=λ C h=>⟨_,rfl,.inr (.inl ⟨u,_,0,.ref N,rfl,rfl,C.seqT sp,z06 (j:=0) rfl,h⟩)⟩
   have skip:cP m d c.1 i=false\/stp l r p i c=none->∀{x3 x4:Option V} {f:Hp},Same X f->∃ys,Same H f/\f o=some (.lst ys)/\All2 (StpZ (kx w) f) (nexT (cP m d c.1) l d D c (i + 1)) ys/\∃x3' x4',[some (.ref b),some (.ref u),some (.ref o),x3,x4]=[some (.ref b),some (.ref u),some (.ref o),x3',x4']:=λ h {x3 x4 f} C=>by
    refine ⟨ys,s2.trans C,C _ _ e2,?_,_,_,rfl⟩;rw [z4p,show nexAt (cP m d c.1) l d D c i=none by
     unfold nexAt;rcases h with h|h
     ·rw [h];rfl
     ·rw [B,W];split<;>first|exact h|rfl]
    rw [m9,N2];exact z01 (λ _ _ z=>StpZ.tups (.of C) z) al2
   obtain ⟨x,L,U,la,lb,as,bs,rfl,Z,f1,f2,f3,f4,f5,f6,f7,f8,f9,_⟩:=id J;refine ⟨_,rfl,x,L,U,rfl,Z,f9,a3 s2 ⟨.ref x,N,m,i,d,l,r,p,c.1,rfl,J,s2.seqT sa,_,rfl,?_⟩⟩;cases hc:cP m d c.1 i with
   | false=>exact iteF (skip (.inl hc) (Same.refl _))
   | true=>
   refine iteT ?_;have ni:i∉c.1:=of_decide_eq_true (Bool.and_eq_true_iff.mp (Bool.and_eq_true_iff.mp hc).1).1;refine ⟨_,rfl,_,rfl,.ref x,u,m,i,k,d.length,d,l,r,p,c,rfl,J,g.tt (.of s2),ok,pz.tups (.of s2),po,rl,a0,ni,λ M b6 q6 H3 a2 so v e3 a1=>?_⟩;refine g_name (t_nx ?_);have G:=stp_of (r:=r) (n:=i) a2;refine if_any (λ f=>H3=f/\stp l r p i c=some (stq l p i c M)) ?_ λ put=>?_;rotate_left
   ·refine t_or ?_;refine ⟨_,rfl,x,_,L,U,_,rfl,v _ _ Z,z0a _,z12 _,f6,rfl,_,rfl,?_⟩;have a4:=dz_ok g.2.2.2.1 so (po.n63 rl a0 ni).1;rcases g.2.2.2.2.2.2 with ⟨I,t⟩|⟨I,t⟩
    ·refine iteP (by rw [t];rfl) (iteT (put _ ⟨rfl,?_⟩));rw [G,I];rfl
    have na:¬ decide (r.a=V.non)=true:=λ h=>by have:=of_decide_eq_true h;rcases t with ⟨j,t⟩|⟨j,t⟩<;>(rw [t] at this;cases this)
    have F:r.e.isNone=false:=Option.isNone_eq_false_iff.mpr I;refine iteN na ?_;refine ⟨_,rfl,x,_,L,U,_,rfl,v _ _ Z,z0a _,z12 _,f6,?_⟩;refine ⟨_,rfl,.inr (.inl ⟨b6,_,1,_,rfl,rfl,SqT.of e3,z06 (j:=1) rfl,IsA.scal (.inl t) (.inl a4.2.isA),_,rfl,?_⟩)⟩;by_cases za:r.a=(dz p.k p.vb p.dt M).2
    ·refine iteP (decide_eq_true za) (put _ ⟨rfl,?_⟩);rw [G,F,j2g,decide_eq_true za.symm];rfl
    ·refine iteN (λ h=>za (of_decide_eq_true h)) (skip (.inr ?_) v);rw [G,F,j2g,decide_eq_false (λ h=>za h.symm)];rfl
   rintro f ⟨rfl,hst⟩;have Y:=v _ _ e2;have yl:ys.length<=i:=by rw [z03 al2];exact zcl
   refine ⟨_,rfl,.inl ⟨rfl,_,SqL.of Y⟩,_,rfl,o,ys,_,rfl,rfl,Y,A1 (m:=100) (by omega) (by decide),?_⟩;have tu:Tups (kx w) H3 (upd H3 o (.lst (ys++[.ref b6]))):=Tups.lst Y;refine ⟨ys++[.ref b6],Same.keep (s2.trans v) S,upd_same,?_,_,_,rfl⟩;rw [z4p,show nexAt (cP m d c.1) l d D c i=some (stq l p i c M) by unfold nexAt;rw [if_pos hc,B,W];exact hst];exact zbq (z01 (λ _ _ z=>(StpZ.tups (.of v) z).tups tu) al2) (.cons (a1.tups tu) .nil)
  ·rintro σ X ⟨ys,s2,e2,al2,x3,x4,rfl⟩;rw [cl] at al2;exact ⟨_,rfl,q o ys X s2 S e2 al2⟩
end
section
theorem cut_to {ys:List V} {m:Nat} (h:m<=ys.length):cutV ys none (some (m:Int))=ys.take m/\HT.sIx ys.length 0 none=0/\HT.sIx ys.length ys.length (some (m:Int))=m:=by
 have a:HT.sIx ys.length 0 none=0:=by simp [HT.sIx]
 have b:HT.sIx ys.length ys.length (some (m:Int))=m:=by simp [HT.sIx];rw [if_neg (by omega)];exact j18 h
 refine ⟨?_,a,b⟩;unfold cutV;rw [a,b,V5,Nat.sub_zero]
end
section
variable {P:Program} {w:R0} {mg:Str->Option Value} {base:Heap}
def z3v (K:b0):Sp:=λ vs H Q _=>∃(a:Addr) (ns:List Int),vs=[.ref a,.int 0]/\SqL K H a (ns.map V.int)/\∀i,Q (.int i) H
theorem z7l (T:TX (kx w) mg):Fo P w mg base CX0 1 357 y0g ["script","k"] (z3v (kx w)):=by
 refine (z2n w.params).ok z7k (λ d H Q E h=>?_) (λ f A g s H d Q E e h=>?_)
 ·obtain ⟨a,b,rfl,_⟩:=h;rfl
 ·obtain ⟨a,b,rfl,c,q⟩:=h;refine ⟨_,(z02 (ps_if (z08 op_lt (pv 1) (z09 z1h rfl (T.no (n_len _)) X3 (z00 (pv 0) pa_nil)) (nomark _))
   (z04 (ps_ret (pe_ix ix_seq (pv 0) (pv 1) (λ _ _=>rfl))))
   z0e)
   (z04 (ps_ret pe_int))),?_⟩
  refine ⟨_,rfl,_,rfl,.inl ⟨a,_,rfl,.inl c,_,_,rfl,rfl,_,rfl,?_⟩⟩;cases b with
  | nil=>exact iteF (q 0)
  | cons n b=>rw [if_pos (by simp)];exact ⟨_,rfl,_,rfl,.inl ⟨a,_,0,.int n,rfl,rfl,c,z06 (xs:=(n :: b).map V.int) (j:=0) rfl,q n⟩⟩
def DeckAt (H:Hp) (r:Addr) (n:Nat):Prop:=∃a b c:Int,H r=some (.lst [.int a,.int b,.int c])/\0<=b/\b < 2/\0<=c/\c<=n
theorem DeckAt.same {H H':Hp} {r:Addr} {n:Nat} (h:DeckAt H r n) (s:Same H H'):DeckAt H' r n:=by obtain ⟨a,b,c,e,z⟩:=h;exact ⟨a,b,c,s _ _ e,z⟩
theorem DeckAt.fresh {r p:Addr} {H:Hp} {n:Nat} (h:DeckAt H r n) (e:H p=none):p≠r:=λ z=>by obtain ⟨a,b,c,d,_⟩:=h;rw [z,d] at e;cases e
structure Dw (r:Addr) (n:Nat) (H H':Hp):Prop where
 k:Kept r H H'
 r:DeckAt H' r n
theorem Dw.trans {r:Addr} {n m:Nat} {H H1 H2:Hp} (a:Dw r n H H1) (b:Dw r m H1 H2):Dw r m H H2:=⟨a.k.trans b.k,b.r⟩
theorem Dw.same {r:Addr} {n:Nat} {H H1 H2:Hp} (a:Dw r n H H1) (s:Same H1 H2):Dw r n H H2:=⟨a.k.trans s.kept,a.r.same s⟩
theorem DeckAt.dw {r:Addr} {n:Nat} {H:Hp} (h:DeckAt H r n):Dw r n H H:=⟨.refl,h⟩
theorem Dw.free {r:Addr} {n:Nat} {H H':Hp} {p:Addr} (h:Dw r n H H') (e:H' p=none):H p=none:=by
 cases z:H p with
 | none=>rfl
 | some o=>rw [h.k _ _ (h.r.fresh e) z] at e;cases e
def z1t:Sp:=λ vs H Q _=>∃(r:Addr) (m:Int) (n:Nat),vs=[.ref r,.int m]/\DeckAt H r n/\n < 10000/\0 < m/\m < 2 ^ 64/\∀t H',Dw r (n + 1) H H'->0<=t->t < m->Q (.int t) H'
theorem zbz (T:TX (kx w) mg):Fo P w mg base CX0 1 364 y1c ["deck","many"] z1t:=by
 refine (z5k w.params).ok sc__law_take (λ l H Q E h=>?_) (λ v A B s H l Q E D h=>?_)
 ·obtain ⟨r,m,n,rfl,_⟩:=h;rfl
 ·obtain ⟨r,m,n,rfl,⟨a,b,c,e,k,g,o,F⟩,u,f,p,q⟩:=h;refine ⟨_,(z02 (ps_if (z08 opEq (pJ 0) pe_int (nomark _))
   (z02 (ps_set (i:=2) sc__law_take.nd rfl (U0 rfl) (pe_op op_mod (pJ 0) (pv 1)))
   (z02 (ps_asg (pe_op zc8 (pJ 0) (pv 1)) (pg_sub (pv 0) pe_int z5t))
   (z04 (ps_ret (pv 2)))))
   z0e)
   (z02 (ps_asg (pe_op opAdd (pJ 0) pe_int) (pg_sub (pv 0) pe_int z5t))
   (z02 (ps_set (i:=3) sc__law_take.nd rfl (U0 rfl) (pe_op op_mod (pe_op opAdd (pe_op op_mul (pe_op op_mod (pJ 0) pe_int) (pe_op opAdd (pe_op op_mul (pJ 0) (pJ 0)) pe_int)) (pJ 0)) pe_int))
   (z02 (ps_set (i:=3) sc__law_take.nd rfl (U0 rfl) (pe_op op_mod (pe_op op_mul (pv 3) (pv 3)) pe_int))
   (z04 (ps_ret (pe_op op_mod (pe_op zc8 (pe_op op_mod (pe_op op_mul (pv 3) pe_int) pe_int) pe_int) (pv 1)))))))),?_⟩
  refine ⟨_,rfl,.inl ⟨r,_,1,.int b,rfl,rfl,SqL.of e,rfl,rfl,_,rfl,?_⟩⟩;refine ite2 (λ _=>?_) λ _=>?_
  ·refine ⟨_,rfl,.inl ⟨r,_,0,.int a,rfl,rfl,SqL.of e,rfl,_,rfl,_,_,rfl,rfl,f,?_⟩⟩;refine ⟨_,rfl,.inl ⟨r,_,0,.int a,rfl,rfl,SqL.of e,rfl,_,rfl,_,_,rfl,rfl,⟨f,p⟩,?_⟩⟩;refine ⟨_,rfl,r,_,0,0,rfl,rfl,e,rfl,?_⟩;exact ⟨_,rfl,q _ _ ⟨.set,_,b,c,upd_same,k,g,o,by omega⟩ (U6 _ (by omega)) (T5 _ f)⟩
  ·refine ⟨_,rfl,.inl ⟨r,_,2,.int c,rfl,rfl,SqL.of e,rfl,.inl ⟨_,_,rfl,rfl,?_⟩⟩⟩;refine ⟨_,rfl,r,_,2,2,rfl,rfl,e,rfl,?_⟩;have d:upd H r (.lst ([V.int a,.int b,.int c].set 2 (.int (c + 1)))) r=some (.lst [.int a,.int b,.int (c + 1)]):=upd_same;have j:Kept r H (upd H r (.lst ([V.int a,.int b,.int c].set 2 (.int (c + 1))))):=.set;generalize upd H r (.lst ([V.int a,.int b,.int c].set 2 (.int (c + 1))))=H2 at d j⊢;have C:0<=a % 2147483647:=U6 _ (by decide);have t:a % 2147483647 < 2147483647:=T5 _ (by decide);refine ⟨_,rfl,.inl ⟨r,_,0,.int a,rfl,rfl,SqL.of d,rfl,_,_,rfl,rfl,(show (0:Int) < 2147483647 by decide),?_⟩⟩;refine ⟨_,rfl,.inl ⟨r,_,2,.int (c + 1),rfl,rfl,SqL.of d,rfl,_,rfl,.inl ⟨r,_,2,.int (c + 1),rfl,rfl,SqL.of d,rfl,_,_,rfl,rfl,.inl ⟨by omega,by omega⟩,.inl ⟨_,_,rfl,rfl,?_⟩⟩⟩⟩;refine ⟨_,_,rfl,rfl,.inl ⟨by omega,by omega⟩,_,rfl,.inl ⟨r,_,2,.int (c + 1),rfl,rfl,SqL.of d,rfl,.inl ⟨_,_,rfl,rfl,?_⟩⟩⟩;refine ⟨_,_,rfl,rfl,(show (0:Int) < 2147483629 by decide),?_⟩;generalize hx:(a % 2147483647 * ((c + 1) * (c + 1) + 48271) + (c + 1)) % 2147483629=x;have z:0<=x:=by rw [<-hx];exact U6 _ (by decide)
   have y:x < 2147483629:=by rw [<-hx];exact T5 _ (by decide)
   refine ⟨_,rfl,_,rfl,_,_,rfl,rfl,.inl ⟨by omega,by omega⟩,_,_,rfl,rfl,(show (0:Int) < 2147483587 by decide),?_⟩;refine ⟨_,rfl,_,_,rfl,rfl,.inr (by decide),_,_,rfl,rfl,(show (0:Int) < 2147483563 by decide),_,_,rfl,rfl,⟨by decide,by decide⟩,_,rfl,_,_,rfl,rfl,f,?_⟩;exact q _ _ ⟨j,a,b,c + 1,d,k,g,by omega,by omega⟩ (U6 _ (by omega)) (T5 _ f)
def z62:Sp:=λ vs H Q _=>∃(r:Addr) (n:Nat),vs=[.ref r]/\DeckAt H r n/\n < 10000/\∀i H',Dw r (n + 1) H H'->near i->Q (.int i) H'
theorem zah (T:TX (kx w) mg) (c0:Ca P w mg base "_law_take" ["deck","many"] 1 z1t):Fo P w mg base CX0 2 381 y13 ["deck"] z62:=by
 refine (z42 w.params).ok zb2 (λ f H Q E h=>?_) (λ u A x s H f Q E m h=>?_)
 ·obtain ⟨r,n,rfl,_⟩:=h;rfl
 ·obtain ⟨r,n,rfl,R,d,q⟩:=h;refine q_of (z3i (qs_ret (qe_ix ix_seq (qe_lst (z0c (QE.mk pe_int) (z0c (QE.mk pe_int) (z0c (QE.mk pe_int) (z0c (QE.mk pe_int) (z0c (QE.mk pe_int) (z0c (QE.mk pe_int) (z0c (QE.mk (pe_un un_neg pe_int)) (z0c (QE.mk (pe_op op_pow pe_int pe_int)) qa_nil))))))))) (QE.mk (pe_cal c0 (m.mono (by decide)) rfl (z00 (pv 0) (z00 pe_int pa_nil)))) (λ _ _=>rfl)))) ?_;refine ⟨_,rfl,_,_,rfl,rfl,p9,w_8,λ l a=>?_⟩;simp only [e9];refine ⟨_,rfl,r,8,n,rfl,R.same (Same.upd a),d,by decide,by decide,λ t p b i e=>?_⟩;obtain ⟨v,g,c⟩:=atI_of (xs:=[V.int 0,.int 1,.int 2,.int 3,.int 1,.int 2,.int (-1),.int 1000000000]) i e;refine .inl ⟨l,_,t,v,rfl,rfl,SqL.of (b.k _ _ (R.fresh a) upd_same),g,?_⟩;have j:=(R.dw.same (Same.upd (o:=.lst [V.int 0,.int 1,.int 2,.int 3,.int 1,.int 2,.int (-1),.int 1000000000]) a)).trans b;simp only [B1,j0,or_false] at c;rcases c with rfl|rfl|rfl|rfl|rfl|rfl|rfl|rfl<;>exact q _ _ j ⟨by decide,by decide⟩
def z6m (K:b0):Sp:=λ vs H Q _=>∃(r:Addr) (k:Str) (n:Nat),vs=[.ref r,.str k]/\DeckAt H r n/\n < 9000/\k∈kinds5/\∀p v x d H' m,Dw r m H H'->m<=n + 3->H' p=some (.tup [.str v,x])->H p=none->DeedOk k v d->IsDt K H' d x->WorthIn H' d x->Q (.ref p) H'
theorem zc4 (T:TX (kx w) mg) (c0:Ca P w mg base "_law_take" ["deck","many"] 1 z1t) (c1:Ca P w mg base "_law_worth" ["deck"] 2 z62):Fo P w mg base CX0 3 388 y1d ["deck","kind"] (z6m (kx w)):=by
 refine (z5s w.params).ok sc__law_verb (λ vs H Q E h=>?_) (λ b9 A b6 s H vs Q E g h=>?_)
 ·obtain ⟨r,k,n,rfl,_⟩:=h;rfl
 ·obtain ⟨r,k,n,rfl,R,hn,hk,q⟩:=h;refine q_of (z0h (qs_set (i:=2) sc__law_verb.nd rfl (U0 rfl) (zmu (zbj (QE.mk pe_str) (qe_lst (z0c (QE.mk pe_str) (z0c (QE.mk pe_str) qa_nil))) (zbj (QE.mk pe_str) (qe_lst (z0c (QE.mk pe_str) (z0c (QE.mk pe_str) qa_nil))) (zbj (QE.mk pe_str) (qe_lst (z0c (QE.mk pe_str) (z0c (QE.mk pe_str) qa_nil))) zma))) rfl rfl (by simp) (by decide)))
   (z0h (zfd (hu_of g) (QE.mk (pv 2)) (QE.mk pe_str) (qe_lst (z0c (QE.mk pe_str) (z0c (QE.mk pe_str) (z0c (QE.mk pe_str) qa_nil)))) rfl)
   (z0h (zfd (hu_of g) (QE.mk (pv 2)) (QE.mk pe_str) (qe_lst (z0c (QE.mk pe_str) (z0c (QE.mk pe_str) (z0c (QE.mk pe_str) (z0c (QE.mk pe_str) qa_nil))))) rfl)
   (z0h (QS.mk (ps_set (i:=3) sc__law_verb.nd rfl (U0 rfl) (pe_ix ix_seq (z74 (hu_of g) (pv 2) (pv 1) (λ _ _=>rfl)) (pe_cal c0 (g.mono (by decide)) rfl (z00 (pv 0) (z00 (z09 z1h rfl (T.no (n_len _)) X3 (z00 (z74 (hu_of g) (pv 2) (pv 1) (λ _ _=>rfl)) pa_nil)) pa_nil))) (λ _ _=>rfl))))
   (z0h (QS.mk (ps_if (z08 opEq (pv 3) pe_str (nomark _))
   (z04 (ps_ret (pe_tup (z00 (pv 3) (z00 (pe_tup (z00 (pe_cal c1 (g.mono (by decide)) rfl (z00 (pv 0) pa_nil)) (z00 (pe_cal c1 (g.mono (by decide)) rfl (z00 (pv 0) pa_nil)) pa_nil))) pa_nil)))))
   z0e))
   (z0h (QS.mk (ps_if (z08 z1x (pv 3) (pe_lst (z00 pe_str (z00 pe_str pa_nil))) (by with_unfolding_all rfl))
   (z04 (ps_ret (pe_tup (z00 (pv 3) (z00 pe_non pa_nil)))))
   z0e))
   (z3i (QS.mk (ps_ret (pe_tup (z00 (pv 3) (z00 (pe_cal c1 (g.mono (by decide)) rfl (z00 (pv 0) pa_nil)) pa_nil)))))))))))) ?_
  refine z0k ?_;intro p hp;refine ⟨w_2,λ O M=>⟨w_2,λ Y N=>⟨w_2,λ Z K=>?_⟩⟩⟩;obtain ⟨ep,H2,b3,s2,e2,f2⟩:=words3 (H:=H) (k1:="register") (k2:="counter") (k3:="queue") (w1:=["write","read"]) (w2:=["add","read"]) (w3:=["put","take"]) hp M N K (by decide +kernel) (by decide +kernel) (by decide +kernel);refine ⟨ep,[(.inr "register",.ref O),(.inr "counter",.ref Y),(.inr "queue",.ref Z)],rfl,(show (3:Nat)<=15 by decide),?_⟩;rw [show mergeK [] [((.inr "register" : Key),V.ref O),(.inr "counter",.ref Y),(.inr "queue",.ref Z)]=[(.inr "register",.ref O),(.inr "counter",.ref Y),(.inr "queue",.ref Z)] from rfl];refine g_name ?_;refine (show∀A,H2=A->tSeq _ _ _ _ A from ?_) _ b3;intro A G;subst G;refine ⟨w_3,λ l4 h4=>⟨_,rfl,p,_,rfl,DPut.k (k:=.inr "set") ((Same.upd h4) _ _ e2) (show (3:Nat) < sizeLine by decide),?_⟩⟩;obtain ⟨H4,b1,W4,k4⟩:=WordsAt.put (k:="set") (ws:=["put","cut","has"]) h4 e2 (n:=3) (t0 _) f2;refine (show∀A,H4=A->tSeq _ _ _ _ A from ?_) _ b1;intro A G;subst G;obtain ⟨b8,e4,n4,f4⟩:=W4.ex;refine ⟨w_4,λ l5 h5=>⟨_,rfl,p,_,rfl,DPut.k (k:=.inr "cell") ((Same.upd h5) _ _ e4) (A1 n4 (by decide)),?_⟩⟩;obtain ⟨H5,b4,W5,k5⟩:=WordsAt.put (k:="cell") (ws:=["read","write","swap","swap"]) h5 e4 n4 f4;refine (show∀A,H5=A->tSeq _ _ _ _ A from ?_) _ b4;intro A G;subst G;have s5:Same H H5:=zcf (L:=[p]) ((s2.keptL.trans k4).trans k5) (λ l hl=>by rw [List.mem_singleton.mp hl];exact hp);obtain ⟨b7,e5,_,f5⟩:=W5.ex;have w5:=R.dw.same s5;have fk:(if k = "cell" then some ["read","write","swap","swap"] else if k = "set" then some ["put","cut","has"] else if k = "register" then some ["write","read"] else if k = "counter" then some ["add","read"] else if k = "queue" then some ["put","take"] else none:Option (List Str))=some (verbsT k):=by have B:=hk;unfold kinds5 at B;simp only [B1,j0,or_false] at B;rcases B with rfl|rfl|rfl|rfl|rfl<;>decide +kernel
  obtain ⟨D,v6,I⟩:=f5 k _ fk;have dg:DGet H5 p (.str k) (some (.ref D)):=by have:=DGet.k (k:=.inr k) e5;rw [v6] at this;exact this
  refine ⟨_,rfl,_,rfl,p,.ref D,rfl,dg,_,rfl,_,rfl,_,rfl,p,.ref D,rfl,dg,.inl ⟨D,_,rfl,.inl (SqL.of I),?_⟩⟩;have a4:0 < (verbsT k).length/\(verbsT k).length<=4:=by have B:=hk;unfold kinds5 at B;simp only [B1,j0,or_false] at B;rcases B with rfl|rfl|rfl|rfl|rfl<;>decide +kernel
  refine ⟨r,_,n,rfl,w5.r,by omega,by rw [o0];omega,by rw [o0];omega,λ t7 H7 w7 a5 b2=>?_⟩;obtain ⟨v0,a8,a6⟩:=atI_of (xs:=(verbsT k).map V.str) a5 b2;obtain ⟨v,hv,rfl⟩:=List.mem_map.mp a6;have n6:D≠r:=λ z=>by
   obtain ⟨a,b,c,er,_⟩:=w5.r;rw [z,er] at I;cases hws:verbsT k with
   | nil=>rw [hws] at a4;exact absurd a4.1 (by decide)
   | cons y ys=>rw [hws] at I;cases I
  refine .inl ⟨D,_,t7,_,rfl,rfl,SqL.of (w7.k _ _ n6 I),a8,?_⟩;have a7:=w5.trans w7;have fr :∀{m:Nat} {H':Hp} {p':Addr},Dw r m H H'->H' p'=none->H p'=none:=λ hw e=>hw.free e;have J:Dw r (n + 1) H H7:=a7;have W :∀(d:Dt) (x:V) (u:Hp) (m:Nat),Dw r m H u->m<=n + 3->DeedOk k v d->IsDt (kx w) u d x->WorthIn u d x->∀p9,u p9=none->Q (.ref p9) (upd u p9 (.tup [.str v,x])):=λ d x u m f b0 dk ix wi p9 C=>q p9 v x d _ m (f.same (Same.upd C)) b0 upd_same (f.free C) dk (ix.same (Same.upd C)) (λ a b e=>(wi a b e).elim λ t z=>⟨t,z.1,(Same.upd C) _ _ z.2⟩);rcases zlw hk hv with ⟨a2,F⟩|⟨hsw,F⟩|⟨M,N,K,F⟩
  ·refine ⟨_,rfl,rfl,_,rfl,iteN (by rcases a2 with rfl|rfl<;>decide +kernel) ?_⟩;refine ⟨_,rfl,w_2,λ S U=>⟨S,[V.str "read",.str "take"],rfl,.inl (SqL.of upd_same),rfl,rfl,_,rfl,iteP (by rcases a2 with rfl|rfl<;>decide +kernel) ?_⟩⟩;exact ⟨_,rfl,w_2,λ p9 C=>W .non .non _ _ (J.same (Same.upd U)) (by omega) F rfl (λ _ _ e=>by cases e) p9 C⟩
  ·subst hsw;refine ⟨_,rfl,rfl,_,rfl,iteP (decide_eq_true rfl) ?_⟩;refine ⟨_,rfl,_,rfl,r,_,rfl,J.r,by omega,λ i u f ni=>⟨_,rfl,r,_,rfl,f.r,by omega,λ j b5 a0 nj=>⟨w_2,λ a3 a9=>⟨w_2,λ X a1=>?_⟩⟩⟩⟩;exact W (.tup [.int i,.int j]) (.ref a3) _ _ (((J.trans f).trans a0).same (Same.upd a9)) (by omega) (F i j ni nj) (.mkT upd_same (.mk2 rfl rfl)) (λ a b e=>by cases e;exact ⟨a3,rfl,upd_same⟩) X a1
  ·refine ⟨_,rfl,rfl,_,rfl,iteN (by rw [decide_eq_false λ e=>K (by injection e)];decide) ?_⟩;refine ⟨_,rfl,w_2,λ S U=>⟨S,[V.str "read",.str "take"],rfl,.inl (SqL.of upd_same),rfl,rfl,_,rfl,?_⟩⟩;have iv:inV (.str v) [.str "read",.str "take"]=decide (v∈(["read","take"]:List Str)):=zna v ["read","take"];rw [if_neg N0,iv];refine iteN (λ z=>?_) ?_
   ·have:=of_decide_eq_true z;simp only [B1,j0,or_false] at this;rcases this with z|z
    ·exact M z
    ·exact N z
   ·have f:=J.same (Same.upd (o:=.lst [V.str "read",.str "take"]) U);exact ⟨_,rfl,_,rfl,r,_,rfl,f.r,by omega,λ i u a0 ni=>⟨w_2,λ X a1=>W (.int i) (.int i) _ _ (f.trans a0) (by omega) (F i ni) rfl (λ _ _ e=>by cases e) X a1⟩⟩
theorem z9w {K:b0} {H:Hp} :∀ns:List Int,IsPds K H (ns.map PyData.int) (ns.map V.int)
 | []=>rfl
 | n :: ns=>⟨.int n,ns.map V.int,rfl,rfl,z9w ns⟩
theorem z9z :∀ns:List Int,z15 (ns.map PyData.int)=true
 | []=>rfl
 | n :: ns=>by show (true && z15 (ns.map PyData.int))=true;rw [z9z ns];rfl
theorem zb7 :∀ns:List Int,O1 (ns.map PyData.int)<=1
 | []=>by decide
 | n :: ns=>by have:=zb7 ns;show max (j2a (.int n)) (O1 (ns.map PyData.int))<=1;exact Nat.max_le.mpr ⟨(show (0:Nat)<=1 by decide),this⟩
def zbe (K:b0):Sp:=λ vs H Q _=>∃(k v:Str) (st x:V) (d:Dt) (n:Nat) (sv:Sv),vs=[.str k,st,.str v,x]/\SvOk n k sv/\StZ K H sv st/\n < 63/\DeedOk k v d/\IsDt K H d x/\WorthIn H d x/\∀p st' H',Same H H'->H' p=some (.tup [st',(dz k v d sv).2])->StZ K H' (dz k v d sv).1 st'->Q (.ref p) H'
theorem zg5 (T:TX (kx w) mg):Fo P w mg base CX0 1 369 y21 ["kind","state","verb","worth"] (zbe (kx w)):=by
 refine (z8z w.params).ok sc__law_do (λ vs H Q E h=>?_) (λ b5 A b4 s H vs Q E hr h=>?_)
 ·obtain ⟨k,v,F,x,d,n,sv,rfl,_⟩:=h;rfl
 ·obtain ⟨k,v,F,x,d,n,sv,rfl,C,sz,hn,hd,L,wi,q⟩:=h;refine ⟨_,(z02 (ps_if (z08 opEq (pv 2) pe_str (nomark _))
   (z04 (ps_ret (pe_tup (z00 (pv 1) (z00 (pv 1) pa_nil)))))
   z0e)
   (z02 (ps_if (z08 opEq (pv 2) pe_str (nomark _))
   (z04 (ps_ret (pe_tup (z00 (pv 3) (z00 pe_str pa_nil)))))
   z0e)
   (z02 (ps_if (z08 opEq (pv 2) pe_str (nomark _))
   (z04 (ps_ret (pe_tup (z00 (pe_op opAdd (pv 1) (pv 3)) (z00 (pv 1) pa_nil)))))
   z0e)
   (z02 (ps_if (z08 opEq (pv 2) pe_str (nomark _))
   (z04 (ps_ret (pe_ix ix_seq (pe_lst (z00 (pe_tup (z00 (pv 1) (z00 pe_int pa_nil))) (z00 (pe_tup (z00 (pJ 3) (z00 pe_int pa_nil))) pa_nil))) (z0t zcc rfl (T.no (n_int _)) boot_int (z00 (z18 opEq (pv 1) (pJ 3) (nomark _)) pa_nil)) (λ _ _=>rfl))))
   z0e)
   (z02 (ps_if (z08 opEq (pv 2) pe_str (nomark _))
   (z02 (ps_if (z08 (op_eqP hr) (pv 1) (pe_tup pa_nil) (nomark _))
   (z04 (ps_ret (pe_tup (z00 (pv 1) (z00 pe_str pa_nil)))))
   z0e)
   (z04 (ps_ret (pe_tup (z00 (z2l slSeq (pv 1) (z2r pe_int) z4s) (z00 (pJ 1) pa_nil))))))
   z0e)
   (z02 (ps_if (z08 opEq (pv 0) pe_str (nomark _))
   (z04 (ps_ret (pe_tup (z00 (pe_op zdu (pv 1) (pe_tup (z00 (pv 3) pa_nil))) (z00 pe_str pa_nil)))))
   z0e)
   (z02 (ps_set (i:=4) sc__law_do.nd rfl (U0 rfl) (z18 z1x (pv 3) (pv 1) (by with_unfolding_all rfl)))
   (z02 (ps_if (PW.pt (pw_and (z08 opEq (pv 2) pe_str (nomark _)) (zaj (pt_not (pt_val (pv 4) (λ _=>rfl))))))
   (z04 (ps_ret (pe_tup (z00 (z0t z0j rfl (T.no (z2u _)) E4 (z00 (z09 z19 rfl (T.no (z22 _)) Y4 (z00 (pe_op zdu (pv 1) (pe_tup (z00 (pv 3) pa_nil))) pa_nil)) pa_nil)) (z00 pe_int pa_nil)))))
   z0e)
   (z02 (ps_if (z08 opEq (pv 2) pe_str (nomark _))
   (z04 (ps_ret (pe_tup (z00 (pv 1) (z00 pe_int pa_nil)))))
   z0e)
   (z02 (ps_if (z08 opEq (pv 2) pe_str (nomark _))
   (z04 (ps_ret (pe_tup (z00 (z0t z0j rfl (T.no (z2u _)) E4 (z00 (pe_cg (xs:=["one"]) (g:=gName 0) (fr:=[(3,"worth")]) (pi_tup (pv 1)) (λ _ _ _ _ _=>(pg_cn (N:=["one","worth"]) 0)) (λ _ _ _ _ _=>(pf_one (z08 opNe (pv 0) (pv 1) (nomark _)))) (λ _ _ _ _ _=>(pv 0))) pa_nil)) (z00 (z0t zcc rfl (T.no (n_int _)) boot_int (z00 (pv 4) pa_nil)) pa_nil)))))
   z0e)
   (z04 (ps_ret (pe_tup (z00 (pv 1) (z00 (z0t zcc rfl (T.no (n_int _)) boot_int (z00 (pv 4) pa_nil)) pa_nil))))))))))))))),?_⟩
  have big :∀{b:List Int},b.length<=n->(b.map V.int).length + 1<=sizeLine:=λ l=>by rw [o0];exact A0 (m:=64) (by omega) (by decide)
  have a3 :∀(b:List Int) (i:Int),b.map V.int++[V.int i]=(b++[i]).map V.int:=λ b i=>by rw [E1];rfl
  have a6:rowK "queue":=.inl rfl;have a2:rowK "set":=.inr rfl;cases hd with
  | regR=>
   have u:¬ rowK "register":=by decide +kernel
   obtain ⟨a,rfl,_,_⟩:=C.isNum u;cases (show F=V.int a from sz);rw [zh0] at q;refine ⟨_,rfl,rfl,_,rfl,iteP (decide_eq_true rfl) ?_⟩;exact ⟨_,rfl,_,rfl,w_2,λ p c=>q p _ _ (Same.upd c) upd_same rfl⟩
  | cntR=>
   have u:¬ rowK "counter":=by decide +kernel
   obtain ⟨a,rfl,_,_⟩:=C.isNum u;cases (show F=V.int a from sz);rw [zhx] at q;refine ⟨_,rfl,rfl,_,rfl,iteP (decide_eq_true rfl) ?_⟩;exact ⟨_,rfl,_,rfl,w_2,λ p c=>q p _ _ (Same.upd c) upd_same rfl⟩
  | celR=>
   have u:¬ rowK "cell":=by decide +kernel
   obtain ⟨a,rfl,_,_⟩:=C.isNum u;cases (show F=V.int a from sz);rw [zge] at q;refine ⟨_,rfl,rfl,_,rfl,iteP (decide_eq_true rfl) ?_⟩;exact ⟨_,rfl,_,rfl,w_2,λ p c=>q p _ _ (Same.upd c) upd_same rfl⟩
  | regW ni=>
   rename_i i;have u:¬ rowK "register":=by decide +kernel
   obtain ⟨a,rfl,_,_⟩:=C.isNum u;cases (show F=V.int a from sz);cases (show x=V.int i from L);rw [zg8] at q;refine ⟨_,rfl,rfl,_,rfl,iteK ⟨_,rfl,rfl,_,rfl,iteP (decide_eq_true rfl) ?_⟩⟩;exact ⟨_,rfl,w_2,λ p c=>q p _ _ (Same.upd c) upd_same rfl⟩
  | celW ni=>
   rename_i i;have u:¬ rowK "cell":=by decide +kernel
   obtain ⟨a,rfl,_,_⟩:=C.isNum u;cases (show F=V.int a from sz);cases (show x=V.int i from L);rw [zhn] at q;refine ⟨_,rfl,rfl,_,rfl,iteK ⟨_,rfl,rfl,_,rfl,iteP (decide_eq_true rfl) ?_⟩⟩;exact ⟨_,rfl,w_2,λ p c=>q p _ _ (Same.upd c) upd_same rfl⟩
  | cntA ni=>
   rename_i i;have u:¬ rowK "counter":=by decide +kernel
   obtain ⟨a,rfl,_,_⟩:=C.isNum u;cases (show F=V.int a from sz);cases (show x=V.int i from L);rw [zhz] at q;refine ⟨_,rfl,rfl,_,rfl,iteK ⟨_,rfl,rfl,_,rfl,iteK ⟨_,rfl,rfl,_,rfl,iteP (decide_eq_true rfl) ?_⟩⟩⟩;exact ⟨_,rfl,_,rfl,.inl ⟨a,i,rfl,rfl,_,rfl,w_2,λ p c=>q p _ _ (Same.upd c) upd_same rfl⟩⟩
  | celS ni nj=>
   rename_i i j;have u:¬ rowK "cell":=by decide +kernel
   obtain ⟨a,rfl,_,_⟩:=C.isNum u;cases (show F=V.int a from sz);obtain ⟨t,rfl,et⟩:=wi i j rfl;refine ⟨_,rfl,rfl,_,rfl,iteK ⟨_,rfl,rfl,_,rfl,iteK ⟨_,rfl,rfl,_,rfl,iteK ⟨_,rfl,rfl,_,rfl,iteP (decide_eq_true rfl) ?_⟩⟩⟩⟩;refine ⟨_,rfl,w_2,λ e M=>?_⟩;obtain ⟨H1,v_,D,W⟩:=newA (.tup [.int a,.int 0]) M;rw [<-v_];refine ⟨_,rfl,.inr (.inl ⟨t,_,1,.int j,rfl,rfl,SqT.of (D _ _ et),z06 (j:=1) rfl,w_2,λ B b3=>?_⟩)⟩;have I:=Same.upd (o:=.tup [.int j,.int 1]) b3;have e2:upd H1 B (.tup [.int j,.int 1]) B=some (.tup [.int j,.int 1]):=upd_same;have a8:=I _ _ W;generalize upd H1 B (.tup [.int j,.int 1])=X at I e2 a8⊢;refine ⟨w_2,λ l Z=>?_⟩;have G:=Same.upd (o:=.lst [.ref e,.ref B]) Z;have e3:upd X l (.lst [.ref e,.ref B]) l=some (.lst [.ref e,.ref B]):=upd_same;have a7:=G _ _ a8;have a9:=G _ _ e2;generalize upd X l (.lst [.ref e,.ref B])=H3 at G e3 a7 a9⊢;have sx:=(D.trans I).trans G;refine ⟨_,rfl,_,rfl,.inr (.inl ⟨t,_,0,.int i,rfl,rfl,SqT.of (sx _ _ et),z06 (j:=0) rfl,rfl,.inl (.inr ⟨_,rfl,?_⟩)⟩)⟩;by_cases z:decide (V.int a=V.int i)=true
   ·rw [zcz,if_pos (V.int.inj (of_decide_eq_true z))] at q;exact .inl ⟨l,_,_,.ref B,rfl,rfl,SqL.of e3,by rw [if_pos z];rfl,q B _ _ sx a9 rfl⟩
   ·rw [zcz,if_neg λ y=>z (decide_eq_true (congrArg V.int y))] at q;exact .inl ⟨l,_,_,.ref e,rfl,rfl,SqL.of e3,by rw [if_neg z];rfl,q e _ _ sx a7 rfl⟩
  | quT=>
   obtain ⟨b,rfl,J,_,_⟩:=C.isRow a6;obtain ⟨t,rfl,f⟩:=sz;refine ⟨_,rfl,rfl,_,rfl,iteK ⟨_,rfl,rfl,_,rfl,iteK ⟨_,rfl,rfl,_,rfl,iteK ⟨_,rfl,rfl,_,rfl,iteK ⟨_,rfl,rfl,_,rfl,iteP (decide_eq_true rfl) ?_⟩⟩⟩⟩⟩;refine ⟨_,rfl,w_0,λ p0 b2=>?_⟩;have S:=Same.upd (o:=.tup []) b2;refine ⟨.tuple (b.map PyData.int),.tuple [],⟨t,_,rfl,S.seqT f,z9w b⟩,⟨p0,[],rfl,SqT.of upd_same,rfl⟩,z9z b,rfl,A0 (Nat.add_le_add_right (zb7 b) 1) (by decide),_,rfl,?_⟩;generalize upd H p0 (.tup [])=H0 at S⊢;have a0:=S.seqT f;cases b with
   | nil=>rw [zfv] at q;exact iteP rfl ⟨_,rfl,w_2,λ p c=>q p _ _ (S.trans (Same.upd c)) upd_same ⟨t,rfl,(Same.upd c).seqT a0⟩⟩
   | cons m r=>
    refine iteN N0 ?_;refine ⟨_,rfl,_,rfl,.inr (.inl ⟨t,_,rfl,a0,?_,λ e M=>?_⟩)⟩
    ·intro z;have:HT.sIx ((m :: r).map V.int).length 0 (some 1)=1:=by rw [o0,P0];simp [HT.sIx]
     omega
    ·have ec:cutV ((m :: r).map V.int) (some 1) none=r.map V.int:=by unfold cutV;simp [HT.sIx];exact K4 (by rw [o0];exact t0 _)
     have D:=Same.upd (o:=.tup (cutV ((m :: r).map V.int) (some 1) none)) M;have W:upd H0 e (.tup (cutV ((m :: r).map V.int) (some 1) none)) e=some (.tup (r.map V.int)):=by rw [upd_same,ec]
     generalize upd H0 e (.tup (cutV ((m :: r).map V.int) (some 1) none))=H1 at D W⊢;refine ⟨_,rfl,.inr (.inl ⟨t,_,0,.int m,rfl,rfl,D.seqT a0,z06 (j:=0) rfl,w_2,λ p c=>?_⟩)⟩;rw [dz_quT] at q;exact q p _ _ ((S.trans D).trans (Same.upd c)) upd_same ⟨e,rfl,(Same.upd c).seqT (SqT.of W)⟩
  | quP ni=>rename_i i;obtain ⟨b,rfl,J,_,_⟩:=C.isRow a6;obtain ⟨t,rfl,f⟩:=sz;cases (show x=V.int i from L);refine ⟨_,rfl,rfl,_,rfl,iteK ⟨_,rfl,rfl,_,rfl,iteK ⟨_,rfl,rfl,_,rfl,iteK ⟨_,rfl,rfl,_,rfl,iteK ⟨_,rfl,rfl,_,rfl,iteK ⟨_,rfl,rfl,_,rfl,iteP (decide_eq_true rfl) ?_⟩⟩⟩⟩⟩⟩;refine ⟨_,rfl,_,rfl,w_1,λ e M=>?_⟩;have D:=Same.upd (o:=.tup [.int i]) M;refine ⟨t,e,b.map V.int,[.int i],rfl,rfl,D.seqT f,SqT.of upd_same,big J,λ B X I O=>?_⟩;rw [a3] at O;rw [dz_quP] at q;exact ⟨w_2,λ p3 a5=>q p3 _ _ ((D.trans I).trans (Same.upd a5)) upd_same ⟨B,rfl,(Same.upd a5).seqT O⟩⟩
  | setP ni=>
   rename_i i;obtain ⟨b,rfl,J,_,a4⟩:=C.isRow a2;obtain ⟨t,rfl,f⟩:=sz;cases (show x=V.int i from L);refine ⟨_,rfl,rfl,_,rfl,iteK ⟨_,rfl,rfl,_,rfl,iteK ⟨_,rfl,rfl,_,rfl,iteK ⟨_,rfl,rfl,_,rfl,iteK ⟨_,rfl,rfl,_,rfl,iteK ⟨_,rfl,rfl,_,rfl,iteK ?_⟩⟩⟩⟩⟩⟩;refine ⟨_,rfl,_,rfl,t,_,rfl,.inr f,rfl,z3m b,?_⟩;rw [if_neg N0,z5h];refine ⟨_,rfl,rfl,_,rfl,iteP (decide_eq_true rfl) ⟨_,rfl,_,rfl,?_⟩⟩;by_cases hi:i∈b
   ·rw [decide_eq_true hi];refine iteN (by decide) ⟨_,rfl,rfl,_,rfl,iteP (decide_eq_true rfl) ?_⟩;rw [ze4,if_pos hi] at q;exact ⟨_,rfl,w_2,λ p c=>q p _ _ (Same.upd c) upd_same ⟨t,rfl,(Same.upd c).seqT f⟩⟩
   ·rw [decide_eq_false hi];refine iteP rfl ?_;refine ⟨_,rfl,_,rfl,w_1,λ e M=>?_⟩;have D:=Same.upd (o:=.tup [.int i]) M;refine ⟨t,e,b.map V.int,[.int i],rfl,rfl,D.seqT f,SqT.of upd_same,big J,λ B X I O=>?_⟩;rw [a3] at O;refine ⟨B,b++[i],rfl,.inr O,by rw [D0];exact (show b.length + 1 < 64 by omega),λ l b1 Z pm pw=>?_⟩;have G:=Same.upd (o:=.lst (b1.map V.int)) Z;refine ⟨l,_,rfl,.inl ⟨SqL.of upd_same,λ p4 a1=>⟨w_2,λ Y U=>?_⟩⟩⟩;rw [ze4,if_neg hi] at q;rw [zdr (pm.trans (z9l _).symm) pw (z5c _)] at *;exact q Y _ _ ((((D.trans I).trans G).trans (Same.upd a1)).trans (Same.upd U)) upd_same ⟨p4,rfl,SqT.of ((Same.upd U) _ _ upd_same)⟩
  | setC ni=>
   rename_i i;obtain ⟨b,rfl,J,_,a4⟩:=C.isRow a2;obtain ⟨t,rfl,f⟩:=sz;cases (show x=V.int i from L);refine ⟨_,rfl,rfl,_,rfl,iteK ⟨_,rfl,rfl,_,rfl,iteK ⟨_,rfl,rfl,_,rfl,iteK ⟨_,rfl,rfl,_,rfl,iteK ⟨_,rfl,rfl,_,rfl,iteK ⟨_,rfl,rfl,_,rfl,iteK ?_⟩⟩⟩⟩⟩⟩;refine ⟨_,rfl,_,rfl,t,_,rfl,.inr f,rfl,z3m b,?_⟩;rw [if_neg N0,z5h];refine ⟨_,rfl,rfl,_,rfl,iteK ?_⟩;refine iteN N0 ⟨_,rfl,rfl,_,rfl,iteK ⟨_,rfl,rfl,_,rfl,iteP (decide_eq_true rfl) ?_⟩⟩;have zl:(b.map V.int).length<=sizeLine:=A0 (F3 _) (big J);simp only [tRet,tTup,tCB,tCons,tNil];refine z3s (K:=KX w.params) (a:=t) (xs:=b.map V.int) (H1:=H) (λ j=>(b[j]?.map λ n=>!decide (n=i)).getD false) (λ j y _=>b[j]?.map V.int=some y) (λ _ _ _ _ _ z=>z) (λ R h=>⟨_,rfl,h⟩) f zl (λ j hj v H' s' hv KT KF k1 k2=>?_) λ l H' ys s' b0 al=>?_
   ·rw [O0] at hv;obtain ⟨n,hn,rfl⟩:=Option.map_eq_some_iff.mp hv;rw [hn] at k1 k2;refine ⟨[some (.int n)],rfl,rfl,_,rfl,_,rfl,rfl,_,rfl,?_⟩;rw [dec_i0];exact ite2 (λ z=>⟨_,rfl,k1 z _ _ (Same.refl _) rfl⟩) λ z=>k2 (Bool.eq_false_iff.mpr z) _ (Same.refl _)
   ·rw [o0] at al;rw [zdc b ys al];have G:=Same.upd (o:=.lst ((b.filter λ j=>!decide (j=i)).map V.int)) b0;refine ⟨l,_,rfl,.inl ⟨SqL.of upd_same,λ p4 a1=>⟨_,rfl,.inl (.inr ⟨_,rfl,w_2,λ Y U=>?_⟩)⟩⟩⟩;rw [zhk] at q;exact q Y _ _ (((s'.trans G).trans (Same.upd a1)).trans (Same.upd U)) (upd_same.trans (by simp)) ⟨p4,rfl,SqT.of ((Same.upd U) _ _ upd_same)⟩
  | setH ni=>rename_i i;obtain ⟨b,rfl,J,_,a4⟩:=C.isRow a2;obtain ⟨t,rfl,f⟩:=sz;cases (show x=V.int i from L);refine ⟨_,rfl,rfl,_,rfl,iteK ⟨_,rfl,rfl,_,rfl,iteK ⟨_,rfl,rfl,_,rfl,iteK ⟨_,rfl,rfl,_,rfl,iteK ⟨_,rfl,rfl,_,rfl,iteK ⟨_,rfl,rfl,_,rfl,iteK ?_⟩⟩⟩⟩⟩⟩;refine ⟨_,rfl,_,rfl,t,_,rfl,.inr f,rfl,z3m b,?_⟩;rw [if_neg N0,z5h];refine ⟨_,rfl,rfl,_,rfl,iteK ?_⟩;refine iteN N0 ⟨_,rfl,rfl,_,rfl,iteK ⟨_,rfl,rfl,_,rfl,iteK ?_⟩⟩;rw [zfb] at q;exact ⟨_,rfl,_,rfl,.inl (.inr ⟨_,rfl,w_2,λ p c=>q p _ _ (Same.upd c) (upd_same.trans (by simp)) ⟨t,rfl,(Same.upd c).seqT f⟩⟩)⟩
def AnsI (a:V):Prop:=(∃i,a=.int i)\/a=.str "ok"\/a=.str "none"
theorem AnsV.ansI {a:V} (h:AnsV a):AnsI a:=by
 rcases h with h|h|⟨i,h,_⟩
 ·exact .inr (.inl h)
 ·exact .inr (.inr h)
 ·exact .inl ⟨i,h⟩
def StsZ (K:b0) (H:Hp) (p:Addr) (ts:zT) (n:Nat) (ss:List Sv):Prop:=∃vs,SqT K H p vs/\All2 (StZ K H) ss vs/\All2 (λ (t:Str×Str) s=>SvOk n t.2 s) ts ss
theorem StsZ.tups {K:b0} {H H':Hp} {p:Addr} {ts:zT} {n:Nat} {ss:List Sv} (t:Tups K H H') (h:StsZ K H p ts n ss):StsZ K H' p ts n ss:=h.elim λ a z=>⟨a,t _ _ z.1,z01 (λ _ _ y=>y.tups t) z.2.1,z.2.2⟩
def StsT (K:b0) (H:Hp) (p:Addr) (ts:zT) (n:Nat):Prop:=∃ss,StsZ K H p ts n ss
theorem StsT.tups {K:b0} {H H':Hp} {p:Addr} {ts:zT} {n:Nat} (t:Tups K H H') (h:StsT K H p ts n):StsT K H' p ts n:=h.elim λ a z=>⟨a,z.tups t⟩
theorem StsT.le {K:b0} {H:Hp} {p:Addr} {ts:zT} {n m:Nat} (l:n<=m) (h:StsT K H p ts n):StsT K H p ts m:=h.elim λ a z=>⟨a,z.elim λ b y=>⟨b,y.1,y.2.1,z01 (λ _ _ x=>SvOk.le l x) y.2.2⟩⟩
def ZrAt (H:Hp) (k:Str) (v:V):Prop:=(rowK k/\∃a,v=.ref a/\H a=some (.tup []))\/(¬ rowK k/\v=.int 0)
theorem ZrAt.same {H H':Hp} {k:Str} {v:V} (s:Same H H') (h:ZrAt H k v):ZrAt H' k v:=h.imp (λ z=>⟨z.1,z.2.elim λ a y=>⟨a,y.1,s _ _ y.2⟩⟩) id
def ZrT (H:Hp) (p:Addr) (ts:zT):Prop:=∃vs,H p=some (.tup vs)/\All2 (λ (t:Str×Str) y=>ZrAt H t.2 y) ts vs
theorem ZrAt.stz {K:b0} {H:Hp} {k:Str} {v:V} (h:ZrAt H k v):StZ K H (zeroK k) v:=by
 unfold zeroK;rcases h with ⟨b,a,rfl,c⟩|⟨b,rfl⟩
 ·rw [if_pos b];exact ⟨a,rfl,SqT.of c⟩
 ·rw [if_neg b];rfl
theorem ziy {α β γ:Type} {R:β->γ->Prop} {f:α->β} {xs:List α} {ys:List γ} (h:All2 (λ x y=>R (f x) y) xs ys):All2 R (xs.map f) ys:=by
 induction h with
 | nil=>exact .nil
 | cons a r ih=>exact .cons a ih
theorem zku :∀{ts:zT},All2 (λ (t:Str×Str) s=>SvOk 0 t.2 s) ts (ts.map λ t=>zeroK t.2)
 | []=>.nil
 | _ :: _=>.cons (zha _) zku
theorem ZrT.stz {K:b0} {H:Hp} {p:Addr} {ts:zT} (h:ZrT H p ts):StsZ K H p ts 0 (ts.map λ t=>zeroK t.2):=h.elim λ a z=>⟨a,SqT.of z.1,ziy (z01 (λ _ _ y=>y.stz) z.2),zku⟩
theorem ZrT.sts {K:b0} {H:Hp} {p:Addr} {ts:zT} (h:ZrT H p ts):StsT K H p ts 0:=⟨_,h.stz⟩
theorem zb8 {H:Hp} :∀{ts:zT} {ys zs:List V},All2 (λ (t:Str×Str) y=>∃b,y=.ref b/\H b=some (.tup [.str t.1,.str t.2])) ts ys->All2 (λ x y=>∃(n k:Str) (b:Addr),x=.ref b/\H b=some (.tup [.str n,.str k])/\ZrAt H k y) ys zs->All2 (λ (t:Str×Str) y=>ZrAt H t.2 y) ts zs
 | [],_,_,.nil,.nil=>.nil
 | t :: ts,_,_,.cons a r,.cons a' r'=>by
  refine .cons ?_ (zb8 r r');obtain ⟨b,rfl,g⟩:=a;obtain ⟨n,k,i,f,c,d⟩:=a';cases f;rw [g] at c;injection c with c;injection c with c;have e:t.2=k:=by injection c with _ h;injection h with h _;injection h
  rw [e];exact d
def z3l (K:b0):Sp:=λ vs H Q _=>∃(pt:Addr) (ts:zT),vs=[.ref pt]/\ThAt H pt ts/\ts.length<=6/\∀p H',Same H H'->ZrT H' p ts->Q (.ref p) H'
theorem zax (T:TX (kx w) mg):Fo P w mg base CX0 1 374 y12 ["things"] (z3l (kx w)):=by
 refine (z4j w.params).ok zaf (λ vs H Q E h=>?_) (λ a7 A a8 s H vs Q E hr h=>?_)
 ·obtain ⟨pt,L,rfl,_⟩:=h;rfl
 ·obtain ⟨pt,L,rfl,⟨W,Z,B⟩,a4,q⟩:=h;refine ⟨_,(z04 (ps_ret (z0t z0j rfl (T.no (z2u _)) E4 (z00 (pe_cg (xs:=["name","kind"]) (g:=gTup (kx w) 2 (gCons (gName 0) (gCons (gName 1) gNil))) (fr:=[]) (pi_tup (pv 0)) (λ _ _ _ _ _=>(pg_tup rfl (z0d (pg_cn (N:=["name","kind"]) 0) (z0d (pg_cn (N:=["name","kind"]) 1) z0x)))) (λ _ _ _ _ _=>pf_nil) (λ _ _ _ _ _=>(zl5 (hu_of hr) (zjv (zbn pe_str (pe_tup pa_nil) (zbn pe_str (pe_tup pa_nil) zjz)) rfl rfl (by simp) (by decide)) (pv 1) pe_int ⟨rfl,rfl,rfl,rfl⟩))) pa_nil)))),?_⟩;refine zkh ?_;refine zae (S:=Same) (K:=KX w.params) (a:=pt) (xs:=W) (λ x y H=>∃(n k:Str) (b:Addr),x=.ref b/\H b=some (.tup [.str n,.str k])/\ZrAt H k y) (Same.refl _) (λ _ _ _ a b=>a.trans b) (λ _ _=>Same.refl _) ?_ (λ R h=>⟨_,rfl,h⟩) (λ H' s'=>s'.seqT (SqT.of Z)) (A0 (i6 (z03 B)) (A0 a4 (by decide))) ?_ ?_
  ·rintro x y l i j ⟨n,k,b,F,G,e3⟩;exact ⟨n,k,b,F,j _ _ G,e3.same j⟩
  ·intro v hv l u KT a0 KF;obtain ⟨m,hm⟩:=List.mem_iff_getElem?.mp hv;obtain ⟨t,ht,b,rfl,eb⟩:=z0f B hm;have M:=u _ _ eb;refine ⟨b,_,rfl,SqT.of M,rfl,_,_,rfl,_,_,rfl,rfl,[some (.str t.1),some (.str t.2)],rfl,rfl,iteT ?_⟩;intro p I;refine ⟨w_0,λ f O=>⟨w_0,λ d C=>?_⟩⟩;have D:p≠f:=z07 upd_same O;have J:p≠d:=z07 (by rw [upd_ne D];exact upd_same) C;have a6:f≠d:=z07 upd_same C;refine ⟨by rw [upd_ne J,upd_ne D];exact upd_same,[(.inr "queue",.ref f),(.inr "set",.ref d)],rfl,(show (2:Nat)<=15 by decide),?_⟩;rw [show mergeK [] [((.inr "queue" : Key),V.ref f),(.inr "set",.ref d)]=[(.inr "queue",.ref f),(.inr "set",.ref d)] from rfl];generalize hH4:upd (upd (upd (upd l p (.dK [])) f (.tup [])) d (.tup [])) p (.dK [(.inr "queue",.ref f),(.inr "set",.ref d)])=i;have U:i p=some (.dK [(.inr "queue",.ref f),(.inr "set",.ref d)]):=by rw [<-hH4];exact upd_same
   have F:i f=some (.tup []):=by rw [<-hH4,upd_ne D.symm,upd_ne a6];exact upd_same
   have G:i d=some (.tup []):=by rw [<-hH4,upd_ne J.symm];exact upd_same
   have j:Same l i:=λ c o e=>by rw [<-hH4,upd_ne (z07 e I)];exact ((((Same.upd I).trans (Same.upd O)).trans (Same.upd C))) c o e
   refine ⟨p,rfl,.inl ⟨_,.inl U⟩,_,rfl,_,DGet.k (k:=.inr t.2) U,?_⟩;refine a0 _ _ j ⟨t.1,t.2,b,rfl,j _ _ M,?_⟩;by_cases z1:t.2 = "queue"
   ·rw [z1,z0q rfl];exact .inl ⟨.inl rfl,_,rfl,F⟩
   ·rw [z0p (λ e=>z1 (u8 e).symm)];by_cases z2:t.2 = "set"
    ·rw [z2,z0q rfl];exact .inl ⟨.inr rfl,_,rfl,G⟩
    ·rw [z0p (λ e=>z2 (u8 e).symm)];exact .inr ⟨λ h=>h.elim z1 z2,rfl⟩
  ·intro Y l r u a1 a5;refine ⟨Y,r,rfl,.inl ⟨SqL.of upd_same,λ p4 a3=>?_⟩⟩;have a2:All2 (λ (t:Str×Str) y=>∃b,y=.ref b/\l b=some (.tup [.str t.1,.str t.2])) L W:=z01 (λ _ _ z=>z.elim λ b y=>⟨b,y.1,u _ _ y.2⟩) B;have X:=(Same.upd (o:=.lst r) a1).trans (Same.upd (o:=.tup r) a3);exact q p4 _ (u.trans X) ⟨r,upd_same,z01 (λ _ _ z=>z.same X) (zb8 a2 a5)⟩
theorem zmp {tl:TE} {K:b0} {m:Nat} {fr:List (Nat×Str)} {g:TG} {tc:TT} {te:TE} {σ:L2.St} {H:Hp} {Q:VK} (Pr:Addr->Hp->Prop) (h1 :∀R:VK,(∀l H1,Pr l H1->R (.ref l) H1)->tl σ H R) (h2 :∀l H1,Pr l H1->tCompG (iList K λ _ _ R=>R (.ref l) H1) m fr g tc te σ H Q):tCompG (iList K tl) m fr g tc te σ H Q:=h1 _ λ l H1 p=>h2 l H1 p
theorem seq_bm {K:b0} {N:String} {r:V->List V->Hp->VK->Prop} {to:TE} {t:TA} {g:TG} {rest:TS} {D:Ends} {σ:L2.St} {H:Hp} (h:to σ H λ x H1=>tyV K N x H1/\t σ H1 λ xs H2=>r x xs H2 λ y H3=>g y σ H3 (rest D)):tSeq (tAsg (tBM K N r to t) g) rest D σ H:=h
def OwnAt (K:b0) (H:Hp) (ts:zT) (p:Addr):Prop:=∃(nm vb:Str) (x a:V) (k:Str) (d:Dt),H p=some (.lst [.str nm,.str vb,x,a])/\(nm,k)∈ts/\DeedOk k vb d/\IsDt K H d x/\WorthIn H d x/\(a=.non\/AnsI a)
theorem zak {H:Hp} :∀{ts:zT} {ys zs:List V},All2 (λ (t:Str×Str) y=>∃b,y=.ref b/\H b=some (.tup [.str t.1,.str t.2])) ts ys->All2 (λ x y=>∃(n k:Str) (b:Addr),x=.ref b/\H b=some (.tup [.str n,.str k])/\y=.str n) ys zs->zs=(ts.map (·.1)).map V.str
 | [],_,_,.nil,.nil=>rfl
 | t :: ts,_,_,.cons a r,.cons a' r'=>by
  rw [zak r r'];obtain ⟨b,rfl,f⟩:=a;obtain ⟨n,k,g,d,c,rfl⟩:=a';cases d;rw [f] at c;injection c with c;injection c with c;have e:t.1=n:=by injection c with h _;injection h
  rw [<-e];rfl
theorem zf7 {α β:Type} {R S:α->β->Prop} {y:β} :∀{xs:List α} {ys:List β} {j:Nat} {x:α},(∀a b,R a b->S a b)->All2 R xs ys->xs[j]? = some x->S x y->All2 S xs (ys.set j y)
 | _,_,_,_,_,.nil,e,_=>by simp at e
 | _,_,0,x,f,.cons a r,e,h=>by rw [Z1] at e;cases e;exact .cons h (z01 f r)
 | _,_,j + 1,x,f,.cons a r,e,h=>by rw [S1] at e;exact .cons (f _ _ a) (zf7 f r e h)
theorem zd7 {α β:Type} {R S:α->β->Prop} {y:β} :∀{xs:List α} {ys:List β} {j:Nat} {x x':α},(∀a b,R a b->S a b)->All2 R xs ys->xs[j]? = some x'->S x y->All2 S (xs.set j x) (ys.set j y)
 | _,_,_,_,_,_,.nil,e,_=>by simp at e
 | _,_,0,x,_,f,.cons a r,_,h=>.cons h (z01 f r)
 | _,_,j + 1,x,_,f,.cons a r,e,h=>by rw [S1] at e;exact .cons (f _ _ a) (zd7 f r e h)
theorem cut_at {ys:List V} {m:Nat} (h:m < ys.length):cutV ys none (some (m:Int))=ys.take m/\cutV ys (some ((m:Int) + 1)) none=ys.drop (m + 1)/\HT.sIx ys.length ys.length (some (m:Int))=m/\HT.sIx ys.length 0 (some ((m:Int) + 1))=m + 1:=by
 obtain ⟨c,_,a⟩:=cut_to (V2 h);have b:HT.sIx ys.length 0 (some ((m:Int) + 1))=m + 1:=by simp [HT.sIx];rw [if_neg (by omega)];omega
 refine ⟨c,?_,a,b⟩;unfold cutV;rw [b,show HT.sIx ys.length ys.length none=ys.length by simp [HT.sIx]];exact K4 (by rw [u6];exact t0 _)
theorem ziz {ys:List V} {m:Nat} {y:V} (h:m < ys.length):ys.take m++[y]++ys.drop (m + 1)=ys.set m y:=by rw [U9,if_pos h];simp
def z23 (K:b0):Sp:=λ vs H Q _=>∃(pt ps po:Addr) (ts:zT) (n:Nat) (ss:List Sv) (nm vb:Str) (x a0:V) (k:Str) (d:Dt),vs=[.ref pt,.ref ps,.ref po]/\ThAt H pt ts/\ThW ts/\StsZ K H ps ts n ss/\n < 63/\H po=some (.lst [.str nm,.str vb,x,a0])/\(nm,k)∈ts/\DeedOk k vb d/\IsDt K H d x/\WorthIn H d x/\∀p H' s,ss[ixT ts nm]? = some s->KeptL [po] H H'->H' po=some (.lst [.str nm,.str vb,x,(dz k vb d s).2])->StsZ K H' p ts (n + 1) (ss.set (ixT ts nm) (dz k vb d s).1)->SvOk n k s->Q (.ref p) H'
theorem z7s (T:TX (kx w) mg) (c0:Ca P w mg base "_law_do" ["kind","state","verb","worth"] 1 (zbe (kx w))):Fo P w mg base CX0 2 398 y0h ["things","states","own"] (z23 (kx w)):=by
 refine (z2k w.params).ok sc__law_applied (λ f H Q E h=>?_) (λ e0 A d9 s H f Q E hr h=>?_)
 ·obtain ⟨pt,Z,r,C,n,ss,l,B,x,a0,k,d,rfl,_⟩:=h;rfl
 ·obtain ⟨pt,Z,r,C,n,ss,l,B,x,a0,k,d,rfl,⟨yt,a9,W⟩,ok,⟨f,b2,a1,a4⟩,hn,L,hm,dk,ix,wi,q⟩:=h;refine ⟨_,(z02 (ps_set (i:=3) sc__law_applied.nd rfl (U0 rfl) (zhv (pe_cg (xs:=["name","kind"]) (g:=gTup (kx w) 2 (gCons (gName 0) (gCons (gName 1) gNil))) (fr:=[]) (pi_tup (pv 0)) (λ _ _ _ _ _=>(pg_tup rfl (z0d (pg_cn (N:=["name","kind"]) 0) (z0d (pg_cn (N:=["name","kind"]) 1) z0x)))) (λ _ _ _ _ _=>pf_nil) (λ _ _ _ _ _=>(pv 0))) (z00 (pJ 2) pa_nil)))
   (z02 (ps_asg (pe_cal c0 (hr.mono (by decide)) rfl (z00 (pe_ix ix_seq (pe_ix ix_seq (pv 0) (pv 3) (λ _ _=>rfl)) pe_int (λ _ _=>rfl)) (z00 (pe_ix ix_seq (pv 1) (pv 3) (λ _ _=>rfl)) (z00 (pJ 2) (z00 (pJ 2) pa_nil))))) (pg_tup rfl (z0d (z0g (i:=4) sc__law_applied.nd rfl (U0 rfl)) (z0d (z0g (i:=5) sc__law_applied.nd rfl (U0 rfl)) z0x))))
   (z02 (ps_asg (pv 5) (pg_sub (pv 2) pe_int z5t))
   (z04 (ps_ret (pe_op zdu (pe_op zdu (z2l slSeq (pv 1) z4s (z2r (pv 3))) (pe_tup (z00 (pv 4) pa_nil))) (z2l slSeq (pv 1) (z2r (pe_op opAdd (pv 3) pe_int)) z4s))))))),?_⟩
  refine seq_bm ?_;refine zae (S:=Same) (K:=KX w.params) (a:=pt) (xs:=yt) (λ x y H=>∃(n k:Str) (b:Addr),x=.ref b/\H b=some (.tup [.str n,.str k])/\y=.str n) (Same.refl _) (λ _ _ _ a b=>a.trans b) (λ _ _=>Same.refl _) ?_ (λ R h=>⟨_,rfl,h⟩) (λ F s'=>s'.seqT (SqT.of a9)) (A0 (i6 (z03 W)) (A0 ok.n6 (by decide))) ?_ ?_
  ·rintro x y O H4 u ⟨n,k,b,e1,e2,e3⟩;exact ⟨n,k,b,e1,u _ _ e2,e3⟩
  ·intro v hv O M KT d2 KF;obtain ⟨m,hm⟩:=List.mem_iff_getElem?.mp hv;obtain ⟨t,ht,b,rfl,eb⟩:=z0f W hm;exact ⟨b,_,rfl,SqT.of (M _ _ eb),rfl,_,_,rfl,_,_,rfl,rfl,[some (.str t.1),some (.str t.2)],rfl,rfl,iteT ⟨_,rfl,d2 _ _ (Same.refl _) ⟨t.1,t.2,b,rfl,M _ _ eb,rfl⟩⟩⟩
  intro Y O zs M b7 b9;have d5:All2 (λ (t:Str×Str) y=>∃b,y=.ref b/\O b=some (.tup [.str t.1,.str t.2])) C yt:=z01 (λ _ _ z=>z.elim λ b y=>⟨b,y.1,M _ _ y.2⟩) W;have ez:=zak d5 b9;subst ez;have sl:=Same.upd (o:=.lst ((C.map (·.1)).map V.str)) b7;have el:upd O Y (.lst ((C.map (·.1)).map V.str)) Y=some (.lst ((C.map (·.1)).map V.str)):=upd_same;have u:=M.trans sl;generalize upd O Y (.lst ((C.map (·.1)).map V.str))=H4 at sl el u⊢;obtain ⟨j,I⟩:=List.mem_iff_getElem?.mp hm;have a3:(C.map (·.1))[j]? = some l:=by rw [O0,I];rfl
  have d8:j < C.length:=(List.getElem?_eq_some_iff.mp I).1;refine ⟨.inl ⟨rfl,_,SqL.of el⟩,_,rfl,.inl ⟨r,_,0,.str l,rfl,rfl,SqL.of (u _ _ L),z06 (j:=0) rfl,Y,C.map (·.1),l,j,rfl,rfl,el,by rw [o0];exact A0 ok.n6 (by decide),a3,λ m lt e=>?_,?_⟩⟩
  ·have:=(j00 (by rw [o0];omega) ok.nd).mp (e.trans a3.symm);omega
  refine g_name ?_;obtain ⟨yj,b8,bj,rfl,c8⟩:=z0u W I;obtain ⟨U,a2,so⟩:=z0u a4 I;obtain ⟨vj,d6,sj⟩:=z0u a1 a2;have c7:ixT C l=j:=idx_eq ok.nd a3;rw [c7] at q;refine ⟨_,rfl,_,rfl,.inr (.inl ⟨pt,yt,j,.ref bj,rfl,rfl,SqT.of (u _ _ a9),z06 b8,.inr (.inl ⟨bj,_,1,.str k,rfl,rfl,SqT.of (u _ _ c8),z06 (j:=1) rfl,?_⟩)⟩)⟩;refine ⟨_,rfl,_,rfl,.inr (.inl ⟨Z,f,j,vj,rfl,rfl,u.seqT b2,z06 d6,?_⟩)⟩;refine ⟨_,rfl,.inl ⟨r,_,1,.str B,rfl,rfl,SqL.of (u _ _ L),z06 (j:=1) rfl,?_⟩⟩;refine ⟨_,rfl,.inl ⟨r,_,2,x,rfl,rfl,SqL.of (u _ _ L),z06 (j:=2) rfl,?_⟩⟩;refine ⟨k,B,vj,x,d,n,U,rfl,so,sj.tups (.of u),hn,dk,ix.same u,wi.tt (.of (K:=KX w.params) u),λ p2 J D G e5 b3=>?_⟩;have q:=λ p F=>q p F U a2;have d7:=dz_ok dk so hn;generalize hdz:dz k B d U=z at *;obtain ⟨z1,a⟩:=z;change D p2=some (.tup [J,a]) at e5;change StZ (kx w) D z1 J at b3;change∀p F,KeptL [r] H F->F r=some (.lst [.str l,.str B,x,a])->StsZ (kx w) F p C (n + 1) (ss.set j z1)->SvOk n k U->Q (.ref p) F at q;have G:=u.trans G;refine ⟨p2,_,rfl,SqT.of e5,rfl,_,_,rfl,_,_,rfl,rfl,?_⟩;refine ⟨_,rfl,_,rfl,r,_,3,3,rfl,rfl,G _ _ L,rfl,?_⟩;rw [show [V.str l,.str B,x,a0].set 3 a=[.str l,.str B,x,a] from rfl];have k6:KeptL [r] D (upd D r (.lst [.str l,.str B,x,a])):=KeptL.set (by simp);have T6:Tt (kx w) D (upd D r (.lst [.str l,.str B,x,a])):=KeptL.tt k6 λ c hc=>by rw [List.mem_singleton.mp hc];exact .inl ⟨_,G _ _ L⟩
  have e6:upd D r (.lst [.str l,.str B,x,a]) r=some (.lst [.str l,.str B,x,a]):=upd_same;generalize upd D r (.lst [.str l,.str B,x,a])=H6 at k6 T6 e6⊢;have a7:Tt (kx w) H H6:=Tt.trans (.of G) T6;have a6:=a7.t _ _ b2;have vl:f.length=C.length:=(z03 a1).trans (z03 a4);have b5:j < f.length:=by omega
  obtain ⟨c1,c2,c3,c4⟩:=cut_at b5;refine ⟨_,rfl,_,rfl,_,rfl,.inr (.inl ⟨Z,f,rfl,a6,λ z=>by have:=z.2;rw [c3] at this;omega,λ p7 d3=>?_⟩)⟩;rw [c1];obtain ⟨H7,v_,s7,e7⟩:=newA (.tup (f.take j)) d3;rw [<-v_];refine ⟨_,rfl,w_1,λ p8 d1=>?_⟩;have s8:=Same.upd (o:=.tup [J]) d1;refine ⟨p7,p8,f.take j,[J],rfl,rfl,s8.seqT (SqT.of e7),SqT.of upd_same,?_,λ p9 H9 X b6=>?_⟩
  ·rw [L3];exact A0 (m:=10) (by have:=ok.n6;show min j f.length + 1<=10;omega) (by decide)
  have X:=(s7.trans s8).trans X;have c9:=X.seqT a6;refine ⟨_,rfl,_,rfl,.inl ⟨_,_,rfl,rfl,_,rfl,.inr (.inl ⟨Z,f,rfl,c9,λ z=>by have:=z.1;rw [c4] at this;omega,λ d0 d4=>?_⟩)⟩⟩;rw [c2];have b0:=Same.upd (o:=.tup (f.drop (j + 1))) d4;refine ⟨p9,d0,f.take j++[J],f.drop (j + 1),rfl,rfl,b0.seqT b6,SqT.of upd_same,?_,λ c6 b4 c5 b1=>?_⟩
  ·rw [D0,L3,u6];exact A0 (m:=20) (by have:=ok.n6;show min j f.length + 1 + (f.length - (j + 1))<=20;omega) (by decide)
  rw [ziz b5] at b1;have a5:=(X.trans b0).trans c5;have a8:Tt (kx w) H6 b4:=.of a5;refine q c6 b4 ((G.keptL.trans k6).trans a5.keptL) (a5 _ _ e6) ⟨_,b1,zd7 (λ _ _ z=>z.tups (a7.trans a8).t) a1 a2 (b3.tups (T6.trans a8).t),zf7 (λ _ _ z=>SvOk.le (F3 _) z) a4 I d7.1⟩ so
theorem ze1 {K:b0} {H:Hp} {R:Addr->Hp->Prop} {po:Addr} {ts:zT} {n:Nat} {ss:List Sv} {nm vb:Str} {x a:V} {k:Str} {d:Dt} (hn:n < 63) (eo:H po=some (.lst [.str nm,.str vb,x,a])) (hm:(nm,k)∈ts) (dk:DeedOk k vb d) (ix:IsDt K H d x) (wi:WorthIn H d x) (q :∀p H',KeptL [po] H H'->OwnAt K H' ts po->(∃a xs,H' po=some (.lst (xs++[a]))/\xs.length=3/\AnsI a)->StsT K H' p ts (n + 1)->R p H') :∀p H' s,ss[ixT ts nm]? = some s->KeptL [po] H H'->H' po=some (.lst [.str nm,.str vb,x,(dz k vb d s).2])->StsZ K H' p ts (n + 1) (ss.set (ixT ts nm) (dz k vb d s).1)->SvOk n k s->R p H':=by
 intro p H' s j f e g h;have T:Tt K H H':=KeptL.tt f λ c i=>by rw [List.mem_singleton.mp i];exact .inl ⟨_,eo⟩
 have b:=(dz_ok dk h hn).2.ansI;exact q p H' f ⟨nm,vb,x,_,k,d,e,hm,dk,IsDt.mono' T.t _ _ ix,wi.tt T,.inr b⟩ ⟨_,[.str nm,.str vb,x],e,rfl,b⟩ ⟨_,g⟩
theorem valV_isSomeK {kvs:zK} {k:Key}:(valV kvs k).isSome=true↔k∈kvs.map (·.1):=by
 induction kvs with
 | nil=>simp [valV]
 | cons p r ih=>
  obtain ⟨a,pv⟩:=p;by_cases y:a=k
  ·subst y;rw [z0q rfl];simp
  ·rw [z0p y,ih,X0,B1];exact ⟨λ z=>.inr z,λ z=>z.resolve_left λ x=>y x.symm⟩
theorem zmh {kvs:zK} {k:Key} {v:V} (h:k∈kvs.map (·.1)):(putK kvs k v).map (·.1)=kvs.map (·.1):=by
 unfold putK;obtain ⟨p,a,e⟩:=List.mem_map.mp h;rw [if_pos (List.any_eq_true.mpr ⟨p,a,decide_eq_true e⟩),S2];refine List.map_congr_left λ q _=>?_;show (if q.1=k then (q.1,v) else q).1=q.1;by_cases y:q.1=k
 ·rw [if_pos y]
 ·rw [if_neg y]
theorem zgp {kvs:zK} {k:Key} {v:V} (h:k∉kvs.map (·.1)):putK kvs k v=kvs++[(k,v)]:=by unfold putK;rw [if_neg];intro z;obtain ⟨p,a,e⟩:=List.any_eq_true.mp z;exact h (List.mem_map.mpr ⟨p,a,of_decide_eq_true e⟩)
def z55:Sp:=λ vs H Q _=>∃(r:Addr) (n:Nat),vs=[.ref r]/\DeckAt H r n/\n < 100/\∀p ts H',Dw r (n + 20) H H'->H p=none->ThAt H' p ts->ThOk ts->(∀t∈ts,V7 t.1=true/\t.1.length<=8)->Q (.ref p) H'
theorem DeckAt.le {H:Hp} {r:Addr} {n m:Nat} (l:n<=m) (h:DeckAt H r n):DeckAt H r m:=by obtain ⟨a,b,c,e,f,d,g,i⟩:=h;exact ⟨a,b,c,e,f,d,g,by omega⟩
theorem Dw.le {r:Addr} {n m:Nat} {H H':Hp} (l:n<=m) (h:Dw r n H H'):Dw r m H H':=⟨h.k,h.r.le l⟩
theorem z8t (T:TX (kx w) mg) (c0:Ca P w mg base "_law_take" ["deck","many"] 1 z1t):Fo P w mg base CX0 2 393 y0r ["deck"] z55:=by
 refine (z3f w.params).ok sc__law_things (λ vs H Q E h=>?_) (λ d5 A d2 s H vs Q E I h=>?_)
 ·obtain ⟨r,n,rfl,_⟩:=h;rfl
 ·obtain ⟨r,n,rfl,R,hn,q⟩:=h;refine q_of (z0h (qs_set (i:=1) sc__law_things.nd rfl (U0 rfl) (qe_lst (z0c (QE.mk pe_str) (z0c (QE.mk pe_str) (z0c (QE.mk pe_str) (z0c (QE.mk pe_str) (z0c (QE.mk pe_str) (z0c (QE.mk pe_str) (z0c (QE.mk pe_str) (z0c (QE.mk pe_str) qa_nil))))))))))
   (z0h (QS.mk (ps_set (i:=2) sc__law_things.nd rfl (S0 rfl) z5d))
   (z0h (qs_for K1 rfl (z2o rfl (T.no (z6n _)) (z00 (pe_op opAdd pe_int (pe_cal c0 (I.mono (by decide)) rfl (z00 (pv 0) (z00 pe_int pa_nil)))) pa_nil)) (z0g (i:=3) sc__law_things.nd rfl (U0 rfl))
   (z3i (zfd (hu_of I) (QE.mk (pv 2)) (QE.mk (pe_ix ix_seq (pv 1) (pe_cal c0 (I.mono (by decide)) rfl (z00 (pv 0) (z00 pe_int pa_nil))) (λ _ _=>rfl))) (qe_ix ix_seq (qe_lst (z0c (QE.mk pe_str) (z0c (QE.mk pe_str) (z0c (QE.mk pe_str) (z0c (QE.mk pe_str) (z0c (QE.mk pe_str) qa_nil)))))) (QE.mk (pe_cal c0 (I.mono (by decide)) rfl (z00 (pv 0) (z00 pe_int pa_nil)))) (λ _ _=>rfl)) rfl)))
   (z3i (QS.mk (ps_ret (z0t z0j rfl (T.no (z2u _)) E4 (z00 (pe_cg (xs:=["name"]) (g:=gName 0) (fr:=[(2,"told")]) (z17 (z09 (zb4 rfl) rfl (T.no (z22 _)) Y4 (z00 (pv 2) pa_nil))) (λ _ _ _ _ _=>(pg_cn (N:=["name","told"]) 0)) (λ _ _ _ _ _=>pf_nil) (λ _ _ _ _ _=>(pe_tup (z00 (pv 0) (z00 (z74 (hu_of I) (pv 1) (pv 0) (λ _ _=>rfl)) pa_nil))))) pa_nil)))))))) ?_
  refine z0k ?_;refine ⟨w_8,λ l hl=>?_⟩;refine g_name ?_;have nl:l≠r:=R.fresh hl;have W:=Same.upd (o:=.lst [.str "q",.str "a",.str "zz",.str "begin",.str "reg",.str "abcdefgh",.str "b",.str "thing"]) hl;have e1:upd H l (.lst [.str "q",.str "a",.str "zz",.str "begin",.str "reg",.str "abcdefgh",.str "b",.str "thing"]) l=some (.lst ((["q","a","zz","begin","reg","abcdefgh","b","thing"]:List Str).map V.str)):=upd_same;generalize upd H l (.lst [.str "q",.str "a",.str "zz",.str "begin",.str "reg",.str "abcdefgh",.str "b",.str "thing"])=H1 at W e1⊢;refine z0k ?_;intro d U;refine g_name ?_;have M:d≠r:=(R.same W).fresh U;have a3:l≠d:=z07 e1 U;have fd:H d=none:=W.free U;have Z:=Same.upd (o:=.dK []) U;have e2:=Z _ _ e1;have a5:upd H1 d (.dK []) d=some (.dK []):=upd_same;have a4:=W.trans Z;generalize upd H1 d (.dK [])=H2 at Z e2 a5 a4⊢;have w2:Dw r n H H2:=R.dw.same a4;refine ⟨_,rfl,r,3,n,rfl,w2.r,by omega,by decide,by decide,λ t H3 J d3 d4=>.inl ⟨1,t,rfl,rfl,1 + t,rfl,by omega,by omega,?_⟩⟩;have e3:=J.k _ _ nl e2;have b0:=J.k _ _ M a5;have J:=w2.trans J;have tn:(1 + t).toNat<=3:=by omega
  have tp:0 < (1 + t).toNat:=by omega
  generalize (1 + t).toNat=tt at tn tp⊢;refine z3q (lo:=0) (n:=tt) (λ i σ L=>∃kvs ss,Dw r (n + 1 + 2 * i) H L/\L l=some (.lst ((["q","a","zz","begin","reg","abcdefgh","b","thing"]:List Str).map V.str))/\L d=some (.dK kvs)/\kvs.map (·.1)=ss.map Sum.inr/\ss.Nodup/\(∀z∈ss,V7 z=true/\z.length<=8)/\ss.length<=i/\(0 < i->0 < ss.length)/\(∀k v,valV kvs k=some v->∃z,z∈kinds5/\v=.str z)/\∃x3,σ=[some (.ref r),some (.ref l),some (.ref d),x3])
   ⟨[],[],J,e3,b0,rfl,.nil,λ _ z=>absurd z j0,t0 _,λ h=>h,(λ k v e=>by cases e),_,rfl⟩ ?_ ?_
  ·rintro i σ O hi ⟨kvs,ss,w4,e4,ed4,ek,sn,so,sl,sp,kv,x3,rfl⟩;refine g_name ?_;refine ⟨w_5,λ j u=>⟨_,rfl,r,5,_,rfl,w4.r.same (Same.upd u),by omega,by decide,by decide,λ t5 H5 C b5 b2=>?_⟩⟩;obtain ⟨v5,b9,c3⟩:=atI_of (xs:=kinds5.map V.str) b5 b2;obtain ⟨G,d0,rfl⟩:=List.mem_map.mp c3;refine .inl ⟨j,_,t5,_,rfl,rfl,SqL.of (C.k _ _ (w4.r.fresh u) upd_same),b9,?_⟩;have e5:=C.k _ _ nl ((Same.upd (o:=.lst (kinds5.map V.str)) u) _ _ e4);have a0:=C.k _ _ M ((Same.upd (o:=.lst (kinds5.map V.str)) u) _ _ ed4);have C:=(w4.same (Same.upd (o:=.lst (kinds5.map V.str)) u)).trans C;refine ⟨_,rfl,_,rfl,_,rfl,r,8,_,rfl,C.r,by omega,by decide,by decide,λ t6 H6 F b8 c2=>?_⟩;obtain ⟨v6,c8,a9⟩:=atI_of (xs:=(["q","a","zz","begin","reg","abcdefgh","b","thing"]:List Str).map V.str) b8 c2;obtain ⟨c,a8,rfl⟩:=List.mem_map.mp a9;have b4:V7 c=true/\c.length<=8:=(by decide +kernel :∀z∈(["q","a","zz","begin","reg","abcdefgh","b","thing"]:List Str),V7 z=true/\z.length<=8) c a8;have e6:=F.k _ _ nl e5;have c9:=F.k _ _ M a0;have F:=C.trans F;have kl:kvs.length=ss.length:=by have:=congrArg S5 ek;simpa using this
   refine .inl ⟨l,_,t6,_,rfl,rfl,SqL.of e6,c8,d,_,rfl,DPut.k (k:=.inr c) c9 (A1 (m:=100) (by omega) (by decide)),?_⟩;have w7:Dw r (n + 1 + 2 * (i + 1)) H (upd H6 d (.dK (putK kvs (.inr c) (.str G)))):=by refine ⟨λ b o hb e=>by rw [upd_ne (z07 e fd)];exact F.k b o hb e,?_⟩;obtain ⟨a1,Y,c1,ee,D⟩:=F.r;exact ⟨a1,Y,c1,by rw [upd_ne M.symm];exact ee,D.1,D.2.1,D.2.2.1,by have:=D.2.2.2;omega⟩
   have a7 :∀k v,valV (putK kvs (.inr c) (.str G)) k=some v->∃z,z∈kinds5/\v=.str z:=λ k v e=>by
    rw [z32] at e;by_cases z:k=.inr c
    ·rw [if_pos z] at e;cases e;exact ⟨G,d0,rfl⟩
    ·rw [if_neg z] at e;exact kv k v e
   by_cases z:c∈ss
   ·have kk:=zmh (kvs:=kvs) (k:=(.inr c:Key)) (v:=.str G) (by rw [ek];exact List.mem_map.mpr ⟨c,z,rfl⟩);exact ⟨_,ss,w7,by rw [upd_ne a3];exact e6,upd_same,kk.trans ek,sn,so,by omega,λ _=>j8 z,a7,_,rfl⟩
   ·have kk:=zgp (kvs:=kvs) (k:=(.inr c:Key)) (v:=.str G) (by rw [ek];exact λ y=>z (by obtain ⟨a,ha,e⟩:=List.mem_map.mp y;cases e;exact ha));refine ⟨_,ss++[c],w7,by rw [upd_ne a3];exact e6,upd_same,by rw [kk,E1,ek,E1];rfl,?_,λ z hz=>?_,?_,λ _=>?_,a7,_,rfl⟩
    ·rw [E3];refine ⟨sn,by simp,λ a ha b hb=>?_⟩;rw [List.mem_singleton.mp hb];exact λ e=>z (e ▸ ha)
    ·rcases List.mem_append.mp hz with y|y
     ·exact so z y
     ·rw [List.mem_singleton.mp y];exact b4
    ·rw [D0];show ss.length + 1<=i + 1;omega
    ·rw [D0];exact Nat.succ_pos _
  ·rintro σ O ⟨kvs,ss,w4,e4,ed4,ek,sn,so,sl,sp,kv,x3,rfl⟩;refine t_nx (zkh ?_);refine zmp (λ j H5=>∃f:List Str,O j=none/\f.Perm ss/\H5=upd O j (.lst (f.map V.str))) (λ R h=>⟨_,rfl,d,kvs,ss,rfl,ed4,ek,by omega,λ j f h5 B _=>h j _ ⟨f,h5,B,rfl⟩⟩) ?_;rintro j H5 ⟨f,u,B,rfl⟩;have s5:=Same.upd (o:=.lst (f.map V.str)) u;have a0:=s5 _ _ ed4;have e5:upd O j (.lst (f.map V.str)) j=some (.lst (f.map V.str)):=upd_same;have b6:f.length<=3:=by rw [B.length_eq];omega
   refine zeu (S:=Same) (K:=KX w.params) (a:=j) (xs:=f.map V.str) (kindR (kx w)) (Same.refl _) (λ _ _ _ a b=>a.trans b) (λ _ _=>Same.refl _) ?_ (λ R h=>h) (λ L s'=>SqL.of (s' _ _ e5)) (by rw [o0];exact A0 b6 (by decide)) ?_ ?_
   ·rintro x y Ha Hb c6 ⟨p,k1,Y,D,z2,z3,z4⟩;exact ⟨p,k1,Y,D,z2,z3,c6 _ _ z4⟩
   ·intro v hv H6 s6 KT c4 KF;obtain ⟨p,b7,rfl⟩:=List.mem_map.mp hv;refine ⟨[some (.str p)],rfl,rfl,iteT ?_⟩;have hs:(valV kvs (.inr p)).isSome=true:=valV_isSomeK.mpr (by rw [ek];exact List.mem_map.mpr ⟨p,B.mem_iff.mp b7,rfl⟩);obtain ⟨v1,a6⟩:=Option.isSome_iff_exists.mp hs;obtain ⟨z,hz,rfl⟩:=kv _ _ a6;have dg:DGet H6 d (.str p) (some (.str z)):=by have:=DGet.k (k:=.inr p) (s6 _ _ a0);rw [a6] at this;exact this
    exact ⟨_,rfl,_,rfl,_,rfl,d,_,rfl,dg,w_2,λ p7 c5=>c4 _ _ (Same.upd c5) ⟨p,z,p7,rfl,rfl,hz,upd_same⟩⟩
   ·intro l7 H7 X s7 b3 d1;obtain ⟨ts,f1,f2,c7⟩:=z8c d1;have s8:=Same.upd (o:=.lst X) b3;refine ⟨l7,X,rfl,.inl ⟨SqL.of upd_same,λ p8 a2=>?_⟩⟩;have w8:=(w4.same (s5.trans s7)).same s8;have s9:=s8.trans (Same.upd (o:=.tup X) a2);have tl:ts.length=f.length:=by rw [<-f1,o0]
    have pl:=B.length_eq;have:=sp tp;exact q p8 ts _ ((w8.same (Same.upd a2)).le (by omega)) (w8.free a2) ⟨X,upd_same,z01 (λ _ _ z=>z.elim λ b y=>⟨b,y.1,s9 _ _ y.2⟩) c7⟩ ⟨by omega,by omega,by rw [f1];exact B.nodup_iff.mpr sn,f2⟩ (λ t ht=>so t.1 (B.mem_iff.mp (by rw [<-f1];exact List.mem_map.mpr ⟨t,ht,rfl⟩)))
def EvW (K:b0) (H:Hp) (z:Str) (y:V):Prop:=∃(p:Addr) (r:List V),y=.ref p/\SqT K H p (.str z :: r)
theorem EvW.tups {K:b0} {H H':Hp} {z:Str} {y:V} (t:Tups K H H') (h:EvW K H z y):EvW K H' z y:=by obtain ⟨p,r,e,s⟩:=h;exact ⟨p,r,e,t _ _ s⟩
theorem OwnAt.tt {K:b0} {H H':Hp} {ts:zT} {p:Addr} (t:Tt K H H') (e :∀o,H p=some o->H' p=some o) (h:OwnAt K H ts p):OwnAt K H' ts p:=by obtain ⟨b,g,x,a,k,d,l,f,m,c,i,j⟩:=h;exact ⟨b,g,x,a,k,d,e _ l,f,m,IsDt.mono' t.t d x c,i.tt t,j⟩
theorem OwnAt.mutAt {K:b0} {H:Hp} {ts:zT} {p:Addr} (h:OwnAt K H ts p):MutAt H p:=by obtain ⟨c,e,x,a,k,d,b,_⟩:=h;exact .inl ⟨_,b⟩
theorem DeckAt.mutAt {H:Hp} {r:Addr} {n:Nat} (h:DeckAt H r n):MutAt H r:=by obtain ⟨a,b,c,e,_⟩:=h;exact .inl ⟨_,e⟩
theorem Dw.keptL {r:Addr} {n:Nat} {H H':Hp} {L:List Addr} (h:Dw r n H H') (hr:r∈L):KeptL L H H':=λ b o n e=>h.k b o (λ z=>n (z ▸ hr)) e
theorem Dw.tt {K:b0} {r:Addr} {n m:Nat} {H H':Hp} (R:DeckAt H r m) (h:Dw r n H H'):Tt K H H':=KeptL.tt (h.keptL (List.mem_singleton.mpr rfl)) λ l a=>by rw [List.mem_singleton.mp a];exact R.mutAt
theorem z1e {L:List Addr} {H H1 H2:Hp} (s:Same H H1) (k:KeptL L H1 H2) (n :∀l∈L,H l=none):Same H H2:=λ c o e=>k c o (λ z=>by rw [n c z] at e;cases e) (s c o e)
theorem zfc {kvs:zK} {k j:Key} {v:V} (h:valV (dropK kvs k) j=some v):valV kvs j=some v:=by
 induction kvs with
 | nil=>cases h
 | cons p r ih=>
  obtain ⟨a,pv⟩:=p;by_cases z:a=k
  ·rw [zdd z] at h;have c:j≠a:=λ y=>by
    have:(valV (dropK r k) j).isSome=true:=by rw [h];rfl
    have:=valV_isSomeK.mp this;obtain ⟨q,b,e⟩:=List.mem_map.mp this;have:=of_decide_eq_true (List.mem_filter.mp b).2;exact this (e.trans (y.trans z))
   rw [z0p (λ e=>c e.symm)];exact ih h
  ·rw [zd3 z] at h;by_cases y:a=j
   ·subst y;rw [z0q rfl] at h⊢;exact h
   ·rw [z0p y] at h⊢;exact ih h
def evH:Ev->Int
 | .beg h _ _ _=>h
 | .fin h _=>h
theorem zht {hs:List Int} {es:List Ev} {e:Ev} (h :∀e∈es,evH e∈hs) (he:evH e∈hs) :∀x∈es++[e],evH x∈hs:=λ x a=>by
 rcases List.mem_append.mp a with z|z
 ·exact h x z
 ·rw [List.mem_singleton.mp z];exact he
def wordE:Ev->Str
 | .beg _ _ _ _=>"begin"
 | .fin _ _=>"end"
def isBg (e:Ev):Bool:=decide (V.str (wordE e)=V.str "begin")
theorem zh2 {h:Int} {n v x:V}:isBg (.beg h n v x)=true:=by show decide (V.str "begin" = V.str "begin")=true;decide +kernel
theorem zfj {h:Int} {a:V}:isBg (.fin h a)=false:=by show decide (V.str "end" = V.str "begin")=false;decide +kernel
def bgN (es:List Ev):Nat:=(es.filter isBg).length
theorem zn9 {es:List Ev} {h:Int} {a:V}:bgN (es++[.fin h a])=bgN es:=by unfold bgN;rw [N4,D0];rw [D2 (by rw [zfj];decide)];rfl
theorem zmq {es:List Ev} {h:Int} {n v x:V}:bgN (es++[.beg h n v x])=bgN es + 1:=by unfold bgN;rw [N4,D0,C2 zh2];rfl
theorem zkp {p:Ev->Bool} :∀{es:List Ev} {ys:List V},es.length=ys.length->((es.zip ys).filter λ a=>p a.1).length=(es.filter p).length
 | [],[],_=>rfl
 | e :: es,y :: ys,h=>by
  have b:=zkp (p:=p) (es:=es) (ys:=ys) (by simpa using h);rw [F9];cases c:p e with
  | true=>rw [C2 (by exact c),C2 c,P0,P0,b]
  | false=>rw [D2 (by show ¬ p e=true;rw [c];decide),D2 (by rw [c];decide),b]
theorem zkv :∀{es:List Ev} {i:Nat} {rs:List Rc},(dAll i rs es).length=rs.length + bgN es
 | [],_,_=>rfl
 | e :: es,i,rs=>by
  have b:=zkv (es:=es) (i:=i + 1) (rs:=dstep i rs e);show (dAll (i + 1) (dstep i rs e) es).length=_;rw [b];cases e with
  | beg hd n v x=>
   have d:(dstep i rs (.beg hd n v x)).length=rs.length + 1:=by show (rs++[_]).length=_;rw [D0];rfl
   have c:bgN (Ev.beg hd n v x :: es)=bgN es + 1:=by unfold bgN;rw [C2 zh2,P0]
   omega
  | fin hd a=>
   have d:(dstep i rs (.fin hd a)).length=rs.length:=by
    unfold dstep;dsimp only;cases lastI hd (rs.map Rc.h) with
    | none=>rfl
    | some j=>exact M4 ..
   have c:bgN (Ev.fin hd a :: es)=bgN es:=by unfold bgN;rw [D2 (by rw [zfj];decide)]
   omega
structure EvQ (K:b0) (ts:zT) (H:Hp) (e:Ev) (y:V):Prop where
 a:EvAt K H e y
 w:EvW K H (wordE e) y
 n:EvGd K H ts e
theorem EvQ.tt {K:b0} {ts:zT} {H H':Hp} {e:Ev} {y:V} (t:Tt K H H') (h:EvQ K ts H e y):EvQ K ts H' e y:=⟨EvAt.tups t.t h.a,h.w.tups t.t,h.n.tt t⟩
theorem zg1 {K:b0} {ts:zT} {H:Hp} :∀{es:List Ev} {ys:List V},All2 (EvQ K ts H) es ys->All2 (λ (a:Ev×V) v=>a.2=v/\EvQ K ts H a.1 v) (es.zip ys) ys
 | _,_,.nil=>.nil
 | _,_,.cons a r=>.cons ⟨rfl,a⟩ (zg1 r)
def UwAt (K:b0) (H H0:Hp) (u l ha:Addr) (ts:zT) (m:Nat) (os:List Int):Prop:=∃kvs:zK,H u=some (.dK kvs)/\kvs.length<=m/\kvs.map (·.1)=os.map Sum.inl/\∀k v,valV kvs k=some v->∃p,v=.ref p/\OwnAt K H ts p/\p≠l/\p≠ha/\H0 p=none
structure TaJ (K:b0) (H H0:Hp) (pt ps u l ha:Addr) (ts:zT) (hs:List Int) (i:Nat) (os:List Int) (es:List Ev):Prop where
 th:ThAt H pt ts
 st:StsT K H ps ts i
 uw:UwAt K H H0 u l ha ts i os
 ev :∃ys,H l=some (.lst ys)/\All2 (EvQ K ts H) es ys
 hn:H ha=some (.lst (hs.map V.int))
 ln:es.length<=i
 wf:EWf [] es
 cn:bgN es<=4
 hb :∀e∈es,evH e∈hs
theorem TaJ.tt {K:b0} {H H' H0:Hp} {pt ps u l ha:Addr} {ts:zT} {hs:List Int} {i:Nat} {os:List Int} {es:List Ev} (t:Tt K H H') (L:List Addr) (k:KeptL L H H') (n:u∉L/\l∉L/\ha∉L) (po :∀p∈L,∀q:OwnAt K H ts p,OwnAt K H' ts p) (h:TaJ K H H0 pt ps u l ha ts hs i os es):TaJ K H' H0 pt ps u l ha ts hs i os es:=by
 refine ⟨h.th.tt t,h.st.tups t.t,?_,h.ev.elim λ g z=>⟨g,k _ _ n.2.1 z.1,z01 (λ _ _ y=>y.tt t) z.2⟩,k _ _ n.2.2 h.hn,h.ln,h.wf,h.cn,h.hb⟩;obtain ⟨c,e,d,s,f⟩:=h.uw;refine ⟨c,k _ _ n.1 e,d,s,λ a v m=>?_⟩;obtain ⟨p,j,b,r⟩:=f a v m;refine ⟨p,j,?_,r⟩;rcases Classical.em (p∈L) with z|z
 ·exact po p z b
 ·exact b.tt t λ o e=>k _ _ z e
theorem TaJ.same {K:b0} {H H' H0:Hp} {pt ps u l ha:Addr} {ts:zT} {hs:List Int} {i:Nat} {os:List Int} {es:List Ev} (s:Same H H') (h:TaJ K H H0 pt ps u l ha ts hs i os es):TaJ K H' H0 pt ps u l ha ts hs i os es:=h.tt (.of s) [] s.keptL ⟨j0,j0,j0⟩ (λ _ z=>absurd z j0)
theorem TaJ.le {K:b0} {H H0:Hp} {pt ps u l ha:Addr} {ts:zT} {hs:List Int} {i:Nat} {os:List Int} {es:List Ev} (h:TaJ K H H0 pt ps u l ha ts hs i os es):TaJ K H H0 pt ps u l ha ts hs (i + 1) os es:=⟨h.th,h.st.le (F3 _),h.uw.elim λ a z=>⟨a,z.1,A5 z.2.1,z.2.2⟩,h.ev,h.hn,A5 h.ln,h.wf,h.cn,h.hb⟩
theorem TaJ.dw {K:b0} {H H' H0:Hp} {pt ps u l ha r:Addr} {ts:zT} {hs:List Int} {i n m:Nat} {os:List Int} {es:List Ev} (R:DeckAt H r n) (w:Dw r m H H') (nr:u≠r/\l≠r/\ha≠r) (h:TaJ K H H0 pt ps u l ha ts hs i os es):TaJ K H' H0 pt ps u l ha ts hs i os es:=by refine h.tt (w.tt R) [r] (w.keptL (by simp)) ⟨by simp [nr.1],by simp [nr.2.1],by simp [nr.2.2]⟩ λ p c o=>?_;rw [List.mem_singleton.mp c] at o⊢;obtain ⟨j,q,x,a,k,d,e,_⟩:=o;obtain ⟨f,g,s,b,_⟩:=R;rw [e] at b;cases b
def z6v (K:b0):Sp:=λ vs H Q _=>∃(sc:Addr) (ns:List Int),vs=[.ref sc,.int 4]/\SqL K H sc (ns.map V.int)/\ns.length<=63/\
 ∀t pt te ys es ts H',Same H H'->H' t=some (.tup [.ref pt,.ref te])->H' te=some (.tup ys)->ThAt H' pt ts->ThOk ts->(∀t∈ts,V7 t.1=true/\t.1.length<=8)->All2 (EvQ K ts H') es ys->es.length<=20->EWf [] es->bgN es<=4->(∀e∈es,0<=evH e/\evH e<=5)->Q (.ref t) H'
theorem zbp (T:TX (kx w) mg) (c0:Ca P w mg base "_law_cell_at" ["script","k"] 1 (z3v (kx w))) (c2:Ca P w mg base "_law_take" ["deck","many"] 1 z1t) (c3:Ca P w mg base "_law_things" ["deck"] 2 z55) (c4:Ca P w mg base "_law_first" ["things"] 1 (z3l (kx w))) (c5:Ca P w mg base "_law_applied" ["things","states","own"] 2 (z23 (kx w))) (c6:Ca P w mg base "_law_verb" ["deck","kind"] 3 (z6m (kx w))):Fo P w mg base CX0 4 403 y1e ["script","most"] (z6v (kx w)):=by
 refine (z5e w.params).ok sc__law_tale (λ vs H Q E h=>?_) (λ y5 A x9 s H vs Q E I h=>?_)
 ·obtain ⟨sc,O,rfl,_⟩:=h;rfl
 ·obtain ⟨sc,O,rfl,sq,hn,q⟩:=h;refine q_of (z0h (QS.mk (ps_set (i:=2) sc__law_tale.nd rfl (U0 rfl) (pe_op op_mod (pe_cal c0 (I.mono (by decide)) rfl (z00 (pv 0) (z00 pe_int pa_nil))) pe_int)))
   (z0h (QS.mk (ps_set (i:=3) sc__law_tale.nd rfl (U0 rfl) (pe_lst (z00 (pe_op zc8 (pe_cal c0 (I.mono (by decide)) rfl (z00 (pv 0) (z00 pe_int pa_nil))) pe_int) (z00 (pv 2) (z00 pe_int pa_nil))))))
   (z0h (QS.mk (ps_set (i:=4) sc__law_tale.nd rfl (U0 rfl) (pe_cal c3 (I.mono (by decide)) rfl (z00 (pv 3) pa_nil))))
   (z0h (QS.mk (ps_set (i:=5) sc__law_tale.nd rfl (U0 rfl) (z2l slSeq (pe_ix ix_seq (pe_lst (z00 (pe_lst (z00 pe_int (z00 pe_int (z00 pe_int (z00 pe_int pa_nil))))) (z00 (pe_lst (z00 pe_int (z00 pe_int (z00 pe_int (z00 pe_int pa_nil))))) pa_nil))) (pe_cal c2 (I.mono (by decide)) rfl (z00 (pv 3) (z00 pe_int pa_nil))) (λ _ _=>rfl)) z4s (z2r (pe_op opAdd pe_int (pe_cal c2 (I.mono (by decide)) rfl (z00 (pv 3) (z00 pe_int pa_nil))))))))
   (z0h (qs_set (i:=6) sc__law_tale.nd rfl (U0 rfl) (qe_ix ix_seq (qe_lst (z0c (QE.mk pe_int) (z0c (QE.mk pe_int) (z0c (QE.mk pe_int) (z0c (QE.mk pe_int) qa_nil))))) (QE.mk (pe_cal c2 (I.mono (by decide)) rfl (z00 (pv 3) (z00 pe_int pa_nil)))) (λ _ _=>rfl)))
   (z0h (QS.mk (ps_set (i:=7) sc__law_tale.nd rfl (U0 rfl) (pe_cal c4 (I.mono (by decide)) rfl (z00 (pv 4) pa_nil))))
   (z0h (QS.mk (ps_set (i:=8) sc__law_tale.nd rfl (U0 rfl) (pe_lst pa_nil)))
   (z0h (QS.mk (ps_set (i:=9) sc__law_tale.nd rfl (U0 rfl) z5d))
   (z0h (qs_for K1 rfl (z2o rfl (T.no (z6n _)) (z00 (z09 (ziq rfl) rfl (T.no (n_min _)) boot_min (z00 (pe_op op_mul pe_int (pv 1)) (z00 (z09 (zjc rfl) rfl (T.no (n_max _)) boot_max (z00 pe_int (z00 (pe_op op_sub (z09 z1h rfl (T.no (n_len _)) X3 (z00 (pv 0) pa_nil)) pe_int) pa_nil))) pa_nil))) pa_nil)) (z0g (i:=10) sc__law_tale.nd rfl (U0 rfl))
   (z0h (QS.mk (ps_set (i:=3) sc__law_tale.nd rfl (U0 rfl) (pe_lst (z00 (z09 (zi8 rfl) rfl (T.no (n_sum _)) boot_sum (z00 (zim (pv 0) (z2r (pe_op opAdd pe_int (pv 10))) (z2r pe_int) (z2r (pe_op op_mul pe_int (pv 1)))) pa_nil)) (z00 (pv 2) (z00 (pe_op opAdd pe_int (pe_op op_mul pe_int (pv 10))) pa_nil))))))
   (z0h (QS.mk (ps_set (i:=11) sc__law_tale.nd rfl (U0 rfl) (pe_ix ix_seq (pv 5) (pe_cal c2 (I.mono (by decide)) rfl (z00 (pv 3) (z00 (z09 z1h rfl (T.no (n_len _)) X3 (z00 (pv 5) pa_nil)) pa_nil))) (λ _ _=>rfl))))
   (z3i (qs_if (pt_cmp (pc_din (hu_of I) (pv 11) (pv 9)) (by with_unfolding_all rfl))
   (z0h (QS.mk (ps_set (i:=12) sc__law_tale.nd rfl (U0 rfl) (zlc (pv 9) (pv 11) ⟨rfl,rfl,rfl,rfl⟩)))
   (z0h (QS.mk (ps_if (z08 op_isN (pJ 12) pe_non (nomark _))
   (z04 (ps_set (i:=7) sc__law_tale.nd rfl (U0 rfl) (pe_cal c5 (I.mono (by decide)) rfl (z00 (pv 4) (z00 (pv 7) (z00 (pv 12) pa_nil))))))
   z0e))
   (z0h (QS.mk (ps_set (i:=13) sc__law_tale.nd rfl (U0 rfl) (pJ 12)))
   (z0h (qs_if (PW.pt (pw_or (pt_val (z09 z0o rfl (T.no (z0l _)) i3 (z00 (pv 13) (z00 (z37 (v:=.ty "tuple") rfl (T.no (z2u _)) E4 rfl) pa_nil))) (λ _=>rfl)) (pw_or1 (z08 opEq (pe_cal c2 (I.mono (by decide)) rfl (z00 (pv 3) (z00 (pv 6) pa_nil))) pe_int (nomark _)))))
   (z3i (qs_set (i:=13) sc__law_tale.nd rfl (U0 rfl) (qe_ix ix_seq (qe_lst (z0c (QE.mk pe_str) (z0c (QE.mk pe_str) (z0c (QE.mk pe_int) (z0c (QE.mk pe_int) (z0c (QE.mk pe_int) (z0c (QE.mk (pe_op op_pow pe_int pe_int)) (z0c (QE.mk (pe_un un_neg pe_int)) qa_nil)))))))) (QE.mk (pe_cal c2 (I.mono (by decide)) rfl (z00 (pv 3) (z00 pe_int pa_nil)))) (λ _ _=>rfl))))
   (QSs.mk z0e))
   (z3i (QS.mk (z2b (z14 (pv 8) (z00 (pe_tup (z00 pe_str (z00 (pv 11) (z00 (pv 13) pa_nil)))) pa_nil)))))))))
   (z3i (QS.mk (ps_if (z08 op_lt (z09 z1h rfl (T.no (n_len _)) X3 (z00 (pe_cg (xs:=["event"]) (g:=gName 0) (fr:=[]) (z17 (pv 8)) (λ _ _ _ _ _=>(pg_cn (N:=["event"]) 0)) (λ _ _ _ _ _=>(pf_one (z08 opEq (pe_ix (z8a (K:=KX w.params) rfl) (pv 0) pe_int (λ _ _=>rfl)) pe_str (nomark _)))) (λ _ _ _ _ _=>(pv 0))) pa_nil)) (pv 1) (nomark _))
   (z02 (ps_asg (pe_ix ix_seq (pv 4) (pe_cal c2 (I.mono (by decide)) rfl (z00 (pv 3) (z00 (z09 z1h rfl (T.no (n_len _)) X3 (z00 (pv 4) pa_nil)) pa_nil))) (λ _ _=>rfl)) (pg_tup rfl (z0d (z0g (i:=14) sc__law_tale.nd rfl (U0 rfl)) (z0d (z0g (i:=15) sc__law_tale.nd rfl (U0 rfl)) z0x))))
   (z02 (ps_asg (pe_cal c6 (I.mono (by decide)) rfl (z00 (pv 3) (z00 (pv 15) pa_nil))) (pg_tup rfl (z0d (z0g (i:=16) sc__law_tale.nd rfl (U0 rfl)) (z0d (z0g (i:=17) sc__law_tale.nd rfl (U0 rfl)) z0x))))
   (z02 (z2b (z14 (pv 8) (z00 (pe_tup (z00 pe_str (z00 (pv 11) (z00 (pv 14) (z00 (pv 16) (z00 (pv 17) pa_nil)))))) pa_nil)))
   (z02 (z6u (hu_of I) (pv 9) (pv 11) (pe_lst (z00 (pv 14) (z00 (pv 16) (z00 (pv 17) (z00 pe_non pa_nil))))) rfl)
   (z04 (ps_if (z08 opEq (pe_cal c2 (I.mono (by decide)) rfl (z00 (pv 3) (z00 pe_int pa_nil))) pe_int (nomark _))
   (z04 (ps_set (i:=7) sc__law_tale.nd rfl (U0 rfl) (pe_cal c5 (I.mono (by decide)) rfl (z00 (pv 4) (z00 (pv 7) (z00 (z74 (hu_of I) (pv 9) (pv 11) (λ _ _=>rfl)) pa_nil))))))
   z0e))))))
   z0e))))))))
   (z3i (QS.mk (ps_ret (pe_tup (z00 (pv 4) (z00 (z0t z0j rfl (T.no (z2u _)) E4 (z00 (pv 8) pa_nil)) pa_nil))))))))))))))) ?_
  refine z0k ?_;refine ⟨_,rfl,sc,O,rfl,sq,λ i0=>⟨_,_,rfl,rfl,(show (0:Int) < 2 by decide),?_⟩⟩;refine g_name ?_;have y0:0<=i0 % 2:=U6 _ (by decide);have y1:i0 % 2 < 2:=T5 _ (by decide);refine z0k ?_;refine ⟨_,rfl,sc,O,rfl,sq,λ i1=>⟨_,_,rfl,rfl,⟨by decide,by decide⟩,_,rfl,w_3,λ Z l6=>?_⟩⟩;refine g_name ?_;have s1:=Same.upd (o:=.lst [.int (i1 / 2),.int (i0 % 2),.int 0]) l6;have D1:DeckAt (upd H Z (.lst [.int (i1 / 2),.int (i0 % 2),.int 0])) Z 0:=⟨_,_,_,upd_same,y0,y1,j0j _,j0j _⟩
  generalize upd H Z (.lst [.int (i1 / 2),.int (i0 % 2),.int 0])=H1 at s1 D1⊢;have only :∀{n:Nat} {Ha Hb:Hp},Same H Ha->Dw Z n Ha Hb->Same H Hb:=λ sa wa=>z1e sa (wa.keptL (L:=[Z]) (by simp)) λ c B=>by rw [List.mem_singleton.mp B];exact l6
  refine ⟨_,rfl,Z,0,rfl,D1,by decide,λ pt S H2 w2 x8 th ok v0=>?_⟩;have s2:=only s1 w2;refine g_name (t_nx ?_);refine z0k ?_;refine ⟨w_4,λ G h1=>⟨w_4,λ a2 h2=>⟨w_2,λ a3 h3=>?_⟩⟩⟩;have q1:=Same.upd (o:=.lst [V.int 0,.int 1,.int 2,.int 5]) h1;have q2:=Same.upd (o:=.lst [V.int 5,.int 4,.int 3,.int 0]) h2;have q3:=Same.upd (o:=.lst [.ref G,.ref a2]) h3;have f1:=q3 _ _ (q2 _ _ (upd_same (H:=H2) (a:=G) (o:=.lst [V.int 0,.int 1,.int 2,.int 5])));have f2:=q3 _ _ (upd_same (H:=upd H2 G (.lst [V.int 0,.int 1,.int 2,.int 5])) (a:=a2) (o:=.lst [V.int 5,.int 4,.int 3,.int 0]));have f3:=upd_same (H:=upd (upd H2 G (.lst [V.int 0,.int 1,.int 2,.int 5])) a2 (.lst [V.int 5,.int 4,.int 3,.int 0])) (a:=a3) (o:=.lst [.ref G,.ref a2]);have n1:G≠Z:=w2.r.fresh h1;have n2:a2≠Z:=(w2.r.same q1).fresh h2;have n3:a3≠Z:=(w2.r.same (q1.trans q2)).fresh h3;have g8:=(q1.trans q2).trans q3;generalize upd (upd (upd H2 G (.lst [V.int 0,.int 1,.int 2,.int 5])) a2 (.lst [V.int 5,.int 4,.int 3,.int 0])) a3 (.lst [.ref G,.ref a2])=H3 at f1 f2 f3 g8⊢;have D3:=w2.r.same g8;have r5:=th.tt (.of (K:=KX w.params) g8);have s3:=s2.trans g8;refine ⟨_,rfl,Z,2,_,rfl,D3,by decide,by decide,by decide,λ t4 H4 w4 o3 r2=>?_⟩;obtain ⟨v4,o9,m8⟩:=atI_of (xs:=[V.ref G,.ref a2]) o3 r2;obtain ⟨aX,a8,rfl,eX,nX,lX,bX⟩ :∃(aX:Addr) (a8:List Int),v4=.ref aX/\H3 aX=some (.lst (a8.map V.int))/\aX≠Z/\a8.length=4/\∀x∈a8,0<=x/\x<=5:=by
   simp only [B1,j0,or_false] at m8;rcases m8 with rfl|rfl
   ·exact ⟨G,[0,1,2,5],rfl,f1,n1,rfl,by decide⟩
   ·exact ⟨a2,[5,4,3,0],rfl,f2,n2,rfl,by decide⟩
  refine .inl ⟨a3,_,t4,_,rfl,rfl,SqL.of (w4.k _ _ n3 f3),o9,?_⟩;have u5:=w4.k _ _ nX eX;have s4:=only s3 w4;have v2:=r5.tt (w4.tt (K:=KX w.params) D3);refine ⟨_,rfl,Z,4,_,rfl,w4.r,by decide,by decide,by decide,λ t5 H5 w5 v1 x4=>.inl ⟨1,t5,rfl,rfl,_,rfl,.inl ⟨aX,_,rfl,SqL.of (w5.k _ _ nX u5),λ D j2=>?_⟩⟩⟩;have s5:=only s4 w5;have u9:=v2.tt (w5.tt (K:=KX w.params) w4.r);obtain ⟨m5,rfl⟩:=Int.eq_ofNat_of_zero_le v1;have ec:cutV (a8.map V.int) none (some (1 + (m5:Int)))=(a8.take (1 + m5)).map V.int:=by rw [show (1:Int) + (m5:Int)=((1 + m5:Nat):Int) by omega,(cut_to (ys:=a8.map V.int) (m:=1 + m5) (by rw [o0];omega)).1,List.map_take]
  rw [ec];have p1:(a8.take (1 + m5)).length=1 + m5:=by rw [L3];omega
  have k1 :∀x∈a8.take (1 + m5),0<=x/\x<=5:=λ x hx=>bX x (List.mem_of_mem_take hx);generalize a8.take (1 + m5)=hs at p1 k1⊢;refine g_name ?_;have q6:=Same.upd (o:=.lst (hs.map V.int)) j2;have e6:upd H5 D (.lst (hs.map V.int)) D=some (.lst (hs.map V.int)):=upd_same;have w0:D≠Z:=w5.r.fresh j2;have x5:H D=none:=s5.free j2;generalize upd H5 D (.lst (hs.map V.int))=H6 at q6 e6⊢;have D6:=w5.r.same q6;have s6:=s5.trans q6;have s0:=u9.tt (.of (K:=KX w.params) q6);refine z0k ?_;refine ⟨w_4,λ a7 h7=>⟨_,rfl,Z,4,_,rfl,D6.same (Same.upd h7),by decide,by decide,by decide,λ t7 H7 w7 n8 x2=>?_⟩⟩;obtain ⟨v7,p7,m9⟩:=atI_of (xs:=[V.int 3,.int 8,.int 40,.int 40]) n8 x2;obtain ⟨c7,rfl,w1,x6⟩ :∃c7:Int,v7=.int c7/\0 < c7/\c7<=40:=by simp only [B1,j0,or_false] at m9;rcases m9 with rfl|rfl|rfl|rfl<;>exact ⟨_,rfl,by decide,by decide⟩
  refine .inl ⟨a7,_,t7,_,rfl,rfl,SqL.of (w7.k _ _ (D6.fresh h7) upd_same),p7,?_⟩;refine g_name ?_;have e7:=w7.k _ _ w0 ((Same.upd (o:=.lst [V.int 3,.int 8,.int 40,.int 40]) h7) _ _ e6);have l3:=(s0.tt (.of (K:=KX w.params) (Same.upd (o:=.lst [V.int 3,.int 8,.int 40,.int 40]) h7))).tt (w7.tt (K:=KX w.params) (D6.same (Same.upd h7)));have s7:=only (s6.trans (Same.upd (o:=.lst [V.int 3,.int 8,.int 40,.int 40]) h7)) w7;refine ⟨_,rfl,pt,S,rfl,l3,ok.n6,λ U M s8 e3=>?_⟩;have e8:=s8 _ _ e7;have u2:=l3.tt (.of (K:=KX w.params) s8);have s8:=s7.trans s8;refine ⟨w_0,λ l hl=>?_⟩;have q9:=Same.upd (o:=.lst []) hl;have d7:upd M l (.lst []) l=some (.lst []):=upd_same;have k0:l≠D:=λ z=>by rw [z,e8] at hl;cases hl
  have fl:H l=none:=s8.free hl;have e9:=q9 _ _ e8;have j9:=u2.tt (.of (K:=KX w.params) q9);have f9:=(e3.sts (K:=KX w.params)).tups (.of q9);have s9:=s8.trans q9;generalize upd M l (.lst [])=H9 at q9 d7 e9 j9 f9 s9⊢;intro u hu;have a4:=Same.upd (o:=.dK []) hu;have fu:H u=none:=s9.free hu;have d6:l≠u:=λ z=>by rw [<-z,d7] at hu;cases hu
  have i4:D≠u:=λ z=>by rw [<-z,e9] at hu;cases hu
  have J0:TaJ (kx w) (upd H9 u (.dK [])) H pt U u l D S hs 0 [] []:=⟨j9.tt (.of (K:=KX w.params) a4),f9.tups (.of a4),⟨[],upd_same,t0 _,rfl,λ k v e=>by cases e⟩,⟨[],a4 _ _ d7,.nil⟩,a4 _ _ e9,t0 _,trivial,Q1 _,λ _ h=>absurd h j0⟩
  have e4:=s9.trans a4;generalize upd H9 u (.dK [])=a6 at J0 e4⊢;have hb :∀L:Int,0<=(if (if L > 0 then L else 0) < 2 * 4 then (if L > 0 then L else 0) else 2 * 4)/\(if (if L > 0 then L else 0) < 2 * 4 then (if L > 0 then L else 0) else 2 * 4)<=20:=λ L=>by split<;>split<;>omega
  obtain ⟨b1,b2⟩:=hb (((O.map V.int).length:Int) - 1);refine ⟨_,rfl,_,_,rfl,rfl,.inl ⟨by decide,by decide⟩,_,rfl,.inl ⟨sc,_,rfl,.inl (e4.seq sq),_,_,rfl,rfl,_,_,rfl,_,_,rfl,(if (if ((O.map V.int).length:Int) - 1 > 0 then ((O.map V.int).length:Int) - 1 else 0) < 2 * 4 then (if ((O.map V.int).length:Int) - 1 > 0 then ((O.map V.int).length:Int) - 1 else 0) else 2 * 4),rfl,by omega,by omega,?_⟩⟩;generalize (if (if ((O.map V.int).length:Int) - 1 > 0 then ((O.map V.int).length:Int) - 1 else 0) < 2 * 4 then (if ((O.map V.int).length:Int) - 1 > 0 then ((O.map V.int).length:Int) - 1 else 0) else 2 * 4)=JJ at b1 b2⊢;have tn:JJ.toNat<=20:=by omega
  generalize JJ.toNat=tt at tn⊢;refine z3q (lo:=0) (n:=tt) (λ i σ H'=>∃U es,TaJ (kx w) H' H pt U u l D S hs i (es.foldl oStep []) es/\Same H H'/\∃x3 X x11 x12 x13 x14 x15 x16 x17,σ=[some (.ref sc),some (.int 4),some (.int (i0 % 2)),x3,some (.ref pt),some (.ref D),some (.int c7),some (.ref U),some (.ref l),some (.ref u),X,x11,x12,x13,x14,x15,x16,x17])
   ⟨U,[],J0,e4,_,_,_,_,_,_,_,_,_,rfl⟩ ?_ ?_
  ·rintro i σ H3 hi ⟨U,es,J,s3,x3,X,x11,x12,x13,x14,x15,x16,x17,rfl⟩;rw [g7];refine g_name ?_;obtain ⟨ms,em⟩ :∃ms:List Int,pickV (O.map V.int) (some (1 + (i:Int))) (some 63) (some (2 * 4))=ms.map V.int:=zkl λ y hy=>by obtain ⟨c,_,rfl⟩:=List.mem_map.mp (zjr hy);exact ⟨c,rfl⟩
   have pl:(pickV (O.map V.int) (some (1 + (i:Int))) (some 63) (some (2 * 4))).length<=sizeLine:=A0 (zj5 (by omega)) (by rw [o0];exact A0 hn (by decide));refine z0k ?_;refine ⟨_,rfl,_,rfl,.inl ⟨_,_,rfl,rfl,_,rfl,63,rfl,_,rfl,_,_,rfl,rfl,.inl ⟨by decide,by decide⟩,_,rfl,sc,_,rfl,s3.seq sq,(show (some (2 * 4:Int))≠some 0 from λ e=>by injection e with e;omega),pl,λ p4 r0=>?_⟩⟩;have q4:=Same.upd (o:=.lst (pickV (O.map V.int) (some (1 + (i:Int))) (some 63) (some (2 * 4)))) r0;refine ⟨p4,ms,rfl,SqL.of (by rw [<-em];exact upd_same),?_⟩;refine ⟨_,rfl,_,rfl,_,_,rfl,rfl,.inl ⟨by decide,by decide⟩,.inl ⟨_,_,rfl,rfl,w_3,λ C e0=>?_⟩⟩;refine g_name ?_;have q5:=Same.upd (o:=.lst [.int ms.sum,.int (i0 % 2),.int (9 + 5 * (i:Int))]) e0;have D5:DeckAt (upd (upd H3 p4 (.lst (pickV (O.map V.int) (some (1 + (i:Int))) (some 63) (some (2 * 4))))) C (.lst [.int ms.sum,.int (i0 % 2),.int (9 + 5 * (i:Int))])) C (9 + 5 * i):=⟨_,_,_,upd_same,y0,y1,by omega,by omega⟩
   have J5:=(J.same q4).same q5;have r8:H C=none:=(s3.trans q4).free e0;have s5:=(s3.trans q4).trans q5;generalize upd (upd H3 p4 (.lst (pickV (O.map V.int) (some (1 + (i:Int))) (some 63) (some (2 * 4))))) C (.lst [.int ms.sum,.int (i0 % 2),.int (9 + 5 * (i:Int))])=H5 at D5 J5 s5⊢;have nd:u≠C/\l≠C/\D≠C:=by
    obtain ⟨G,b1,c1,e1,_⟩:=D5;refine ⟨λ z=>?_,λ z=>?_,λ z=>?_⟩
    ·obtain ⟨kv,e,_⟩:=(J.same q4).uw;rw [z,e0] at e;cases e
    ·obtain ⟨kv,e,_⟩:=(J.same q4).ev;rw [z,e0] at e;cases e
    ·have e:=(J.same q4).hn;rw [z,e0] at e;cases e
   have g4 :∀{n:Nat} {Ha Hb:Hp},Same H Ha->Dw C n Ha Hb->Same H Hb:=λ sa wa=>z1e sa (wa.keptL (L:=[C]) (by simp)) λ c B=>by rw [List.mem_singleton.mp B];exact r8
   refine z0k ?_;refine ⟨_,rfl,_,rfl,_,rfl,.inl ⟨D,_,rfl,.inl (SqL.of J5.hn),C,_,_,rfl,D5,by omega,by rw [o0];omega,by rw [o0];omega,λ t6 H6 w6 o4 r1=>?_⟩⟩;obtain ⟨v6,p0,r6⟩:=atI_of (xs:=hs.map V.int) o4 r1;obtain ⟨b,j7,rfl⟩:=List.mem_map.mp r6;have Y:=J5.dw D5 w6 nd;have s6:=g4 s5 w6;have D6:=w6.r;refine .inl ⟨D,_,t6,_,rfl,rfl,SqL.of Y.hn,p0,?_⟩;refine g_name ?_;obtain ⟨b0,b5,r3,g6,l0⟩:=Y.uw;have dg:DGet H6 u (.int b) (valV b0 (.inl b)):=DGet.k (k:=.inl b) b5;refine ⟨_,rfl,_,rfl,u,_,rfl,dg,_,rfl,?_⟩;cases hv:valV b0 (.inl b) with
   | some v=>
    refine iteP rfl ?_;obtain ⟨f,rfl,ow,g5,h4,f7⟩:=l0 _ _ hv;refine z0k ?_;refine ⟨_,rfl,u,rfl,.inl ⟨_,.inl b5⟩,_,rfl,b0,.inl b,.ref f,b5,rfl,hv,?_⟩;refine g_name ?_;have k7:KeptL [u] H6 (upd H6 u (.dK (dropK b0 (.inl b)))):=KeptL.set (by simp);have T7:Tt (kx w) H6 (upd H6 u (.dK (dropK b0 (.inl b)))):=KeptL.tt k7 λ c B=>by rw [List.mem_singleton.mp B];exact .inr ⟨_,b5⟩
    have l4:upd H6 u (.dK (dropK b0 (.inl b))) u=some (.dK (dropK b0 (.inl b))):=upd_same;generalize upd H6 u (.dK (dropK b0 (.inl b)))=H7 at k7 T7 l4⊢;obtain ⟨ys,c9,f0⟩:=Y.ev;have d6:l≠u:=λ z=>by rw [z,b5] at c9;cases c9
    have i4:D≠u:=λ z=>by have:=Y.hn;rw [z,b5] at this;cases this
    have d5 :∀{p:Addr},OwnAt (kx w) H6 S p->p≠u:=λ o z=>by obtain ⟨_,_,_,_,_,_,e,_⟩:=o;rw [z,b5] at e;cases e
    have u6:b∈es.foldl oStep []:=by have:(Sum.inl b:Key)∈b0.map (·.1):=valV_isSomeK.mp (by rw [hv];rfl);rw [g6] at this;obtain ⟨k,hk,e⟩:=List.mem_map.mp this;exact z8 e ▸ hk
    have J7:TaJ (kx w) H7 H pt U u l D S hs i ((es.foldl oStep []).filter λ k=>decide (k≠b)) es:=⟨Y.th.tt T7,Y.st.tups T7.t,⟨_,l4,A0 (zgu _ _) r3,zj9 g6,λ k v e=>by obtain ⟨p,h1,h2,h3⟩:=l0 k v (zfc e);exact ⟨p,h1,h2.tt T7 λ o e=>k7 _ _ (by simp [d5 h2]) e,h3⟩⟩,⟨ys,k7 _ _ (by simp [d6]) c9,z01 (λ _ _ y=>y.tt T7) f0⟩,k7 _ _ (by simp [i4]) Y.hn,Y.ln,Y.wf,Y.cn,Y.hb⟩
    have f8:=ow.tt T7 λ o e=>k7 _ _ (by simp [d5 ow]) e;have D7:DeckAt H7 C (9 + 5 * i + 1):=by obtain ⟨G,b1,c1,e1,z1⟩:=D6;exact ⟨G,b1,c1,k7 _ _ (by simp [W3 nd.1]) e1,z1⟩
    have s7:Same H H7:=z1e s6 k7 λ c B=>by rw [List.mem_singleton.mp B];exact fu
    have i7:f≠C:=λ z=>by obtain ⟨_,_,_,_,_,_,e,_⟩:=f8;obtain ⟨G,b1,c1,e1,_⟩:=D7;rw [z,e1] at e;cases e
    obtain ⟨nm,vb,x,a,k,d,eo,hm,b7,ix,wi,an⟩:=id f8;refine zde (λ σ1 M=>∃ps' a' xs,KeptL [f] H7 M/\OwnAt (kx w) M S f/\M f=some (.lst (xs++[a']))/\xs.length=3/\AnsI a'/\StsT (kx w) M ps' S (i + 1)/\σ1=[some (.ref sc),some (.int 4),some (.int (i0 % 2)),some (.ref C),some (.ref pt),some (.ref D),some (.int c7),some (.ref ps'),some (.ref l),some (.ref u),some (.int (i:Int)),some (.int b),some (.ref f),x13,x14,x15,x16,x17]) ?_ (λ tl=>?_);rotate_left
    ·refine ⟨_,rfl,.inl ⟨f,_,3,a,rfl,rfl,SqL.of eo,z06 (j:=3) rfl,rfl,_,rfl,?_⟩⟩;by_cases za:a=.non
     ·refine iteP (decide_eq_true za) ?_;obtain ⟨u8,w8⟩:=J7.st;refine ⟨_,rfl,_,rfl,_,rfl,pt,U,f,S,i,u8,nm,vb,x,a,k,d,rfl,J7.th,ok.thw,w8,by omega,eo,hm,b7,ix,wi,ze1 (by omega) eo hm b7 ix wi ?_⟩;rintro p' M k8 j3 ⟨a',xs,e8,l8,ai⟩ e3;exact tl _ _ ⟨p',a',xs,k8,j3,e8,l8,ai,e3,rfl⟩
     ·exact iteN (by rw [decide_eq_false za];decide) (tl _ _ ⟨U,a,[.str nm,.str vb,x],KeptL.refl,f8,eo,rfl,an.resolve_left za,J7.st.le (F3 _),rfl⟩)
    rintro σ8 M ⟨ps',a',xs8,k8,j3,e8,l8,ai,e3,rfl⟩;have T8:Tt (kx w) H7 M:=KeptL.tt k8 λ c B=>by rw [List.mem_singleton.mp B];exact f8.mutAt
    have J8:TaJ (kx w) M H pt U u l D S hs i ((es.foldl oStep []).filter λ k=>decide (k≠b)) es:=J7.tt T8 [f] k8 ⟨by simp [W3 (d5 ow)],by simp [W3 g5],by simp [W3 h4]⟩ λ p hp _=>by rw [List.mem_singleton.mp hp];exact j3
    have D8:DeckAt M C (9 + 5 * i + 1):=by obtain ⟨G,b1,c1,e1,z1⟩:=D7;exact ⟨G,b1,c1,k8 _ _ (by simp [W3 i7]) e1,z1⟩
    have s8:Same H M:=z1e s7 k8 λ c B=>by rw [List.mem_singleton.mp B];exact f7
    refine z0k ?_;refine ⟨_,rfl,.inl ⟨f,_,3,a',rfl,rfl,SqL.of e8,z06 (j:=3) (by rw [W1 (by omega),l8];rfl),?_⟩⟩;refine g_name ?_;refine zde (λ σ1 H9=>∃a9 n9,Dw C n9 M H9/\AnsI a9/\σ1=[some (.ref sc),some (.int 4),some (.int (i0 % 2)),some (.ref C),some (.ref pt),some (.ref D),some (.int c7),some (.ref ps'),some (.ref l),some (.ref u),some (.int (i:Int)),some (.int b),some (.ref f),some a9,x14,x15,x16,x17]) ?_ (λ j8=>?_);rotate_left
    ·obtain ⟨T0,tg,nt⟩ :∃T0,TagOf M a' T0/\instB T0 "tuple" = false:=by
      rcases ai with ⟨i9,rfl⟩|rfl|rfl
      ·exact ⟨"int",rfl,by decide⟩
      ·exact ⟨"str",rfl,by decide⟩
      ·exact ⟨"str",rfl,by decide⟩
     refine ⟨_,rfl,_,_,T0,rfl,tg,by decide,_,rfl,?_⟩;rw [nt];refine iteF ?_;refine ⟨_,rfl,_,rfl,C,c7,_,rfl,D8,by omega,w1,by omega,λ t9 H9 w9 _ _=>⟨rfl,_,rfl,ite2 (λ _=>?_) λ _=>j8 _ _ ⟨a',_,w9,ai,rfl⟩⟩⟩;refine ⟨_,_,rfl,rfl,p9,_,rfl,w_7,λ l9 j6=>?_⟩;refine ⟨_,rfl,C,7,_,rfl,w9.r.same (Same.upd j6),by omega,by decide,by decide,λ v5 a6 e5 h0 h1=>?_⟩;obtain ⟨a0,q0,h9⟩:=atI_of (xs:=[V.str "ok",.str "none",.int 0,.int 1,.int 2,.int (10 ^ (9:Int).toNat),.int (-1)]) h0 h1;refine .inl ⟨l9,_,v5,a0,rfl,rfl,SqL.of (e5.k _ _ (w9.r.fresh j6) upd_same),q0,j8 _ _ ⟨a0,_,(w9.same (Same.upd j6)).trans e5,?_,rfl⟩⟩;simp only [B1,j0,or_false] at h9;rcases h9 with rfl|rfl|rfl|rfl|rfl|rfl|rfl
     ·exact .inr (.inl rfl)
     ·exact .inr (.inr rfl)
     ·exact .inl ⟨_,rfl⟩
     ·exact .inl ⟨_,rfl⟩
     ·exact .inl ⟨_,rfl⟩
     ·exact .inl ⟨_,rfl⟩
     ·exact .inl ⟨_,rfl⟩
    rintro σ9 H9 ⟨a9,n9,w9,ai9,rfl⟩;have J9:=J8.dw D8 w9 nd;have f9:=e3.tups (w9.tt D8).t;have s9:=g4 s8 w9;obtain ⟨W,d7,k9⟩:=J9.ev;have i5:W.length<=20:=by rw [z03 k9];have:=J9.ln;omega
    refine ⟨_,rfl,.inl ⟨rfl,_,SqL.of d7⟩,_,rfl,_,rfl,w_3,λ a5 u4=>?_⟩;have a4:=Same.upd (o:=.tup [.str "end",.int b,a9]) u4;have g0:upd H9 a5 (.tup [.str "end",.int b,a9]) a5=some (.tup [.str "end",.int b,a9]):=upd_same;have F:=J9.same a4;have k3:=f9.tups (.of a4);generalize upd H9 a5 (.tup [.str "end",.int b,a9])=a6 at a4 g0 F k3⊢;have f4:=a4 _ _ d7;have f6:=z01 (λ _ _ z=>EvQ.tt (.of a4) z) k9;refine ⟨l,W,_,rfl,rfl,f4,A1 i5 (by decide),?_⟩;have d3:KeptL [l] a6 (upd a6 l (.lst (W++[.ref a5]))):=KeptL.set (by simp);have d2:Tt (kx w) a6 (upd a6 l (.lst (W++[.ref a5]))):=KeptL.tt d3 λ c B=>by rw [List.mem_singleton.mp B];exact .inl ⟨_,f4⟩
    have e2:upd a6 l (.lst (W++[.ref a5])) l=some (.lst (W++[.ref a5])):=upd_same;generalize upd a6 l (.lst (W++[.ref a5]))=b3 at d3 d2 e2⊢;obtain ⟨b8,g2,m6,g9,h5⟩:=F.uw;have g3:D≠l:=λ z=>k0 z.symm;have h6:u≠l:=λ z=>d6 z.symm;refine ⟨ps',es++[.fin b a9],⟨F.th.tt d2,k3.tups d2.t,⟨b8,d3 _ _ (by simp [h6]) g2,A5 m6,by rw [j01];exact g9,λ k v e=>?_⟩,⟨_,e2,?_⟩,d3 _ _ (by simp [g3]) F.hn,?_,EWf.snoc (e:=.fin b a9) F.wf u6,A0 (i6 zn9) F.cn,zht (e:=.fin b a9) F.hb j7⟩,z1e (s9.trans a4) d3 (λ c B=>by rw [List.mem_singleton.mp B];exact fl),_,_,_,_,_,_,_,_,_,rfl⟩
    ·obtain ⟨p,h1,h2,h3⟩:=h5 k v e;exact ⟨p,h1,h2.tt d2 λ o e=>d3 _ _ (by simp [h3.1]) e,h3⟩
    ·refine z1d (z01 (λ _ _ z=>EvQ.tt d2 z) f6) ?_;have se:=d2.l _ _ g0;refine ⟨⟨a5,rfl,SqT.of se⟩,⟨a5,_,rfl,SqT.of se⟩,?_⟩;rcases ai9 with ⟨i9,rfl⟩|rfl|rfl
     ·exact .inl ⟨_,rfl⟩
     ·exact .inr ⟨_,rfl⟩
     ·exact .inr ⟨_,rfl⟩
    ·rw [D0];exact C6 F.ln
   | none=>
    refine iteN (by decide) ?_;obtain ⟨ys,c9,f0⟩:=Y.ev;have d6:l≠u:=λ z=>by rw [z,b5] at c9;cases c9
    have u1:ys.length<=20:=by rw [z03 f0];have:=Y.ln;omega
    refine z3z (zln ?_);refine ze9 (α:=Ev×V) (K:=KX w.params) (l:=l) (rs:=es.zip ys) (xs:=ys) (RA:=λ H a v=>a.2=v/\EvQ (kx w) S H a.1 v) (.fin 0 .non,.non) (λ a=>decide (V.str (wordE a.1)=V.str "begin")) (λ a=>a.2) (λ R h=>⟨_,rfl,h⟩) (SqL.of c9) (λ H H' a v s z=>⟨z.1,z.2.tt (.of s)⟩) (zg1 f0) ?_ ?_ ?_
    ·exact A0 (by rw [List.length_zip];exact Nat.min_le_right _ _) (A0 u1 (by decide))
    ·rintro ⟨z,v⟩ _ v' H7 s7 ⟨rfl,⟨_,⟨p,r,rfl,sqp⟩,_⟩⟩ KT KF h1 h2;refine ⟨[some (.ref p)],rfl,rfl,?_⟩;refine ⟨_,rfl,.inr (.inl ⟨p,_,0,.str (wordE z),rfl,rfl,sqp,z06 (j:=0) rfl,rfl,_,rfl,?_⟩)⟩;by_cases y:decide (V.str (wordE z)=V.str "begin")=true
     ·exact iteP y ⟨_,rfl,h1 y _ (Same.refl _)⟩
     ·exact iteN y (h2 (by simpa using y) _ (Same.refl _))
    intro l7 H7 q7 r7;have q8:=Same.upd (o:=.lst (((es.zip ys).filter λ a=>decide (V.str (wordE a.1)=V.str "begin")).map λ a=>a.2)) r7;refine .inl ⟨l7,_,rfl,.inl (SqL.of upd_same),_,rfl,_,_,rfl,rfl,_,rfl,?_⟩;have J8:=Y.same (q7.trans q8);have D8:=D6.same (q7.trans q8);have s8:=s6.trans (q7.trans q8);generalize upd H7 l7 (.lst (((es.zip ys).filter λ a=>decide (V.str (wordE a.1)=V.str "begin")).map λ a=>a.2))=M at J8 D8 s8⊢;refine ite2 (λ g1=>?_) λ _=>⟨U,es,J8.le,s8,_,_,_,_,_,_,_,_,_,rfl⟩
    have u0:bgN es + 1<=4:=by have g1:=of_decide_eq_true g1;have hz:((es.zip ys).filter λ a=>decide (V.str (wordE a.1)=V.str "begin")).length=bgN es:=zkp (p:=isBg) (z03 f0).symm;rw [o0,hz] at g1;exact Int.ofNat_lt.mp g1
    obtain ⟨yt,k2,m3⟩:=J8.th;have y2:yt.length=S.length:=z03 m3;have x7:=ok.n0;have y3:=ok.n6;refine ⟨_,rfl,_,rfl,_,rfl,.inl ⟨pt,yt,rfl,.inr (SqT.of k2),C,_,_,rfl,D8,by omega,by omega,by omega,λ t9 H9 w9 o7 o1=>?_⟩⟩;obtain ⟨v9,u7,o6⟩:=atI_of (xs:=yt) o7 o1;obtain ⟨j,hj⟩:=List.mem_iff_getElem?.mp o6;obtain ⟨t,ht,b9,rfl,e9⟩:=z0f m3 hj;have j1:=G0 ht;have T9:Tt (kx w) M H9:=w9.tt D8;refine .inr (.inl ⟨pt,yt,t9,_,rfl,rfl,SqT.of (T9.l _ _ k2),u7,b9,_,rfl,SqT.of (T9.l _ _ e9),rfl,_,_,rfl,_,_,rfl,rfl,?_⟩);refine ⟨_,rfl,_,rfl,C,t.2,_,rfl,w9.r,by omega,ok.ks t j1,λ a5 a0 X k6 a6 p3 e5 h9 g0 _ b7 ix wi=>⟨a5,_,rfl,SqT.of g0,rfl,_,_,rfl,_,_,rfl,rfl,?_⟩⟩;have n4:=w9.trans e5;have F:=J8.dw D8 n4 nd;have o5:=e5.r;have e4:=g4 s8 n4;obtain ⟨W,f4,f6⟩:=F.ev;have i5:W.length<=20:=by rw [z03 f6];have:=F.ln;omega
    refine ⟨_,rfl,.inl ⟨rfl,_,SqL.of f4⟩,_,rfl,_,rfl,_,rfl,_,rfl,w_5,λ c8 t8=>?_⟩;obtain ⟨b3,v_,d0,t3⟩:=newA (.tup [.str "begin",.int b,.str t.1,.str a0,X]) t8;rw [<-v_];have e2:=d0 _ _ f4;refine ⟨l,W,_,rfl,rfl,e2,A1 i5 (by decide),?_⟩;have d4:KeptL [l] b3 (upd b3 l (.lst (W++[.ref c8]))):=KeptL.set (by simp);have l1:Tt (kx w) b3 (upd b3 l (.lst (W++[.ref c8]))):=KeptL.tt d4 λ c B=>by rw [List.mem_singleton.mp B];exact .inl ⟨_,e2⟩
    have i8:upd b3 l (.lst (W++[.ref c8])) l=some (.lst (W++[.ref c8])):=upd_same;generalize upd b3 l (.lst (W++[.ref c8]))=H12 at d4 l1 i8⊢;obtain ⟨b8,g2,m6,g9,h5⟩:=F.uw;have g3:D≠l:=λ z=>k0 z.symm;have h6:u≠l:=λ z=>d6 z.symm;have m4:Same H H12:=z1e (e4.trans d0) d4 λ c B=>by rw [List.mem_singleton.mp B];exact fl
    have k5:=d4 _ _ (show u∉[l] by simp [h6]) (d0 _ _ g2);have x0:=d4 _ _ (show D∉[l] by simp [g3]) (d0 _ _ F.hn);refine ⟨_,rfl,_,rfl,_,rfl,w_4,λ f b4=>?_⟩;have d1:=Same.upd (o:=.lst [.str t.1,.str a0,X,.non]) b4;have k4:upd H12 f (.lst [.str t.1,.str a0,X,.non]) f=some (.lst [.str t.1,.str a0,X,.non]):=upd_same;have g5:f≠l:=λ z=>by rw [z,i8] at b4;cases b4
    have h4:f≠D:=λ z=>by rw [z,x0] at b4;cases b4
    have d5:f≠u:=λ z=>by rw [z,k5] at b4;cases b4
    have f7:H f=none:=m4.free b4;generalize upd H12 f (.lst [.str t.1,.str a0,X,.non])=H13 at d1 k4⊢;have m0:=d1 _ _ k5;refine ⟨_,rfl,_,rfl,u,_,rfl,DPut.k (k:=.inl b) m0 (A1 (m:=100) (by omega) (by decide)),?_⟩;have d8:KeptL [u] H13 (upd H13 u (.dK (putK b8 (.inl b) (.ref f)))):=KeptL.set (by simp);have l5:Tt (kx w) H13 (upd H13 u (.dK (putK b8 (.inl b) (.ref f)))):=KeptL.tt d8 λ c B=>by rw [List.mem_singleton.mp B];exact .inr ⟨_,m0⟩
    have j5:upd H13 u (.dK (putK b8 (.inl b) (.ref f))) u=some (.dK (putK b8 (.inl b) (.ref f))):=upd_same;generalize upd H13 u (.dK (putK b8 (.inl b) (.ref f)))=H14 at d8 l5 j5⊢;have n5:Tt (kx w) b3 H14:=(l1.trans (.of d1)).trans l5;have T:Tt (kx w) a6 H14:=Tt.trans (.of d0) n5;have kk:KeptL [l,u] a6 H14:=λ c o n e=>by simp only [B1,j0,or_false,not_or] at n;exact d8 _ _ (by simp [n]) (d1 _ _ (d4 _ _ (by simp [n]) (d0 _ _ e)))
    have p5:Same H H14:=z1e (m4.trans d1) d8 λ c B=>by rw [List.mem_singleton.mp B];exact fu
    have l2:=d8 _ _ (show f∉[u] by simp [d5]) k4;have m2:OwnAt (kx w) H14 S f:=⟨t.1,a0,X,.non,t.2,k6,l2,j1,b7,IsDt.mono' T.t _ _ ix,wi.tt T,.inl rfl⟩
    have m7:(Sum.inl b:Key)∉b0.map (·.1):=λ z=>by have:=valV_isSomeK.mpr z;rw [hv] at this;cases this
    have p2:b∉es.foldl oStep []:=λ z=>m7 (by rw [g6];exact List.mem_map.mpr ⟨b,z,rfl⟩);have v3:TaJ (kx w) H14 H pt U u l D S hs (i + 1) ((es++[Ev.beg b (.str t.1) (.str a0) X]).foldl oStep []) (es++[.beg b (.str t.1) (.str a0) X]):=by
     refine ⟨F.th.tt T,(F.st.tups T.t).le (F3 _),⟨_,j5,A0 (z99 _ _ _) (by omega),?_,λ k v e=>?_⟩,⟨_,d8 _ _ (show l∉[u] by simp [d6]) (d1 _ _ i8),?_⟩,kk _ _ (by simp [g3,i4]) F.hn,?_,EWf.snoc (e:=.beg b (.str t.1) (.str a0) X) F.wf p2,A0 (i6 zmq) u0,zht (e:=.beg b (.str t.1) (.str a0) X) F.hb j7⟩
     ·have x1:(Sum.inl b:Key)∉b8.map (·.1):=by rw [g9,<-g6];exact m7
      rw [j01,zgp x1,E1,g9];show _=((es.foldl oStep [])++[b]).map Sum.inl;rw [E1];rfl
     ·rw [z32] at e;by_cases z:k=.inl b
      ·rw [if_pos z] at e;cases e;exact ⟨f,rfl,m2,g5,h4,f7⟩
      ·rw [if_neg z] at e;obtain ⟨p,h1,h2,h3⟩:=h5 k v e;refine ⟨p,h1,h2.tt T λ o e=>kk _ _ ?_ e,h3⟩;have:p≠u:=λ y=>by obtain ⟨_,_,_,_,_,_,e,_⟩:=h2;rw [y,g2] at e;cases e
       simp [h3.1,this]
     ·refine z1d (z01 (λ _ _ z=>EvQ.tt T z) f6) ?_;have se:=n5.l _ _ t3;exact ⟨⟨c8,rfl,SqT.of se⟩,⟨c8,_,rfl,SqT.of se⟩,⟨t.1,t.2,a0,k6,rfl,rfl,j1,b7,IsDt.mono' T.t _ _ ix,wi.tt T⟩⟩
     ·rw [D0];exact C6 F.ln
    have f5:DeckAt H14 C p3:=by obtain ⟨G,b1,c1,e1,z1⟩:=o5;exact ⟨G,b1,c1,kk _ _ (by simp [W3 nd.1,W3 nd.2.1]) e1,z1⟩
    have i7:f≠C:=λ z=>by obtain ⟨G,b1,c1,e1,_⟩:=f5;rw [<-z,l2] at e1;cases e1
    refine ⟨_,rfl,C,2,_,rfl,f5,by omega,by decide,by decide,λ y4 h8 d9 _ _=>⟨rfl,_,rfl,?_⟩⟩;have j4:=v3.dw f5 d9 nd;have m1:=g4 p5 d9;have v8:=d9.k _ _ nd.1 j5;have n7:OwnAt (kx w) h8 S f:=m2.tt (d9.tt f5) λ o e=>d9.k _ _ i7 e;refine ite2 (λ _=>?_) λ _=>⟨U,_,j4,m1,_,_,_,_,_,_,_,_,_,rfl⟩
    have r4:DGet h8 u (.int b) (some (.ref f)):=by have:=DGet.k (k:=.inl b) v8;rw [z32,if_pos rfl] at this;exact this
    obtain ⟨nm,vb,x,a,k,d,eo,hm,b7,ix,wi,an⟩:=id n7;obtain ⟨p6,u3⟩:=F.st.tups (T.trans (d9.tt f5)).t;refine ⟨_,rfl,_,rfl,_,rfl,_,rfl,u,.ref f,rfl,r4,pt,U,f,S,i,p6,nm,vb,x,a,k,d,rfl,j4.th,ok.thw,u3,by omega,eo,hm,b7,ix,wi,ze1 (by omega) eo hm b7 ix wi ?_⟩;rintro p' r9 i2 p8 _ o8;have t2:Tt (kx w) h8 r9:=KeptL.tt i2 λ c B=>by rw [List.mem_singleton.mp B];exact n7.mutAt
    have b6:=j4.tt t2 [f] i2 ⟨by simp [W3 d5],by simp [W3 g5],by simp [W3 h4]⟩ λ p hp _=>by rw [List.mem_singleton.mp hp];exact p8
    exact ⟨p',_,⟨b6.th,o8,b6.uw,b6.ev,b6.hn,b6.ln,b6.wf,b6.cn,b6.hb⟩,z1e m1 i2 (λ c B=>by rw [List.mem_singleton.mp B];exact f7),_,_,_,_,_,_,_,_,_,rfl⟩
  ·rintro σ H3 ⟨U,es,J,s3,x3,X,x11,x12,x13,x14,x15,x16,x17,rfl⟩;obtain ⟨ys,o2,t1⟩:=J.ev;refine ⟨_,rfl,_,rfl,l,ys,rfl,.inl ⟨SqL.of o2,λ te w3=>⟨w_2,λ t ht=>?_⟩⟩⟩;have sE:=Same.upd (o:=.tup ys) w3;have sF:=sE.trans (Same.upd (o:=.tup [.ref pt,.ref te]) ht);exact q t pt te ys es S _ (s3.trans sF) upd_same ((Same.upd ht) _ _ upd_same) (J.th.tt (.of (K:=KX w.params) sF)) ok v0 (z01 (λ _ _ z=>EvQ.tt (.of sF) z) t1) (A0 J.ln tn) J.wf J.cn (λ e he=>k1 _ (J.hb e he))
def svD:Sv->PyData
 | .num i=>.int i
 | .row ns=>.tuple (ns.map PyData.int)
def plD (pl:Pl):PyData:=.tuple [.tuple (pl.1.map λ (n:Nat)=>.int (n:Int)),.tuple (pl.2.map svD)]
theorem zh9 {K:b0} {H:Hp} :∀ns:List Int,IsPds K H (ns.map PyData.int) (ns.map V.int)
 | []=>rfl
 | n :: ns=>⟨_,_,rfl,rfl,zh9 ns⟩
theorem zko {K:b0} {H:Hp} :∀ns:List Nat,IsPds K H (ns.map λ (n:Nat)=>.int (n:Int)) (nsV ns)
 | []=>rfl
 | n :: ns=>⟨_,_,rfl,rfl,zko ns⟩
theorem stz_pd {K:b0} {H:Hp} :∀{s:Sv} {v:V},StZ K H s v->IsPd K H (svD s) v
 | .num _,_,h=>h
 | .row ns,_,h=>h.elim λ p z=>⟨p,_,z.1,z.2,zh9 ns⟩
theorem zmk {K:b0} {H:Hp} {ss:List Sv} {vs:List V} (h:All2 (StZ K H) ss vs):IsPds K H (ss.map svD) vs:=by
 induction h with
 | nil=>exact (rfl:([]:List V)=[])
 | cons a r ih=>exact ⟨_,_,rfl,stz_pd a,ih⟩
theorem plz_pd {K:b0} {H:Hp} {p:Addr} {pl:Pl} (h:PlZ K H p pl):IsPd K H (plD pl) (.ref p):=by obtain ⟨f,e,g,c,b,d,a⟩:=h;exact ⟨p,_,rfl,c,_,_,rfl,⟨f,_,rfl,b,zko _⟩,_,_,rfl,⟨e,_,rfl,d,zmk a⟩,rfl⟩
theorem z3o {α:Type} {f:α->PyData} :∀{xs:List α},(∀x∈xs,plainP (f x)=true)->z15 (xs.map f)=true
 | [],_=>rfl
 | x :: xs,h=>by show (plainP (f x) && z15 (xs.map f))=true;rw [h x L0,z3o λ y a=>h y (V0 _ a)];rfl
theorem z4u {α:Type} {f:α->PyData} {n:Nat} :∀{xs:List α},(∀x∈xs,(f x).depth<=n)->O1 (xs.map f)<=n
 | [],_=>Q1 _
 | x :: xs,h=>by have c:=h x L0;have b:=z4u (f:=f) (n:=n) (xs:=xs) λ y a=>h y (V0 _ a);show max (f x).depth (O1 (xs.map f))<=n;omega
theorem zgb (s:Sv):plainP (svD s)=true/\(svD s).depth<=1:=by
 cases s with
 | num i=>exact ⟨rfl,Q1 _⟩
 | row ns=>exact ⟨z3o λ _ _=>rfl,by have:=z4u (f:=PyData.int) (n:=0) (xs:=ns) (λ _ _=>t0 _);simp only [svD,j2a];omega⟩
theorem zlv (pl:Pl):plainP (plD pl)=true/\(plD pl).depth<=3:=by
 have b:z15 (pl.1.map λ (n:Nat)=>PyData.int (n:Int))=true:=z3o λ _ _=>rfl;have a:z15 (pl.2.map svD)=true:=z3o λ s _=>(zgb s).1;have d:=z4u (f:=λ (n:Nat)=>PyData.int (n:Int)) (n:=0) (xs:=pl.1) (λ _ _=>t0 _);have c:=z4u (f:=svD) (n:=1) (xs:=pl.2) (λ s _=>(zgb s).2);refine ⟨?_,?_⟩
 ·show (z15 _ && (z15 _ && true))=true;rw [b,a];rfl
 ·unfold plD;simp only [j2a,O1];omega
theorem zd9 {K:b0} {H:Hp} {c:Nat->Bool} {ts:zT} {rs:List Rc} {ps:List DD} {pl:Pl} {k N i:Nat} (gd:All2 (RcGd K H ts) rs ps) (ok:ThW ts) (po:PlOk ts N k pl) (rl:N<=63) (hN:N=rs.length) (hc :∀n,c n=true->n∉pl.1) (hi:i<=N) :∀s∈nexT c ts rs ps pl i,AnsV s.2.1/\∃n r p sv,n < N/\c n=true/\rs[n]? = some r/\ps[n]? = some p/\pl.2[ixT ts p.nm]? = some sv/\SvOk k p.k sv/\s=stq ts p n pl sv:=by
 intro s b;unfold nexT at b;obtain ⟨n,l,e⟩:=List.mem_filterMap.mp b;have l:=List.mem_range.mp l;unfold nexAt at e;cases h:c n with
 | false=>rw [h] at e;cases e
 | true=>
  have d:rs[n]? = some rs[n]:=B0 (by omega);obtain ⟨p,f,g⟩:=z0u gd d;rw [if_pos h,d,f] at e;generalize rs[n]=r at d g e;have o:=ixT_of ok g.2.2.1;obtain ⟨sv,b,m⟩:=z0u po.so o;have e:stp ts r p n pl=some s:=e;rw [stp_of b] at e;cases hb:r.e.isNone || decide ((dz p.k p.vb p.dt sv).2=r.a) with
  | false=>rw [hb] at e;cases e
  | true=>rw [hb] at e;have e:stq ts p n pl sv=s:=P1 e;have q:=dz_ok g.2.2.2.1 m (po.n63 rl (j:=n) (by omega) (hc n h)).1;rw [<-e];exact ⟨q.2,n,r,p,sv,by omega,h,d,f,b,m,rfl⟩
theorem cP_no {m:Nat} {rs:List Rc} {ns:List Nat} {n:Nat} (h:cP m rs ns n=true):n∉ns:=of_decide_eq_true (Bool.and_eq_true_iff.mp (Bool.and_eq_true_iff.mp h).1).1
theorem new1 {H:Hp} {p:Addr} (o:HO) (h:H p=none) :∃H',H'=upd H p o/\Same H H'/\H' p=some o:=⟨_,rfl,Same.upd h,upd_same⟩
theorem zao {K:b0} {H:Hp} {m:Nat} {ts:zT} {rs:List Rc} {ps:List DD} {pl:Pl} (gd:All2 (RcGd K H ts) rs ps) (ok:ThW ts) (po:PlOk ts rs.length pl.1.length pl) (rl:rs.length<=63) :∀s∈nexT (cP m rs pl.1) ts rs ps pl rs.length,PlOk ts rs.length s.2.2.1.length s.2.2/\s.2.2.1.length=pl.1.length + 1:=by
 intro s A;obtain ⟨_,n,r,p,L,l,F,M,w,G,C,rfl⟩:=zd9 (c:=cP m rs pl.1) gd ok po rl rfl (λ n h=>cP_no h) (t0 _) s A;have v:=cP_no F;have f:=z9i (pl.1++[n]);have q:(srtN (pl.1++[n])).length=pl.1.length + 1:=by rw [f.length_eq,D0];rfl
 obtain ⟨O,o,g⟩:=z0u gd M;rw [w] at o;cases o;have N:=dz_ok g.2.2.2.1 C (po.n63 rl l v).1;show PlOk ts rs.length (srtN (pl.1++[n])).length (srtN (pl.1++[n]),pl.2.set (ixT ts p.nm) (dz p.k p.vb p.dt L).1)/\(srtN (pl.1++[n])).length=pl.1.length + 1;refine ⟨⟨?_,λ x E=>?_,?_,.inr (t0 _)⟩,q⟩
 ·refine f.nodup_iff.mpr ?_;rw [E3];exact ⟨po.nd,by simp,λ a J b I e=>v (by rw [<-List.mem_singleton.mp I,<-e];exact J)⟩
 ·rcases List.mem_append.mp (f.mem_iff.mp E) with z|z
  ·exact po.lt x z
  ·rw [List.mem_singleton.mp z];exact l
 ·rw [q];have B:pl.2.length=ts.length:=z03 po.so;refine z27 (by rw [j0h,B]) λ i t Q j d=>?_;rw [List.getElem?_set] at d;by_cases z:ixT ts p.nm=i
  ·subst z;have y:=ixT_of ok g.2.2.1;rw [y] at j;cases j;rw [if_pos rfl,if_pos (List.getElem?_eq_some_iff.mp G).1] at d;cases d;exact N.1
  ·rw [if_neg z] at d;obtain ⟨P,u,D⟩:=z0f po.so d;rw [j] at u;cases u;exact D.le (F3 _)
theorem zic {c:Nat->Bool} {ts:zT} {rs:List Rc} {ps:List DD} {pl:Pl} {i:Nat} {s:Stp} (h:nexAt c ts rs ps pl i=some s):s.1=i/\c i=true:=by
 unfold nexAt at h;cases e:c i with
 | false=>rw [e] at h;cases h
 | true=>
  rw [if_pos e] at h;refine ⟨?_,rfl⟩;cases hr:rs[i]? with
  | none=>rw [hr] at h;cases h
  | some r=>
   cases hp:ps[i]? with
   | none=>rw [hr,hp] at h;cases h
   | some p=>
    rw [hr,hp] at h;have h:stp ts r p i pl=some s:=h;unfold stp at h;cases hs:pl.2[ixT ts p.nm]? with
    | none=>rw [hs] at h;cases h
    | some sv=>
     rw [hs] at h;dsimp only at h;split at h
     ·cases h;rfl
     ·cases h
theorem zj8 {m:Nat} {ts:zT} {rs:List Rc} {ps:List DD} {pl:Pl} (nd:pl.1.Nodup) (lt :∀x∈pl.1,x < rs.length):pl.1.length + (nexT (cP m rs pl.1) ts rs ps pl rs.length).length<=rs.length:=by
 have k :∀i,(((nexT (cP m rs pl.1) ts rs ps pl i).map (·.1)).Nodup/\∀x∈(nexT (cP m rs pl.1) ts rs ps pl i).map (·.1),x < i/\x∉pl.1):=λ i=>by
  induction i with
  | zero=>exact ⟨.nil,λ x c=>absurd c j0⟩
  | succ i ih=>
   rw [z4p,E1];cases h:nexAt (cP m rs pl.1) ts rs ps pl i with
   | none=>rw [m9,L4,N2];exact ⟨ih.1,λ x c=>⟨j2 (ih.2 x c).1,(ih.2 x c).2⟩⟩
   | some s=>
    obtain ⟨e,l⟩:=zic h;rw [Option.toList_some,X0,L4,e];refine ⟨?_,λ x c=>?_⟩
    ·rw [E3];refine ⟨ih.1,by simp,λ a f b d z=>?_⟩;have:=(ih.2 a f).1;rw [List.mem_singleton.mp d] at z;omega
    ·rcases List.mem_append.mp c with z|z
     ·exact ⟨j2 (ih.2 x z).1,(ih.2 x z).2⟩
     ·rw [List.mem_singleton.mp z];exact ⟨O2 i,cP_no l⟩
 obtain ⟨j,g⟩:=k rs.length;have:=z4w rs.length (pl.1++(nexT (cP m rs pl.1) ts rs ps pl rs.length).map (·.1)) (by
  rw [E3];exact ⟨nd,j,λ a f b d e=>(g b d).2 (e ▸ f)⟩) λ x c=>by
   rcases List.mem_append.mp c with z|z
   ·exact lt x z
   ·exact (g x z).1
 rwa [D0,o0] at this
theorem z67 {α:Type} {f:α->PyData} :∀{xs:List α},(∀x∈xs,keyD (f x)=true)->keyDs (xs.map f)=true
 | [],_=>rfl
 | x :: xs,h=>by show (keyD (f x) && keyDs (xs.map f))=true;rw [h x L0,z67 λ y a=>h y (V0 _ a)];rfl
theorem sv_key (s:Sv):keyD (svD s)=true:=by
 cases s with
 | num i=>rfl
 | row ns=>exact z67 λ _ _=>rfl
theorem pl_key (pl:Pl):keyD (plD pl)=true:=by have a:keyDs (pl.1.map λ (n:Nat)=>PyData.int (n:Int))=true:=z67 λ _ _=>rfl;have b:keyDs (pl.2.map svD)=true:=z67 λ s _=>sv_key s;show (keyDs _ && (keyDs _ && true))=true;rw [a,b];rfl
theorem pl_dep (pl:Pl):(plD pl).depth<=7:=A0 (zlv pl).2 (by decide)
theorem z8g :∀{xs ys:List PyData},(∀(i:Nat) x y,xs[i]? = some x->ys[i]? = some y->(ltD x y).isSome=true)->(ltDs xs ys).isSome=true
 | [],_,_=>by unfold ltDs;rfl
 | _ :: _,[],_=>by unfold ltDs;rfl
 | x :: xs,y :: ys,h=>by
  unfold ltDs;dsimp only;split
  ·exact z8g λ i a b c d=>h (i + 1) a b c d
  ·exact h 0 x y rfl rfl
theorem zkq (xs ys:List Int):(ltD (.tuple (xs.map PyData.int)) (.tuple (ys.map PyData.int))).isSome=true:=by unfold ltD;refine z8g λ i x y d c=>?_;rw [O0] at d c;obtain ⟨a,_,rfl⟩:=Option.map_eq_some_iff.mp d;obtain ⟨b,_,rfl⟩:=Option.map_eq_some_iff.mp c;unfold ltD;rfl
theorem lt_sv {k:Str} {n n':Nat} {s s':Sv} (h:SvOk n k s) (h':SvOk n' k s'):(ltD (svD s) (svD s')).isSome=true:=by
 cases s with
 | num i=>
  cases s' with
  | num j=>show (ltD (.int i) (.int j)).isSome=true;unfold ltD;rfl
  | row ns=>exact absurd h'.1 h.1
 | row ns=>
  cases s' with
  | num j=>exact absurd h.1 h'.1
  | row ms=>exact zkq ns ms
theorem lt_pl {ts:zT} {N n n':Nat} {pl pl':Pl} (h:PlOk ts N n pl) (h':PlOk ts N n' pl'):(ltD (plD pl) (plD pl')).isSome=true:=by
 unfold plD ltD;refine z8g λ i x y c d=>?_
 match i,c,d with
 | 0,c,d=>
  cases c;cases d;have e :∀f:List Nat,(f.map λ (n:Nat)=>PyData.int (n:Int))=(f.map λ (n:Nat)=>(n:Int)).map PyData.int:=λ f=>by rw [S2];rfl
  rw [e,e];exact zkq _ _
 | 1,c,d=>cases c;cases d;unfold ltD;refine z8g λ i x y c d=>?_;rw [O0] at c d;obtain ⟨a,o,rfl⟩:=Option.map_eq_some_iff.mp c;obtain ⟨b,l,rfl⟩:=Option.map_eq_some_iff.mp d;obtain ⟨t,k,g⟩:=z0f h.so o;obtain ⟨p,j,m⟩:=z0f h'.so l;rw [k] at j;cases j;exact lt_sv g m
 | i + 2,c,d=>cases c
theorem pl_tup (pl:Pl) :∃xs ys,plD pl=.tuple (.tuple xs :: ys):=⟨_,_,rfl⟩
theorem z9m (ts:zT) (N:Nat):PlOk ts N 0 ([],ts.map λ t=>zeroK t.2):=⟨.nil,λ _ h=>absurd h j0,by refine z27 (by rw [o0]) λ i t s b a=>?_;rw [O0,b] at a;cases a;exact zha _,.inl (Q1 _)⟩
def wkN:Nat->Nat
 | 0=>1
 | n + 1=>1 + (n + 1) * (wkN n + 1)
def wkP (N:Nat) (ws:List Pl):Nat:=(ws.map λ pl=>wkN (N - pl.1.length)).sum
theorem zgo {N:Nat} {xs ys:List Pl}:wkP N (xs++ys)=wkP N xs + wkP N ys:=by unfold wkP;rw [E1,List.sum_append]
theorem zd1 {N:Nat} {x:Pl}:wkP N [x]=wkN (N - x.1.length):=by unfold wkP;simp
theorem zm5 :∀{a b:Sv},svD a=svD b->a=b
 | .num i,.num j,h=>by injection h with h;rw [h]
 | .num _,.row _,h=>by cases h
 | .row _,.num _,h=>by cases h
 | .row xs,.row c,h=>by
  injection h with h;have:xs=c:=by
   have inj :∀{xs c:List Int},xs.map PyData.int=c.map PyData.int->xs=c:=λ {xs}=>by
    induction xs with
    | nil=>intro c h;cases c with|nil=>rfl|cons y r=>cases h
    | cons x r ih=>
     intro c h;cases c with
     | nil=>cases h
     | cons y s=>rw [X0,X0] at h;injection h with h1 h2;injection h1 with h1;rw [h1,ih h2]
   exact inj h
  rw [this]
theorem zhb {α β:Type} {f:α->β} (hf :∀a b,f a=f b->a=b) :∀{xs ys:List α},xs.map f=ys.map f->xs=ys
 | [],[],_=>rfl
 | [],_ :: _,h=>by cases h
 | _ :: _,[],h=>by cases h
 | x :: xs,y :: ys,h=>by rw [X0,X0] at h;injection h with h1 h2;rw [hf _ _ h1,zhb hf h2]
theorem zbf {a b:Pl} (h:plD a=plD b):a=b:=by unfold plD at h;injection h with h;injection h with h1 h2;injection h2 with h2 _;injection h1 with h1;injection h2 with h2;have c:a.1=b.1:=zhb (λ x y z=>by injection z with z;omega) h1;have d:a.2=b.2:=zhb (λ x y z=>zm5 z) h2;exact j49 c d
abbrev Oa:=Nat×V
noncomputable abbrev nxT (m:Nat) (ts:zT) (rs:List Rc) (ps:List DD) (pl:Pl):List Stp:=nexT (cP m rs pl.1) ts rs ps pl rs.length
inductive Wk (m:Nat) (ts:zT) (rs:List Rc) (ps:List DD):List Oa->Pl->Prop
 | nil:Wk m ts rs ps [] ([],ts.map λ t=>zeroK t.2)
 | snoc {o:List Oa} {pl:Pl} {s:Stp}:Wk m ts rs ps o pl->s∈nxT m ts rs ps pl->Wk m ts rs ps (o++[(s.1,s.2.1)]) s.2.2
def FullP (rs:List Rc) (pl:Pl):Prop:=∀n r,rs[n]? = some r->r.e.isSome=true->n∈pl.1
theorem z4q {m:Nat} {ts:zT} {rs:List Rc} {ps:List DD} {G:Pl->Prop} (h0:G ([],ts.map λ t=>zeroK t.2)) (hs :∀pl,G pl->∀s∈nxT m ts rs ps pl,G s.2.2) :∀{o:List Oa} {pl:Pl},Wk m ts rs ps o pl->G pl
 | _,_,.nil=>h0
 | _,_,.snoc w h=>hs _ (z4q h0 hs w) _ h
theorem zdi {c:TT} {tb:TS} {D:Ends} {σ:L2.St} {H:Hp} (W B:Nat->L2.St->Hp->Prop) (m0:Nat) (w0:W m0 σ H)
  (body :∀m σ H1,B m σ H1->tb { D with nx:=λ σ' H'=>∃m',m' < m/\W m' σ' H',ct:=λ σ' H'=>∃m',m' < m/\W m' σ' H',bk:=D.nx } σ H1)
  (cond :∀m σ H,W m σ H->(∀H1,B m σ H1->∃N:L2.St->Hp->Prop,(∀σ' H',N σ' H'->∃m',m' < m/\W m' σ' H')/\tb { D with nx:=N,ct:=N,bk:=D.nx } σ H1)->c σ H λ b H1=>if b=true then∃N:L2.St->Hp->Prop,(∀σ' H',N σ' H'->∃m',m' < m/\W m' σ' H')/\tb { D with nx:=N,ct:=N,bk:=D.nx } σ H1 else D.nx σ H1):tWhile c tb D σ H:=
 ⟨W,⟨m0,w0⟩,λ m σ H h=>cond m σ H h λ H1 b=>⟨_,λ _ _ z=>z,body m σ H1 b⟩⟩
def KeyI (K:b0) (H:Hp) (G:Pl->Prop) (ks:zQ):Prop:=∀k∈ks,∃pl,k.1=plD pl/\PlZ K H k.2 pl/\G pl
theorem KeyI.same {K:b0} {H H':Hp} {G:Pl->Prop} {ks:zQ} (s:Same H H') (h:KeyI K H G ks):KeyI K H' G ks:=λ k a=>(h k a).elim λ b z=>⟨b,z.1,z.2.1.tups (.of s),z.2.2⟩
theorem KeyI.put {K:b0} {H:Hp} {G:Pl->Prop} {ks:zQ} {pl:Pl} {b:Addr} (h:KeyI K H G ks) (z:PlZ K H b pl) (g:G pl):KeyI K H G (putN ks (plD pl) b):=λ k a=>by
 unfold L2.putN at a;split at a
 ·exact h k a
 ·rcases List.mem_append.mp a with y|y
  ·exact h k y
  ·rw [List.mem_singleton.mp y];exact ⟨pl,rfl,z,g⟩
theorem KeyI.at_ {K:b0} {H:Hp} {G:Pl->Prop} {ks:zQ} {a:Addr} (r:Rd H a (NsO a ks)) (h:KeyI K H G ks):NsAt K H a ks:=⟨r,λ k c=>by obtain ⟨b,e,z,_⟩:=h k c;rw [e];exact ⟨pl_key b,pl_dep b,plz_pd z⟩⟩
theorem zi9 {K:b0} {H:Hp} {r:Addr} {f:Heap->Prop} (e:H r=some (.ext f)):Tups K H (hide r H):=λ a b h=>by
 rcases h with (h|⟨ob,h⟩)|h
 ·exact .inl (.inl (z0s (λ z=>by rw [z,e] at h;cases h) h))
 ·exact .inl (.inr ⟨ob,z0s (λ z=>by rw [z,e] at h;cases h) h⟩)
 ·exact .inr h
theorem zfw {c:TT} {tb rest:TS} {D:Ends} {σ:L2.St} {H:Hp} (h:tWhile c tb { D with nx:=rest D } σ H):tSeq (tWhile c tb) rest D σ H:=h
def hid2 (a b:Addr) (H:Hp):Hp:=hide a (hide b H)
theorem z1u {a b:Addr} {H H':Hp} (s:Same H H'):Same (hid2 a b H) (hid2 a b H'):=z10 (z10 s)
theorem z0m {a b:Addr} {H:Hp}:Same (hid2 a b H) H:=hide_same.trans hide_same
theorem hid2_b {a b:Addr} {H:Hp} {o:HO}:hid2 a b (upd H b o)=hid2 a b H:=by unfold hid2;rw [z36]
theorem hid2_a {a b:Addr} {H:Hp} {o:HO}:hid2 a b (upd H a o)=hid2 a b H:=by
 funext p;unfold hid2 hide;by_cases z:p=a
 ·rw [if_pos z,if_pos z]
 ·rw [if_neg z,if_neg z,upd_ne z]
theorem z60 {a b p:Addr} {H:Hp} {o:HO} (n1:p≠a) (n2:p≠b) (e:H p=some o):hid2 a b H p=some o:=z0s n1 (z0s n2 e)
theorem zfh {a b:Addr} {H H':Hp} (n1:H a=none) (n2:H b=none) (s:Same H H'):Same H (hid2 a b H'):=λ p o e=>z60 (λ z=>by rw [z,n1] at e;cases e) (λ z=>by rw [z,n2] at e;cases e) (s _ _ e)
theorem zjj {K:b0} {a b:Addr} {H:Hp} {f:Heap->Prop} {xs:List V} (ea:H a=some (.ext f)) (eb:H b=some (.lst xs)):Tups K H (hid2 a b H):=λ p xs h=>by
 rcases h with (h|⟨ob,h⟩)|h
 ·exact .inl (.inl (z60 (λ z=>by rw [z,ea] at h;cases h) (λ z=>by rw [z,eb] at h;cases h) h))
 ·exact .inl (.inr ⟨ob,z60 (λ z=>by rw [z,ea] at h;cases h) (λ z=>by rw [z,eb] at h;cases h) h⟩)
 ·exact .inr h
theorem wk_pos :∀n,1<=wkN n
 | 0=>t0 _
 | n + 1=>by unfold wkN;omega
theorem zk6 {N:Nat} :∀ws:List Pl,ws.length<=wkP N ws
 | []=>Q1 _
 | w :: ws=>by
  have b:=zk6 (N:=N) ws;have a:wkP N (w :: ws)=wkN (N - w.1.length) + wkP N ws:=by
   have:=zgo (N:=N) (xs:=[w]) (ys:=ws)
   rwa [zd1] at this
  have c:=wk_pos (N - w.1.length);rw [P0];omega
theorem zmb :∀{n j:Nat},j<=n->j * wkN (n - 1) + j < wkN n
 | 0,j,h=>by rw [Nat.le_zero.mp h];decide
 | n + 1,j,h=>by have:=O6 (wkN n + 1) h;have e:j * (wkN n + 1)=j * wkN n + j:=Nat.mul_succ _ _;show j * wkN n + j < 1 + (n + 1) * (wkN n + 1);omega
theorem zli {α β:Type} {R:α->β->Prop} {xs:List α} {ys:List β} (h:All2 R xs ys):All2 R xs.reverse ys.reverse:=by
 induction h with
 | nil=>exact .nil
 | cons a r ih=>rw [List.reverse_cons,List.reverse_cons];exact z1d ih a
theorem KeyI.mono {K:b0} {H:Hp} {G G':Pl->Prop} {ks:zQ} (g :∀pl,G pl->G' pl) (h:KeyI K H G ks):KeyI K H G' ks:=λ k a=>(h k a).elim λ pl z=>⟨pl,z.1,z.2.1,g pl z.2.2⟩
theorem z8s {ks:zQ} {d:PyData} {b:Addr}:d∈(putN ks d b).map (·.1):=by
 unfold L2.putN;split
 ·assumption
 ·rw [E1];exact List.mem_append.mpr (.inr (List.mem_singleton.mpr rfl))
theorem z7g {ks:zQ} {d e:PyData} {b:Addr} (h:e∈ks.map (·.1)):e∈(putN ks d b).map (·.1):=by
 unfold L2.putN;split
 ·exact h
 ·rw [E1];exact List.mem_append.mpr (.inl h)
def z3c (K:b0):Sp:=λ vs H Q _=>∃(b pp:Addr) (m:Nat) (rs:List Rc) (ts:zT) (ps:List DD) (pl:Pl),vs=[.ref b,.ref pp]/\BoAt K H m rs ts ps b/\rs.length<=63/\PlZ K H pp pl/\∀b H',Same H H'->(b=true↔FullP rs pl)->Q (.bl b) H'
theorem z6l (T:TX (kx w) mg) (c0:Ca P w mg base "holds_all" ["done","numbers"] 1 (z76 (kx w))):Fo P w mg base CX0 2 283 y05 ["self","place"] (z3c (kx w)):=by
 refine (z3y w.params).ok z6i (λ g H Q E h=>?_) (λ N A O s H g Q E I h=>?_)
 ·obtain ⟨b,e,m,C,p,u,i,rfl,_⟩:=h;rfl
 ·obtain ⟨b,e,m,C,p,u,i,rfl,⟨G,fs,F,D⟩,K,⟨f,M,g,k,B,L,sz⟩,q⟩:=h;refine ⟨_,(z04 (ps_ret (pe_cal c0 (I.mono (by decide)) rfl (z00 (pJ 1) (z00 (pe_fld (pv 0) rfl) pa_nil))))),?_⟩;obtain ⟨le,J,l,v,a⟩:=D.ended;refine ⟨_,rfl,.inr (.inl ⟨e,_,0,.ref f,rfl,rfl,k,z06 (j:=0) rfl,?_⟩)⟩;refine ⟨_,rfl,b,_,G,fs,_,rfl,F,z1i _,z58 _,l,?_⟩;refine ⟨f,le,i.1,J,rfl,B,v,by have:=a.1;omega,λ x y o z=>q x y o (z.trans ⟨λ h n r c d=>h n ((a.2 n).mpr ⟨r,c,d⟩),λ h n t=>?_⟩)⟩;obtain ⟨r,c,d⟩:=(a.2 n).mp t;exact h n r c d
def TlP (K:b0) (H:Hp) (t:Addr) (ts:zT) (es:List Ev) (ps:List DD):Prop:=TaleAt K H t ts es/\ThW ts/\es.length<=63/\EWf [] es/\All2 (RcGd K H ts) (dAll 0 [] es) ps/\(dAll 0 [] es).length<=5
theorem TlP.same {K:b0} {H H':Hp} {t:Addr} {ts:zT} {es:List Ev} {ps:List DD} (s:Same H H') (h:TlP K H t ts es ps):TlP K H' t ts es ps:=⟨h.1.tt (.of s),h.2.1,h.2.2.1,h.2.2.2.1,z01 (λ _ _ z=>RcGd.tt (.of s) z) h.2.2.2.2.1,h.2.2.2.2.2⟩
theorem zfs {i:Nat} {rest:TS} {D:Ends} {σ:L2.St} {H:Hp} {tA:TA} {t:Addr} {ts:zT} {es:List Ev} {ps:List DD} {m:Nat} (tp:TlP (kx w) H t ts es ps) (ha :∀R:List V->Hp->Prop,R [.ref t,.str (z2x m)] H->tA σ H R)
  (q :∀x dx fs H1,Same H H1->(dAll 0 [] es).length<=5->ThW ts->All2 (RcGd (kx w) H1 ts) (dAll 0 [] es) ps->H1 x=some (.ins 293 dx fs)->BoF (kx w) H1 m (dAll 0 [] es) ts ps fs->rest D (σ.set i (some (.ref x))) H1):tSeq (tAsg (tMake 293 (z0w (kx w)) [] E0 tA) (gName i)) rest D σ H:=by
 obtain ⟨h,ok,j,l,a,g⟩:=tp;refine ha _ λ x dx e c p=>?_;have f:Same H (upd (upd H dx (.own x)) x (.ins 293 dx [])):=(Same.upd c).trans (Same.upd (by rw [upd_ne p.symm];exact e));have b:Tt (kx w) H (upd (upd H dx (.own x)) x (.ins 293 dx [])):=.of f;refine ⟨x,dx,t,ts,es,ps,m,rfl,upd_same,h.tt b,ok,j,l,z01 (λ _ _ z=>RcGd.tt b z) a,λ fs H1 n o k=>⟨rfl,?_⟩⟩;have d:Same H H1:=zds e c n;exact q x dx fs H1 d g ok (z01 (λ _ _ z=>RcGd.tt (.of d) z) a) o k
end
section
theorem zjh {α β:Type} {R:α->β->Prop} {xs:List α} {ys:List β} {y:β} (h:All2 R xs (ys++[y])) :∃xr x,xs=xr++[x]/\All2 R xr ys/\R x y:=by
 induction ys generalizing xs with
 | nil=>
  cases h with
  | cons a r=>cases r;exact ⟨[],_,rfl,.nil,a⟩
 | cons z ys ih=>
  cases h with
  | cons a r=>obtain ⟨xr,x,rfl,c,b⟩:=ih r;exact ⟨_ :: xr,x,rfl,.cons a c,b⟩
theorem wkN_5 {n:Nat} (h:n<=5):wkN n<=651:=(by decide :∀n,n < 6->wkN n<=651) n (by omega)
end
section
variable {P:Program} {w:R0} {mg:Str->Option Value} {base:Heap}
theorem t_and {t u:TT} {σ:L2.St} {H:Hp} {Q:Bool->Hp->Prop} (h:t σ H λ c H1=>if c=true then u σ H1 Q else Q false H1):tAnd t u σ H Q:=h
def TaP (K:b0) (H:Hp) (t:Addr) (es:List Ev):Prop:=∃ts,TaleAt K H t ts es/\es.length<=63/\EWf [] es
def ActAt (H:Hp) (r:Rc) (y:V):Prop:=∃p,y=.ref p/\H p=some (.lst [.int r.h,r.n,r.v,r.x,r.a,.int r.b,endV r.e])
theorem ActAt.same {H H':Hp} {r:Rc} {y:V} (s:Same H H') (h:ActAt H r y):ActAt H' r y:=h.elim λ p z=>⟨p,z.1,s _ _ z.2⟩
theorem ActAt.wrote {H:Hp} {l:Addr} {o:HO} {r:Rc} {y:V} (n:y≠.ref l) (h:ActAt H r y):ActAt (upd H l o) r y:=h.elim λ p z=>⟨p,z.1,by rw [upd_ne (λ e=>n (by rw [z.1,e]))];exact z.2⟩
def z1g (K:b0):Sp:=λ vs H Q _=>∃(t:Addr) (es:List Ev),vs=[.ref t]/\TaP K H t es/\∀l zs H',Same H H'->H' l=some (.lst zs)->All2 (ActAt H') (dAll 0 [] es) zs->Q (.ref l) H'
theorem zaw (T:TX (kx w) mg):Fo P w mg base CX0 1 410 y14 ["tale"] (z1g (kx w)):=by
 refine (z4b w.params).ok sc__law_deeds (λ vs H Q E h=>?_) (λ d1 A c8 s H vs Q E hr h=>?_)
 ·obtain ⟨t,u,rfl,_⟩:=h;rfl
 ·obtain ⟨t,u,rfl,⟨ts,⟨pt,M,F,et,th,c0,al⟩,c7,b9⟩,q⟩:=h;have st:SqT (kx w) H t [.ref pt,.ref M]:=SqT.of et;have se:SqT (kx w) H M F:=SqT.of c0;have hl:u.length<=100:=by omega
  obtain ⟨wf,_⟩:=DInv.all DInv.nil b9;refine ⟨_,(z02 (ps_set (i:=1) sc__law_deeds.nd rfl (U0 rfl) (pe_lst pa_nil))
   (z02 (ps_set (i:=2) sc__law_deeds.nd rfl (U0 rfl) z5d)
   (z02 (ps_for K1 rfl (z2o rfl (T.no (z6n _)) (z00 (z09 z1h rfl (T.no (n_len _)) X3 (z00 (pJ 0) pa_nil)) pa_nil)) (z0g (i:=3) sc__law_deeds.nd rfl (U0 rfl))
   (z02 (ps_set (i:=4) sc__law_deeds.nd rfl (U0 rfl) (pe_ix ix_seq (pJ 0) (pv 3) (λ _ _=>rfl)))
   (z04 (ps_if (z08 opEq (pJ 4) pe_str (nomark _))
   (z02 (z6u (hu_of hr) (pv 2) (pJ 4) (z09 z1h rfl (T.no (n_len _)) X3 (z00 (pv 1) pa_nil)) rfl)
   (z04 (z2b (z14 (pv 1) (z00 (pe_lst (z00 (pJ 4) (z00 (pJ 4) (z00 (pJ 4) (z00 (pJ 4) (z00 pe_non (z00 (pv 3) (z00 pe_non pa_nil)))))))) pa_nil)))))
   (z02 (ps_asg (pJ 4) (pg_sub (pe_ix ix_seq (pv 1) (z74 (hu_of hr) (pv 2) (pJ 4) (λ _ _=>rfl)) (λ _ _=>rfl)) pe_int z5t))
   (z04 (ps_asg (pv 3) (pg_sub (pe_ix ix_seq (pv 1) (z74 (hu_of hr) (pv 2) (pJ 4) (λ _ _=>rfl)) (λ _ _=>rfl)) pe_int z5t))))))))
   (z04 (ps_ret (pv 1)))))),?_⟩
  refine ⟨w_0,λ l b4=>?_⟩;intro d a3;have Y:l≠d:=z07 upd_same a3;have c1:H d=none:=by rwa [upd_ne Y.symm] at a3
  have W:Same H (upd (upd H l (.lst [])) d (.dK [])):=(Same.upd b4).trans (Same.upd a3);have L:upd (upd H l (.lst [])) d (.dK []) l=some (.lst []):=by rw [upd_ne Y];exact upd_same
  have D:upd (upd H l (.lst [])) d (.dK []) d=some (.dK []):=upd_same;generalize upd (upd H l (.lst [])) d (.dK [])=H2 at W L D⊢;have b8:=z03 al;have c9:100<=sizeLine:=by decide
  refine ⟨_,rfl,.inr (.inl ⟨t,_,1,.ref M,rfl,rfl,W.seqT st,z06 (j:=1) rfl,.inl ⟨M,F,rfl,.inr (W.seqT se),F.length,rfl,by omega,by omega,?_⟩⟩)⟩;refine z3q (lo:=0) (n:=F.length) (λ i σ X=>∃rs zs kvs,X l=some (.lst zs)/\All2 (ActAt X) rs zs/\zs.Nodup/\(∀p,V.ref p∈zs->p≠l/\H p=none)/\X d=some (.dK kvs)/\kvs.length<=i/\rs.length<=i/\(∀h,valV kvs (.inl h)=(lastI h (rs.map Rc.h)).map λ j=>V.int (j:Nat))/\dAll i rs (u.drop i)=dAll 0 [] u/\dWf i rs (u.drop i)/\Same H X/\∃x3 x4,σ=[some (.ref t),some (.ref l),some (.ref d),x3,x4])
   ⟨[],[],[],L,.nil,.nil,λ _ z=>absurd z j0,D,t0 _,t0 _,λ h=>rfl,by rw [V5],by rw [V5];exact wf,W,_,_,rfl⟩ ?_ ?_
  ·rintro i σ g hi ⟨rs,zs,kvs,el4,ar4,nd,nzl,ed4,hk,hr',hv,C,dw,s4,x3,x4,rfl⟩;rw [g7];have a9:i < u.length:=by omega
   have hy:F[i]? = some F[i]:=B0 hi;obtain ⟨e,he,ev⟩:=z0f al hy;obtain ⟨_,ee⟩:=List.getElem?_eq_some_iff.mp he;have dr:u.drop i=e :: u.drop (i + 1):=by rw [j23 a9,ee]
   rw [dr] at C dw;have a4:=EvAt.tups (.of s4) ev;have d0:i < 100:=F1 a9 hl;have lz:zs.length=rs.length:=z03 ar4;refine g_name ?_;refine ⟨_,rfl,.inr (.inl ⟨t,_,1,.ref M,rfl,rfl,s4.seqT st,z06 (j:=1) rfl,_,rfl,.inr (.inl ⟨M,F,i,F[i],rfl,rfl,s4.seqT se,z06 hy,?_⟩)⟩)⟩;generalize F[i]=y at a4⊢;cases e with
   | beg h n v x=>
    obtain ⟨B,rfl,G⟩:=a4;refine ⟨_,rfl,.inr (.inl ⟨B,_,0,.str "begin",rfl,rfl,G,z06 (j:=0) rfl,rfl,_,rfl,iteP (decide_eq_true rfl) ?_⟩)⟩;refine ⟨_,rfl,.inl ⟨l,zs,rfl,.inl (SqL.of el4),⟨_,rfl,⟨_,rfl,.inr (.inl ⟨B,_,1,.int h,rfl,rfl,G,z06 (j:=1) rfl,d,_,rfl,DPut.k (k:=.inl h) ed4 (A1 (m:=100) (by omega) (by decide)),?_⟩)⟩⟩⟩⟩;have U:Tups (kx w) g (upd g d (.dK (putK kvs (.inl h) (.int (zs.length:Nat))))):=Tups.dict ed4;have s5:=Same.keep (o:=.dK (putK kvs (.inl h) (.int (zs.length:Nat)))) s4 c1;have I:upd g d (.dK (putK kvs (.inl h) (.int (zs.length:Nat)))) l=some (.lst zs):=by rw [upd_ne Y];exact el4
    have S:upd g d (.dK (putK kvs (.inl h) (.int (zs.length:Nat)))) d=some (.dK (putK kvs (.inl h) (.int (zs.length:Nat)))):=upd_same;have a2:All2 (ActAt (upd g d (.dK (putK kvs (.inl h) (.int (zs.length:Nat)))))) rs zs:=z01 (λ a b z=>z.wrote (λ e=>by obtain ⟨p,L,D⟩:=z;rw [L] at e;cases e;rw [ed4] at D;cases D)) ar4;generalize upd g d (.dK (putK kvs (.inl h) (.int (zs.length:Nat))))=H5 at U s5 I S a2⊢;have N:=U _ _ G;refine ⟨_,rfl,.inl ⟨rfl,zs,SqL.of I⟩,?_⟩;refine ⟨_,rfl,.inr (.inl ⟨B,_,1,.int h,rfl,rfl,N,z06 (j:=1) rfl,_,rfl,.inr (.inl ⟨B,_,2,n,rfl,rfl,N,z06 (j:=2) rfl,_,rfl,.inr (.inl ⟨B,_,3,v,rfl,rfl,N,z06 (j:=3) rfl,_,rfl,.inr (.inl ⟨B,_,4,x,rfl,rfl,N,z06 (j:=4) rfl,_,rfl,w_7,λ J O=>?_⟩)⟩)⟩)⟩)⟩;have R:=Same.upd (o:=.lst [.int h,n,v,x,.non,.int (i:Nat),.non]) O;have e6:upd H5 J (.lst [.int h,n,v,x,.non,.int (i:Nat),.non]) J=some (.lst [.int h,n,v,x,.non,.int (i:Nat),.non]):=upd_same;have fr :∀z∈zs,z≠.ref J:=λ z hz e=>by obtain ⟨m,hm⟩:=List.mem_iff_getElem?.mp hz;obtain ⟨_,_,p,L,D⟩:=z0f a2 hm;rw [L] at e;cases e;rw [O] at D;cases D
    have a7:J≠l:=λ z=>by rw [z,I] at O;cases O
    generalize upd H5 J (.lst [.int h,n,v,x,.non,.int (i:Nat),.non])=H6 at R e6⊢;have c4:=R _ _ I;have c2:=R _ _ S;have c5:=z01 (λ a b z=>ActAt.same R z) a2;refine ⟨l,zs,_,rfl,rfl,c4,A1 (m:=100) (by omega) (by decide),?_⟩;refine ⟨rs++[⟨h,n,v,x,.non,i,none⟩],zs++[.ref J],putK kvs (.inl h) (.int (zs.length:Nat)),upd_same,?_,?_,?_,?_,?_,?_,?_,(show dAll (i + 1) (dstep i rs (.beg h n v x)) _=_ from C),dw.2,Same.keep (s5.trans R) b4,_,_,rfl⟩
    ·refine z1d ?_ ⟨J,rfl,by rw [upd_ne a7];exact e6⟩;refine z8b (λ a b hb z=>ActAt.wrote (λ e=>(nzl l (e ▸ hb)).1 rfl) z) c5
    ·rw [E3];refine ⟨nd,by simp,λ a ha b hb=>?_⟩;rw [List.mem_singleton.mp hb];exact fr a ha
    ·intro p hz;rcases List.mem_append.mp hz with y|y
     ·exact nzl p y
     ·have e:=List.mem_singleton.mp y;cases e;exact ⟨a7,s5.free O⟩
    ·rw [upd_ne Y.symm];exact c2
    ·exact A0 zgc (by omega)
    ·rw [D0];show rs.length + 1<=i + 1;omega
    ·intro k;rw [z32,E1];show _=j0g _ (lastI k (rs.map Rc.h++[h]));rw [z4t,o0,lz];by_cases z:h=k
     ·rw [if_pos z,if_pos (by rw [z])];rfl
     ·rw [if_neg z,if_neg (λ y=>z (z8 y).symm)];exact hv k
   | fin h a=>
    obtain ⟨B,rfl,G⟩:=a4;obtain ⟨j,hj⟩:=Option.isSome_iff_exists.mp (dw.1 h a rfl);have c6:valV kvs (.inl h)=some (.int (j:Nat)):=by rw [hv h,hj];rfl
    have b7:j < rs.length:=by have:=z8v hj;rwa [o0] at this
    have b1:rs[j]? = some rs[j]:=B0 b7;obtain ⟨yj,K,c,rfl,ej⟩:=z0u ar4 b1;have b3 :∀{H5:Hp},H5 d=some (.dK kvs)->DGet H5 d (.int h) (some (.int (j:Nat))):=λ e5=>c6 ▸ DGet.k (k:=.inl h) e5;refine ⟨_,rfl,.inr (.inl ⟨B,_,0,.str "end",rfl,rfl,G,z06 (j:=0) rfl,rfl,_,rfl,iteK ?_⟩)⟩;obtain ⟨b2,c3⟩:=nzl c (G0 K);have b0:c≠d:=λ z=>by rw [z,ed4] at ej;cases ej
    refine ⟨_,rfl,.inr (.inl ⟨B,_,2,a,rfl,rfl,G,z06 (j:=2) rfl,?_⟩)⟩;refine ⟨_,rfl,_,rfl,_,rfl,.inr (.inl ⟨B,_,1,.int h,rfl,rfl,G,z06 (j:=1) rfl,d,_,rfl,b3 ed4,.inl ⟨l,zs,j,.ref c,rfl,rfl,SqL.of el4,z06 K,c,_,4,4,rfl,rfl,ej,rfl,?_⟩⟩)⟩;rw [show [V.int rs[j].h,rs[j].n,rs[j].v,rs[j].x,rs[j].a,.int rs[j].b,endV rs[j].e].set 4 a=[.int rs[j].h,rs[j].n,rs[j].v,rs[j].x,a,.int rs[j].b,endV rs[j].e] from rfl];have Z:KeptL [c] g (upd g c (.lst [.int rs[j].h,rs[j].n,rs[j].v,rs[j].x,a,.int rs[j].b,endV rs[j].e])):=KeptL.set (by simp);have U:Tups (kx w) g (upd g c (.lst [.int rs[j].h,rs[j].n,rs[j].v,rs[j].x,a,.int rs[j].b,endV rs[j].e])):=Tups.lst ej;have b5:upd g c (.lst [.int rs[j].h,rs[j].n,rs[j].v,rs[j].x,a,.int rs[j].b,endV rs[j].e]) c=some (.lst [.int rs[j].h,rs[j].n,rs[j].v,rs[j].x,a,.int rs[j].b,endV rs[j].e]):=upd_same;generalize upd g c (.lst [.int rs[j].h,rs[j].n,rs[j].v,rs[j].x,a,.int rs[j].b,endV rs[j].e])=H5 at Z U b5⊢;have I:=Z _ _ (show l∉[c] by simp [b2.symm]) el4;have S:=Z _ _ (show d∉[c] by simp [b0.symm]) ed4;have N:=U _ _ G;refine ⟨_,rfl,?_⟩;refine ⟨_,rfl,_,rfl,_,rfl,.inr (.inl ⟨B,_,1,.int h,rfl,rfl,N,z06 (j:=1) rfl,d,_,rfl,b3 S,.inl ⟨l,zs,j,.ref c,rfl,rfl,SqL.of I,z06 K,c,_,6,6,rfl,rfl,b5,rfl,?_⟩⟩)⟩;rw [show [V.int rs[j].h,rs[j].n,rs[j].v,rs[j].x,a,.int rs[j].b,endV rs[j].e].set 6 (.int (i:Nat))=[.int rs[j].h,rs[j].n,rs[j].v,rs[j].x,a,.int rs[j].b,.int (i:Nat)] from rfl];have hd:dstep i rs (.fin h a)=rs.modify j (λ r=>{ r with a:=a,e:=some i }):=by unfold dstep;dsimp only;rw [hj]
    have C:dAll (i + 1) (dstep i rs (.fin h a)) (u.drop (i + 1))=_:=C;have a6:dWf (i + 1) (dstep i rs (.fin h a)) (u.drop (i + 1)):=dw.2;rw [hd] at C a6;have k7:KeptL [c] H5 (upd H5 c (.lst [.int rs[j].h,rs[j].n,rs[j].v,rs[j].x,a,.int rs[j].b,.int (i:Nat)])):=KeptL.set (by simp);have j7:upd H5 c (.lst [.int rs[j].h,rs[j].n,rs[j].v,rs[j].x,a,.int rs[j].b,.int (i:Nat)]) c=some (.lst [.int rs[j].h,rs[j].n,rs[j].v,rs[j].x,a,.int rs[j].b,.int (i:Nat)]):=upd_same;generalize upd H5 c (.lst [.int rs[j].h,rs[j].n,rs[j].v,rs[j].x,a,.int rs[j].b,.int (i:Nat)])=H7 at k7 j7⊢;have a8:=Z.trans k7;refine ⟨rs.modify j (λ r=>{ r with a:=a,e:=some i }),zs,kvs,k7 _ _ (by simp [b2.symm]) I,?_,nd,nzl,k7 _ _ (by simp [b0.symm]) S,by omega,by rw [M4];omega,?_,C,a6,?_,_,_,rfl⟩
    ·refine z27 (by rw [M4];exact z03 ar4) λ k r y hk a1=>?_;rw [G2] at hk;obtain ⟨r',a5,a0⟩:=Option.map_eq_some_iff.mp hk;obtain ⟨y2,b6,p2,rfl,D⟩:=z0u ar4 a5;rw [a1] at b6;cases b6;by_cases z:j=k
     ·subst z;rw [K] at a1;cases a1;rw [if_pos rfl] at a0;rw [b1] at a5;cases a5;subst a0;exact ⟨c,rfl,j7⟩
     ·rw [if_neg z] at a0;subst a0;refine ⟨p2,rfl,a8 _ _ (λ e=>z ?_) D⟩;have e:=List.mem_singleton.mp e;subst e;have h1:j < zs.length:=(List.getElem?_eq_some_iff.mp K).1;exact (j00 h1 nd).mp (K.trans a1.symm)
    ·intro k;rw [zg7 (f:=λ r=>{ r with a:=a,e:=some i }) (λ r=>rfl)];exact hv k
    ·intro b o e;exact a8 b o (λ z=>by rw [List.mem_singleton.mp z,c3] at e;cases e) (s4 b o e)
  ·rintro σ H3 ⟨rs,zs,kvs,el,ar,_,_,_,_,_,_,C,_,s3,x3,x4,rfl⟩;have:u.drop F.length=[]:=by rw [b8];exact List.drop_length
   rw [this] at C;have C:rs=dAll 0 [] u:=C;rw [<-C] at q;exact ⟨_,rfl,q l zs H3 s3 el ar⟩
def z3g:Sp:=λ vs H Q _=>∃(y z:V) (r q:Rc),vs=[.str "strict",y,z]/\ActAt H r y/\ActAt H q z/\Q (.bl (ltO r.e q.b)) H
theorem z6y (T:TX (kx w) mg):Fo P w mg base CX0 1 417 y0b ["strictness","one","other"] z3g:=by
 refine (z25 w.params).ok z7b (λ f H Q E h=>?_) (λ l A k s H f Q E i h=>?_)
 ·obtain ⟨y,z,r,q,rfl,_⟩:=h;rfl
 ·obtain ⟨y,z,r,q,rfl,⟨c,rfl,a⟩,⟨g,rfl,d⟩,h⟩:=h;refine ⟨_,(z02 (ps_if (z08 opEq (pv 0) pe_str (nomark _))
   (z04 (ps_ret (pe_and (z18 z9u (pJ 1) pe_non (nomark _)) (pe_one (z18 op_lt (pJ 1) (pJ 2) (nomark _))))))
   z0e)
   (z04 (ps_ret (pe_and (z18 opEq (pv 0) pe_str (nomark _)) (pe_and (z18 opEq (pJ 1) (pJ 2) (nomark _)) (pe_one (z18 op_lt (pJ 1) (pJ 2) (nomark _)))))))),?_⟩
  refine ⟨_,rfl,rfl,_,rfl,iteP (decide_eq_true rfl) ?_⟩;refine ⟨_,rfl,.inl ⟨c,_,6,endV r.e,rfl,rfl,SqL.of a,z06 (j:=6) rfl,rfl,_,rfl,?_⟩⟩;cases re:r.e with
  | none=>refine iteN (by show ¬ (!decide (V.non=V.non))=true;decide) ?_;rw [re] at h;exact h
  | some b=>refine iteP rfl ?_;refine ⟨_,rfl,.inl ⟨c,_,6,.int (b:Nat),rfl,rfl,SqL.of a,z06 (j:=6) (by rw [re];rfl),?_⟩⟩;refine ⟨_,rfl,.inl ⟨g,_,5,.int (q.b:Nat),rfl,rfl,SqL.of d,z06 (j:=5) rfl,b,q.b,rfl,rfl,?_⟩⟩;rw [re] at h;exact (show Q (.bl (decide ((b:Int) < (q.b:Int)))) H by rw [dec_lt];exact h)
def okM (rs:List Rc) (ns:List Nat) (n x:Nat):Prop:=(x∈ns->z0i 0 rs n x=false)/\(x∉ns->(∃r,rs[x]? = some r/\r.e.isSome=true)->z0i 0 rs x n=false)
theorem cM_of {rs:List Rc} {ns:List Nat} {n:Nat} (lt :∀x∈ns,x < rs.length) (h :∀x,x < rs.length->okM rs ns n x):cM 0 rs ns n = !decide (n∈ns):=by
 unfold cM;rw [decide_eq_true (p:=∀a∈j1 rs.length,z0i 0 rs a n=true->(∃r,rs[a]? = some r/\r.e.isSome=true)->a∈ns) (λ a g c f=>Decidable.byContradiction λ z=>by rw [(h a (List.mem_range.mp g)).2 z f] at c;cases c),decide_eq_true (p:=∀b∈ns,z0i 0 rs n b=false) (λ b d=>(h b (lt b d)).1 d),j2h,j2h];by_cases z:n∈ns
 ·rw [decide_eq_true z,decide_eq_false (λ h=>h z)];rfl
 ·rw [decide_eq_false z,decide_eq_true z];rfl
theorem cM_not {rs:List Rc} {ns:List Nat} {n x:Nat} (hx:x < rs.length) (h:¬ okM rs ns n x):cM 0 rs ns n=false:=by
 cases e:cM 0 rs ns n with
 | false=>rfl
 | true=>
  refine absurd ?_ h;unfold cM at e;simp only [A2,decide_eq_true_iff] at e;refine ⟨λ z=>e.2 x z,λ z a=>?_⟩;cases e2:z0i 0 rs x n with
  | false=>rfl
  | true=>exact absurd (e.1.2 x (List.mem_range.mpr hx) e2 a) z
def z1w (K:b0):Sp:=λ vs H Q _=>∃(la pa:Addr) (zs:List V) (rs:List Rc) (ns:List Nat) (n:Nat),vs=[.ref la,.str "strict",.ref pa,.int (n:Nat)]/\H la=some (.lst zs)/\All2 (ActAt H) rs zs/\rs.length<=63/\SqT K H pa (nsV ns)/\(∀x∈ns,x < rs.length)/\n < rs.length/\Q (.bl (cM 0 rs ns n)) H
theorem z54 (T:TX (kx w) mg) (c0:Ca P w mg base "_law_is_ahead" ["strictness","one","other"] 1 z3g):Fo P w mg base CX0 2 424 y07 ["some","strictness","done","number"] (z1w (kx w)):=by
 refine (z1a w.params).ok sc__law_may_be_next (λ O H Q E h=>?_) (λ a0 A a1 s H O Q E L h=>?_)
 ·obtain ⟨f,c,d,a,g,n,rfl,_⟩:=h;rfl
 ·obtain ⟨f,c,d,a,g,n,rfl,G,B,Z,t,lt,N,q⟩:=h;refine ⟨_,(z02 (ps_for K1 rfl (z2o rfl (T.no (z6n _)) (z00 (z09 z1h rfl (T.no (n_len _)) X3 (z00 (pv 0) pa_nil)) pa_nil)) (z0g (i:=4) sc__law_may_be_next.nd rfl (U0 rfl))
   (z02 (ps_if (PW.pt (pw_and (z08 z1x (pv 4) (pv 2) (by with_unfolding_all rfl)) (zaj (pt_val (pe_cal c0 (L.mono (by decide)) rfl (z00 (pv 1) (z00 (pe_ix ix_seq (pv 0) (pv 3) (λ _ _=>rfl)) (z00 (pe_ix ix_seq (pv 0) (pv 4) (λ _ _=>rfl)) pa_nil)))) (λ _=>rfl)))))
   (z04 (ps_ret pe_bl))
   z0e)
   (z04 (ps_if (PW.pt (pw_and (z08 z1b (pv 4) (pv 2) (by with_unfolding_all rfl)) (pw_and (z08 z9u (pe_ix ix_seq (pe_ix ix_seq (pv 0) (pv 4) (λ _ _=>rfl)) pe_int (λ _ _=>rfl)) pe_non (nomark _)) (zaj (pt_val (pe_cal c0 (L.mono (by decide)) rfl (z00 (pv 1) (z00 (pe_ix ix_seq (pv 0) (pv 4) (λ _ _=>rfl)) (z00 (pe_ix ix_seq (pv 0) (pv 3) (λ _ _=>rfl)) pa_nil)))) (λ _=>rfl))))))
   (z04 (ps_ret pe_bl))
   z0e))))
   (z04 (ps_ret (z18 z1b (pv 3) (pv 2) (by with_unfolding_all rfl))))),?_⟩
  have lz:d.length=a.length:=z03 B;have q:=λ b (h:b=cM 0 a g n)=>(show Q (.bl b) H from h ▸ q)
  have r:a[n]? = some a[n]:=B0 N;obtain ⟨p,Y,u⟩:=z0u B r;generalize a[n]=r0 at r u;refine ⟨_,rfl,.inl ⟨f,d,rfl,.inl (SqL.of G),d.length,rfl,by omega,by omega,?_⟩⟩;refine z3q (lo:=0) (n:=d.length) (λ i σ U=>U=H/\(∀x,x < i->okM a g n x)/\∃x4,σ=[some (.ref f),some (.str "strict"),some (.ref c),some (.int (n:Nat)),x4]) ⟨rfl,λ x C=>absurd C (R3 _),_,rfl⟩ ?_ ?_
  ·rintro i σ l hi ⟨rfl,fi,x4,rfl⟩;rw [g7];refine g_name ?_;have y:i < a.length:=by omega
   have m:a[i]? = some a[i]:=B0 y;obtain ⟨D,W,o⟩:=z0u B m;generalize a[i]=r1 at m o;have K :∀{R:VK} {x4:Option V},R p l->tOp (rIx (kx w)) (tVar 0) (tVar 3) [some (.ref f),some (.str "strict"),some (.ref c),some (.int (n:Nat)),x4] l R:=λ h=>⟨_,rfl,_,rfl,.inl ⟨f,d,n,p,rfl,rfl,SqL.of G,z06 Y,h⟩⟩
   have v :∀{R:VK},R D l->tOp (rIx (kx w)) (tVar 0) (tVar 4) [some (.ref f),some (.str "strict"),some (.ref c),some (.int (n:Nat)),some (.int (i:Nat))] l R:=λ h=>⟨_,rfl,_,rfl,.inl ⟨f,d,i,D,rfl,rfl,SqL.of G,z06 W,h⟩⟩
   have J:z0i 0 a n i=ltO r0.e r1.b:=z4g r m;have I:z0i 0 a i n=ltO r1.e r0.b:=z4g m r;have F:okM a g n i->∀x,x < i + 1->okM a g n x:=λ h x C=>by
    by_cases z:x=i
    ·rw [z];exact h
    ·exact fi x (by omega)
   refine sq_if (t_and ?_);refine ⟨_,rfl,_,rfl,c,_,rfl,.inr t,rfl,z4y _,_,rfl,?_⟩;by_cases z:i∈g
   ·refine iteP (by rw [inV_ns];exact decide_eq_true z) ?_;refine ⟨_,rfl,K (v ⟨p,D,r0,r1,rfl,u,o,_,rfl,?_⟩)⟩;cases h:ltO r0.e r1.b with
    | true=>refine iteT (q _ (cM_not y λ k=>?_).symm);have:=k.1 z;rw [J,h] at this;cases this
    | false=>refine iteF (t_nx (z3z (t_and ?_)));refine ⟨_,rfl,_,rfl,c,_,rfl,.inr t,rfl,z4y _,_,rfl,iteN (by rw [inV_ns,decide_eq_true z];decide) (iteF ?_)⟩;exact ⟨rfl,F ⟨λ _=>J.trans h,λ S=>absurd z S⟩,_,rfl⟩
   ·refine iteN (λ h=>z (of_decide_eq_true (by rw [inV_ns] at h;exact h))) (iteF (t_nx (z3z (t_and ?_))));refine ⟨_,rfl,_,rfl,c,_,rfl,.inr t,rfl,z4y _,_,rfl,iteP (by rw [inV_ns,decide_eq_false z];rfl) (t_and ?_)⟩;obtain ⟨X,rfl,M⟩:=id o;refine v (.inl ⟨X,_,6,endV r1.e,rfl,rfl,SqL.of M,z06 (j:=6) rfl,rfl,_,rfl,?_⟩);cases he:r1.e with
    | none=>refine iteN (by show ¬ (!decide (V.non=V.non))=true;decide) (iteF ⟨rfl,F ⟨λ h=>absurd h z,λ _ h=>?_⟩,_,rfl⟩);rw [I,he];rfl
    | some e=>
     refine iteP rfl ?_;refine ⟨_,rfl,v (K ⟨_,p,r1,r0,rfl,o,u,_,rfl,?_⟩)⟩;cases h:ltO r1.e r0.b with
     | true=>refine iteT (q _ (cM_not y λ k=>?_).symm);have:=k.2 z ⟨r1,m,by rw [he];rfl⟩;rw [I,h] at this;cases this
     | false=>exact iteF ⟨rfl,F ⟨λ h=>absurd h z,λ _ _=>I.trans h⟩,_,rfl⟩
  ·rintro σ l ⟨rfl,fi,x4,rfl⟩;refine ⟨_,rfl,_,rfl,c,_,rfl,.inr t,rfl,z4y _,q _ ?_⟩;rw [cM_of lt λ x C=>fi x (by omega),inV_ns];rfl
theorem z9x {X:Cx} {K:b0} (hK:X.K=K):OpR X (B2 .NotIn) (rIn K true):=hK ▸ z1b
theorem zfq {c:Nat->Bool} {ts:zT} {rs:List Rc} {ps:List DD} {pl:Pl} {i:Nat} {r:Rc} {p:DD} (hr:rs[i]? = some r) (hp:ps[i]? = some p) (h:c i=false\/stp ts r p i pl=none):nexAt c ts rs ps pl i=none:=by
 unfold nexAt;rcases h with h|h
 ·rw [h];rfl
 ·rw [hr,hp];split<;>first|exact h|rfl
theorem zga {c:Nat->Bool} {ts:zT} {rs:List Rc} {ps:List DD} {pl:Pl} {i:Nat} {r:Rc} {p:DD} {s:Stp} (hr:rs[i]? = some r) (hp:ps[i]? = some p) (hc:c i=true) (h:stp ts r p i pl=some s):nexAt c ts rs ps pl i=some s:=by unfold nexAt;rw [if_pos hc,hr,hp];exact h
theorem tup2 {A B:TE} {σ:L2.St} {H:Hp} {Q:VK} (h:A σ H λ x H1=>B σ H1 λ y H2=>(2:Nat)<=sizeLine/\∀p,H2 p=none->Q (.ref p) (upd H2 p (.tup [x,y]))):tTup (tCons A (tCons B tNil)) σ H Q:=h
theorem srt_in {K:b0} {σ:L2.St} {H:Hp} {Q:VK} {tp tn:TE} {pa:Addr} {ns:List Nat} {n:Nat} (hp :∀R:VK,R (.ref pa) H->tp σ H R) (hn :∀R:VK,R (.int (n:Nat)) H->tn σ H R) (sa:SqT K H pa (nsV ns)) (l63:ns.length < 63) (q :∀b4 H',Same H H'->H' b4=some (.tup (nsV (srtN (ns++[n]))))->Q (.ref b4) H') :
  tCB (λ xs H Q=>∃p ys,xs=[.ref p]/\((SqL K H p ys/\∀l,H l=none->Q (.ref l) (upd H l (.tup ys)))\/(SqT K H p ys/\Q (.ref p) H))) (tCons (tCB (λ xs H Q=>∃a ns,xs=[.ref a]/\(SqL K H a (ns.map V.int)\/SqT K H a (ns.map V.int))/\ns.length < 64/\srt ns H Q) (tCons (tOp (rCatS K) tp (tTup (tCons tn tNil))) tNil)) tNil) σ H Q:=by
 refine hp _ (hn _ ⟨w_1,λ e k=>?_⟩);obtain ⟨v,b,c,t⟩:=newA (.tup [.int (n:Nat)]) k;rw [<-b];refine ⟨pa,e,nsV ns,[.int (n:Nat)],rfl,rfl,c.seqT sa,SqT.of t,by simp,A0 (m:=100) (by rw [z7z];show _ + 1<=100;omega) (by decide),λ s w i d=>?_⟩;rw [show nsV ns++[.int (n:Nat)]=((ns++[n]).map λ (n:Nat)=>(n:Int)).map V.int by unfold nsV;rw [S2,E1];rfl] at d;refine ⟨s,_,rfl,.inr d,by rw [o0,D0];show _ + 1 < 64;omega,λ f y o j u=>?_⟩;rw [zk0 j u];obtain ⟨x,b,h,r⟩:=newA (.lst (nsV (srtN (ns++[n])))) o;rw [<-b];exact ⟨f,_,rfl,.inl ⟨SqL.of r,λ b4 g=>q b4 _ (((c.trans i).trans h).trans (Same.upd g)) upd_same⟩⟩
def z41 (K:b0):Sp:=λ vs H Q _=>∃(l p pa:Addr) (zs:List V) (rs:List Rc) (ns:List Nat) (x:V),vs=[.ref l,.ref p]/\H l=some (.lst zs)/\All2 (ActAt H) rs zs/\rs.length<=63/\SqT K H p [.ref pa,x]/\SqT K H pa (nsV ns)/\∀b H',Same H H'->(b=true↔∀n r,rs[n]? = some r->r.e.isSome=true->n∈ns)->Q (.bl b) H'
theorem z7o (T:TX (kx w) mg):Fo P w mg base CX0 1 436 y0i ["some","place"] (z41 (kx w)):=by
 refine (z2d w.params).ok z7h (λ vs H Q E h=>?_) (λ a0 A a2 s H vs Q E hr h=>?_)
 ·obtain ⟨l,p,C,t,c,ns,x,rfl,_⟩:=h;rfl
 ·obtain ⟨l,p,C,t,c,ns,x,rfl,O,L,rl,W,sa,q⟩:=h;refine ⟨_,(z04 (ps_ret (z18 (zmw hr) (zf2 (xs:=["number"]) (g:=gName 0) (fr:=[(1,"place"),(0,"some")]) rfl (z2o rfl (T.no (z6n _)) (z00 (z09 z1h rfl (T.no (n_len _)) X3 (z00 (pv 0) pa_nil)) pa_nil)) (by intro p o;simp only [B1,j0,or_false] at o;rcases o with rfl|rfl<;>first|exact ⟨rfl,.inl rfl⟩|exact ⟨rfl,.inr rfl⟩) (zlz (ns:=["place","some"]) (by decide +kernel) (by intro n u k;simp only [B1,j0,or_false] at u;rcases u with rfl|rfl<;>first|exact .inl rfl|exact .inr rfl)) (by intro p o;simp only [B1,j0,or_false] at o;rcases o with rfl|rfl<;>exact ⟨by decide +kernel,by first|exact .inl rfl|exact .inr rfl⟩) (by decide +kernel) rfl (by decide +kernel) (λ _ _ _ _ _=>(pg_cn (N:=["number","place","some"]) 0)) (λ _ _ _ _ _=>(pf_one (PW.pt (pw_and (z08 z9u (pe_ix (z8a (K:=KX w.params) rfl) (pe_ix (z8a (K:=KX w.params) rfl) (pv 2) (pv 0) (λ _ _=>rfl)) pe_int (λ _ _=>rfl)) pe_non (nomark _)) (zaj (z08 (z9x (K:=KX w.params) rfl) (pv 0) (pe_ix (z8a (K:=KX w.params) rfl) (pv 1) pe_int (λ _ _=>rfl)) (by with_unfolding_all rfl))))))) (λ _ _ _ _ _=>(pv 0))) (pe_lst pa_nil) (nomark _)))),?_⟩;have lz:t.length=c.length:=z03 L;refine sq_ret ?_;refine zh7 (S:=Same) (n:=t.length) (λ k=>((c[k]?.map λ r=>r.e.isSome).getD false) && !decide (k∈ns)) (λ k y _=>True) (Same.refl _) (λ _ _ _ a b=>a.trans b) (λ _ _=>Same.refl _) (λ _ _ _ _ _ z=>z) (λ R h=>⟨_,rfl,.inl ⟨l,t,rfl,.inl (SqL.of O),h⟩⟩) (A0 (m:=63) (by omega) (by decide)) (λ k F Z d KT KF v i=>?_) λ l7 Z us d X fa=>?_
  ·have I:k < c.length:=by omega
   obtain ⟨y,hy,M,rfl,ek⟩:=z0u L (B0 I);have B:c[k]? = some c[k]:=B0 I;generalize c[k]=r at *;rw [B] at v i;refine ⟨[some (.int (k:Nat))],rfl,rfl,?_⟩;refine ⟨_,rfl,_,rfl,.inl ⟨l,t,k,.ref M,rfl,rfl,SqL.of (d _ _ O),z06 hy,.inl ⟨M,_,6,endV r.e,rfl,rfl,SqL.of (d _ _ ek),z06 (j:=6) rfl,rfl,_,rfl,?_⟩⟩⟩;cases re:r.e with
   | none=>refine iteN (by show ¬ (!decide (V.non=V.non))=true;decide) (iteF (i ?_ _ (Same.refl _)));show (r.e.isSome && _)=false;rw [re];rfl
   | some e=>
    refine iteP rfl ?_;refine ⟨_,rfl,_,rfl,.inr (.inl ⟨p,_,0,.ref C,rfl,rfl,d.seqT W,z06 (j:=0) rfl,C,_,rfl,.inr (d.seqT sa),rfl,z4y _,_,rfl,?_⟩)⟩;rw [inV_ns];have v:=λ z=>v (show (r.e.isSome && _)=true from z);have i:=λ z=>i (show (r.e.isSome && _)=false from z);rw [re] at v i;cases hb:decide (k∈ns) with
    | true=>exact iteF (i (by rw [hb];rfl) _ (Same.refl _))
    | false=>exact iteT ⟨_,rfl,v (by rw [hb];rfl) _ _ (Same.refl _) trivial⟩
  ·refine ⟨w_0,λ Y G=>?_⟩;refine ⟨l7,Y,us,rfl,rfl,SqL.of ((Same.upd G) _ _ upd_same),SqL.of upd_same,q _ _ (d.trans ((Same.upd X).trans (Same.upd G))) ?_⟩;have D:=z03 fa;rw [decide_eq_true_iff];constructor
   ·intro e n r u U;rw [e] at D;have lf:=List.eq_nil_of_length_eq_zero D.symm;have a1:=(List.getElem?_eq_some_iff.mp u).1;have:=List.filter_eq_nil_iff.mp lf n (List.mem_range.mpr (by omega));rw [u] at this;have this:¬ (r.e.isSome && !decide (n∈ns))=true:=this;rw [U,E9] at this;by_cases z:n∈ns
    ·exact z
    ·exact absurd (by rw [decide_eq_false z];rfl) this
   ·intro f;refine List.eq_nil_of_length_eq_zero (D.trans ?_);rw [List.length_eq_zero_iff,List.filter_eq_nil_iff];intro k F z;rw [A2] at z;have F:=List.mem_range.mp F;have B:c[k]? = some c[k]:=B0 (by omega);rw [B] at z;have J:=z.2;rw [decide_eq_true (f k _ B z.1)] at J;cases J
def z35 (K:b0):Sp:=λ vs H Q _=>∃(t la p pt te:Addr) (zs:List V) (ts:zT) (rs:List Rc) (ps:List DD) (di:Nat) (os:List Int) (pl:Pl),vs=[.ref t,.ref la,.str "strict",.ref p]/\H t=some (.tup [.ref pt,.ref te])/\ThAt H pt ts/\ThW ts/\H la=some (.lst zs)/\All2 (ActAt H) rs zs/\All2 (RcGd K H ts) rs ps/\rs.length<=63/\DInv di rs os/\PlZ K H p pl/\PlOk ts rs.length pl.1.length pl/\
 ∀l ys H',Same H H'->H l=none->H' l=some (.lst ys)->All2 (StpZ K H') (nxT 0 ts rs ps pl) ys->Q (.ref l) H'
theorem z9t (T:TX (kx w) mg) (c0:Ca P w mg base "_law_may_be_next" ["some","strictness","done","number"] 2 (z1w (kx w))) (c1:Ca P w mg base "_law_applied" ["things","states","own"] 2 (z23 (kx w))):Fo P w mg base CX0 3 431 y15 ["tale","some","strictness","place"] (z35 (kx w)):=by
 refine (z49 w.params).ok sc__law_nexts (λ M H Q E h=>?_) (λ d6 A d3 s H M Q E hr h=>?_)
 ·obtain ⟨t,B,p,pt,te,D,ts,l,ps,di,os,pl,rfl,_⟩:=h;rfl
 ·obtain ⟨t,B,p,pt,te,D,ts,l,ps,di,os,⟨u,C⟩,rfl,et,th,ok,el,W,gd,rl,DI,⟨F,I,M,sp,L,sb,sz⟩,N,q⟩:=h;refine ⟨_,(z02 (ps_set (i:=4) sc__law_nexts.nd rfl (U0 rfl) (pe_lst pa_nil))
   (z02 (ps_asg (pv 3) (pg_tup rfl (z0d (z0g (i:=5) sc__law_nexts.nd rfl (U0 rfl)) (z0d (z0g (i:=6) sc__law_nexts.nd rfl (U0 rfl)) z0x))))
   (z02 (ps_for K1 rfl (z2o rfl (T.no (z6n _)) (z00 (z09 z1h rfl (T.no (n_len _)) X3 (z00 (pv 1) pa_nil)) pa_nil)) (z0g (i:=7) sc__law_nexts.nd rfl (U0 rfl))
   (z04 (ps_if (pt_val (pe_cal c0 (hr.mono (by decide)) rfl (z00 (pv 1) (z00 (pv 2) (z00 (pv 5) (z00 (pv 7) pa_nil))))) (λ _=>rfl))
   (z02 (ps_set (i:=8) sc__law_nexts.nd rfl (U0 rfl) (pe_lst (z00 (pe_ix ix_seq (pe_ix ix_seq (pv 1) (pv 7) (λ _ _=>rfl)) pe_int (λ _ _=>rfl)) (z00 (pe_ix ix_seq (pe_ix ix_seq (pv 1) (pv 7) (λ _ _=>rfl)) pe_int (λ _ _=>rfl)) (z00 (pe_ix ix_seq (pe_ix ix_seq (pv 1) (pv 7) (λ _ _=>rfl)) pe_int (λ _ _=>rfl)) (z00 pe_non pa_nil))))))
   (z02 (ps_set (i:=9) sc__law_nexts.nd rfl (U0 rfl) (pe_cal c1 (hr.mono (by decide)) rfl (z00 (pJ 0) (z00 (pv 6) (z00 (pv 8) pa_nil)))))
   (z04 (ps_if (PW.pt (pw_or (z08 op_isN (pe_ix ix_seq (pe_ix ix_seq (pv 1) (pv 7) (λ _ _=>rfl)) pe_int (λ _ _=>rfl)) pe_non (nomark _)) (pw_or1 (z08 opEq (pJ 8) (pe_ix ix_seq (pe_ix ix_seq (pv 1) (pv 7) (λ _ _=>rfl)) pe_int (λ _ _=>rfl)) (nomark _)))))
   (z04 (z2b (z14 (pv 4) (z00 (pe_tup (z00 (pv 7) (z00 (pJ 8) (z00 (pe_tup (z00 (z0t z0j rfl (T.no (z2u _)) E4 (z00 (z09 z19 rfl (T.no (z22 _)) Y4 (z00 (pe_op op_catS (pv 5) (pe_tup (z00 (pv 7) pa_nil))) pa_nil)) pa_nil)) (z00 (pv 9) pa_nil))) pa_nil)))) pa_nil))))
   z0e))))
   z0e)))
   (z04 (ps_ret (pv 4)))))),?_⟩
  have lz:D.length=l.length:=z03 W;have L:SqT (kx w) H F (nsV u):=L;have sz:All2 (StZ (kx w) H) C M:=sz;have c5 :∀n,cM 0 l u n=cP 0 l u n:=λ n=>cM_cP DI N.lt;refine ⟨w_0,λ lt a3=>?_⟩;obtain ⟨H1,v1,Z,e1⟩:=new1 (.lst []) a3;rw [<-v1];refine g_name (t_nx ?_);refine ⟨_,rfl,p,_,rfl,Z.seqT sp,rfl,.ref F,_,rfl,.ref I,_,rfl,rfl,t_nx ?_⟩;refine ⟨_,rfl,.inl ⟨B,D,rfl,.inl (SqL.of (Z _ _ el)),D.length,rfl,by omega,by omega,?_⟩⟩;refine z3q (lo:=0) (n:=D.length) (λ i σ f=>∃ys,Same H f/\f lt=some (.lst ys)/\All2 (StpZ (kx w) f) (nexT (cP 0 l u) ts l ps (u,C) i) ys/\∃x7 x8 x9,σ=[some (.ref t),some (.ref B),some (.str "strict"),some (.ref p),some (.ref lt),some (.ref F),some (.ref I),x7,x8,x9]) ⟨[],Z,e1,.nil,_,_,_,rfl⟩ ?_ ?_
  ·rintro j σ H7 hj ⟨ys,s7,e7,al7,x7,x8,x9,rfl⟩;rw [g7];refine g_name ?_;have a2:j < l.length:=by omega
   have J:l[j]? = some l[j]:=B0 a2;obtain ⟨y,hy,pk,rfl,ek⟩:=z0u W J;obtain ⟨d,a6,a5⟩:=z0u gd J;generalize l[j]=r at J ek a5;have skip:cP 0 l u j=false\/stp ts r d j (u,C)=none->∀{y8 y9:Option V} {f:Hp},Same H7 f->∃ys,Same H f/\f lt=some (.lst ys)/\All2 (StpZ (kx w) f) (nexT (cP 0 l u) ts l ps (u,C) (j + 1)) ys/\∃x7 x8 x9,[some (.ref t),some (.ref B),some (.str "strict"),some (.ref p),some (.ref lt),some (.ref F),some (.ref I),some (.int (j:Nat)),y8,y9]=[some (.ref t),some (.ref B),some (.str "strict"),some (.ref p),some (.ref lt),some (.ref F),some (.ref I),x7,x8,x9]:=λ h {y8 y9 f} G=>by refine ⟨ys,s7.trans G,G _ _ e7,?_,_,_,_,rfl⟩;rw [z4p,zfq J a6 h,m9,N2];exact z01 (λ _ _ z=>StpZ.tups (.of G) z) al7
   refine z3z ⟨_,rfl,_,rfl,_,rfl,_,rfl,B,F,D,l,u,j,rfl,s7 _ _ el,z01 (λ _ _ z=>z.same s7) W,rl,s7.seqT L,N.lt,a2,_,rfl,?_⟩;rw [c5];cases hc:cP 0 l u j with
   | false=>exact iteF (skip (.inl hc) (Same.refl _))
   | true=>
   refine iteT ?_;have c4:=cP_no hc;obtain ⟨g1,g2,hm,dk,ix,wi,ga⟩:=a5;rw [g1,g2] at ek;have K :∀{f:Hp} {R:VK} {x8 x9:Option V} {i:Nat} {v:V},Same H f->([.int r.h,.str d.nm,.str d.vb,r.x,r.a,.int r.b,endV r.e]:List V)[i]? = some v->R v f->tOp (rIx (kx w)) (tOp (rIx (kx w)) (tVar 1) (tVar 7)) (tC (.int i)) [some (.ref t),some (.ref B),some (.str "strict"),some (.ref p),some (.ref lt),some (.ref F),some (.ref I),some (.int (j:Nat)),x8,x9] f R:=λ G hi h=>⟨_,rfl,_,rfl,.inl ⟨B,D,j,.ref pk,rfl,rfl,SqL.of (G _ _ el),z06 hy,.inl ⟨pk,_,_,_,rfl,rfl,SqL.of (G _ _ ek),z06 hi,h⟩⟩⟩
   refine K (i:=1) s7 rfl (K (i:=2) s7 rfl (K (i:=3) s7 rfl ⟨w_4,λ oa a9=>?_⟩));obtain ⟨H8,v8,q8,e8⟩:=new1 (.lst [.str d.nm,.str d.vb,r.x,.non]) a9;rw [<-v8];refine g_name (t_nx ?_);have s8:=s7.trans q8;have S:Tt (kx w) H H8:=.of s8;obtain ⟨a4,c9⟩:=N.n63 rl a2 c4;refine ⟨_,rfl,.inr (.inl ⟨t,_,0,.ref pt,rfl,rfl,SqT.of (s8 _ _ et),z06 (j:=0) rfl,_,rfl,_,rfl,?_⟩)⟩;refine ⟨pt,I,oa,ts,_,C,d.nm,d.vb,r.x,.non,d.k,d.dt,rfl,th.tt S,ok,⟨M,s8.seqT sb,z01 (λ _ _ z=>StZ.tups S.t z) sz,N.so⟩,a4,e8,hm,dk,IsDt.mono' S.t _ _ ix,wi.tt S,λ p9 H9 X c3 k9 e9 b9 so=>?_⟩;refine g_name (t_nx ?_);have O:Same H7 H9:=λ c o e=>k9 c o (λ z=>by rw [List.mem_singleton.mp z,a9] at e;cases e) (q8 c o e);have s9:=s7.trans O;have d2:=dz_ok dk so a4;have U:=stp_of (ts:=ts) (r:=r) (n:=j) (pl:=(u,C)) c3;refine if_any (λ f=>H9=f/\stp ts r d j (u,C)=some (stq ts d j (u,C) X)) ?_ λ put=>?_;rotate_left
   ·refine t_or (K (i:=6) s9 rfl ⟨rfl,_,rfl,?_⟩);cases re:r.e with
    | none=>refine iteP rfl (iteT (put _ ⟨rfl,?_⟩));rw [U,re];rfl
    | some e=>
    refine iteN (by simp [endV]) ?_;have rA:IsA r.a:=by
     rcases ga with ⟨g,_⟩|⟨_,g⟩
     ·rw [re] at g;cases g
     ·exact g
    refine ⟨_,rfl,.inl ⟨oa,_,3,_,rfl,rfl,SqL.of e9,z06 (j:=3) rfl,K (i:=4) s9 rfl ⟨IsA.scal (.inl d2.2.isA) (.inl rA),_,rfl,?_⟩⟩⟩;by_cases za:(dz d.k d.vb d.dt X).2=r.a
    ·refine iteP (decide_eq_true za) (put _ ⟨rfl,?_⟩);rw [U,decide_eq_true za,Bool.or_true];rfl
    ·refine iteN (λ h=>za (of_decide_eq_true h)) (skip (.inr ?_) O);rw [U,re,decide_eq_false za];rfl
   rintro f ⟨rfl,hst⟩;refine ⟨_,rfl,.inl ⟨rfl,_,SqL.of (O _ _ e7)⟩,_,rfl,_,rfl,.inl ⟨oa,_,3,_,rfl,rfl,SqL.of e9,z06 (j:=3) rfl,?_⟩⟩;refine zbu (tup2 (srt_in (n:=j) (λ R h=>⟨_,rfl,h⟩) (λ R h=>⟨_,rfl,h⟩) (s9.seqT L) c9 λ b4 d5 d0 c2=>⟨_,rfl,w_2,λ b5 c7=>?_⟩));obtain ⟨d4,c8,a8,d1⟩:=new1 (.tup [.ref b4,.ref p9]) c7;rw [<-c8];refine ⟨w_3,λ b6 c6=>?_⟩;obtain ⟨a7,b3,Y,b2⟩:=new1 (.tup [.int (j:Nat),(dz d.k d.vb d.dt X).2,.ref b5]) c6;rw [<-b3];have a1:=(d0.trans a8).trans Y;have a0:=O.trans a1;have b0:=a0 _ _ e7;have yl:ys.length<=j:=by rw [z03 al7];exact zcl
   refine ⟨lt,ys,_,rfl,rfl,b0,A1 (m:=100) (by omega) (by decide),?_⟩;have tu:Tups (kx w) a7 (upd a7 lt (.lst (ys++[.ref b6]))):=Tups.lst b0;refine ⟨ys++[.ref b6],Same.keep (s7.trans a0) a3,upd_same,?_,_,_,_,rfl⟩;rw [z4p,zga J a6 hc hst];obtain ⟨b7,b1,b8,_⟩:=b9;exact zbq (z01 (λ _ _ z=>(StpZ.tups (.of a0) z).tups tu) al7) (.cons (StpZ.tups tu ⟨b6,b5,rfl,SqT.of b2,b4,p9,b7,SqT.of (Y _ _ d1),SqT.of ((a8.trans Y) _ _ c2),a1.seqT b1,z01 (λ _ _ z=>StZ.tups (.of a1) z) b8⟩) .nil)
  ·rintro σ H7 ⟨ys,s7,e7,al7,x7,x8,x9,rfl⟩;rw [lz] at al7;exact ⟨_,rfl,q _ _ _ s7 a3 e7 al7⟩
def PzAt (K:b0) (H:Hp) (pl:Pl) (y:V):Prop:=∃p,y=.ref p/\PlZ K H p pl
theorem PzAt.same {K:b0} {H H':Hp} {pl:Pl} {y:V} (s:Same H H') (h:PzAt K H pl y):PzAt K H' pl y:=h.elim λ p z=>⟨p,z.1,z.2.tups (.of s)⟩
def Com (ts:zT) (rs:List Rc) (ps:List DD) (pl:Pl):Prop:=∃o,Wk 0 ts rs ps o pl
def z2i (K:b0):Sp:=λ vs H Q _=>∃(t:Addr) (ts:zT) (es:List Ev) (ps:List DD),vs=[.ref t,.str "strict"]/\TlP K H t ts es ps/\
 ∀d ks H',Same H H'->H d=none->H' d=some (NsO d ks)->ks.length<=1000->KeyI K H' (Com ts (dAll 0 [] es) ps) ks->(∀pl,Com ts (dAll 0 [] es) ps pl->plD pl∈ks.map (·.1))->Q (.ref d) H'
theorem z9p (T:TX (kx w) mg) (c0:Ca P w mg base "_law_deeds" ["tale"] 1 (z1g (kx w))) (c1:Ca P w mg base "_law_first" ["things"] 1 (z3l (kx w))) (c2:Ca P w mg base "_law_nexts" ["tale","some","strictness","place"] 3 (z35 (kx w))):Fo P w mg base CX0 4 443 y0s ["tale","strictness"] (z2i (kx w)):=by
 refine (z3k w.params).ok sc__law_places (λ vs H Q E h=>?_) (λ f7 A f3 s H vs Q E F h=>?_)
 ·obtain ⟨t,ts,es,ps,rfl,_⟩:=h;rfl
 ·obtain ⟨t,ts,es,ps,rfl,⟨ta,ok,d2,wf,gd,rl⟩,q⟩:=h;refine ⟨_,(z02 (ps_set (i:=2) sc__law_places.nd rfl (U0 rfl) (pe_cal c0 (F.mono (by decide)) rfl (z00 (pv 0) pa_nil)))
   (z02 (ps_set (i:=3) sc__law_places.nd rfl (U0 rfl) (pe_tup (z00 (pe_tup pa_nil) (z00 (pe_cal c1 (F.mono (by decide)) rfl (z00 (pJ 0) pa_nil)) pa_nil))))
   (z02 (ps_set (i:=4) sc__law_places.nd rfl (U0 rfl) (zjq F (pv 3) pe_bl))
   (z02 (ps_set (i:=5) sc__law_places.nd rfl (U0 rfl) (pe_lst (z00 (pv 3) pa_nil)))
   (z02 (zfk K1 (z08 (zgm F) (pv 5) (pe_lst pa_nil) (nomark _))
   (z04 (ps_for K1 rfl (z17 (pe_cal c2 (F.mono (by decide)) rfl (z00 (pv 0) (z00 (pv 2) (z00 (pv 1) (z00 (zn5 (pv 5)) pa_nil)))))) (pg_tup rfl (z0d (z0g (i:=6) sc__law_places.nd rfl (U0 rfl)) (z0d (z0g (i:=7) sc__law_places.nd rfl (U0 rfl)) (z0d (z0g (i:=8) sc__law_places.nd rfl (U0 rfl)) z0x))))
   (z04 (ps_if (z08 (zig F) (pv 8) (pv 4) (by with_unfolding_all rfl))
   (z02 (zfg F (pv 4) (pv 8) pe_bl rfl)
   (z04 (z2b (z14 (pv 5) (z00 (pv 8) pa_nil)))))
   z0e)))))
   (z04 (ps_ret (pv 4)))))))),?_⟩
  obtain ⟨_,os,DI⟩:=DInv.all DInv.nil wf;refine z0k ⟨_,rfl,t,es,rfl,⟨ts,ta,d2,wf⟩,λ la zs H0 s0 el aa=>?_⟩;refine g_name ?_;obtain ⟨pt,te,ys,et,th,f6,al⟩:=ta;generalize dAll 0 [] es=rs at gd rl DI aa q;refine z0k ?_;refine ⟨w_0,λ a0 c9=>?_⟩;obtain ⟨Ha,va,sa,ea⟩:=new1 (.tup []) c9;rw [<-va];have b1:=s0.trans sa;refine ⟨_,rfl,.inr (.inl ⟨t,_,0,.ref pt,rfl,rfl,SqT.of (b1 _ _ et),z06 (j:=0) rfl,pt,ts,rfl,th.tt (.of (K:=KX w.params) b1),ok.n6,λ pb Hb sb zb=>?_⟩)⟩;refine ⟨w_2,λ r e6=>?_⟩;obtain ⟨J,v1,s1,e1⟩:=new1 (.tup [.ref a0,.ref pb]) e6;rw [<-v1];refine g_name ?_;have Y:=sb.trans s1;have O:=b1.trans Y;obtain ⟨d8,q0,z0,_⟩:=zb.stz (K:=KX w.params);have b2:PlZ (kx w) J r ([],ts.map λ t=>zeroK t.2):=⟨a0,pb,d8,SqT.of e1,SqT.of (Y _ _ ea),s1.seqT q0,z01 (λ _ _ z=>StZ.tups (.of s1) z) z0⟩
  have d1:=(sa.trans Y) _ _ el;have e4:=z01 (λ _ _ z=>z.same (sa.trans Y)) aa;have c5:=z01 (λ _ _ z=>RcGd.tt (.of O) z) gd;have e7:=th.tt (.of (K:=KX w.params) O);have e0:=O _ _ et;clear el aa th et gd;refine z0k ?_;intro c a4;obtain ⟨H2,v2,s2,e2⟩:=new1 (NsO c []) a4;rw [<-v2];have e5:IsPd (kx w) H2 (plD ([],ts.map λ t=>zeroK t.2)) (.ref r):=plz_pd (b2.tups (.of s2));refine ⟨_,rfl,r,_,rfl,rfl,e2,pl_key _,pl_dep _,e5,?_⟩;refine g_name ?_;have e3:upd H2 c (NsO c [(plD ([],ts.map λ t=>zeroK t.2),r)]) c=some (NsO c [(plD ([],ts.map λ t=>zeroK t.2),r)]):=upd_same;have s3:Same J (upd H2 c (NsO c [(plD ([],ts.map λ t=>zeroK t.2),r)])):=Same.keep s2 a4;generalize upd H2 c (NsO c [(plD ([],ts.map λ t=>zeroK t.2),r)])=H3 at e3 s3⊢;refine z0k ⟨_,rfl,w_1,λ l V=>?_⟩;refine g_name ?_;have f1:J l=none:=s3.free V;have a5:c≠l:=λ z=>by rw [<-z,e3] at V;cases V
  have g3:=(Same.upd (o:=.lst [.ref r]) V) _ _ e3;have g2:=upd_same (H:=H3) (a:=l) (o:=.lst [.ref r]);have v:=zfh a4 f1 (s3.trans (Same.upd (o:=.lst [.ref r]) V));generalize upd H3 l (.lst [.ref r])=D at g3 g2 v⊢;refine zfw (zdi (λ k σ n=>∃ks zw ws,∃vis:List Pl,∃x6 x7 x8,k=wkP rs.length ws/\Same J (hid2 c l n)/\n c=some (NsO c ks)/\n l=some (.lst zw)/\KeyI (kx w) (hid2 c l n) (λ f=>f∈vis\/f∈ws) ks/\All2 (PzAt (kx w) (hid2 c l n)) ws zw/\(∀f∈ws,PlOk ts rs.length f.1.length f/\Com ts rs ps f)/\(∀f∈vis,Com ts rs ps f/\∀s∈nxT 0 ts rs ps f,plD s.2.2∈ks.map (·.1))/\plD ([],ts.map λ t=>zeroK t.2)∈ks.map (·.1)/\ks.length + wkP rs.length ws<=652/\σ=[some (.ref t),some (.str "strict"),some (.ref la),some (.ref r),some (.ref c),some (.ref l),x6,x7,x8])
   (λ k σ n=>∃ks zw y ws f,∃vis:List Pl,∃x6 x7 x8,k=wkP rs.length (ws++[f])/\Same J (hid2 c l n)/\n c=some (NsO c ks)/\n l=some (.lst (zw++[y]))/\KeyI (kx w) (hid2 c l n) (λ a=>a∈vis\/a∈ws++[f]) ks/\All2 (PzAt (kx w) (hid2 c l n)) ws zw/\PzAt (kx w) (hid2 c l n) f y/\(∀a∈ws++[f],PlOk ts rs.length a.1.length a/\Com ts rs ps a)/\(∀f∈vis,Com ts rs ps f/\∀s∈nxT 0 ts rs ps f,plD s.2.2∈ks.map (·.1))/\plD ([],ts.map λ t=>zeroK t.2)∈ks.map (·.1)/\ks.length + wkP rs.length (ws++[f])<=652/\σ=[some (.ref t),some (.str "strict"),some (.ref la),some (.ref r),some (.ref c),some (.ref l),x6,x7,x8])
   (wkP rs.length [([],ts.map λ t=>zeroK t.2)]) ⟨[(plD ([],ts.map λ t=>zeroK t.2),r)],[.ref r],[([],ts.map λ t=>zeroK t.2)],[],_,_,_,rfl,v,g3,g2,λ k hk=>?_,.cons ⟨r,rfl,b2.tups (.of v)⟩ .nil,λ f hp=>by rw [List.mem_singleton.mp hp];exact ⟨z9m ts _,[],.nil⟩,λ _ h=>absurd h j0,List.mem_singleton.mpr rfl,by show 1 + wkP rs.length [([],ts.map λ t=>zeroK t.2)]<=652;rw [zd1];have:=wkN_5 (A0 (Nat.sub_le rs.length 0) rl);show 1 + wkN (rs.length - 0)<=652;omega,rfl⟩ ?_ ?_)
  ·rw [List.mem_singleton.mp hk];exact ⟨_,rfl,b2.tups (.of v),.inr (List.mem_singleton.mpr rfl)⟩
  ·rintro k σ D ⟨ks,zw,y,ws,f,vis,x6,x7,x8,rfl,v,es4,ew4,ki,aw,⟨p,rfl,pz⟩,L,lk,fv,kw,rfl⟩;obtain ⟨Z,M⟩:=L _ (List.mem_append.mpr (.inr (List.mem_singleton.mpr rfl)));have L :∀a∈ws,PlOk ts rs.length a.1.length a/\Com ts rs ps a:=λ a R=>L a (List.mem_append.mpr (.inl R));have mm :∀{a:Pl},a∈vis\/a∈ws++[f]->a∈f :: vis\/a∈ws:=λ {a} h=>by
    rcases h with h|h
    ·exact .inl (V0 _ h)
    ·rcases List.mem_append.mp h with h|h
     ·exact .inr h
     ·rw [List.mem_singleton.mp h];exact .inl L0
   refine ⟨_,rfl,_,rfl,_,rfl,_,rfl,.inl ⟨rfl,_,SqL.of ew4⟩,l,zw++[.ref p],.ref p,rfl,rfl,ew4,by simp,?_⟩;rw [List.dropLast_concat];have h5:hid2 c l (upd D l (.lst zw))=hid2 c l D:=hid2_b;have a8:upd D l (.lst zw) c=some (NsO c ks):=by rw [upd_ne a5];exact es4
   have a7:upd D l (.lst zw) l=some (.lst zw):=upd_same;generalize upd D l (.lst zw)=H5 at h5 a8 a7⊢;rw [<-h5] at v ki aw pz;have U:Same J H5:=v.trans z0m;refine ⟨t,la,p,pt,te,zs,ts,rs,ps,_,os,f,rfl,U _ _ e0,e7.tt (.of (K:=KX w.params) U),ok,U _ _ d1,z01 (λ _ _ z=>z.same U) e4,z01 (λ _ _ z=>RcGd.tt (.of U) z) c5,by omega,DI,pz.tups (.of z0m),Z,λ l7 W H7 s7 X c7 a9=>⟨l7,rfl,⟨_,SqL.of c7⟩,?_⟩⟩;have c3:=s7 _ _ a8;have b6:=s7 _ _ a7;have a6:Same (hid2 c l H5) (hid2 c l H7):=z1u s7;have d0:l7≠c:=λ z=>by rw [z,a8] at X;cases X
   have d3:l7≠l:=λ z=>by rw [z,a7] at X;cases X
   have d7:=z01 (λ _ _ z=>StpZ.tups (zjj c3 b6) z) a9;have nx:=zao c5 ok Z (by omega) (m:=0);have f5:=zj8 (m:=0) (ts:=ts) (ps:=ps) Z.nd Z.lt;have e8:W.length<=rs.length - f.1.length:=by rw [z03 a9];show (nexT (cP 0 rs f.1) ts rs ps f rs.length).length<=_;omega
   have c4:wkN (rs.length - f.1.length - 1)<=651:=wkN_5 (by omega);have d5:wkP rs.length (ws++[f])=wkP rs.length ws + wkN (rs.length - f.1.length):=by rw [zgo,zd1]
   refine z2e (K:=KX w.params) (a:=l7) (xs:=W) (λ j σ n=>∃ks' zs' ws' jj,jj<=j/\Same (hid2 c l H7) (hid2 c l n)/\n c=some (NsO c ks')/\n l=some (.lst zs')/\KeyI (kx w) (hid2 c l n) (λ a=>a∈f :: vis\/a∈ws') ks'/\All2 (PzAt (kx w) (hid2 c l n)) ws' zs'/\(∀a∈ws',PlOk ts rs.length a.1.length a/\Com ts rs ps a)/\(∀d∈ks.map (·.1),d∈ks'.map (·.1))/\(∀s∈(nxT 0 ts rs ps f).take j,plD s.2.2∈ks'.map (·.1))/\ks'.length<=ks.length + jj/\wkP rs.length ws'=wkP rs.length ws + jj * wkN (rs.length - f.1.length - 1)/\∃x6 x7 x8,σ=[some (.ref t),some (.str "strict"),some (.ref la),some (.ref r),some (.ref c),some (.ref l),x6,x7,x8])
    ⟨ks,zw,ws,0,t0 _,Same.refl _,c3,b6,(ki.same a6).mono λ a h=>mm h,z01 (λ _ _ z=>z.same a6) aw,L,λ _ h=>h,λ _ h=>absurd h (by rw [S3];exact j0),t0 _,by rw [Nat.zero_mul];rfl,_,_,_,rfl⟩ (λ j σ n _ h=>?_) ?_ ?_
   ·obtain ⟨_,_,_,_,_,h,_⟩:=h;exact SqL.of (z0m _ _ (h _ _ (z60 d0 d3 c7)))
   ·rintro j y σ I hy ⟨ks',zs',ws',jj,lj,s8,es8,ew8,ki8,aw8,po8,ko8,pr8,kl8,wk8,x6,x7,x8,rfl⟩;have jl:j < W.length:=(List.getElem?_eq_some_iff.mp hy).1;obtain ⟨u,b3,b9,x,rfl,c8,d9⟩:=z0f d7 hy;have b4:u∈nxT 0 ts rs ps f:=G0 b3;have b7:=nx u b4;have tk :∀s∈(nxT 0 ts rs ps f).take (j + 1),s∈(nxT 0 ts rs ps f).take j\/s=u:=λ s B=>by
     rw [P3,b3] at B;rcases List.mem_append.mp B with z|z
     ·exact .inl z
     ·exact .inr (List.mem_singleton.mp z)
    have d6:Same (hid2 c l H7) I:=s8.trans z0m;have a3:=d9.tups (.of s8);have f2:jj * wkN (rs.length - f.1.length - 1)<=5 * 651:=j22 (by omega) c4;have zl:zs'.length < 10000:=by have h1:=zk6 (N:=rs.length) ws';rw [z03 aw8];omega
    refine ⟨b9,_,rfl,d6.seqT c8,rfl,_,_,rfl,_,_,rfl,_,_,rfl,rfl,?_⟩;have b8:=(ki8.same z0m).at_ (.inl es8);have c6:=plz_pd (a3.tups (.of z0m));refine z3z ⟨_,rfl,_,rfl,c,x,ks',plD u.2.2,rfl,rfl,b8,pl_key _,pl_dep _,c6,_,rfl,?_⟩;refine ite2 (λ _=>?_) λ f0=>⟨ks',zs',ws',jj,by omega,s8,es8,ew8,ki8,aw8,po8,ko8,λ s B=>?_,kl8,wk8,_,_,_,rfl⟩
    rotate_left
    ·rcases tk s B with z|z
     ·exact pr8 s z
     ·rw [z];by_cases C:plD u.2.2∈ks'.map (·.1)
      ·exact C
      ·exact absurd (by rw [decide_eq_false C];rfl) f0
    refine ⟨_,rfl,_,rfl,c,x,ks',plD u.2.2,rfl,rfl,rfl,es8,b8,A1 kl8 (F1 (m:=1000) (by omega) (by decide)),pl_key _,pl_dep _,c6,t_nx ?_⟩;have h9:hid2 c l (upd I c (NsO c (putN ks' (plD u.2.2) x)))=hid2 c l I:=hid2_a;have b5:upd I c (NsO c (putN ks' (plD u.2.2) x)) c=some (NsO c (putN ks' (plD u.2.2) x)):=upd_same;have b0:upd I c (NsO c (putN ks' (plD u.2.2) x)) l=some (.lst zs'):=by rw [upd_ne a5.symm];exact ew8
    generalize upd I c (NsO c (putN ks' (plD u.2.2) x))=H9 at h9 b5 b0⊢;rw [<-h9] at s8 ki8 aw8 a3;refine ⟨_,rfl,.inl ⟨rfl,_,SqL.of b0⟩,_,rfl,l,zs',_,rfl,rfl,b0,F1 zl (by decide),?_⟩;refine ⟨putN ks' (plD u.2.2) x,zs'++[.ref x],ws'++[u.2.2],jj + 1,by omega,by rw [hid2_b];exact s8,by rw [upd_ne a5];exact b5,upd_same,?_,?_,λ a R=>?_,λ d hd=>z7g (ko8 d hd),λ s B=>?_,A0 z98 (by omega),?_,_,_,_,rfl⟩
    ·rw [hid2_b];exact (ki8.mono λ a h=>h.imp id λ z=>List.mem_append.mpr (.inl z)).put a3 (.inr (List.mem_append.mpr (.inr (List.mem_singleton.mpr rfl))))
    ·rw [hid2_b];exact z1d aw8 ⟨x,rfl,a3⟩
    ·rcases List.mem_append.mp R with z|z
     ·exact po8 a z
     ·rw [List.mem_singleton.mp z];exact ⟨b7.1,M.elim λ o z=>⟨_,.snoc z b4⟩⟩
    ·rcases tk s B with z|z
     ·exact z7g (pr8 s z)
     ·rw [z];exact z8s
    ·rw [zgo,wk8,Nat.succ_mul,zd1,b7.2,show rs.length - (f.1.length + 1)=rs.length - f.1.length - 1 by omega];omega
   ·rintro σ I ⟨ks',zs',ws',jj,lj,s8,es8,ew8,ki8,aw8,po8,ko8,pr8,kl8,wk8,x6,x7,x8,rfl⟩;have u:=zmb (A0 lj e8);rw [show W.length=(nxT 0 ts rs ps f).length from z03 a9,K3] at pr8;refine ⟨wkP rs.length ws',by rw [d5,wk8];omega,ks',zs',ws',f :: vis,_,_,_,rfl,(v.trans a6).trans s8,es8,ew8,ki8,aw8,po8,λ a R=>?_,ko8 _ fv,by rw [wk8];omega,rfl⟩;rcases List.mem_cons.mp R with z|z
    ·rw [z];exact ⟨M,pr8⟩
    ·exact ⟨(lk a z).1,λ s B=>ko8 _ ((lk a z).2 s B)⟩
  ·rintro k σ D ⟨ks,zw,ws,vis,x6,x7,x8,rfl,v,es4,ew4,ki,aw,L,lk,fv,kw,rfl⟩ body;refine ⟨_,rfl,w_0,λ l9 d4=>?_⟩;obtain ⟨H9,v9,S,e9⟩:=new1 (.lst []) d4;rw [<-v9];have C:=z1u (a:=c) (b:=l) S;refine ⟨l,l9,zw,rfl,rfl,SqL.of (S _ _ ew4),SqL.of e9,_,rfl,?_⟩;by_cases hz:zw=[]
   ·refine iteN (by rw [hz];decide) ?_;subst hz;cases aw;have kc:KeyI (kx w) H9 (Com ts rs ps) ks:=(((ki.same C).same z0m).mono λ a h=>(lk a (h.resolve_right j0)).1)
    refine ⟨_,rfl,q c ks H9 (O.trans ((v.trans C).trans z0m)) (O.free a4) (S _ _ es4) (by omega) kc λ f M=>?_⟩;obtain ⟨o,M⟩:=M;refine z4q (G:=λ f=>plD f∈ks.map (·.1)) fv (λ f hp s B=>?_) M;obtain ⟨k,hk,e⟩:=List.mem_map.mp hp;obtain ⟨f4,e',_,g⟩:=ki k hk;have:=zbf (e.symm.trans e');subst this;exact (lk f (g.resolve_right j0)).2 s B
   ·refine iteP (decide_eq_true hz) ?_;have ez:=(T4 hz).symm;rw [ez] at aw ew4;obtain ⟨wr,q0,rfl,a1,a2⟩:=zjh aw;exact body _ ⟨ks,_,_,wr,q0,vis,x6,x7,x8,rfl,v.trans C,S _ _ es4,S _ _ ew4,ki.same C,z01 (λ _ _ z=>z.same C) a1,a2.same C,L,lk,fv,kw,rfl⟩
theorem zh3 {K:b0} {H:Hp} {a:Addr} {o:HO} {f:Heap->Prop} (e:H a=some (.ext f)):Tups K H (upd H a o):=λ p b h=>by
 rcases h with (h|⟨ob,h⟩)|h
 ·exact .inl (.inl (by rw [upd_ne (λ z=>by rw [z,e] at h;cases h)];exact h))
 ·exact .inl (.inr ⟨ob,by rw [upd_ne (λ z=>by rw [z,e] at h;cases h)];exact h⟩)
 ·exact .inr h
noncomputable def fullK (rs:List Rc) (ks:zQ) (i:Nat):Bool:=(ks[i]?.map λ k=>@decide (∃pl,k.1=plD pl/\FullP rs pl) (N3 _)).getD false
theorem zcm {rs:List Rc} {ks:zQ} {i:Nat} {k:PyData×Addr} {pl:Pl} (h:ks[i]? = some k) (e:k.1=plD pl):fullK rs ks i=true↔FullP rs pl:=by
 unfold fullK;rw [h];show @decide _ (N3 _)=true↔_;rw [@decide_eq_true_iff _ (N3 _)];constructor
 ·rintro ⟨pl',e',f⟩;rw [zbf (e.symm.trans e')];exact f
 ·exact λ f=>⟨pl,e,f⟩
def z3x (K:b0):Sp:=λ vs H Q _=>∃(t:Addr) (ts:zT) (es:List Ev) (ps:List DD),vs=[.ref t,.str "strict"]/\TlP K H t ts es ps/\∀b H',Same H H'->(b=true↔∃o pl,Wk 0 ts (dAll 0 [] es) ps o pl/\FullP (dAll 0 [] es) pl)->Q (.bl b) H'
theorem z7p (T:TX (kx w) mg) (c0:Ca P w mg base "_law_deeds" ["tale"] 1 (z1g (kx w))) (c1:Ca P w mg base "_law_places" ["tale","strictness"] 4 (z2i (kx w))) (c2:Ca P w mg base "_law_is_full" ["some","place"] 1 (z41 (kx w))):Fo P w mg base CX0 5 448 y0j ["tale","strictness"] (z3x (kx w)):=by
 refine (z2f w.params).ok sc__law_is_good (λ S H Q E h=>?_) (λ a2 A a3 s H S Q E D h=>?_)
 ·obtain ⟨t,r,m,C,rfl,_⟩:=h;rfl
 ·obtain ⟨t,r,m,C,rfl,tp,q⟩:=h;refine ⟨_,(z02 (ps_set (i:=2) sc__law_is_good.nd rfl (S0 rfl) (pe_cal c0 (D.mono (by decide)) rfl (z00 (pv 0) pa_nil)))
   (z04 (ps_ret (z18 (zgm D) (pe_cg (xs:=["place"]) (g:=gName 0) (fr:=[(2,"some")]) (zft (pe_cal c1 (D.mono (by decide)) rfl (z00 (pv 0) (z00 (pv 1) pa_nil)))) (λ _ _ _ _ _=>(pg_cn (N:=["place","some"]) 0)) (λ _ _ _ _ _=>(pf_one (pt_val (pe_cal c2 (D.mono (by decide)) rfl (z00 (pv 1) (z00 (pv 0) pa_nil))) (λ _=>rfl)))) (λ _ _ _ _ _=>(pv 0))) (pe_lst pa_nil) (nomark _))))),?_⟩
  refine z0k ⟨_,rfl,t,m,rfl,⟨r,tp.1,tp.2.2.1,tp.2.2.2.1⟩,λ la zs F U el aa=>?_⟩;refine g_name ?_;have a0:=tp.same U;have rl:=tp.2.2.2.2.2;refine sq_ret ?_;refine tcompN (λ a e j=>Same F j/\F a=none/\j a=some (NsO a e)/\e.length<=1000/\KeyI (kx w) j (Com r (dAll 0 [] m) C) e/\∀n,Com r (dAll 0 [] m) C n->plD n∈e.map (·.1)) (fullK (dAll 0 [] m)) (λ _ _ _=>True) (λ R h=>⟨_,rfl,_,rfl,t,r,m,C,rfl,a0,λ d e j u hd Z G x y=>h d e j ⟨u,hd,Z,G,x,y⟩⟩) (λ a e j h=>⟨h.2.2.1,A0 h.2.2.2.1 (by decide)⟩) ?_ ?_
  ·rintro a e j ob ⟨u,ha,ea,G,x,y⟩ i k p I s3 KT KF k1 k2;obtain ⟨n,v,⟨pa,pb,S,sp,sa,_⟩,_⟩:=x k (G0 p);have L:Same F I:=(Same.keep u ha).trans s3;have X:Tups (kx w) j I:=λ c xs z=>s3.seqT (zh3 ea _ _ z);refine ⟨[some (.ref k.2)],rfl,rfl,?_⟩;refine ⟨_,rfl,_,rfl,la,k.2,pa,zs,_,n.1,.ref pb,rfl,L _ _ el,z01 (λ _ _ z=>z.same L) aa,by omega,X _ _ sp,X _ _ sa,λ b H4 M Y=>⟨_,rfl,?_⟩⟩;have V:=zcm (rs:=dAll 0 [] m) p v;refine ite2 (λ h=>⟨_,rfl,k1 (V.mpr (Y.mp h)) _ _ M trivial⟩) λ h=>k2 ?_ _ M;cases hz:fullK (dAll 0 [] m) e i with
   | false=>rfl
   | true=>exact absurd (Y.mpr (V.mp hz)) h
  ·rintro a e j ob l I W ⟨u,ha,ea,G,x,y⟩ s3 hl fa;obtain ⟨H4,v4,q4,e4⟩:=new1 (.lst W) hl;rw [<-v4];refine ⟨w_0,λ l5 a1=>?_⟩;obtain ⟨H5,v5,O,e5⟩:=new1 (.lst []) a1;rw [<-v5];refine ⟨l,l5,W,rfl,rfl,SqL.of (O _ _ e4),SqL.of e5,q _ _ (U.trans (((Same.keep u ha).trans s3).trans (q4.trans O))) ?_⟩;have J:=z03 fa;rw [decide_eq_true_iff];constructor
   ·intro ne;have hp:0 < ((j1 e.length).filter (fullK (dAll 0 [] m) e)).length:=by rw [<-J];exact List.length_pos_iff.mpr ne
    obtain ⟨i,B⟩:=M6 hp;obtain ⟨h1,h2⟩:=List.mem_filter.mp B;have p:=B0 (List.mem_range.mp h1);obtain ⟨n,v,_,o,K⟩:=x _ (G0 p);exact ⟨o,n,K,(zcm p v).mp h2⟩
   ·rintro ⟨o,n,K,f⟩ z;rw [z] at J;obtain ⟨k,p,v⟩:=List.mem_map.mp (y n ⟨o,K⟩);obtain ⟨i,B⟩:=List.mem_iff_getElem?.mp p;have:=List.filter_eq_nil_iff.mp (List.eq_nil_of_length_eq_zero J.symm) i (List.mem_range.mpr (List.getElem?_eq_some_iff.mp B).1);exact this ((zcm B v).mpr f)
end
section
theorem cP_iff {m:Nat} {rs:List Rc} {ns:List Nat} {n:Nat}:cP m rs ns n=true↔n∉ns/\(∀a,z0i m rs a n=true->a∈ns)/\∀b,z0i m rs n b=true->b∉ns:=by unfold cP cO;simp only [A2,decide_eq_true_iff];exact ⟨λ h=>⟨h.1.1,λ a c=>h.1.2 a (List.mem_range.mpr (z2h c).1) c,λ b d=>h.2 b (List.mem_range.mpr (z2h d).2) d⟩,λ h=>⟨⟨h.1,λ a _ c=>h.2.1 a c⟩,λ b _ d=>h.2.2 b d⟩⟩
theorem mem_nx {m:Nat} {ts:zT} {rs:List Rc} {ps:List DD} {pl:Pl} {s:Stp}:s∈nxT m ts rs ps pl↔∃n r p,cP m rs pl.1 n=true/\rs[n]? = some r/\ps[n]? = some p/\stp ts r p n pl=some s:=by
 unfold nxT nexT;rw [G9];constructor
 ·rintro ⟨n,_,e⟩;unfold nexAt at e;split at e
  ·rename_i h;split at e
   ·rename_i r p hr hp;exact ⟨n,r,p,h,hr,hp,e⟩
   ·cases e
  ·cases e
 ·rintro ⟨n,r,p,h,hr,hp,e⟩;refine ⟨n,List.mem_range.mpr (List.getElem?_eq_some_iff.mp hr).1,?_⟩;unfold nexAt;rw [if_pos h,hr,hp];exact e
theorem stp_le {ts:zT} {r r':Rc} {p:DD} {n:Nat} {pl:Pl} {s:Stp} (h:r'.e=none\/r'=r) (e:stp ts r p n pl=some s):stp ts r' p n pl=some s:=by
 rcases h with h|h
 ·unfold stp at e⊢;rw [h];split at e
  ·split at e
   ·exact e
   ·cases e
  ·cases e
 ·rw [h];exact e
theorem stp_to {ts:zT} {r:Rc} {p:DD} {n:Nat} {pl:Pl} {s:Stp} (e:stp ts r p n pl=some s) :∀x,x∈s.2.2.1↔x∈pl.1\/x=n:=by
 unfold stp at e;split at e
 ·split at e
  ·cases e;intro x;show x∈srtN (pl.1++[n])↔_;rw [(z9i _).mem_iff,P6,List.mem_singleton]
  ·cases e
 ·cases e
end
section
theorem z6j {ts:zT} {r:Rc} {p:DD} {n:Nat} {pl:Pl} {s:Stp} (e:stp ts r p n pl=some s):s.1=n:=by
 unfold stp at e;split at e
 ·split at e
  ·cases e;rfl
  ·cases e
 ·cases e
theorem zk9 {m:Nat} {ts:zT} {rs:List Rc} {ps:List DD} {pl:Pl} {s s':Stp} (h:s∈nxT m ts rs ps pl) (h':s'∈nxT m ts rs ps pl) (e:s.1=s'.1):s=s':=by
 obtain ⟨n,r,p,_,g,f,b⟩:=mem_nx.mp h;obtain ⟨i,j,k,_,d,c,a⟩:=mem_nx.mp h';have:n=i:=by rw [<-z6j b,<-z6j a,e]
 subst this;rw [g] at d;cases d;rw [f] at c;cases c;rw [b] at a;exact P1 a
theorem wk_inv {m:Nat} {ts:zT} {rs:List Rc} {ps:List DD} {o:List Oa} {a:Oa} {pl:Pl} (h:Wk m ts rs ps (o++[a]) pl) :∃pl' s,Wk m ts rs ps o pl'/\s∈nxT m ts rs ps pl'/\a=(s.1,s.2.1)/\pl=s.2.2:=by
 generalize ho:o++[a]=o' at h;cases h with
 | nil=>exact absurd (congrArg S5 ho) (by simp)
 | @snoc o1 pl1 s w hs=>obtain ⟨c,b⟩:=List.append_inj' ho rfl;subst c;exact ⟨pl1,s,w,hs,List.singleton_inj.mp b,rfl⟩
theorem zdw {α:Type} {n:Nat} {l:List α} (h:l.length=n + 1) :∃r x,l=r++[x]/\r.length=n:=by
 have ne:l≠[]:=λ z=>by rw [z] at h;cases h
 refine ⟨l.dropLast,l.getLast ne,(T4 ne).symm,?_⟩;rw [j4a];omega
theorem zdq {m:Nat} {ts:zT} {rs:List Rc} {ps:List DD} :∀(n:Nat) {o o':List Oa} {pl pl':Pl},o.length=n->Wk m ts rs ps o pl->Wk m ts rs ps o' pl'->o.map (·.1)=o'.map (·.1)->pl=pl'
 | 0,o,o',pl,pl',hn,h,h',e=>by
  rw [List.eq_nil_of_length_eq_zero hn] at h e;have c:o'=[]:=by
   cases o' with
   | nil=>rfl
   | cons a r=>cases e
  rw [c] at h';have nil :∀{pl:Pl} {o:List Oa},Wk m ts rs ps o pl->o=[]->pl=([],ts.map λ t=>zeroK t.2):=λ h=>by
   cases h with
   | nil=>intro _;rfl
   | snoc _ _=>intro z;exact absurd (congrArg S5 z) (by simp)
  rw [nil h rfl,nil h' rfl]
 | n + 1,o,o',pl,pl',hn,h,h',e=>by
  obtain ⟨w,a,rfl,k⟩:=zdw hn;have g:o'.length=n + 1:=by have:=congrArg S5 e;rw [o0,o0] at this;omega
  obtain ⟨A,b,rfl,B⟩:=zdw g;rw [E1,E1] at e;obtain ⟨j,v⟩:=List.append_inj' e rfl;obtain ⟨y,s,p,d,i,rfl⟩:=wk_inv h;obtain ⟨x,u,f,q,l,rfl⟩:=wk_inv h';have:=zdq n k p f j;subst this;have:s.1=u.1:=by have:=List.singleton_inj.mp v;rw [i,l] at this;exact this
  rw [zk9 d q this]
theorem wk_at {m:Nat} {ts:zT} {rs:List Rc} {ps:List DD} :∀(n:Nat) {o:List Oa} {pl:Pl},o.length=n->Wk m ts rs ps o pl->∀i,i < n->∃pl' s,Wk m ts rs ps (o.take i) pl'/\s∈nxT m ts rs ps pl'/\o[i]? = some (s.1,s.2.1)/\Wk m ts rs ps (o.take (i + 1)) s.2.2
 | 0,_,_,_,_,i,hi=>absurd hi (R3 _)
 | n + 1,o,pl,hn,h,i,hi=>by
  obtain ⟨d,a,rfl,q⟩:=zdw hn;obtain ⟨l,s,b,f,k,rfl⟩:=wk_inv h;rcases Nat.lt_succ_iff_lt_or_eq.mp hi with z|z
  ·obtain ⟨pl',p,g,e,j,c⟩:=wk_at n q b i z;refine ⟨pl',p,?_,e,?_,?_⟩
   ·rw [G6 (by omega)];exact g
   ·rw [F2 (by omega)];exact j
   ·rw [G6 (by omega)];exact c
  ·refine ⟨l,s,?_,f,?_,?_⟩
   ·rw [G6 (by omega),K4 (by omega)];exact b
   ·rw [W1 (by omega),show i - d.length=0 by omega,k];rfl
   ·rw [K4 (by rw [hn];omega)];exact h
theorem zdn {α β:Type} [DecidableEq β] {R:α->β->Prop} :∀{L:List α} {E:List β},L.Nodup->(∀x∈L,∃y∈E,R x y)->(∀x x' y,R x y->R x' y->x=x')->L.length<=E.length
 | [],_,_,_,_=>Q1 _
 | x :: L,E,nd,h,u=>by
  rw [O5] at nd;obtain ⟨y,b,r⟩:=h x L0;have:=zdn (L:=L) (E:=E.erase y) nd.2 (λ x' c=>by obtain ⟨d,e,a⟩:=h x' (V0 _ c);refine ⟨d,(List.mem_erase_of_ne λ z=>?_).mpr e,a⟩;rw [z] at a;exact nd.1 (u _ _ _ r a ▸ c)) u;rw [j2b b] at this;have f:=j8 b;rw [P0];omega
def okS (a b:Nat) (r:List Nat) (x:Nat):Bool:=!r.contains x && (x != b || r.contains a)
def enS (a b:Nat):Nat->List (List Nat)
 | 0=>[[]]
 | n + 1=>(enS a b n).flatMap λ r=>((j1 5).filter (okS a b r)).map (· :: r)
theorem enS_0 {a b:Nat} (h:enS a b 6=[]) :∀n,enS a b (n + 6)=[]
 | 0=>h
 | n + 1=>by show (enS a b (n + 6)).flatMap _=[];rw [enS_0 h n];rfl
theorem enS_le {a b:Nat} (hab:a < b) (hb:b < 5) (n:Nat):(enS a b n).length<=60:=by
 have c :∀b,b < 5->∀a,a < b->(∀n,n < 6->(enS a b n).length<=60)/\enS a b 6=[]:=by decide +kernel
 obtain ⟨d,e⟩:=c b hb a hab;rcases Nat.lt_or_ge n 6 with z|z
 ·exact d n z
 ·obtain ⟨k,rfl⟩:=Nat.exists_eq_add_of_le' z;rw [enS_0 e];exact Q1 _
def CmN (m:Nat) (ts:zT) (rs:List Rc) (ps:List DD) (n:Nat) (pl:Pl):Prop:=∃o,Wk m ts rs ps o pl/\o.length=n
theorem wk_row {ts:zT} {rs:List Rc} {ps:List DD} {a b:Nat} (n5:rs.length<=5) (ab:b < rs.length->z0i 0 rs a b=true) {o:List Oa} {pl:Pl} (h:Wk 0 ts rs ps o pl):(o.map (·.1)).reverse∈enS a b o.length/\∀x,x∈pl.1↔x∈(o.map (·.1)).reverse:=by
 induction h with
 | nil=>exact ⟨List.mem_singleton.mpr rfl,λ x=>Iff.rfl⟩
 | @snoc o pl s _ h ih=>
  obtain ⟨n,r,p,g,f,k,c⟩:=mem_nx.mp h;obtain ⟨i,j,l⟩:=cP_iff.mp g;have d:=(List.getElem?_eq_some_iff.mp f).1;have e:((o++[(s.1,s.2.1)]).map (·.1)).reverse=n :: (o.map (·.1)).reverse:=by rw [E1,List.reverse_append,<-z6j c];rfl
  rw [e,D0];refine ⟨List.mem_flatMap.mpr ⟨_,ih.1,List.mem_map.mpr ⟨n,List.mem_filter.mpr ⟨List.mem_range.mpr (by omega),?_⟩,rfl⟩⟩,λ x=>?_⟩
  ·unfold okS;rw [A2];constructor
   ·rw [Bool.not_eq_true'];refine Bool.eq_false_iff.mpr λ z=>i ((ih.2 n).mpr (List.contains_iff_mem.mp z))
   ·rw [Bool.or_eq_true];by_cases z:n=b
    ·subst z;exact .inr (List.contains_iff_mem.mpr ((ih.2 a).mp (j a (ab d))))
    ·exact .inl (bne_iff_ne.mpr z)
  ·rw [stp_to c x,ih.2 x,B1];exact Or.comm
end
section
section
variable {ts:zT} {ps:List DD} {rs:List Rc} {k n:Nat} {a:V}
abbrev endR (rs:List Rc) (n k:Nat) (a:V):List Rc:=rs.modify n λ r=>{ r with a:=a,e:=some k }
theorem ah_mod {r1:Rc} (h1:rs[n]? = some r1) (he:r1.e=none) (hb :∀r∈rs,r.b < k) (x y:Nat):z0i 0 (endR rs n k a) x y=z0i 0 rs x y:=by
 unfold z0i endR;rw [G2,G2];cases hx:rs[x]? with
 | none=>rfl
 | some r=>
  cases hy:rs[y]? with
  | none=>rfl
  | some q=>
   show ltO (if n=x then { r with a:=a,e:=some k } else r).e (if n=y then { q with a:=a,e:=some k } else q).b=ltO r.e q.b;have c:(if n=y then { q with a:=a,e:=some k } else q).b=q.b:=by split<;>rfl
   rw [c];by_cases z:n=x
   ·subst z;rw [if_pos rfl];rw [h1] at hx;cases hx;rw [he];exact decide_eq_false (by have:=hb q (G0 hy);omega)
   ·rw [if_neg z]
theorem cP_mod {r1:Rc} (h1:rs[n]? = some r1) (he:r1.e=none) (hb :∀r∈rs,r.b < k) {ns:List Nat} {x:Nat}:cP 0 (endR rs n k a) ns x=true↔cP 0 rs ns x=true:=by rw [cP_iff,cP_iff];simp only [ah_mod h1 he hb]
theorem zju {r1:Rc} (h1:rs[n]? = some r1) (he:r1.e=none) (hb :∀r∈rs,r.b < k) {pl:Pl} {s:Stp} (h:s∈nxT 0 ts (endR rs n k a) ps pl):s∈nxT 0 ts rs ps pl/\(s.1=n->s.2.1=a):=by
 obtain ⟨x,r,p,d,f,i,c⟩:=mem_nx.mp h;have d:=(cP_mod h1 he hb).mp d;unfold endR at f;rw [G2] at f;obtain ⟨j,g,e⟩:=Option.map_eq_some_iff.mp f;have l:=z6j c;by_cases z:n=x
 ·subst z;rw [h1] at g;cases g;rw [if_pos rfl] at e;refine ⟨mem_nx.mpr ⟨n,r1,p,d,h1,i,stp_le (.inl he) c⟩,λ _=>?_⟩;unfold stp at c;split at c
  ·split at c
   ·rename_i hq;cases c;rw [<-e] at hq;exact of_decide_eq_true (show decide (_=a)=true from hq)
   ·cases c
  ·cases c
 ·rw [if_neg z] at e;exact ⟨mem_nx.mpr ⟨x,j,p,d,g,i,stp_le (.inr e) c⟩,λ y=>absurd (y.symm.trans l) z⟩
theorem zch {r1:Rc} (h1:rs[n]? = some r1) (he:r1.e=none) (hb :∀r∈rs,r.b < k) {pl:Pl} {s:Stp} (h:s∈nxT 0 ts rs ps pl) (hn:s.1=n->s.2.1=a):s∈nxT 0 ts (endR rs n k a) ps pl:=by
 obtain ⟨x,r,p,d,i,g,c⟩:=mem_nx.mp h;have d:=(cP_mod (a:=a) h1 he hb).mpr d;have j:=z6j c;refine mem_nx.mpr ⟨x,if n=x then { r with a:=a,e:=some k } else r,p,d,by unfold endR;rw [G2,i];rfl,g,?_⟩;by_cases z:n=x
 ·rw [if_pos z];have f:=hn (j.trans z.symm);unfold stp at c⊢;split at c
  ·split at c
   ·cases c;have f:(dz p.k p.vb p.dt _).2=a:=f;exact if_pos (show (false || decide ((dz p.k p.vb p.dt _).2=a))=true by rw [decide_eq_true f];rfl)
   ·cases c
  ·cases c
 ·rw [if_neg z];exact c
end
inductive Hop (ts:zT) (rs:List Rc) (ps:List DD):Pl->Prop
 | full {pl:Pl}:FullP rs pl->Hop ts rs ps pl
 | step {pl:Pl} {s:Stp}:s∈nxT 0 ts rs ps pl->Hop ts rs ps s.2.2->Hop ts rs ps pl
def Hrd (ts:zT) (rs:List Rc) (ps:List DD) (n:Nat) (a:V):Prop:=∃o pl s,Wk 0 ts rs ps o pl/\s∈nxT 0 ts rs ps pl/\s.1=n/\s.2.1=a/\Hop ts rs ps s.2.2
def Met (ts:zT) (rs:List Rc) (ps:List DD) (n:Nat) (a:V):Prop:=∃o pl s,Wk 0 ts rs ps o pl/\s∈nxT 0 ts rs ps pl/\s.1=n/\s.2.1=a
theorem Hrd.met {ts:zT} {rs:List Rc} {ps:List DD} {n:Nat} {a:V} (h:Hrd ts rs ps n a):Met ts rs ps n a:=h.elim λ o z=>z.elim λ b y=>y.elim λ s x=>⟨o,b,s,x.1,x.2.1,x.2.2.1,x.2.2.2.1⟩
theorem nx_mem {m:Nat} {ts:zT} {rs:List Rc} {ps:List DD} {pl:Pl} {s:Stp} (h:s∈nxT m ts rs ps pl):s.1∉pl.1/\∀x,x∈s.2.2.1↔x∈pl.1\/x=s.1:=by obtain ⟨x,r,p,b,d,c,a⟩:=mem_nx.mp h;rw [z6j a];exact ⟨(cP_iff.mp b).1,stp_to a⟩
theorem zn8 {ts:zT} {rs:List Rc} {ps:List DD} {n k:Nat} {a:V} {r1:Rc} (h1:rs[n]? = some r1) (he:r1.e=none) (hb :∀r∈rs,r.b < k):Hrd ts rs ps n a↔∃o pl,Wk 0 ts (endR rs n k a) ps o pl/\FullP (endR rs n k a) pl:=by
 constructor
 ·rintro ⟨o,pl,s,w,hs,en,ea,c⟩;have i :∀{o:List Oa} {pl:Pl},Wk 0 ts rs ps o pl->n∉pl.1->Wk 0 ts (endR rs n k a) ps o pl:=λ w=>by
   induction w with
   | nil=>intro _;exact .nil
   | @snoc o pl s _ h ih=>intro p;have:=(nx_mem h).2;exact .snoc (ih λ z=>p ((this n).mpr (.inl z))) (zch h1 he hb h λ z=>absurd ((this n).mpr (.inr z.symm)) p)
  have f:=Wk.snoc (i w (by rw [<-en];exact (nx_mem hs).1)) (zch h1 he hb hs λ _=>ea);have g:n∈s.2.2.1:=((nx_mem hs).2 n).mpr (.inr en.symm);generalize s.2.2=pl2 at c f g;generalize o++[(s.1,s.2.1)]=o2 at f;induction c generalizing o2 with
  | @full pl2 fu=>
   refine ⟨o2,pl2,f,λ x r d j=>?_⟩;unfold endR at d;rw [G2] at d;obtain ⟨q,u,e⟩:=Option.map_eq_some_iff.mp d;by_cases z:n=x
   ·rw [<-z];exact g
   ·rw [if_neg z] at e;exact fu x q u (by rw [e];exact j)
  | @step pl2 s' h _ ih=>have:=nx_mem h;exact ih ((this.2 n).mpr (.inl g)) _ (.snoc f (zch h1 he hb h λ z=>absurd g (z ▸ this.1)))
 ·rintro ⟨o,pl,w,fu⟩;have l:n∈pl.1:=fu n { r1 with a:=a,e:=some k } (by unfold endR;rw [G2,h1];show some (if n=n then _ else _)=_;rw [if_pos rfl]) rfl;have c:Hop ts rs ps pl:=.full λ x r d j=>by
   refine fu x (if n=x then { r with a:=a,e:=some k } else r) (by unfold endR;rw [G2,d];rfl) ?_;by_cases z:n=x
   ·rw [if_pos z];rfl
   ·rw [if_neg z];exact j
  clear fu;have i :∀{o:List Oa} {pl:Pl},Wk 0 ts (endR rs n k a) ps o pl->Wk 0 ts rs ps o pl:=λ w=>by
   induction w with
   | nil=>exact .nil
   | snoc _ h ih=>exact .snoc ih (zju h1 he hb h).1
  induction w with
  | nil=>exact absurd l j0
  | @snoc o pl s w h ih=>
   obtain ⟨m,t⟩:=zju h1 he hb h;rcases ((nx_mem h).2 n).mp l with z|z
   ·exact ih z (.step m c)
   ·exact ⟨o,pl,s,i w,m,z.symm,t z.symm,c⟩
theorem zlu {i:Nat} {rs:List Rc} {os:List Int} (I:DInv i rs os) {n j:Nat} {r q:Rc} (hr:rs[n]? = some r) (hq:rs[j]? = some q) (e:r.e=none) (e':q.e=none) (h:r.h=q.h):n=j:=by
 rcases d6 n j with z|z|z
 ·obtain ⟨x,a,_⟩:=(I.p n j r q z hr hq).2 h;rw [e] at a;cases a
 ·exact z
 ·obtain ⟨x,a,_⟩:=(I.p j n q r z hq hr).2 h.symm;rw [e'] at a;cases a
theorem zj0 {i:Nat} {rs:List Rc} {os:List Int} (I:DInv i rs os) {n:Nat} {r:Rc} (hr:rs[n]? = some r) (e:r.e=none):lastI r.h (rs.map Rc.h)=some n:=by
 have d:r.h∈rs.map Rc.h:=List.mem_map.mpr ⟨r,G0 hr,rfl⟩;obtain ⟨j,b⟩:=Option.isSome_iff_exists.mp (z9v _ d);obtain ⟨a,g⟩:=zdz _ b;rw [O0] at a;obtain ⟨q,f,k⟩:=Option.map_eq_some_iff.mp a;rcases d6 n j with z|z|z
 ·obtain ⟨x,c,_⟩:=(I.p n j r q z hr f).2 k.symm;rw [e] at c;cases c
 ·rw [b,z]
 ·exact absurd (by rw [O0,hr];rfl) (g n z)
theorem z94 :∀{es:List Ev} {i:Nat} {rs:List Rc} {os:List Int},DInv i rs os->EWf os es->DInv (i + es.length) (dAll i rs es) (es.foldl oStep os)
 | [],_,_,_,I,_=>I
 | e :: es,i,rs,os,I,w=>by have:=z94 (I.step w.1).1 w.2;rw [P0,show i + (es.length + 1)=i + 1 + es.length by omega];exact this
theorem zdk :∀{es:List Ev} {e:Ev} {i:Nat} {rs:List Rc},dAll i rs (es++[e])=dstep (i + es.length) (dAll i rs es) e
 | [],_,_,_=>rfl
 | x :: es,e,i,rs=>by rw [P0,show i + (es.length + 1)=i + 1 + es.length by omega];exact zdk (es:=es) (i:=i + 1)
theorem zm0 {es:List Ev} {n:Nat} {r:Rc} {a:V} (wf:EWf [] es) (hr:(dAll 0 [] es)[n]? = some r) (e:r.e=none):EWf [] (es++[.fin r.h a])/\dAll 0 [] (es++[.fin r.h a])=endR (dAll 0 [] es) n es.length a:=by
 have I:=z94 DInv.nil wf;refine ⟨EWf.snoc wf ?_,?_⟩
 ·show r.h∈_;refine Classical.byContradiction λ z=>?_;have:=I.o r (G0 hr) z;rw [e] at this;cases this
 ·rw [zdk];show (match lastI r.h ((dAll 0 [] es).map Rc.h) with|some j=>_|none=>_)=_;rw [zj0 I hr e];show (dAll 0 [] es).modify n (λ r=>{ r with a:=a,e:=some (0 + es.length) })=_;rw [d7]
theorem met_le {ts:zT} {rs:List Rc} {ps:List DD} {n:Nat} (n4:rs.length<=4) {L:List V} (nd:L.Nodup) (h :∀a∈L,Met ts rs ps n a):L.length<=51:=by
 have u:(enS 0 4 0++enS 0 4 1++enS 0 4 2++enS 0 4 3).length<=51:=by decide +kernel
 refine A0 (zdn (R:=λ a row=>∃o c s,Wk 0 ts rs ps o c/\s∈nxT 0 ts rs ps c/\s.1=n/\s.2.1=a/\row=(o.map (·.1)).reverse) nd (λ a g=>?_) λ a O y r q=>?_) u
 ·obtain ⟨o,c,s,w,d,i,j⟩:=h a g;have k:(4:Nat) < rs.length->z0i 0 rs 0 4=true:=λ z=>by omega
  have C:=wk_row (by omega) k w;have M:=(wk_row (by omega) k (.snoc w d)).1;refine ⟨_,?_,o,c,s,w,d,i,j,rfl⟩;have v:o.length < 4:=by
   have l :∀{o:List Oa} {c:Pl},Wk 0 ts rs ps o c->(o.map (·.1)).Nodup/\(∀x,x∈c.1↔x∈o.map (·.1))/\∀x∈o.map (·.1),x < rs.length:=λ w=>by
    induction w with
    | nil=>exact ⟨.nil,λ x=>Iff.rfl,λ x f=>absurd f j0⟩
    | @snoc o c s w h ih=>
     obtain ⟨x,r,p,N,H,J,d⟩:=mem_nx.mp h;have f:=(List.getElem?_eq_some_iff.mp H).1;obtain ⟨B,E⟩:=nx_mem h;rw [E1];refine ⟨?_,λ y=>?_,λ y G=>?_⟩
     ·rw [E3];exact ⟨ih.1,by simp,λ a g b D e=>B ((ih.2.1 _).mpr (by have:b=s.1:=List.mem_singleton.mp D;rw [<-this,<-e];exact g))⟩
     ·rw [E y,ih.2.1 y,P6];exact or_congr_right ⟨λ z=>List.mem_singleton.mpr z,λ z=>List.mem_singleton.mp z⟩
     ·rcases List.mem_append.mp G with z|z
      ·exact ih.2.2 y z
      ·have:y=s.1:=List.mem_singleton.mp z;rw [this,z6j d];exact f
   have:=l (.snoc w d);have:=z4w _ _ this.1 this.2.2;rw [o0,D0] at this;have:o.length + 1<=rs.length:=this;omega
  have m:=C.1;rw [P6,P6,P6]
  match hl:o.length,v with
  | 0,_=>rw [hl] at m;exact .inl (.inl (.inl m))
  | 1,_=>rw [hl] at m;exact .inl (.inl (.inr m))
  | 2,_=>rw [hl] at m;exact .inl (.inr m)
  | 3,_=>rw [hl] at m;exact .inr m
 ·obtain ⟨o,c,s,w,d,i,j,rfl⟩:=r;obtain ⟨K,P,Q,F,I,t,A,e⟩:=q;have:=zdq _ rfl w F (List.reverse_inj.mp e);subst this;have:=zk9 d I (i.trans t.symm);subst this;rw [<-j,A]
structure AnL (Pa:V->Prop) (is:List Int) (ss:List Str):Prop where
 i:is.Nodup
 s:ss.Nodup
 pi:is.Pairwise (·<=·)
 ps:N7 ss=true
 mi :∀i,i∈is↔Pa (.int i)
 ms :∀z,z∈ss↔Pa (.str z)
theorem zgg {α:Type} [DecidableEq α] :∀{l l':List α},l.Nodup->l'.Nodup->(∀x,x∈l↔x∈l')->l.Perm l'
 | [],l',_,_,h=>by
  cases l' with
  | nil=>exact .nil
  | cons y r=>exact absurd ((h y).mpr L0) j0
 | x :: l,l',nd,nd',h=>by rw [O5] at nd;have a:=(h x).mp L0;refine (List.Perm.cons x (zgg nd.2 (nd'.erase x) λ y=>?_)).trans (List.perm_cons_erase a).symm;rw [nd'.mem_erase_iff,<-h y,B1];exact ⟨λ z=>⟨λ e=>nd.1 (e ▸ z),.inr z⟩,λ z=>z.2.resolve_left z.1⟩
abbrev wO:Str:="ok"
abbrev wN:Str:="none"
theorem zkn {l:List Str} (nd:l.Nodup) (h :∀z∈l,z=wO\/z=wN):l=[]\/l=[wO]\/l=[wN]\/l=[wO,wN]\/l=[wN,wO]:=by
 match l,nd,h with
 | [],_,_=>exact .inl rfl
 | [x],_,h=>
  rcases h x L0 with rfl|rfl
  ·exact .inr (.inl rfl)
  ·exact .inr (.inr (.inl rfl))
 | [x,y],nd,h=>
  have ne:x≠y:=λ e=>by rw [O5] at nd;exact nd.1 (e ▸ L0)
  rcases h x L0 with rfl|rfl<;>rcases h y (V0 _ L0) with rfl|rfl
  ·exact absurd rfl ne
  ·exact .inr (.inr (.inr (.inl rfl)))
  ·exact .inr (.inr (.inr (.inr rfl)))
  ·exact absurd rfl ne
 | x :: y :: z :: r,nd,h=>
  have:=zdn (R:=λ x y=>x=y) (E:=[wO,wN]) nd (λ x b=>by
   rcases h x b with rfl|rfl
   ·exact ⟨_,L0,rfl⟩
   ·exact ⟨_,V0 _ L0,rfl⟩) (λ x c y h a=>h.trans a.symm)
  simp only [P0,R4] at this;omega
theorem AnL.uniq {Pa:V->Prop} {is is':List Int} {ss ss':List Str} (h:AnL Pa is ss) (h':AnL Pa is' ss') (ht :∀z,Pa (.str z)->z=wO\/z=wN):is=is'/\ss=ss':=by
 constructor
 ·exact (zgg h.i h'.i λ x=>(h.mi x).trans (h'.mi x).symm).eq_of_pairwise (le:=(·<=·)) (λ _ _ _ _ j g=>j19 j g) h.pi h'.pi
 ·have b:=zgg h.s h'.s λ x=>(h.ms x).trans (h'.ms x).symm;have f:=h.ps;have e:=h'.ps;have d:N7 [wO,wN]=false:=by decide +kernel
  have k:=b.length_eq;rcases zkn h.s λ z c=>ht z ((h.ms z).mp c) with rfl|rfl|rfl|rfl|rfl<;>rcases zkn h'.s λ z c=>ht z ((h'.ms z).mp c) with rfl|rfl|rfl|rfl|rfl<;>first
   | rfl
   | (rw [d] at f;cases f)
   | (rw [d] at e;cases e)
   | (simp only [P0,R4] at k;omega)
   | (have:=(b.mem_iff (a:=wO)).mp (by simp);exact absurd this (by decide +kernel))
   | (have:=(b.mem_iff (a:=wO)).mpr (by simp);exact absurd this (by decide +kernel))
end
section
variable {P:Program} {w:R0} {mg:Str->Option Value} {base:Heap}
def PlG (ts:zT) (N d:Nat) (pl:Pl):Prop:=PlOk ts N pl.1.length pl/\pl.1.length=d
def PlV (K:b0) (H:Hp) (pl:Pl) (y:V):Prop:=∃p,y=.ref p/\PlZ K H p pl
theorem PlV.same {K:b0} {H H':Hp} {pl:Pl} {y:V} (s:Same H H') (h:PlV K H pl y):PlV K H' pl y:=h.elim λ p z=>⟨p,z.1,z.2.tups (.of s)⟩
theorem zho {K:b0} {H:Hp} {G:Pl->Prop} {ks:zQ} (h:KeyI K H G ks) :∀(is:List Nat),(∀i∈is,i < ks.length)->∃pls,All2 (PlV K H) pls (is.map λ i=>V.ref (ks.getD i (.none,0)).2)/\(∀pl∈pls,G pl)/\pls.map plD=is.map λ i=>(ks.getD i (.none,0)).1
 | [],_=>⟨[],.nil,λ _ z=>absurd z j0,rfl⟩
 | i :: is,hi=>by
  obtain ⟨pls,d,b,f⟩:=zho h is λ j e=>hi j (V0 _ e);have l:=hi i L0;obtain ⟨pl,a,z,g⟩:=h ks[i] (z6 l);refine ⟨pl :: pls,.cons ⟨_,rfl,?_⟩ d,λ p c=>?_,by rw [X0,X0,f,T1,B0 l];exact congrArg (· :: _) a.symm⟩
  ·rw [T1,B0 l];exact z
  ·rcases List.mem_cons.mp c with y|y
   ·rw [y];exact g
   ·exact b p y
theorem zfe {K:b0} {H:Hp} {r:Addr} {us:List V} (e:H r=some (.lst us)):Tups K H (hide r H):=λ a b h=>by
 rcases h with (h|⟨ob,h⟩)|h
 ·exact .inl (.inl (z0s (λ z=>by rw [z,e] at h;cases h) h))
 ·exact .inl (.inr ⟨ob,z0s (λ z=>by rw [z,e] at h;cases h) h⟩)
 ·exact .inr h
theorem zie {α β:Type} {f:α->β} {l:List α} (h:(l.map f).Nodup):l.Nodup:=by rw [E5] at h⊢;exact (List.pairwise_map.mp h).imp λ h e=>h (congrArg f e)
theorem zn0 {ks:zQ} {d:PyData} {b:Addr} (h:(ks.map (·.1)).Nodup):((putN ks d b).map (·.1)).Nodup:=by
 unfold L2.putN;split
 ·exact h
 ·rename_i z;rw [E1,E3];exact ⟨h,by simp,λ a g c f e=>z (by have h:c=d:=List.mem_singleton.mp f;rw [<-h,<-e];exact g)⟩
def LBd (ts:zT) (rs:List Rc) (ps:List DD):Prop:=∀(n:Nat) (L:List Pl),L.Nodup->(∀pl∈L,CmN 0 ts rs ps n pl)->L.length<=60
def LyP (ts:zT) (rs:List Rc) (ps:List DD) (d:Nat) (pl:Pl):Prop:=PlG ts rs.length d pl/\CmN 0 ts rs ps d pl
theorem key_le {K:b0} {H:Hp} {ts:zT} {rs:List Rc} {ps:List DD} {d:Nat} {ks:zQ} (lb:LBd ts rs ps) (ki:KeyI K H (LyP ts rs ps d) ks) (nd:(ks.map (·.1)).Nodup):ks.length<=60:=by
 have :∀ks:zQ,KeyI K H (LyP ts rs ps d) ks->∃L:List Pl,L.map plD=ks.map (·.1)/\∀b∈L,CmN 0 ts rs ps d b:=λ ks=>by
  induction ks with
  | nil=>intro _;exact ⟨[],rfl,λ _ h=>absurd h j0⟩
  | cons k ks ih=>
   intro h;obtain ⟨L,e,g⟩:=ih λ x j=>h x (V0 _ j);obtain ⟨b,c,_,i⟩:=h k L0;refine ⟨b :: L,by rw [X0,X0,e,c],λ a l=>?_⟩;rcases List.mem_cons.mp l with z|z
   ·rw [z];exact i.2
   ·exact g a z
 obtain ⟨L,e,g⟩:=this ks ki;have m:=lb d L (zie (f:=plD) (by rw [e];exact nd)) g;have:=congrArg S5 e;rw [o0,o0] at this;omega
def z64 (K:b0):Sp:=λ vs H Q _=>∃(b l:Addr) (d:Nat) (rs:List Rc) (ts:zT) (ps:List DD) (pls:List Pl) (ys:List V),vs=[.ref b,.ref l]/\BoAt K H 0 rs ts ps b/\All2 (RcGd K H ts) rs ps/\ThW ts/\rs.length<=5/\LBd ts rs ps/\H l=some (.lst ys)/\All2 (PlV K H) pls ys/\(∀pl∈pls,LyP ts rs ps d pl)/\
 ∀l' ys' pls' H',Same H H'->H l'=none->H' l'=some (.lst ys')->All2 (PlV K H') pls' ys'->(∀pl∈pls',LyP ts rs ps (d + 1) pl)->pls'.length<=60->(∀pl∈pls,∀s∈nxT 0 ts rs ps pl,s.2.2∈pls')->Q (.ref l') H'
theorem za5 (T:TX (kx w) mg) (c0:Fo P w mg base CX0 7 276 y00 ["self","place"] (z16 (kx w))):Fo P w mg base CX0 8 333 y10 ["board","layer"] (z64 (kx w)):=by
 refine (z4c w.params).ok sc_next_layer (λ vs H Q E h=>?_) (λ c5 A c4 s H vs Q E O h=>?_)
 ·obtain ⟨b,l,d,v,t,u,G,S,rfl,_⟩:=h;rfl
 ·obtain ⟨b,l,d,v,t,u,G,S,rfl,bo,gd,ok,rl,lb,el,X,pg,q⟩:=h;refine ⟨_,(z02 (ps_set (i:=2) sc_next_layer.nd rfl (U0 rfl) zfn)
   (z02 (ps_for K1 rfl (z17 (pv 1)) (z0g (i:=3) sc_next_layer.nd rfl (U0 rfl))
   (z04 (ps_for K1 rfl (z17 (zda (pv 0) (z1i _) (z1v _) c0 (O.mono (by decide)) (z2c _) .nil pass0 (z00 (pv 3) pa_nil))) (z0g (i:=4) sc_next_layer.nd rfl (U0 rfl))
   (z04 (zfg O (pv 2) (pJ 4) pe_bl rfl)))))
   (z04 (ps_ret (z09 (zc1 O) rfl (T.no (z22 _)) Y4 (z00 (pv 2) pa_nil)))))),?_⟩
  obtain ⟨dx,fs,eb,bf⟩:=id bo;refine z0k ?_;intro c a8;refine g_name ?_;have N:=Same.upd (o:=NsO c []) a8;have e1:upd H c (NsO c []) c=some (NsO c []):=upd_same;have a9:Same H (hide c (upd H c (NsO c []))):=λ p o e=>z0s (λ z=>by rw [z,a8] at e;cases e) (N _ _ e);generalize upd H c (NsO c [])=H1 at N e1 a9⊢;refine ⟨_,rfl,l,rfl,⟨_,SqL.of (N _ _ el)⟩,?_⟩;refine z2e (K:=KX w.params) (a:=l) (xs:=S) (λ i σ n=>∃ks,Same H (hide c n)/\n c=some (NsO c ks)/\KeyI (kx w) (hide c n) (LyP t v u (d + 1)) ks/\(ks.map (·.1)).Nodup/\(∀a∈G.take i,∀s∈nxT 0 t v u a,plD s.2.2∈ks.map (·.1))/\∃x3 x4,σ=[some (.ref b),some (.ref l),some (.ref c),x3,x4])
   ⟨[],a9,e1,(λ k C=>absurd C j0),.nil,λ a D=>absurd D (by rw [S3];exact j0),_,_,rfl⟩ (λ i σ n _ h=>SqL.of (hide_same _ _ (h.choose_spec.1 _ _ el))) ?_ ?_
  ·rintro i y σ R hy ⟨ks,s2,e2,ki,kl,ka,x3,x4,rfl⟩;obtain ⟨f,a0,p,rfl,pz⟩:=z0f X hy;have g:=pg f (G0 a0);have B:Same H R:=s2.trans hide_same;refine g_name ?_;refine ⟨_,rfl,b,dx,fs,rfl,B _ _ eb,bf.nm _ (by simp),_,rfl,b,p,0,_,v,t,u,f,rfl,bo.same B,z01 (λ _ _ z=>RcGd.tt (.of B) z) gd,ok,pz.tups (.of B),g.1.1,by omega,λ U y3 H3 F a4 a6 a5=>⟨U,rfl,⟨_,SqL.of a6⟩,?_⟩⟩;have e3:=F _ _ e2;have b9:U≠c:=λ z=>by rw [z,e2] at a4;cases a4
   have Y:=z10 (r:=c) F;have c1:=z01 (λ _ _ z=>StpZ.tups (zi9 e3) z) a5;have nx:=zao gd ok g.1.1 (by omega) (m:=0);refine z2e (K:=KX w.params) (a:=U) (xs:=y3) (λ j σ n=>∃ks,Same (hide c H3) (hide c n)/\n c=some (NsO c ks)/\KeyI (kx w) (hide c n) (LyP t v u (d + 1)) ks/\(ks.map (·.1)).Nodup/\(∀a∈G.take i,∀s∈nxT 0 t v u a,plD s.2.2∈ks.map (·.1))/\(∀s∈(nxT 0 t v u f).take j,plD s.2.2∈ks.map (·.1))/\∃x4,σ=[some (.ref b),some (.ref l),some (.ref c),some (.ref p),x4])
    ⟨ks,Same.refl _,e3,ki.same Y,kl,ka,λ s x=>absurd x (by rw [S3];exact j0),_,rfl⟩ (λ j σ n _ h=>SqL.of (hide_same _ _ (h.choose_spec.1 _ _ (z0s b9 a6)))) ?_ ?_
   ·rintro j y σ H4 b6 ⟨ks4,s4,e4,ki4,kl4,ka4,kb4,x4,rfl⟩;obtain ⟨J,L,b5,q5,rfl,b2,b3⟩:=z0f c1 b6;have a7:=nx J (G0 L);have c2:Same (hide c H3) H4:=s4.trans hide_same;have b0:=b3.tups (.of s4);refine g_name ?_;refine ⟨_,rfl,_,rfl,.inr (.inl ⟨b5,_,2,.ref q5,rfl,rfl,c2.seqT b2,z06 (j:=2) rfl,c,q5,ks4,plD J.2.2,rfl,rfl,rfl,e4,(ki4.same hide_same).at_ (.inl e4),A1 (key_le lb ki4 kl4) (by decide),pl_key _,pl_dep _,plz_pd (b0.tups (.of hide_same)),?_⟩)⟩;refine ⟨_,?_,upd_same,?_,zn0 kl4,λ a D s x=>z7g (ka4 a D s x),λ s x=>?_,_,rfl⟩
    ·rw [z36];exact s4
    ·rw [z36];exact ki4.put b0 ⟨⟨a7.1,by rw [a7.2,g.1.2]⟩,g.2.elim λ o z=>⟨_,.snoc z.1 (G0 L),by rw [D0,z.2];rfl⟩⟩
    ·rw [P3,show (nxT 0 t v u f)[j]? = some J from L] at x;rcases List.mem_append.mp x with z|z
     ·exact z7g (kb4 s z)
     ·rw [List.mem_singleton.mp z];exact z8s
   ·rintro σ H4 ⟨ks4,s4,e4,ki4,kl4,ka4,kb4,x4,rfl⟩;rw [show y3.length=(nxT 0 t v u f).length from z03 a5,K3] at kb4;refine ⟨ks4,(s2.trans Y).trans s4,e4,ki4,kl4,λ a D=>?_,_,_,rfl⟩;rw [P3,a0] at D;rcases List.mem_append.mp D with z|z
    ·exact ka4 a z
    ·rw [List.mem_singleton.mp z];exact kb4
  ·rintro σ R ⟨ks,s2,e2,ki,kl,ka,x3,x4,rfl⟩;rw [show S.length=G.length from z03 X,K3] at ka;have lk:=key_le lb ki kl;have c3:ks.length < 64:=by omega
   refine ⟨_,rfl,c,ks,rfl,(ki.same hide_same).at_ (.inl e2),c3,λ k C=>?_,λ k C k' b7 _=>?_,λ l' Z=>?_⟩
   ·obtain ⟨f,e,_⟩:=ki k C;rw [e];exact pl_tup f
   ·obtain ⟨f,e,_,g⟩:=ki k C;obtain ⟨b4,M,_,g'⟩:=ki k' b7;rw [e,M];exact lt_pl g.1.1 g'.1.1
   ·have W:=z9n (ks.map (·.1));obtain ⟨b1,a1,a2,a3⟩:=zho (ki.same hide_same) (srtD (ks.map (·.1))) λ i I=>by
     have:=List.mem_range.mp (W.mem_iff.mp I)
     rwa [o0] at this
    have F:=Same.upd (o:=.lst ((srtD (ks.map (·.1))).map λ i=>V.ref (ks.getD i (.none,0)).2)) Z;have B:Same H R:=s2.trans hide_same;refine q l' _ b1 _ (B.trans F) (B.free Z) upd_same (z01 (λ _ _ z=>z.same F) a1) a2 ?_ λ f hp s x=>?_
    ·have:=congrArg S5 a3;rw [o0,o0,W.length_eq,Y1,o0] at this;omega
    ·obtain ⟨k,C,ek⟩:=List.mem_map.mp (ka f hp s x);obtain ⟨i,I⟩:=List.mem_iff_getElem?.mp C;have hm:plD s.2.2∈b1.map plD:=by rw [a3];refine List.mem_map.mpr ⟨i,W.mem_iff.mpr (List.mem_range.mpr (by rw [o0];exact (List.getElem?_eq_some_iff.mp I).1)),?_⟩;rw [T1,I];exact ek
     obtain ⟨b4,b8,M⟩:=List.mem_map.mp hm;rw [<-zbf M];exact b8
structure AllP (ts:zT) (rs:List Rc) (ps:List DD) (fp:List Pl):Prop where
 ok :∀pl∈fp,PlOk ts rs.length pl.1.length pl/\Com ts rs ps pl
 all :∀pl,Com ts rs ps pl->pl∈fp
 pw:fp.Pairwise λ a b=>a.1.length<=b.1.length
structure LyA (ts:zT) (rs:List Rc) (ps:List DD) (d:Nat) (fp pls:List Pl):Prop where
 ok :∀pl∈fp,PlOk ts rs.length pl.1.length pl/\Com ts rs ps pl
 lo :∀n pl,CmN 0 ts rs ps n pl->n < d->pl∈fp
 at_ :∀pl,CmN 0 ts rs ps d pl->pl∈pls
 lt :∀pl∈fp,pl.1.length < d
 pw:fp.Pairwise λ a b=>a.1.length<=b.1.length
theorem LyA.first {ts:zT} {rs:List Rc} {ps:List DD}:LyA ts rs ps 0 [] [([],ts.map λ t=>zeroK t.2)]:=by refine ⟨λ _ h=>absurd h j0,λ _ _ _ h=>absurd h (R3 _),λ a h=>?_,λ _ h=>absurd h j0,.nil⟩;obtain ⟨o,w,e⟩:=h;rw [List.eq_nil_of_length_eq_zero e] at w;rw [zdq 0 rfl w .nil rfl];exact List.mem_singleton.mpr rfl
theorem LyA.next {ts:zT} {rs:List Rc} {ps:List DD} {d:Nat} {fp pls pls':List Pl} (h:LyA ts rs ps d fp pls) (pg :∀pl∈pls,LyP ts rs ps d pl) (nx :∀pl∈pls,∀s∈nxT 0 ts rs ps pl,s.2.2∈pls'):LyA ts rs ps (d + 1) (fp++pls) pls':=by
 refine ⟨λ pl f=>?_,λ n pl c p=>?_,λ pl c=>?_,λ pl f=>?_,?_⟩
 ·rcases List.mem_append.mp f with z|z
  ·exact h.ok pl z
  ·obtain ⟨g,o,w,_⟩:=pg pl z;exact ⟨g.1,o,w⟩
 ·rcases Nat.lt_succ_iff_lt_or_eq.mp p with z|z
  ·exact List.mem_append.mpr (.inl (h.lo n pl c z))
  ·rw [z] at c;exact List.mem_append.mpr (.inr (h.at_ pl c))
 ·obtain ⟨o,w,e⟩:=c;obtain ⟨l,a,rfl,r⟩:=zdw e;obtain ⟨k,s,m,q,_,rfl⟩:=wk_inv w;exact nx k (h.at_ k ⟨l,m,r⟩) s q
 ·rcases List.mem_append.mp f with z|z
  ·exact j2 (h.lt pl z)
  ·have:=(pg pl z).1.2;omega
 ·rw [List.pairwise_append];refine ⟨h.pw,List.pairwise_of_forall_mem_list λ a j b i=>?_,λ a j b i=>?_⟩
  ·rw [(pg a j).1.2,(pg b i).1.2];exact t0 _
  ·rw [(pg b i).1.2];exact V2 (h.lt a j)
theorem LyA.done {ts:zT} {rs:List Rc} {ps:List DD} {d:Nat} {fp:List Pl} (h:LyA ts rs ps d fp []):AllP ts rs ps fp:=by
 refine ⟨h.ok,λ a ⟨o,w⟩=>?_,h.pw⟩;rcases d6 o.length d with z|z|z
 ·exact h.lo _ a ⟨o,w,rfl⟩ z
 ·exact absurd (h.at_ a ⟨o,w,z⟩) j0
 ·obtain ⟨c,s,b,_⟩:=wk_at _ rfl w d z;exact absurd (h.at_ c ⟨_,b,by rw [L3];omega⟩) j0
def z5z (K:b0):Sp:=λ vs H Q _=>∃(t:Addr) (ts:zT) (es:List Ev) (ps:List DD),vs=[.ref t,.str (z2x 0)]/\TlP K H t ts es ps/\LBd ts (dAll 0 [] es) ps/\∀l ys fp H',Same H H'->H l=none->H' l=some (.lst ys)->All2 (PlV K H') fp ys->AllP ts (dAll 0 [] es) ps fp->fp.length<=400->Q (.ref l) H'
theorem zap (T:TX (kx w) mg) (c0:Fo P w mg base (CXE P w base) 5 269 y03 ["self","tale","strictness"] (z0w (kx w))) (c1:Ca P w mg base "next_layer" ["board","layer"] 8 (z64 (kx w))):Fo P w mg base CX0 9 326 y0z ["tale","strictness"] (z5z (kx w)):=by
 refine (z44 w.params).ok sc_all_places (λ vs H Q E h=>?_) (λ b2 A b3 s H vs Q E hr h=>?_)
 ·obtain ⟨t,c,J,j,rfl,_⟩:=h;rfl
 ·obtain ⟨t,c,J,j,rfl,tp,W,q⟩:=h;refine ⟨_,(z02 (ps_set (i:=2) sc_all_places.nd rfl (U0 rfl) (zg3 (zfp _) c0 (hr.mono (by decide)) rfl (T.of (zkc _)) (z3a _) .nil passN (z00 (pv 0) (z00 (pv 1) pa_nil))))
   (z02 (ps_set (i:=3) sc_all_places.nd rfl (U0 rfl) (pe_lst pa_nil))
   (z02 (ps_set (i:=4) sc_all_places.nd rfl (U0 rfl) (pe_lst (z00 (pe_fld (pv 2) rfl) pa_nil)))
   (z02 (zfk K1 (z08 op_gt (z09 z1h rfl (T.no (n_len _)) X3 (z00 (pv 4) pa_nil)) pe_int (nomark _))
   (z02 (z2b (zg2 (pv 3) (z00 (pv 4) pa_nil)))
   (z04 (ps_set (i:=4) sc_all_places.nd rfl (U0 rfl) (pe_cal c1 (hr.mono (by decide)) rfl (z00 (pv 2) (z00 (pv 4) pa_nil)))))))
   (z04 (ps_ret (pv 3))))))),?_⟩
  refine zfs tp (λ R h=>⟨_,rfl,_,rfl,h⟩) λ x Z fs r V M ok a0 X L=>?_;have O:BoAt (kx w) r 0 (dAll 0 [] J) c j x:=⟨Z,fs,X,L⟩
  obtain ⟨f,a6,b1⟩:=L.first;generalize dAll 0 [] J=rs at M a0 O L W q;refine z0k ?_;refine ⟨w_0,λ a I=>?_⟩;refine g_name ?_;obtain ⟨F,v_,U,v⟩:=newA (.lst []) I;rw [<-v_];refine z0k ?_;refine ⟨_,rfl,x,_,Z,fs,_,rfl,U _ _ X,z1i _,z4n _,a6,w_1,λ l K=>?_⟩;refine g_name ?_;have q1:=Same.upd (o:=.lst [.ref f]) K;have N:upd F l (.lst [.ref f]) l=some (.lst [.ref f]):=upd_same;have a5:l≠a:=λ z=>by rw [z,v] at K;cases K
  have v:=q1 _ _ v;have G:Same r (hide a (upd F l (.lst [.ref f]))):=λ p o e=>z0s (λ z=>by rw [z,I] at e;cases e) ((U.trans q1) _ _ e);generalize upd F l (.lst [.ref f])=H3 at v N G⊢;refine zfw (zdi (λ k σ b=>∃d pls ys fz l1 fp,LyA c rs j d fp pls/\All2 (PlV (kx w) (hide a b)) fp fz/\k=7 - d/\d<=6/\Same r (hide a b)/\b a=some (.lst fz)/\fz.length<=60 * d/\hide a b l1=some (.lst ys)/\All2 (PlV (kx w) (hide a b)) pls ys/\(∀n∈pls,LyP c rs j d n)/\pls.length<=60/\σ=[some (.ref t),some (.str (z2x 0)),some (.ref x),some (.ref a),some (.ref l1)])
   (λ k σ b=>∃d pls ys fz l1 fp,LyA c rs j d fp pls/\All2 (PlV (kx w) (hide a b)) fp fz/\d<=5/\k=7 - d/\Same r (hide a b)/\b a=some (.lst fz)/\fz.length<=60 * d/\hide a b l1=some (.lst ys)/\All2 (PlV (kx w) (hide a b)) pls ys/\(∀n∈pls,LyP c rs j d n)/\pls.length<=60/\σ=[some (.ref t),some (.str (z2x 0)),some (.ref x),some (.ref a),some (.ref l1)])
   7 ⟨0,[([],c.map λ t=>zeroK t.2)],[.ref f],[],l,[],.first,.nil,rfl,Q1 _,G,v,t0 _,z0s a5 N,.cons ⟨f,rfl,b1.tups (.of G)⟩ .nil,λ n D=>by rw [List.mem_singleton.mp D];exact ⟨⟨z9m c _,rfl⟩,[],.nil,rfl⟩,(by decide:1<=60),rfl⟩ ?_ ?_)
  ·rintro k σ u ⟨d,pls,ys,fz,l1,fp,ly,afp,d4,rfl,s4,ef,fl,el,al,pg,pn,rfl⟩;have yl:ys.length<=60:=by rw [z03 al];exact pn
   have a7:=hide_same _ _ el;refine ⟨_,rfl,.inl ⟨rfl,_,SqL.of ef⟩,_,rfl,a,l1,fz,ys,rfl,rfl,ef,a7,A0 (m:=1000) (by omega) (by decide),t_nx ?_⟩;have h5:hide a (upd u a (.lst (fz++ys)))=hide a u:=z36;have C:upd u a (.lst (fz++ys)) a=some (.lst (fz++ys)):=upd_same;generalize upd u a (.lst (fz++ys))=H5 at h5 C⊢;rw [<-h5] at s4 el al afp;have s5:Same r H5:=s4.trans hide_same;refine ⟨_,rfl,_,rfl,x,l1,d,rs,c,j,pls,ys,rfl,O.same s5,z01 (λ _ _ z=>RcGd.tt (.of s5) z) a0,ok,M,W,hide_same _ _ el,z01 (λ _ _ z=>z.same hide_same) al,pg,λ Y a4 b0 H6 B S a8 a1 a2 a9 a3=>?_⟩;have nl:Y≠a:=λ z=>by rw [z,C] at S;cases S
   exact ⟨7 - (d + 1),by omega,d + 1,b0,a4,_,Y,fp++pls,ly.next pg a3,zbq (z01 (λ _ _ z=>z.same (z10 B)) afp) (z01 (λ _ _ z=>z.same (z10 B)) al),rfl,by omega,s4.trans (z10 B),B _ _ C,by rw [D0];omega,z0s nl a8,z01 (λ _ _ z=>z.elim λ p y=>⟨p,y.1,y.2.tups (zfe (B _ _ C))⟩) a1,a2,a9,rfl⟩
  ·rintro k σ u ⟨d,pls,ys,fz,l1,fp,ly,afp,rfl,d5,s4,ef,fl,el,al,pg,pn,rfl⟩ body;refine ⟨_,rfl,.inl ⟨l1,ys,rfl,.inl (SqL.of (hide_same _ _ el)),_,_,rfl,rfl,_,rfl,?_⟩⟩;refine ite2 (λ h=>?_) λ h=>?_;rotate_left
   ·have z:pls=[]:=List.eq_nil_of_length_eq_zero (by rw [<-z03 al];exact Nat.eq_zero_of_not_pos λ z=>h (decide_eq_true (by show (0:Int) < (ys.length:Nat);omega)));rw [z] at ly;exact ⟨_,rfl,q a fz fp _ (V.trans (s4.trans hide_same)) (V.free I) ef (z01 (λ _ _ z=>z.same hide_same) afp) ly.done (by rw [<-z03 afp];omega)⟩
   have h:(0:Int) < (ys.length:Int):=of_decide_eq_true h;refine body _ ⟨d,pls,ys,fz,l1,fp,ly,afp,?_,rfl,s4,ef,fl,el,al,pg,pn,rfl⟩;obtain ⟨n,D⟩:=M6 (show 0 < pls.length by have:=z03 al;omega);have g:=(pg n D).1;have:=z4w _ _ g.1.nd g.1.lt;have:=g.2;omega
def OpH (es:List Ev) (h:Int):Prop:=∃(j:Nat) (r:Rc),(dAll 0 [] es)[j]? = some r/\r.h=h/\r.e=none
def z6c (K:b0):Sp:=λ vs H Q _=>∃(t:Addr) (es:List Ev) (h:Int),vs=[.ref t,.int h]/\TaP K H t es/\OpH es h/\∀(n:Nat) r H',Same H H'->(dAll 0 [] es)[n]? = some r->r.h=h->r.e=none->Q (.int (n:Nat)) H'
theorem zco (T:TX (kx w) mg) (c0:Ca P w mg base "is_whole" ["value"] 1 z3r) (c1:Ca P w mg base "deeds" ["tale"] 1 (z95 (kx w))):Fo P w mg base CX0 2 345 y1b ["tale","hand"] (z6c (kx w)):=by
 refine (z5l w.params).ok sc_open_deed (λ M H Q E h=>?_) (λ a1 A a3 s H M Q E v h=>?_)
 ·obtain ⟨t,c,h,rfl,_⟩:=h;rfl
 ·obtain ⟨t,c,h,rfl,⟨ts,⟨pt,R,Y,I,th,a0,D⟩,a2,J⟩,C,q⟩:=h;refine ⟨_,(z02 (ps_if (pt_val (pe_cal c0 (v.mono (by decide)) rfl (z00 (pv 1) pa_nil)) (λ _=>rfl))
   (z04 (ps_for K1 rfl (z69 rfl (T.no (z1n _)) (z00 (pe_cal c1 (v.mono (by decide)) rfl (z00 (pv 0) pa_nil)) pa_nil)) (pg_tup rfl (z0d (z0g (i:=2) sc_open_deed.nd rfl (U0 rfl)) (z0d (z0g (i:=3) sc_open_deed.nd rfl (U0 rfl)) z0x)))
   (z04 (ps_if (PW.pt (pw_and (z08 opEq (pJ 3) (pv 1) (nomark _)) (zaj (z08 op_isN (pJ 3) pe_non (nomark _)))))
   (z04 (ps_ret (pv 2)))
   z0e))))
   z0e)
   (z04 z92)),?_⟩
  obtain ⟨dw,os,DI⟩:=DInv.all DInv.nil J;have rl:(dAll 0 [] c).length<=63:=by have:=z9c (i:=0) (rs:=[]) c;simp only [R4,d7] at this;omega
  refine sq_if ?_;refine ⟨_,rfl,.int h,"int",rfl,rfl,_,rfl,iteT ?_⟩;refine ⟨_,rfl,t,R,.ref pt,Y,c,rfl,SqT.of I,SqT.of a0,D,by omega,dw,λ lt x B O a4 n u=>⟨lt,x,rfl,SqL.of n,?_⟩⟩;refine z68 (K:=KX w.params) (a:=lt) (xs:=x) (λ i σ m=>Same B m/\(∀(j:Nat) r,j < i->(dAll 0 [] c)[j]? = some r->¬ (r.h=h/\r.e=none))/\∃x2 x3,σ=[some (.ref t),some (.int h),x2,x3]) ⟨Same.refl _,λ j r b=>absurd b (R3 _),_,_,rfl⟩ (λ i σ m h=>SqL.of (h.1 _ _ n)) ?_ ?_
  ·rintro i y σ F p Z ⟨s2,no,x2,x3,rfl⟩ hp;obtain ⟨r,k,f,rfl,U⟩:=z0f u Z;obtain ⟨H3,N,d,S⟩:=new1 (.tup [.int (i:Nat),.ref f]) hp;rw [<-N];have l:=(s2.trans d).seqT U;have o:¬ (r.h=h/\r.e=none)->∀(j:Nat) r,j < i + 1->(dAll 0 [] c)[j]? = some r->¬ (r.h=h/\r.e=none):=λ W j G b g=>by
    rcases Nat.lt_succ_iff_lt_or_eq.mp b with z|z
    ·exact no j G z g
    ·rw [z,k] at g;cases g;exact W
   refine ⟨p,_,rfl,SqT.of S,rfl,_,_,rfl,_,_,rfl,rfl,?_⟩;refine z3z (t_and ?_);refine ⟨_,rfl,.inr (.inl ⟨f,_,0,.int r.h,rfl,rfl,l,z06 (j:=0) rfl,_,rfl,rfl,_,rfl,?_⟩)⟩;by_cases hh:r.h=h
   ·refine iteP (decide_eq_true (by rw [hh])) ?_;refine ⟨_,rfl,.inr (.inl ⟨f,_,6,endV r.e,rfl,rfl,l,z06 (j:=6) rfl,rfl,_,rfl,?_⟩)⟩;cases he:r.e with
    | none=>exact iteP (decide_eq_true rfl) ⟨_,rfl,q i r _ (O.trans (s2.trans d)) k hh he⟩
    | some e=>exact iteN (by show ¬ decide (V.int (e:Nat)=V.non)=true;rw [decide_eq_false (λ z=>by cases z)];decide) ⟨s2.trans d,o (λ z=>by rw [he] at z;cases z.2),_,_,rfl⟩
   ·exact iteN (λ z=>hh (V.int.inj (of_decide_eq_true z))) (iteF ⟨s2.trans d,o (λ z=>hh z.1),_,_,rfl⟩)
  ·rintro σ F ⟨s2,no,x2,x3,rfl⟩;obtain ⟨j,r,b,L,X⟩:=C;exact absurd ⟨L,X⟩ (no j r (by rw [z03 u];exact (List.getElem?_eq_some_iff.mp b).1) b)
theorem zd5 {K:b0} {H H':Hp} {a:Addr} {ks:zQ} (s:Same H H') (h:NsAt K H a ks):NsAt K H' a ks:=⟨h.1.imp (λ z=>s _ _ z) λ z=>z.elim λ c z=>⟨c,s _ _ z⟩,λ k b=>⟨(h.2 k b).1,(h.2 k b).2.1,(h.2 k b).2.2.same s⟩⟩
theorem zmo {X:Cx} {K:b0} (h:X.K=K) {k:Nat} (hr:Room k X.A):OpR X (B2 .In) (rInN K false):=h ▸ op_inN hr
theorem z5u {α:Type} {R:α->V->Prop} {q:α->Bool} :∀{xs:List α} {us:List V},All2 (λ (i:Nat) y=>∃x,xs[i]? = some x/\R x y) ((j1 xs.length).filter λ i=>(xs[i]?.map q).getD false) us->All2 R (xs.filter q) us
 | [],us,h=>by cases h;exact .nil
 | x :: xs,us,h=>by
  rw [P0,j3b] at h;have un :∀{us:List V},All2 (λ (i:Nat) y=>∃z,(x :: xs)[i]? = some z/\R z y) ((List.map Nat.succ (j1 xs.length)).filter λ i=>((x :: xs)[i]?.map q).getD false) us->All2 R (xs.filter q) us:=λ {us} h=>by
   rw [j0i] at h;refine z5u ?_;have :∀{is:List Nat} {us:List V},All2 (λ (i:Nat) y=>∃z,(x :: xs)[i]? = some z/\R z y) (is.map Nat.succ) us->All2 (λ (i:Nat) y=>∃z,xs[i]? = some z/\R z y) is us:=λ {is}=>by
    induction is with
    | nil=>intro us h;cases h;exact .nil
    | cons i is ih=>
     intro us h;cases h with
     | cons a r=>exact .cons a (ih r)
   exact this h
  cases hp:q x with
  | false=>rw [D2 (by show ¬ q x=true;rw [hp];decide)] at h;rw [D2 (by rw [hp];decide)];exact un h
  | true=>
   rw [C2 (p:=λ i=>((x :: xs)[i]?.map q).getD false) (a:=0) (by rw [Z1];exact hp)] at h;rw [C2 hp];cases h with
   | cons a r=>obtain ⟨z,b,c⟩:=a;cases b;exact .cons c (un r)
theorem kV_inj :∀{a b:Key},kV a=kV b->a=b
 | .inl _,.inl _,h=>congrArg Sum.inl (V.int.inj h)
 | .inl _,.inr _,h=>by cases h
 | .inr _,.inl _,h=>by cases h
 | .inr _,.inr _,h=>congrArg Sum.inr (V.str.inj h)
theorem putK_mem {kvs:zK} {k:Key} {v:V} {x:Key}:x∈(putK kvs k v).map (·.1)↔x∈kvs.map (·.1)\/x=k:=by
 rw [<-valV_isSomeK,<-valV_isSomeK,z32];by_cases z:x=k
 ·rw [if_pos z];exact ⟨λ _=>.inr z,λ _=>rfl⟩
 ·rw [if_neg z];exact ⟨.inl,λ h=>h.resolve_right z⟩
theorem zjt {kvs:zK} {k:Key} {v:V} (h:(kvs.map (·.1)).Nodup):((putK kvs k v).map (·.1)).Nodup:=by
 cases e:valV kvs k with
 | none=>exact zmd v h e
 | some x=>
  unfold putK;rw [if_pos (by rw [z4d,e];rfl),S2];have:((λ p:Key×V=>p.1) ∘ λ a=>if a.1=k then (a.1,v) else a)=λ p=>p.1:=by funext p;show (if p.1=k then (p.1,v) else p).1=p.1;split<;>rfl
  rw [this];exact h
theorem zkb {a:V} (h:AnsV a) :∃k:Key,a=kV k:=by
 rcases h with h|h|⟨i,h,_⟩
 ·exact ⟨.inr "ok",h⟩
 ·exact ⟨.inr "none",h⟩
 ·exact ⟨.inl i,h⟩
structure KyD (Pa:V->Prop) (kvs:zK):Prop where
 nd:(kvs.map (·.1)).Nodup
 so :∀k∈kvs.map (·.1),Pa (kV k)
theorem KyD.put {Pa:V->Prop} {kvs:zK} {k:Key} {v:V} (h:KyD Pa kvs) (p:Pa (kV k)):KyD Pa (putK kvs k v):=⟨zjt h.nd,λ x a=>by
 rcases putK_mem.mp a with z|z
 ·exact h.so x z
 ·rw [z];exact p⟩
theorem KyD.le {ts:zT} {rs:List Rc} {ps:List DD} {n:Nat} {kvs:zK} (n4:rs.length<=4) (h:KyD (Met ts rs ps n) kvs):kvs.length<=51:=by
 have:=met_le (L:=(kvs.map (·.1)).map kV) n4 (by rw [E5,Z9];exact (List.nodup_iff_pairwise_ne.mp h.nd).imp λ h e=>h (kV_inj e)) λ a b=>by obtain ⟨k,c,rfl⟩:=List.mem_map.mp b;exact h.so k c
 rwa [o0,o0] at this
theorem zmg {ts:zT} {rs:List Rc} {ps:List DD} {pl:Pl} (h:Hop ts rs ps pl):FullP rs pl\/∃s∈nxT 0 ts rs ps pl,Hop ts rs ps s.2.2:=by
 cases h with
 | full f=>exact .inl f
 | step h1 h2=>exact .inr ⟨_,h1,h2⟩
theorem zm2 {l:List Pl} {i:Nat} {pl x:Pl} (pw:l.Pairwise λ a b=>b.1.length<=a.1.length) (hi:l[i]? = some pl) (hm:x∈l) (lt:pl.1.length < x.1.length):x∈l.take i:=by
 obtain ⟨j,c⟩:=List.mem_iff_getElem?.mp hm;obtain ⟨f,d⟩:=List.getElem?_eq_some_iff.mp hi;obtain ⟨g,e⟩:=List.getElem?_eq_some_iff.mp c;rcases d6 i j with z|z|z
 ·have:=List.pairwise_iff_getElem.mp pw i j f g z;rw [d,e] at this;omega
 ·subst z;rw [hi] at c;cases c;omega
 ·exact G0 (i:=j) (by rw [j2c z];exact c)
theorem z9r {K:b0} {a b:Addr} {H:Hp} {f:Heap->Prop} {kvs:zK} (ea:H a=some (.ext f)) (eb:H b=some (.dK kvs)):Tups K H (hid2 a b H):=λ p c h=>by
 rcases h with (h|⟨ob,h⟩)|h
 ·exact .inl (.inl (z60 (λ z=>by rw [z,ea] at h;cases h) (λ z=>by rw [z,eb] at h;cases h) h))
 ·exact .inl (.inr ⟨ob,z60 (λ z=>by rw [z,ea] at h;cases h) (λ z=>by rw [z,eb] at h;cases h) h⟩)
 ·exact .inr h
structure HeaI (ts:zT) (rs:List Rc) (ps:List DD) (n:Nat) (dn:List Pl) (kvs:zK):Prop where
 k:KyD (Hrd ts rs ps n) kvs
 all :∀pl∈dn,∀s∈nxT 0 ts rs ps pl,s.1=n->Hop ts rs ps s.2.2->∃k,s.2.1=kV k/\k∈kvs.map (·.1)
def HopI (K:b0) (H:Hp) (ts:zT) (rs:List Rc) (ps:List DD) (dn:List Pl) (ks:zQ):Prop:=KeyI K H (Hop ts rs ps) ks/\∀pl∈dn,Hop ts rs ps pl->plD pl∈ks.map (·.1)
theorem HopI.same {K:b0} {H H':Hp} {ts:zT} {rs:List Rc} {ps:List DD} {dn:List Pl} {ks:zQ} (s:Same H H') (h:HopI K H ts rs ps dn ks):HopI K H' ts rs ps dn ks:=⟨h.1.same s,h.2⟩
def HrdD (ts:zT) (rs:List Rc) (ps:List DD) (n:Nat) (kvs:zK):Prop:=KyD (Hrd ts rs ps n) kvs/\∀a,Hrd ts rs ps n a->∃k,a=kV k/\k∈kvs.map (·.1)
def z1s (K:b0):Sp:=λ vs H Q _=>∃(t:Addr) (ts:zT) (es:List Ev) (ps:List DD) (n:Nat),vs=[.ref t,.int (n:Nat)]/\TlP K H t ts es ps/\LBd ts (dAll 0 [] es) ps/\(dAll 0 [] es).length<=4/\
 ∀d kvs H',Same H H'->H d=none->H' d=some (.dK kvs)->HrdD ts (dAll 0 [] es) ps n kvs->Q (.ref d) H'
theorem z46 (T:TX (kx w) mg) (c0:Fo P w mg base (CXE P w base) 5 269 y03 ["self","tale","strictness"] (z0w (kx w))) (c1:Ca P w mg base "all_places" ["tale","strictness"] 9 (z5z (kx w))) (c2:Fo P w mg base CX0 7 276 y00 ["self","place"] (z16 (kx w))) (c3:Fo P w mg base CX0 2 283 y05 ["self","place"] (z3c (kx w))):Fo P w mg base CX0 10 350 y04 ["tale","number"] (z1s (kx w)):=by
 refine (z0y w.params).ok sc_answers_in_orders (λ vs H Q E h=>?_) (λ f8 A f6 s H vs Q E U h=>?_)
 ·obtain ⟨t,u,es,B,n,rfl,_⟩:=h;rfl
 ·obtain ⟨t,u,es,B,n,rfl,tp,lb,n4,q⟩:=h;refine ⟨_,(z02 (ps_set (i:=2) sc_answers_in_orders.nd rfl (U0 rfl) (zg3 (zfp _) c0 (U.mono (by decide)) rfl (T.of (zkc _)) (z3a _) .nil passN (z00 (pv 0) (z00 pe_str pa_nil))))
   (z02 (ps_set (i:=3) sc_answers_in_orders.nd rfl (S0 rfl) zfn)
   (z02 (ps_set (i:=4) sc_answers_in_orders.nd rfl (U0 rfl) z5d)
   (z02 (ps_for K1 rfl (zmy rfl (T.no (zfm _)) (pe_cal c1 (U.mono (by decide)) rfl (z00 (pv 0) (z00 pe_str pa_nil)))) (z0g (i:=5) sc_answers_in_orders.nd rfl (U0 rfl))
   (z02 (zcw (i:=6) sc_answers_in_orders.nd rfl (U0 rfl) (xs:=["step"]) (g:=gName 0) (fr:=[(3,"hopeful")]) rfl (z17 (zda (pv 2) (z1i _) (z1v _) c2 (U.mono (by decide)) (z2c _) .nil pass0 (z00 (pv 5) pa_nil))) (by intro p L;obtain rfl:=List.mem_singleton.mp L;first|exact ⟨rfl,.inl rfl⟩|exact ⟨rfl,.inr rfl⟩) (zkw (n:="hopeful") (by decide +kernel) (λ _=>by first|exact .inl rfl|exact .inr rfl)) (by intro p L;obtain rfl:=List.mem_singleton.mp L;exact ⟨by decide +kernel,by first|exact .inl rfl|exact .inr rfl⟩) (by decide +kernel) rfl (by decide +kernel) (λ _ _ _ _ _=>(pg_cn (N:=["step","hopeful"]) 0)) (λ _ _ _ _ _=>(pf_one (z08 (zmo (K:=KX w.params) rfl U) (pe_ix (z8a (K:=KX w.params) rfl) (pv 0) pe_int (λ _ _=>rfl)) (pv 1) (by with_unfolding_all rfl)))) (λ _ _ _ _ _=>(pv 0)))
   (z02 (ps_if (PW.pt (pw_or (z08 op_gt (z09 z1h rfl (T.no (n_len _)) X3 (z00 (pv 6) pa_nil)) pe_int (nomark _)) (pw_or1 (pt_val (zda (pv 2) (z1i _) (z6o _) c3 (U.mono (by decide)) (z7m _) .nil pass0 (z00 (pv 5) pa_nil)) (λ _=>rfl)))))
   (z04 (zfg U (pv 3) (pv 5) pe_bl rfl))
   z0e)
   (z04 (ps_for K1 rfl (z17 (pv 6)) (z0g (i:=7) sc_answers_in_orders.nd rfl (U0 rfl))
   (z04 (ps_if (z08 opEq (pJ 7) (pv 1) (nomark _))
   (z04 (z6u (hu_of U) (pv 4) (pJ 7) pe_bl rfl))
   z0e)))))))
   (z04 (ps_ret (pv 4))))))),?_⟩
  refine zfs (m:=0) tp (λ R h=>⟨_,rfl,h⟩) λ x dx fs Z s1 rl ok a5 e1 bf=>?_;have bo:BoAt (kx w) Z 0 (dAll 0 [] es) u B x:=⟨dx,fs,e1,bf⟩
  have e5:=tp.same s1;refine z0k ?_;intro e d4;refine g_name ?_;obtain ⟨H2,v2,q2,e2⟩:=new1 (NsO e []) d4;rw [<-v2];refine z0k ?_;intro f a0;refine g_name ?_;obtain ⟨H3,v3,q3,e3⟩:=new1 (.dK []) a0;rw [<-v3];have d0:e≠f:=λ z=>by rw [<-z,e2] at a0;cases a0
  have d1:=q2.trans q3;have f1:Z f=none:=q2.free a0;have b1:=q3 _ _ e2;refine ⟨_,rfl,t,u,es,B,rfl,e5.same d1,lb,λ l Y S H4 s4 hl el al ap yl=>⟨l,Y,rfl,el,?_⟩⟩;have d5:=s4 _ _ b1;have c6:=s4 _ _ e3;have d6:Same Z (hid2 e f H4):=zfh d4 f1 (d1.trans s4);have f4:l≠e:=λ z=>by rw [z,b1] at hl;cases hl
  have f0:l≠f:=λ z=>by rw [z,e3] at hl;cases hl
  have e7:=zli (z01 (λ _ _ z=>z.elim λ p y=>(⟨p,y.1,y.2.tups (z9r d5 c6)⟩:PlV (kx w) (hid2 e f H4) _ _)) al);have e4:Y.length=S.length:=z03 al;have pw:S.reverse.Pairwise λ a b=>b.1.length<=a.1.length:=List.pairwise_reverse.mpr ap.pw;clear v2 v3 q2 q3 e2 e3 b1 a0;generalize dAll 0 [] es=rs at rl a5 bo bf n4 ap q;refine zmf (a:=l) (xs:=Y) (λ i σ C=>∃ks kvs,Same (hid2 e f H4) (hid2 e f C)/\C e=some (NsO e ks)/\C f=some (.dK kvs)/\HopI (kx w) (hid2 e f C) u rs B (S.reverse.take i) ks/\ks.length<=i/\HeaI u rs B n (S.reverse.take i) kvs/\∃x5 x6 x7,σ=[some (.ref t),some (.int (n:Nat)),some (.ref x),some (.ref e),some (.ref f),x5,x6,x7])
   ⟨[],[],Same.refl _,d5,c6,⟨λ k J=>absurd J j0,λ r L=>absurd L (by rw [S3];exact j0)⟩,t0 _,⟨⟨.nil,λ k J=>absurd J j0⟩,λ r L=>absurd L (by rw [S3];exact j0)⟩,_,_,_,rfl⟩ (λ i σ C h=>?_) ?_ ?_
  ·obtain ⟨_,_,h,_⟩:=h;exact z0m _ _ (h _ _ (z60 f4 f0 el))
  ·rintro i y σ H5 hy ⟨ks,kvs,s5,e25,e35,ki,kl,hk5,x5,x6,x7,rfl⟩;obtain ⟨r,a8,p,rfl,pz⟩:=z0f e7 hy;obtain ⟨b4,c4⟩:=ap.ok r (List.mem_reverse.mp (G0 a8));have il:i < Y.length:=by have:=(List.getElem?_eq_some_iff.mp hy).1;rwa [List.length_reverse] at this
   have tk :∀a∈S.reverse.take (i + 1),a∈S.reverse.take i\/a=r:=λ a M=>by
    rw [P3,a8] at M;rcases List.mem_append.mp M with z|z
    ·exact .inl z
    ·exact .inr (List.mem_singleton.mp z)
   have a4:Same Z H5:=(d6.trans s5).trans z0m;refine g_name ?_;have b8:=pz.tups (.of s5);have b0:=b8.tups (.of z0m);have d2:=bo.same a4;have c7:=(ki.1.same z0m).at_ (.inl e25);have e0:=z01 (λ _ _ z=>RcGd.tt (.of a4) z) a5;have f5 :∀s∈nxT 0 u rs B r,AnsV s.2.1:=λ s D=>(zd9 (c:=cP 0 rs r.1) a5 ok b4 (by omega) rfl (λ n h=>cP_no h) (t0 _) s D).1;have nx:=zao a5 ok b4 (by omega) (m:=0);have c9 :∀s∈nxT 0 u rs B r,plD s.2.2∈ks.map (·.1)↔Hop u rs B s.2.2:=λ s D=>by
    constructor
    ·intro X;obtain ⟨k,J,ek⟩:=List.mem_map.mp X;obtain ⟨f7,e',_,g⟩:=ki.1 k J;rw [zbf (ek.symm.trans e')];exact g
    ·intro g;refine ki.2 _ (zm2 pw a8 ?_ (by have:=(nx s D).2;omega)) g;exact List.mem_reverse.mpr (ap.all _ (c4.elim λ o z=>⟨_,.snoc z D⟩))
   refine z0k ?_;refine zl1 (K:=KX w.params) (λ a xs H6=>Same H5 H6/\H6 a=some (.lst xs)/\All2 (StpZ (kx w) H6) (nxT 0 u rs B r) xs) (λ R h=>⟨_,rfl,x,dx,fs,rfl,a4 _ _ e1,bf.nm _ (by simp),_,rfl,x,p,0,_,rs,u,B,r,rfl,d2,e0,ok,b0,b4,by omega,λ l Y C s hl el al=>h l Y C ⟨s,el,al⟩⟩) (λ a xs Z h=>⟨SqL.of h.2.1,A0 (m:=5) (by rw [z03 h.2.2];exact A0 zcl rl) (by decide)⟩) (λ k=>((nxT 0 u rs B r)[k]?.map λ d=>decide (plD d.2.2∈ks.map (·.1))).getD false) (λ k y C=>∃d,(nxT 0 u rs B r)[k]? = some d/\StpZ (kx w) C d y) (λ _ _ _ _ s ⟨d,F,I⟩=>⟨d,F,I.tups (.of s)⟩) ?_ ?_
   ·rintro a xs H6 ⟨s6,e6,al6⟩ k J v H7 s7 hv KT KF k1 k2;obtain ⟨d,W,stz⟩:=z0f al6 hv;obtain ⟨b5,q5,rfl,a9,b7⟩:=id (StpZ.tups (.of s7) stz);rw [W] at k1 k2;refine ⟨[some (.ref b5)],rfl,rfl,?_⟩;refine ⟨_,rfl,.inr (.inl ⟨b5,_,2,.ref q5,rfl,rfl,a9,z06 (j:=2) rfl,_,rfl,e,q5,ks,plD d.2.2,rfl,rfl,zd5 (s6.trans s7) c7,pl_key _,pl_dep _,plz_pd b7,_,rfl,?_⟩)⟩;by_cases X:plD d.2.2∈ks.map (·.1)
    ·refine iteP (by rw [decide_eq_true X];rfl) ⟨_,rfl,k1 (decide_eq_true X) _ _ (Same.refl _) ⟨d,rfl,?_⟩⟩;exact StpZ.tups (.of s7) stz
    ·exact iteN (by rw [decide_eq_false X];decide) (k2 (decide_eq_false X) _ (Same.refl _))
   rintro a xs H6 ⟨s6,e6,al6⟩ l7 H7 us s7 hl7 a2;rw [z03 al6] at a2;have a2:=z5u (q:=λ d:Stp=>decide (plD d.2.2∈ks.map (·.1))) a2;refine g_name ?_;obtain ⟨H8,v8,q8,e8⟩:=new1 (.lst us) hl7;rw [<-v8];have O:=(s6.trans s7).trans q8;have a6:=z01 (λ _ _ z=>StpZ.tups (.of q8) z) a2;have fm :∀d,d∈(nxT 0 u rs B r).filter (λ d=>decide (plD d.2.2∈ks.map (·.1)))↔d∈nxT 0 u rs B r/\Hop u rs B d.2.2:=λ d=>by rw [List.mem_filter,decide_eq_true_iff];exact ⟨λ h=>⟨h.1,(c9 d h.1).mp h.2⟩,λ h=>⟨h.1,(c9 d h.1).mpr h.2⟩⟩
   generalize (nxT 0 u rs B r).filter (λ d=>decide (plD d.2.2∈ks.map (·.1)))=sts at a6 fm;have b2:=O _ _ e25;have b3:=O _ _ e35;have n1:l7≠e:=λ z=>by rw [z,(s6.trans s7) _ _ e25] at hl7;cases hl7
   have n2:l7≠f:=λ z=>by rw [z,(s6.trans s7) _ _ e35] at hl7;cases hl7
   have a7:=z1u (a:=e) (b:=f) O;have f3:=z01 (λ _ _ z=>StpZ.tups (z9r b2 b3) z) a6;have ul:us.length=sts.length:=z03 a6;clear a2 a6 v8;refine zde (λ σ1 C=>∃ks',Same (hid2 e f H8) (hid2 e f C)/\C e=some (NsO e ks')/\C f=some (.dK kvs)/\HopI (kx w) (hid2 e f C) u rs B (S.reverse.take (i + 1)) ks'/\ks'.length<=i + 1/\σ1=[some (.ref t),some (.int (n:Nat)),some (.ref x),some (.ref e),some (.ref f),some (.ref p),some (.ref l7),x7]) ?_ (λ tl=>?_);rotate_left
   ·refine if_any (λ C=>Same H8 C/\Hop u rs B r) (λ H9 ⟨G,L⟩=>?_) λ put=>?_
    ·have f2:=b0.tups (.of (O.trans G));refine ⟨_,rfl,_,rfl,e,p,ks,plD r,rfl,rfl,rfl,G _ _ b2,zd5 (O.trans G) c7,A1 kl (F1 (m:=500) (by omega) (by decide)),pl_key _,pl_dep _,plz_pd f2,tl _ _ ⟨putN ks (plD r) p,?_,upd_same,by rw [upd_ne d0.symm];exact G _ _ b3,⟨?_,λ a M a1=>?_⟩,A0 z98 (by omega),rfl⟩⟩
     ·rw [hid2_a];exact z1u G
     ·rw [hid2_a];exact (ki.1.same (a7.trans (z1u G))).put (b8.tups (.of (a7.trans (z1u G)))) L
     ·rcases tk a M with z|z
      ·exact z7g (ki.2 a z a1)
      ·rw [z];exact z8s
    ·refine t_or ?_;refine ⟨_,rfl,.inl ⟨l7,us,rfl,.inl (SqL.of e8),_,_,rfl,rfl,_,rfl,?_⟩⟩;refine ite2 (λ h=>iteT (put _ ⟨Same.refl _,?_⟩)) λ h=>?_
     ·have h:(0:Int) < (us.length:Nat):=of_decide_eq_true h;obtain ⟨d,W⟩:=M6 (show 0 < sts.length by omega);obtain ⟨F,I⟩:=(fm d).mp W;exact .step F I
     have no :∀s∈nxT 0 u rs B r,¬ Hop u rs B s.2.2:=λ s F I=>h (decide_eq_true (by have:=j8 ((fm s).mpr ⟨F,I⟩);show (0:Int) < (us.length:Nat);omega));refine ⟨_,rfl,x,dx,fs,rfl,(a4.trans O) _ _ e1,bf.nm _ (by simp),_,rfl,x,p,0,rs,u,B,r,rfl,d2.same O,by omega,b0.tups (.of O),λ b9 H9 G c5=>⟨_,rfl,?_⟩⟩;refine ite2 (λ h=>put _ ⟨G,.full (c5.mp h)⟩) λ h=>tl _ _ ⟨ks,z1u G,G _ _ b2,G _ _ b3,⟨ki.1.same (a7.trans (z1u G)),λ a M a1=>?_⟩,by omega,rfl⟩;rcases tk a M with z|z
     ·exact ki.2 a z a1
     ·rw [z] at a1;rcases zmg a1 with y|⟨s,F,I⟩
      ·exact absurd (c5.mpr y) h
      ·exact absurd I (no s F)
   rintro σ1 H9 ⟨ks',G,e29,e39,ki9,kl9,rfl⟩;have c8:=G _ _ (z60 n1 n2 e8);refine ⟨_,rfl,l7,rfl,⟨_,SqL.of (z0m _ _ c8)⟩,?_⟩;refine z2e (K:=KX w.params) (a:=l7) (xs:=us) (λ j σ C=>∃kvs',Same (hid2 e f H9) (hid2 e f C)/\C e=some (NsO e ks')/\C f=some (.dK kvs')/\HeaI u rs B n (S.reverse.take i) kvs'/\(∀s∈sts.take j,s.1=n->∃k,s.2.1=kV k/\k∈kvs'.map (·.1))/\∃x7,σ=[some (.ref t),some (.int (n:Nat)),some (.ref x),some (.ref e),some (.ref f),some (.ref p),some (.ref l7),x7])
    ⟨kvs,Same.refl _,e29,e39,hk5,λ s D=>absurd D (by rw [S3];exact j0),_,rfl⟩ (λ j σ C _ h=>SqL.of (z0m _ _ (h.choose_spec.1 _ _ c8))) ?_ ?_
   ·rintro j y σ d7 e9 ⟨kvs',s10,e210,e310,hk10,ha10,x7,rfl⟩;obtain ⟨d,W,b5,q5,rfl,a9,b7⟩:=z0f f3 e9;obtain ⟨m1,m2⟩:=(fm d).mp (G0 W);have d3:=((G.trans s10).trans z0m).seqT a9;have b6 :∀s∈sts.take (j + 1),s∈sts.take j\/s=d:=λ s D=>by
     rw [P3,W] at D;rcases List.mem_append.mp D with z|z
     ·exact .inl z
     ·exact .inr (List.mem_singleton.mp z)
    refine g_name ?_;refine ⟨_,rfl,.inr (.inl ⟨b5,_,0,.int (d.1:Nat),rfl,rfl,d3,z06 (j:=0) rfl,_,rfl,rfl,_,rfl,?_⟩)⟩;by_cases hn:d.1=n
    ·refine iteP (decide_eq_true (by rw [hn])) ?_;obtain ⟨a3,J⟩:=zkb (f5 d m1);have d8:Hrd u rs B n (kV a3):=c4.elim λ o z=>⟨o,r,d,z,m1,hn,J,m2⟩
     have d9:=KyD.le n4 (kvs:=kvs') ⟨hk10.k.nd,λ k J=>(hk10.k.so k J).met⟩;refine ⟨_,rfl,_,rfl,.inr (.inl ⟨b5,_,1,d.2.1,rfl,rfl,d3,z06 (j:=1) rfl,f,_,rfl,J ▸ DPut.k (k:=a3) e310 (A1 d9 (by decide)),?_⟩)⟩;refine ⟨putK kvs' a3 (.bl true),by rw [hid2_b];exact s10,by rw [upd_ne d0];exact e210,upd_same,⟨hk10.k.put d8,λ a M s D F I=>?_⟩,λ s D F=>?_,_,rfl⟩
     ·obtain ⟨k,h3,h4⟩:=hk10.all a M s D F I;exact ⟨k,h3,putK_mem.mpr (.inl h4)⟩
     ·rcases b6 s D with z|z
      ·obtain ⟨k,h3,h4⟩:=ha10 s z F;exact ⟨k,h3,putK_mem.mpr (.inl h4)⟩
      ·rw [z];exact ⟨a3,J,putK_mem.mpr (.inr rfl)⟩
    ·refine iteN (λ h=>hn (by have:=V.int.inj (of_decide_eq_true h);omega)) ⟨kvs',s10,e210,e310,hk10,λ s D F=>?_,_,rfl⟩;rcases b6 s D with z|z
     ·exact ha10 s z F
     ·rw [z] at F;exact absurd F hn
   ·rintro σ d7 ⟨kvs',s10,e210,e310,hk10,ha10,x7,rfl⟩;rw [ul,K3] at ha10;refine ⟨ks',kvs',s5.trans (a7.trans (G.trans s10)),e210,e310,ki9.same s10,kl9,⟨hk10.k,λ a M s D F I=>?_⟩,_,_,_,rfl⟩;rcases tk a M with z|z
    ·exact hk10.all a z s D F I
    ·rw [z] at D;exact ha10 s ((fm s).mpr ⟨D,I⟩) F
  ·rintro σ H5 ⟨ks,kvs,s5,e25,e35,ki,kl,hk5,x5,x6,x7,rfl⟩;refine ⟨_,rfl,q f kvs _ ((s1.trans d6).trans (s5.trans z0m)) (s1.free f1) e35 ⟨hk5.k,λ a ⟨o,r,s,w',D,e1,e2,L⟩=>?_⟩⟩;obtain ⟨k,F,I⟩:=hk5.all r (by rw [e4,<-List.length_reverse,K3];exact List.mem_reverse.mpr (ap.all r ⟨o,w'⟩)) s D e1 L;exact ⟨k,by rw [<-e2];exact F,I⟩
def lefK (ks:List Key):List Int:=ks.filterMap λ k=>match k with | .inl i=>some i | .inr _=>none
def rigK (ks:List Key):List Str:=ks.filterMap λ k=>match k with | .inl _=>none | .inr z=>some z
theorem zdf :∀ks:List Key,(ks.filter λ k=>k.isLeft).map kV=(lefK ks).map V.int
 | []=>rfl
 | .inl i :: ks=>by rw [C2 rfl,X0,zdf ks];rfl
 | .inr z :: ks=>by rw [D2 (λ h=>by cases h),zdf ks];rfl
theorem zdv :∀ks:List Key,(ks.filter λ k=>k.isRight).map kV=(rigK ks).map V.str
 | []=>rfl
 | .inr z :: ks=>by rw [C2 rfl,X0,zdv ks];rfl
 | .inl i :: ks=>by rw [D2 (λ h=>by cases h),zdv ks];rfl
theorem lefK_mem {ks:List Key} {i:Int}:i∈lefK ks↔Sum.inl i∈ks:=by
 unfold lefK;rw [G9];constructor
 ·rintro ⟨k,hk,e⟩;cases k with
  | inl j=>cases e;exact hk
  | inr z=>cases e
 ·exact λ h=>⟨_,h,rfl⟩
theorem rigK_mem {ks:List Key} {z:Str}:z∈rigK ks↔Sum.inr z∈ks:=by
 unfold rigK;rw [G9];constructor
 ·rintro ⟨k,hk,e⟩;cases k with
  | inr j=>cases e;exact hk
  | inl z=>cases e
 ·exact λ h=>⟨_,h,rfl⟩
theorem zfu :∀{ks:List Key},ks.Nodup->(lefK ks).Nodup/\(rigK ks).Nodup
 | [],_=>⟨.nil,.nil⟩
 | .inl i :: ks,h=>by rw [O5] at h;obtain ⟨b,a⟩:=zfu h.2;exact ⟨List.nodup_cons.mpr ⟨λ z=>h.1 (lefK_mem.mp z),b⟩,a⟩
 | .inr z :: ks,h=>by rw [O5] at h;obtain ⟨b,a⟩:=zfu h.2;exact ⟨b,List.nodup_cons.mpr ⟨λ y=>h.1 (rigK_mem.mp y),a⟩⟩
theorem zhg (ks:List Key):(lefK ks).length<=ks.length/\(rigK ks).length<=ks.length:=⟨j4 _ _,j4 _ _⟩
theorem z3p {α:Type} {f:α->V} {xs:List α} {ys:List V} (h:All2 (λ x y=>y=f x) xs ys):ys=xs.map f:=by
 induction h with
 | nil=>rfl
 | cons a r ih=>rw [a,ih];rfl
theorem anl_of {Pa:V->Prop} {ks:List Key} {is:List Int} {ss:List Str} (nd:ks.Nodup) (so :∀k∈ks,Pa (kV k)) (al :∀a,Pa a->∃k,a=kV k/\k∈ks) (p1:is.Perm (lefK ks)) (p2:is.Pairwise (·<=·)) (p3:ss.Perm (rigK ks)) (p4:N7 ss=true):AnL Pa is ss:=by
 obtain ⟨c,d⟩:=zfu nd;refine ⟨p1.nodup_iff.mpr c,p3.nodup_iff.mpr d,p2,p4,λ i=>?_,λ z=>?_⟩
 ·rw [p1.mem_iff,lefK_mem];refine ⟨λ h=>so _ h,λ h=>?_⟩;obtain ⟨k,e,b⟩:=al _ h;cases k with
  | inl j=>cases e;exact b
  | inr z=>cases e
 ·rw [p3.mem_iff,rigK_mem];refine ⟨λ h=>so _ h,λ h=>?_⟩;obtain ⟨k,e,b⟩:=al _ h;cases k with
  | inr j=>cases e;exact b
  | inl z=>cases e
def z5x (K:b0):Sp:=λ vs H Q _=>∃(t:Addr) (ts:zT) (es:List Ev) (ps:List DD) (n:Nat) (r:Rc),vs=[.ref t,.int r.h]/\TlP K H t ts es ps/\LBd ts (dAll 0 [] es) ps/\(dAll 0 [] es).length<=4/\(dAll 0 [] es)[n]? = some r/\r.e=none/\∀l is ss H',Same H H'->H l=none->H' l=some (.lst (is.map V.int++ss.map V.str))->AnL (Hrd ts (dAll 0 [] es) ps n) is ss->Q (.ref l) H'
theorem zav (T:TX (kx w) mg) (c0:Ca P w mg base "open_deed" ["tale","hand"] 2 (z6c (kx w))) (c1:Ca P w mg base "answers_in_orders" ["tale","number"] 10 (z1s (kx w))) (c2:Ca P w mg base "is_whole" ["value"] 1 z3r):Fo P w mg base CX0 11 338 y11 ["tale","hand"] (z5x (kx w)):=by
 refine (z4h w.params).ok sc_may_answer (λ vs H Q E h=>?_) (λ b3 A b0 s H vs Q E u h=>?_)
 ·obtain ⟨t,B,x,Z,n,r,rfl,_⟩:=h;rfl
 ·obtain ⟨t,B,x,Z,n,r,rfl,tp,lb,L,C,G,q⟩:=h;refine ⟨_,(z02 (ps_set (i:=2) sc_may_answer.nd rfl (U0 rfl) (pe_cal c1 (u.mono (by decide)) rfl (z00 (pv 0) (z00 (pe_cal c0 (u.mono (by decide)) rfl (z00 (pv 0) (z00 (pv 1) pa_nil))) pa_nil))))
   (z02 (zkk (zcw (i:=3) sc_may_answer.nd rfl (U0 rfl) (xs:=["answer"]) (g:=gName 0) (fr:=[]) rfl (zgf (pv 2)) (λ _ z=>absurd z j0) (z9o rfl) (λ _ z=>absurd z j0) (by decide +kernel) rfl (by decide +kernel) (λ _ _ _ _ _=>(pg_cn (N:=["answer"]) 0)) (λ _ _ _ _ _=>(pf_one (pt_val (pe_cal c2 (u.mono (by decide)) rfl (z00 (pv 0) pa_nil)) (λ _=>rfl)))) (λ _ _ _ _ _=>(pv 0))))
   (z02 (zkk (zcw (i:=4) sc_may_answer.nd rfl (U0 rfl) (xs:=["answer"]) (g:=gName 0) (fr:=[]) rfl (zgf (pv 2)) (λ _ z=>absurd z j0) (z9o rfl) (λ _ z=>absurd z j0) (by decide +kernel) rfl (by decide +kernel) (λ _ _ _ _ _=>(pg_cn (N:=["answer"]) 0)) (λ _ _ _ _ _=>(pf_one (pt_not (pt_val (pe_cal c2 (u.mono (by decide)) rfl (z00 (pv 0) pa_nil)) (λ _=>rfl))))) (λ _ _ _ _ _=>(pv 0))))
   (z04 (ps_ret (pe_op opAdd (z09 z19 rfl (T.no (z22 _)) Y4 (z00 (pv 3) pa_nil)) (z09 z65 rfl (T.no (z22 _)) Y4 (z00 (pv 4) pa_nil)))))))),?_⟩
  obtain ⟨_,os,DI⟩:=DInv.all DInv.nil tp.2.2.2.1;refine z0k ?_;refine ⟨_,rfl,_,rfl,_,rfl,t,x,r.h,rfl,⟨B,tp.1,tp.2.2.1,tp.2.2.2.1⟩,⟨n,r,C,rfl,G⟩,λ j r' H1 I hj hh he=>?_⟩;have:=zlu DI C hj G he hh.symm;subst this;refine ⟨t,B,x,Z,n,rfl,tp.same I,lb,L,λ d kvs H2 s2 hd F b=>?_⟩;refine g_name ?_;have kl:kvs.length<=51:=KyD.le L ⟨b.1.nd,λ k h=>(b.1.so k h).met⟩;have U:kvs.length<=sizeLine:=A0 kl (by decide);refine zg4 ?_;refine tcompD (K:=KX w.params) (a:=d) (kvs:=kvs) (λ i=>((kvs.map (·.1))[i]?.map λ k=>k.isLeft).getD false) (λ i y=>∃k,(kvs.map (·.1))[i]? = some k/\y=kV k) (λ R h=>⟨_,rfl,h⟩) F U ?_ ?_
  ·intro i k v b H3 _ KT KF e c;rw [O0,b] at e c;cases k with
   | inl j=>exact ⟨[some (.int j)],rfl,rfl,⟨_,rfl,.int j,"int",rfl,rfl,_,rfl,iteT ⟨_,rfl,e rfl _ _ (Same.refl _) ⟨_,rfl,rfl⟩⟩⟩⟩
   | inr z=>exact ⟨[some (.str z)],rfl,rfl,⟨_,rfl,.str z,"str",rfl,rfl,_,rfl,iteN (by decide) (c rfl _ (Same.refl _))⟩⟩
  intro l3 H3 b2 S a9 a0 l;refine zg4 ?_;refine tcompD (K:=KX w.params) (a:=d) (kvs:=kvs) (λ i=>((kvs.map (·.1))[i]?.map λ k=>k.isRight).getD false) (λ i y=>∃k,(kvs.map (·.1))[i]? = some k/\y=kV k) (λ R h=>⟨_,rfl,h⟩) (S _ _ F) U ?_ ?_
  ·intro i k v b H4 _ KT KF e c;rw [O0,b] at e c;cases k with
   | inl j=>exact ⟨[some (.int j)],rfl,rfl,⟨_,rfl,.int j,"int",rfl,rfl,_,rfl,iteN (by decide) (c rfl _ (Same.refl _))⟩⟩
   | inr z=>exact ⟨[some (.str z)],rfl,rfl,⟨_,rfl,.str z,"str",rfl,rfl,_,rfl,iteP (by decide) ⟨_,rfl,e rfl _ _ (Same.refl _) ⟨_,rfl,rfl⟩⟩⟩⟩
  intro l4 H4 b1 O a8 a7 o;rw [<-o0 (f:=(·.1)) (as:=kvs)] at l o;have l:=z3p (z5u (q:=λ k:Key=>k.isLeft) l);have o:=z3p (z5u (q:=λ k:Key=>k.isRight) o);rw [zdf] at l;rw [zdv] at o;subst l o;obtain ⟨L1,a4⟩:=zhg (kvs.map (·.1));rw [o0] at L1 a4;refine sq_ret ?_;refine ⟨_,rfl,l3,_,rfl,.inl (SqL.of (O _ _ a0)),by omega,λ l5 a6 a5 W pw=>?_⟩;obtain ⟨H5,v5,Y,e5⟩:=new1 (.lst (a6.map V.int)) a5;rw [<-v5];refine ⟨_,rfl,l4,_,rfl,SqL.of (Y _ _ a7),by omega,λ l6 a1 a3 X a2=>?_⟩;obtain ⟨H6,v6,J,e6⟩:=new1 (.lst (a1.map V.str)) a3;rw [<-v6];have D:=(I.trans s2).trans ((S.trans O).trans (Y.trans J));exact .inr (.inr (.inl ⟨l5,l6,_,_,rfl,rfl,J _ _ e5,e6,A0 (m:=200) (by rw [o0,o0,W.length_eq,X.length_eq];omega) (by decide),λ p M=>q p _ _ _ (D.trans (Same.upd M)) (D.free M) upd_same (anl_of b.1.nd b.1.so b.2 W pw X a2)⟩))
theorem za1 {K:b0} {H:Hp} {r:Addr} {kvs:zK} (e:H r=some (.dK kvs)):Tups K H (hide r H):=λ a b h=>by
 rcases h with (h|⟨ob,h⟩)|h
 ·exact .inl (.inl (z0s (λ z=>by rw [z,e] at h;cases h) h))
 ·exact .inl (.inr ⟨ob,z0s (λ z=>by rw [z,e] at h;cases h) h⟩)
 ·exact .inr h
def z85 (K:b0):Sp:=λ vs H Q _=>∃(t:Addr) (ts:zT) (es:List Ev) (ps:List DD) (n:Nat),vs=[.ref t,.int (n:Nat)]/\TlP K H t ts es ps/\(dAll 0 [] es).length<=4/\
 ∀d kvs H',Same H H'->H d=none->H' d=some (.dK kvs)->KyD (Met ts (dAll 0 [] es) ps n) kvs->(∀a,Met ts (dAll 0 [] es) ps n a->∃k,a=kV k/\k∈kvs.map (·.1))->Q (.ref d) H'
theorem ze6 (T:TX (kx w) mg) (c0:Ca P w mg base "_law_deeds" ["tale"] 1 (z1g (kx w))) (c1:Ca P w mg base "_law_places" ["tale","strictness"] 4 (z2i (kx w))) (c2:Ca P w mg base "_law_nexts" ["tale","some","strictness","place"] 3 (z35 (kx w))):Fo P w mg base CX0 5 455 y1q ["tale","number"] (z85 (kx w)):=by
 refine (z7f w.params).ok sc__law_met (λ vs H Q E h=>?_) (λ c7 A c5 s H vs Q E L h=>?_)
 ·obtain ⟨t,f,M,u,n,rfl,_⟩:=h;rfl
 ·obtain ⟨t,f,M,u,n,rfl,tp,n4,q⟩:=h;refine ⟨_,(z02 (ps_set (i:=2) sc__law_met.nd rfl (U0 rfl) (pe_cal c0 (L.mono (by decide)) rfl (z00 (pv 0) pa_nil)))
   (z02 (ps_set (i:=3) sc__law_met.nd rfl (U0 rfl) z5d)
   (z02 (ps_for K1 rfl (zft (pe_cal c1 (L.mono (by decide)) rfl (z00 (pv 0) (z00 pe_str pa_nil)))) (z0g (i:=4) sc__law_met.nd rfl (U0 rfl))
   (z04 (ps_for K1 rfl (z17 (pe_cal c2 (L.mono (by decide)) rfl (z00 (pv 0) (z00 (pv 2) (z00 pe_str (z00 (pv 4) pa_nil)))))) (pg_tup rfl (z0d (z0g (i:=5) sc__law_met.nd rfl (U0 rfl)) (z0d (z0g (i:=6) sc__law_met.nd rfl (U0 rfl)) (z0d (z0g (i:=7) sc__law_met.nd rfl (U0 rfl)) z0x))))
   (z04 (ps_if (z08 opEq (pv 5) (pv 1) (nomark _))
   (z04 (z6u (hu_of L) (pv 3) (pv 6) pe_bl rfl))
   z0e)))))
   (z04 (ps_ret (pv 3)))))),?_⟩
  obtain ⟨_,os,DI⟩:=DInv.all DInv.nil tp.2.2.2.1;refine z0k ⟨_,rfl,t,M,rfl,⟨f,tp.1,tp.2.2.1,tp.2.2.2.1⟩,λ la zs O B el aa=>?_⟩;refine g_name ?_;refine z0k ?_;intro l S;refine g_name ?_;obtain ⟨H2,v2,X,I⟩:=new1 (.dK []) S;rw [<-v2];have b5:=tp.same (B.trans X);refine ⟨_,rfl,t,f,M,u,rfl,b5,λ d ks N s3 J ed kl ki kc=>⟨d,ks,rfl,ed,λ ob=>?_⟩⟩;obtain ⟨ta,ok,c4,wf,gd,rl⟩:=tp;obtain ⟨pt,te,ys,et,th,c6,al⟩:=ta;generalize dAll 0 [] M=rs at gd rl DI aa ki kc n4 q;have b7:d≠l:=λ z=>by rw [z,I] at J;cases J
  have f2:O d=none:=X.free J;have Z:Same H2 (upd N d (.frz ob (NsO d ks))):=Same.keep s3 J;have e4:upd N d (.frz ob (NsO d ks)) d=some (.frz ob (NsO d ks)):=upd_same;have a3:KeyI (kx w) (upd N d (.frz ob (NsO d ks))) (Com f rs u) ks:=λ k r=>(ki k r).elim λ b z=>⟨b,z.1,z.2.1.tups (zh3 ed),z.2.2⟩
  generalize upd N d (.frz ob (NsO d ks))=H4 at Z e4 a3⊢;have a1:H4 l=some (.dK []):=Z _ _ I;have a9:Same O (hide l H4):=λ p o e=>z0s (λ z=>by rw [z,S] at e;cases e) ((X.trans Z) _ _ e);have b0:KeyI (kx w) (hide l H4) (Com f rs u) ks:=λ k r=>(a3 k r).elim λ b z=>⟨b,z.1,z.2.1.tups (za1 a1),z.2.2⟩
  have b9:hide l H4 d=some (.frz ob (NsO d ks)):=z0s b7 e4;have Y:=z01 (λ _ _ z=>RcGd.tt (.of B) z) gd;refine zjm (a:=d) (ob:=ob) (ks:=ks) (λ i σ x=>∃kvs,Same (hide l H4) (hide l x)/\x l=some (.dK kvs)/\KyD (Met f rs u n) kvs/\(∀k∈ks.take i,∀b,k.1=plD b->∀s∈nxT 0 f rs u b,s.1=n->∃y,s.2.1=kV y/\y∈kvs.map (·.1))/\∃x4 x5 x6 x7,σ=[some (.ref t),some (.int (n:Nat)),some (.ref la),some (.ref l),x4,x5,x6,x7])
   ⟨[],Same.refl _,a1,⟨.nil,λ k r=>absurd r j0⟩,λ k r=>absurd r (by rw [S3];exact j0),_,_,_,_,rfl⟩ (λ i σ x h=>?_) ?_ ?_
  ·obtain ⟨_,h,_⟩:=h;exact hide_same _ _ (h _ _ b9)
  ·rintro i k σ H5 r ⟨kvs,s5,e5,ky,ka,x4,x5,x6,x7,rfl⟩;obtain ⟨b,ek,pz,a2⟩:=b0 k (G0 r);have D:Same O H5:=(a9.trans s5).trans hide_same;have a8:PlOk f rs.length b.1.length b:=by obtain ⟨o,U⟩:=a2;exact z4q (m:=0) (G:=λ b=>PlOk f rs.length b.1.length b) (z9m f _) (λ b hp s g=>(zao Y ok hp (by omega) s g).1) U
   refine g_name ?_;refine ⟨_,rfl,_,rfl,_,rfl,t,la,k.2,pt,te,zs,f,rs,u,_,os,b,rfl,D _ _ (B _ _ et),(th.tt (.of (K:=KX w.params) B)).tt (.of (K:=KX w.params) D),ok,D _ _ el,z01 (λ _ _ z=>z.same D) aa,z01 (λ _ _ z=>RcGd.tt (.of D) z) Y,by omega,DI,pz.tups (.of (s5.trans hide_same)),a8,λ W y6 H6 s6 a4 a6 a7=>⟨W,rfl,⟨_,SqL.of a6⟩,?_⟩⟩;have e6:=s6 _ _ e5;have b4:W≠l:=λ z=>by rw [z,e5] at a4;cases a4
   have b3:=z01 (λ _ _ z=>StpZ.tups (za1 e6) z) a7;have c3 :∀s∈nxT 0 f rs u b,AnsV s.2.1:=λ s g=>(zd9 (c:=cP 0 rs b.1) Y ok a8 (by omega) rfl (λ n h=>cP_no h) (t0 _) s g).1;refine z2e (K:=KX w.params) (a:=W) (xs:=y6) (λ j σ x=>∃kvs',Same (hide l H6) (hide l x)/\x l=some (.dK kvs')/\KyD (Met f rs u n) kvs'/\(∀y∈kvs.map (·.1),y∈kvs'.map (·.1))/\(∀s∈(nxT 0 f rs u b).take j,s.1=n->∃y,s.2.1=kV y/\y∈kvs'.map (·.1))/\∃x5 x6 x7,σ=[some (.ref t),some (.int (n:Nat)),some (.ref la),some (.ref l),some (.ref k.2),x5,x6,x7])
    ⟨kvs,Same.refl _,e6,ky,λ _ h=>h,λ s g=>absurd g (by rw [S3];exact j0),_,_,_,rfl⟩ (λ j σ x _ h=>SqL.of (hide_same _ _ (h.choose_spec.1 _ _ (z0s b4 a6)))) ?_ ?_
   ·rintro j y σ H7 hy ⟨kvs',s7,e7,ky7,ko7,ka7,x5,x6,x7,rfl⟩;obtain ⟨C,a0,b8,q8,rfl,b6,_⟩:=z0f b3 hy;have m1:C∈nxT 0 f rs u b:=G0 a0;have tk :∀s∈(nxT 0 f rs u b).take (j + 1),s∈(nxT 0 f rs u b).take j\/s=C:=λ s g=>by
     rw [P3,a0] at g;rcases List.mem_append.mp g with z|z
     ·exact .inl z
     ·exact .inr (List.mem_singleton.mp z)
    refine ⟨b8,_,rfl,(s7.trans hide_same).seqT b6,rfl,_,_,rfl,_,_,rfl,_,_,rfl,rfl,?_⟩;refine z3z ⟨_,rfl,_,rfl,rfl,_,rfl,?_⟩;by_cases hn:C.1=n
    ·refine iteP (decide_eq_true (by rw [hn])) ?_;obtain ⟨F,r⟩:=zkb (c3 C m1);have met:Met f rs u n (kV F):=a2.elim λ o z=>⟨o,b,C,z,m1,hn,r⟩
     have b2:=KyD.le n4 ky7;refine ⟨_,rfl,_,rfl,l,_,rfl,r ▸ DPut.k (k:=F) e7 (A1 b2 (by decide)),?_⟩;refine ⟨putK kvs' F (.bl true),by rw [z36];exact s7,upd_same,ky7.put met,λ y hy=>putK_mem.mpr (.inl (ko7 y hy)),λ s g v=>?_,_,_,_,rfl⟩;rcases tk s g with z|z
     ·obtain ⟨y,R,h4⟩:=ka7 s z v;exact ⟨y,R,putK_mem.mpr (.inl h4)⟩
     ·rw [z];exact ⟨F,r,putK_mem.mpr (.inr rfl)⟩
    ·refine iteN (λ h=>hn (by have:=V.int.inj (of_decide_eq_true h);omega)) ⟨kvs',s7,e7,ky7,ko7,λ s g v=>?_,_,_,_,rfl⟩;rcases tk s g with z|z
     ·exact ka7 s z v
     ·rw [z] at v;exact absurd v hn
   ·rintro σ H7 ⟨kvs',s7,e7,ky7,ko7,ka7,x5,x6,x7,rfl⟩;rw [show y6.length=(nxT 0 f rs u b).length from z03 a7,K3] at ka7;refine ⟨kvs',s5.trans ((z10 s6).trans s7),e7,ky7,λ k' a5 b1 e' s g v=>?_,_,_,_,_,rfl⟩;rw [P3,r] at a5;rcases List.mem_append.mp a5 with z|z
    ·obtain ⟨y,R,h4⟩:=ka k' z b1 e' s g v;exact ⟨y,R,ko7 y h4⟩
    ·have:k'=k:=List.mem_singleton.mp z;subst this;rw [zbf (e'.symm.trans ek)] at g;exact ka7 s g v
  ·rintro σ H5 ⟨kvs,s5,e5,ky,ka,x4,x5,x6,x7,rfl⟩;rw [K3] at ka;refine ⟨_,rfl,q l kvs _ (B.trans ((a9.trans s5).trans hide_same)) (B.free S) e5 ky λ a ⟨o,b,s,U,g,e1,I⟩=>?_⟩;obtain ⟨k,r,ek⟩:=List.mem_map.mp (kc b ⟨o,U⟩);obtain ⟨y,v,h2⟩:=ka k r b ek s g e1;exact ⟨y,by rw [<-I];exact v,h2⟩
theorem zme {X:Cx} {pos:Pos} {tg iter:Expr} {body:List Stmt} {tl:TE} {g:TG} {tb:TS} (hp:PassesOwn (u1 X.prog X.w) X.A X.env X.xe) (hc:X.calm=true) (hi:QE X iter tl) (hg:PG X tg g) (hb:QSs X body tb)
  (hs :∀x,A4 iter X.env x=Z2 x:=by intro _;rfl):QS X (.For tg iter body [] pos) (tFor (iList X.K tl) g tb):=⟨ps_for hp hc (z17 hi.run) hg hb.run hs⟩
theorem zjf {a:Addr} {ob:Obj} {kvs:zK} {g:TG} {tb:TS} {D:Ends} {σ:L2.St} {H:Hp} (Pv:Nat->L2.St->Hp->Prop) (h0:Pv 0 σ H) (fr :∀i σ H,Pv i σ H->H a=some (.frz ob (.dK kvs)))
  (hs :∀i k σ H,(kvs.map (·.1))[i]? = some k->Pv i σ H->g (kV k) σ H λ σ2 H2=>tb { D with nx:=Pv (i + 1),ct:=Pv (i + 1),bk:=D.nx } σ2 H2) (hd :∀σ H,Pv kvs.length σ H->D.nx σ H) :
  ∃W:Nat->Nat->L2.St->Hp->Prop,(∃m,W 0 m σ H)/\∀i m σ H,W i m σ H->
   ((Itk a ob kvs).stop i H/\D.nx σ H)\/((Itk a ob kvs).go i H/\∃N:L2.St->Hp->Prop,(∀σ' H',N σ' H'->∃m',m' < m/\W (i + 1) m' σ' H')/\∀x H',(Itk a ob kvs).yld i H x H'->g x σ H' λ σ2 H2=>tb { D with nx:=N,ct:=N,bk:=D.nx } σ2 H2):=by
 refine ⟨λ i m σ H=>m=kvs.length - i/\i<=kvs.length/\Pv i σ H,⟨kvs.length,by simp,Q1 _,h0⟩,?_⟩;rintro i m σ H ⟨rfl,hi,p⟩;by_cases hlt:i < kvs.length
 ·refine .inr ⟨⟨fr _ _ _ p,hlt⟩,Pv (i + 1),λ σ' H' q=>⟨kvs.length - (i + 1),by omega,rfl,hlt,q⟩,λ x H' y=>?_⟩;obtain ⟨rfl,k,u,b,rfl⟩:=y;exact hs i k σ _ (by rw [O0,b];rfl) p
 ·obtain rfl:i=kvs.length:=by omega
  exact .inl ⟨⟨fr _ _ _ p,t0 _⟩,hd σ H p⟩
noncomputable def hrdB (ts:zT) (rs:List Rc) (ps:List DD) (n:Nat) (k:Key):Bool:=@decide (Hrd ts rs ps n (kV k)) (N3 _)
theorem hrdB_iff {ts:zT} {rs:List Rc} {ps:List DD} {n:Nat} {k:Key}:hrdB ts rs ps n k=true↔Hrd ts rs ps n (kV k):=@decide_eq_true_iff _ (N3 _)
theorem zm3 (k:Key):IsA (kV k):=by
 cases k with
 | inl i=>exact .inl ⟨i,rfl⟩
 | inr z=>exact .inr ⟨z,rfl⟩
def z89 (K:b0):Sp:=λ vs H Q _=>∃(t:Addr) (ts:zT) (es:List Ev) (ps:List DD) (n:Nat) (r:Rc),vs=[.ref t,.int r.h,.int (n:Nat)]/\TlP K H t ts es ps/\(dAll 0 [] es).length<=4/\es.length<=62/\(dAll 0 [] es)[n]? = some r/\r.e=none/\∀l is ss H',Same H H'->H' l=some (.lst (is.map V.int++ss.map V.str))->AnL (Hrd ts (dAll 0 [] es) ps n) is ss->Q (.ref l) H'
theorem zew (T:TX (kx w) mg) (c0:Ca P w mg base "_law_met" ["tale","number"] 5 (z85 (kx w))) (c1:Ca P w mg base "_law_is_good" ["tale","strictness"] 5 (z3x (kx w))):Fo P w mg base CX0 6 460 y1r ["tale","hand","number"] (z89 (kx w)):=by
 refine (z6q w.params).ok sc__law_due (λ vs H Q E h=>?_) (λ f3 A f1 s H vs Q E U h=>?_)
 ·obtain ⟨t,ts,c,ps,n,r,rfl,_⟩:=h;rfl
 ·obtain ⟨t,ts,c,ps,n,r,rfl,tp,n4,f4,hn,b0,q⟩:=h;refine q_of (z0h (QS.mk (ps_set (i:=3) sc__law_due.nd rfl (U0 rfl) (pe_cal c0 (U.mono (by decide)) rfl (z00 (pv 0) (z00 (pv 2) pa_nil)))))
   (z0h (zme K1 rfl (qe_lst (z0c (QE.mk (pe_un un_neg pe_int)) (z0c (QE.mk (pe_un un_neg pe_int)) (z0c (QE.mk pe_int) (z0c (QE.mk pe_int) (z0c (QE.mk pe_int) (z0c (QE.mk pe_int) (z0c (QE.mk pe_int) (z0c (QE.mk (pe_op op_pow pe_int pe_int)) (z0c (QE.mk pe_str) (z0c (QE.mk pe_str) qa_nil))))))))))) (z0g (i:=4) sc__law_due.nd rfl (U0 rfl))
   (z3i (QS.mk (z6u (hu_of U) (pv 3) (pv 4) pe_bl rfl))))
   (z0h (QS.mk (ps_set (i:=5) sc__law_due.nd rfl (U0 rfl) (pe_lst pa_nil)))
   (z0h (QS.mk (ps_for K1 rfl (zgf (pv 3)) (z0g (i:=6) sc__law_due.nd rfl (U0 rfl))
   (z04 (ps_if (pt_val (pe_cal c1 (U.mono (by decide)) rfl (z00 (pe_tup (z00 (pJ 0) (z00 (pe_op z86 (pJ 0) (pe_tup (z00 (pe_tup (z00 pe_str (z00 (pv 1) (z00 (pv 6) pa_nil)))) pa_nil))) pa_nil))) (z00 pe_str pa_nil))) (λ _=>rfl))
   (z04 (z2b (z14 (pv 5) (z00 (pv 6) pa_nil))))
   z0e))))
   (z0h (QS.mk (ps_set (i:=7) sc__law_due.nd rfl (U0 rfl) (z09 z19 rfl (T.no (z22 _)) Y4 (z00 (pe_cg (xs:=["one"]) (g:=gName 0) (fr:=[]) (z17 (pv 5)) (λ _ _ _ _ _=>(pg_cn (N:=["one"]) 0)) (λ _ _ _ _ _=>(pf_one (pt_not (pt_val (z09 z0o rfl (T.no (z0l _)) i3 (z00 (pv 0) (z00 (z37 (v:=.ty "str") rfl (T.no (n_str _)) j40 rfl) pa_nil))) (λ _=>rfl))))) (λ _ _ _ _ _=>(pv 0))) pa_nil))))
   (z3i (QS.mk (ps_ret (pe_op opAdd (pv 7) (z09 z65 rfl (T.no (z22 _)) Y4 (z00 (pe_cg (xs:=["one"]) (g:=gName 0) (fr:=[]) (z17 (pv 5)) (λ _ _ _ _ _=>(pg_cn (N:=["one"]) 0)) (λ _ _ _ _ _=>(pf_one (pt_val (z09 z0o rfl (T.no (z0l _)) i3 (z00 (pv 0) (z00 (z37 (v:=.ty "str") rfl (T.no (n_str _)) j40 rfl) pa_nil))) (λ _=>rfl)))) (λ _ _ _ _ _=>(pv 0))) pa_nil))))))))))) ?_
  refine z0k ⟨_,rfl,_,rfl,t,ts,c,ps,n,rfl,tp,n4,λ d kvs H1 s1 hd ed ky kc=>?_⟩;refine g_name ?_;have kl:=KyD.le n4 ky;refine zde (λ σ1 u=>∃kvs',Same (hide d H1) (hide d u)/\u d=some (.dK kvs')/\(kvs'.map (·.1)).Nodup/\(∀y∈kvs.map (·.1),y∈kvs'.map (·.1))/\kvs'.length<=61/\∃x4,σ1=[some (.ref t),some (.int r.h),some (.int (n:Nat)),some (.ref d),x4,none,none,none]) ?_ (λ tl=>?_);rotate_left
  ·refine ⟨2,rfl,1,rfl,_,_,rfl,rfl,⟨by decide,by decide,by decide⟩,w_10,λ l2 a5=>?_⟩;obtain ⟨H2,v2,q2,D⟩:=new1 (.lst [(λ i:Int=>V.int (-i)) 2,(λ i:Int=>V.int (-i)) 1,V.int 0,V.int 1,V.int 2,V.int 3,V.int 4,(λ i j:Int=>V.int (i ^ j.toNat)) 10 9,V.str "ok",V.str "none"]) a5;rw [<-v2];have b4 :∀y∈[(λ i:Int=>V.int (-i)) 2,(λ i:Int=>V.int (-i)) 1,V.int 0,V.int 1,V.int 2,V.int 3,V.int 4,(λ i j:Int=>V.int (i ^ j.toNat)) 10 9,V.str "ok",V.str "none"],∃k:Key,y=kV k:=λ y C=>by simp only [B1,j0,or_false] at C;rcases C with rfl|rfl|rfl|rfl|rfl|rfl|rfl|rfl|rfl|rfl<;>first|exact ⟨.inl _,rfl⟩|exact ⟨.inr _,rfl⟩
   have c3:[(λ i:Int=>V.int (-i)) 2,(λ i:Int=>V.int (-i)) 1,V.int 0,V.int 1,V.int 2,V.int 3,V.int 4,(λ i j:Int=>V.int (i ^ j.toNat)) 10 9,V.str "ok",V.str "none"].length=10:=rfl;generalize [(λ i:Int=>V.int (-i)) 2,(λ i:Int=>V.int (-i)) 1,V.int 0,V.int 1,V.int 2,V.int 3,V.int 4,(λ i j:Int=>V.int (i ^ j.toNat)) 10 9,V.str "ok",V.str "none"]=cs at D b4 c3;have d9:l2≠d:=λ z=>by rw [z,ed] at a5;cases a5
   refine ⟨l2,rfl,⟨_,SqL.of D⟩,?_⟩;refine z2e (K:=KX w.params) (a:=l2) (xs:=cs) (λ j σ u=>∃kvs',Same (hide d H2) (hide d u)/\u d=some (.dK kvs')/\(kvs'.map (·.1)).Nodup/\(∀y∈kvs.map (·.1),y∈kvs'.map (·.1))/\kvs'.length<=51 + j/\∃x4,σ=[some (.ref t),some (.int r.h),some (.int (n:Nat)),some (.ref d),x4,none,none,none]) ⟨kvs,Same.refl _,q2 _ _ ed,ky.nd,λ _ h=>h,kl,_,rfl⟩ (λ j σ u _ h=>SqL.of (hide_same _ _ (h.choose_spec.1 _ _ (z0s d9 D)))) ?_ ?_
   ·rintro j y σ F C ⟨kvs',s3,O,nd3,ko3,kl3,x4,rfl⟩;obtain ⟨a2,rfl⟩:=b4 y (G0 C);have jl:j < cs.length:=(List.getElem?_eq_some_iff.mp C).1;refine g_name ?_;refine ⟨_,rfl,_,rfl,d,_,rfl,DPut.k (k:=a2) O (A1 (m:=100) (by omega) (by decide)),?_⟩;exact ⟨putK kvs' a2 (.bl true),by rw [z36];exact s3,upd_same,zjt nd3,λ y C=>putK_mem.mpr (.inl (ko3 y C)),by have:=z99 kvs' a2 (.bl true);omega,_,rfl⟩
   ·rintro σ F ⟨kvs',s3,O,nd3,ko3,kl3,x4,rfl⟩;exact tl _ _ ⟨kvs',(z10 q2).trans s3,O,nd3,ko3,by omega,_,rfl⟩
  rintro σ1 H2 ⟨kvs',s2,D,nd2,ko2,kl2,x4,rfl⟩;obtain ⟨⟨pt,te,X,et,th,d0,al⟩,ok,f0,wf,gd,rl⟩:=tp;have d6:Same H (hide d H2):=(λ p o e=>s2 _ _ (z0s (λ z=>by rw [z,hd] at e;cases e) (s1 _ _ e)))
  have I:=z94 DInv.nil wf;have yl:X.length=c.length:=z03 al;have y0:X≠[]:=λ z=>by rw [z] at yl;rw [List.eq_nil_of_length_eq_zero yl.symm] at hn;cases hn
  refine z0k ⟨w_0,λ l a0=>?_⟩;obtain ⟨F,v3,q3,O⟩:=new1 (.lst []) a0;rw [<-v3];refine g_name ?_;have b8:l≠d:=λ z=>by rw [z,D] at a0;cases a0
  refine ⟨_,rfl,d,kvs',rfl,q3 _ _ D,λ ob=>?_⟩;have e4:upd F d (.frz ob (.dK kvs')) d=some (.frz ob (.dK kvs')):=upd_same;have a9:upd F d (.frz ob (.dK kvs')) l=some (.lst []):=by rw [upd_ne b8];exact O
  have a7:Same H (hide l (upd F d (.frz ob (.dK kvs')))):=λ p o e=>by
   have h2:=d6 _ _ e;have c9:p≠d:=λ z=>by rw [z,hd] at e;cases e
   have h3:=q3 _ _ (hide_same _ _ h2);exact z0s (λ z=>by rw [z,hide_same.free a0] at h2;cases h2) (by rw [upd_ne c9];exact h3)
  generalize upd F d (.frz ob (.dK kvs'))=H4 at e4 a9 a7⊢;refine zjf (a:=d) (ob:=ob) (kvs:=kvs') (λ i σ u=>Same (hide l H4) (hide l u)/\u l=some (.lst ((((kvs'.map (·.1)).take i).filter (hrdB ts (dAll 0 [] c) ps n)).map kV))/\∃x4 x6,σ=[some (.ref t),some (.int r.h),some (.int (n:Nat)),some (.ref d),x4,some (.ref l),x6,none]) ⟨Same.refl _,a9,_,_,rfl⟩ (λ i σ u h=>hide_same _ _ (h.1 _ _ (z0s b8.symm e4))) ?_ ?_
  ·rintro i k σ Z B ⟨s5,e5,x4,x6,rfl⟩;refine g_name ?_;have L:Same H Z:=(a7.trans s5).trans hide_same;refine z3z ?_;refine ⟨_,rfl,.inr (.inl ⟨t,_,0,.ref pt,rfl,rfl,SqT.of (L _ _ et),z06 (j:=0) rfl,?_⟩)⟩;refine ⟨_,rfl,.inr (.inl ⟨t,_,1,.ref te,rfl,rfl,SqT.of (L _ _ et),z06 (j:=1) rfl,_,rfl,_,rfl,w_3,λ p6 e0=>?_⟩)⟩;obtain ⟨H6,v6,q6,e6⟩:=new1 (.tup [.str "end",.int r.h,kV k]) e0;rw [<-v6];refine ⟨w_1,λ p7 d3=>?_⟩;obtain ⟨H7,v7,W,e7⟩:=new1 (.tup [.ref p6]) d3;rw [<-v7];have b3:=L.trans (q6.trans W);refine ⟨te,p7,X,[.ref p6],rfl,rfl,SqT.of (b3 _ _ d0),SqT.of e7,y0,A0 (m:=100) (by show X.length + 1<=100;omega) (by decide),λ z=>(by cases z),λ _ p8 d1=>?_⟩;obtain ⟨H8,v8,q8,e8⟩:=new1 (.tup (X++[.ref p6])) d1;rw [<-v8];refine ⟨w_2,λ t9 c2=>?_⟩;obtain ⟨H9,v9,q9,e9⟩:=new1 (.tup [.ref pt,.ref p8]) c2;rw [<-v9];have a1:=q8.trans q9;have a6:=b3.trans a1;obtain ⟨d4,dx⟩:=zm0 (a:=kV k) wf hn b0;have hH:=zn8 (ts:=ts) (ps:=ps) (a:=kV k) hn b0 (λ r U=>by have:=I.b r U;rw [d7] at this;exact this);have c7:TlP (kx w) H9 t9 ts (c++[.fin r.h (kV k)]) ps:=by
    refine ⟨⟨pt,p8,_,e9,th.tt (.of (K:=KX w.params) a6),q9 _ _ e8,z1d (z01 (λ _ _ z=>EvAt.tups (.of a6) z) al) ⟨p6,rfl,SqT.of ((W.trans a1) _ _ e6)⟩⟩,ok,by rw [D0];show c.length + 1<=63;omega,d4,?_,?_⟩
    ·rw [dx];exact zct (λ x y z=>⟨z.1,z.2.1,z.2.2.1,z.2.2.2.1,z.2.2.2.2.1,z.2.2.2.2.2.1,.inr ⟨rfl,zm3 k⟩⟩) n (z01 (λ _ _ z=>RcGd.tt (.of a6) z) gd)
    ·rw [dx];unfold endR;rw [M4];exact rl
   refine ⟨t9,ts,_,ps,rfl,c7,λ b b9 d8 hb=>⟨_,rfl,?_⟩⟩;rw [dx,<-hH,<-hrdB_iff] at hb;have a3:Same Z b9:=(q6.trans W).trans (a1.trans d8);have tk:(kvs'.map (·.1)).take (i + 1)=(kvs'.map (·.1)).take i++[k]:=by rw [P3,B];rfl
   have a4:=a3 _ _ e5;have gl:(((kvs'.map (·.1)).take i).filter (hrdB ts (dAll 0 [] c) ps n)).length<=61:=A0 (K2 _ _) (by rw [L3,o0];omega);refine ite2 (λ h=>?_) λ h=>?_
   ·refine ⟨_,rfl,.inl ⟨rfl,_,SqL.of a4⟩,_,rfl,l,_,_,rfl,rfl,a4,A1 (m:=100) (by rw [o0];omega) (by decide),?_⟩;refine ⟨by rw [z36];exact s5.trans (z10 a3),?_,_,_,rfl⟩;rw [upd_same,tk,N4,C2 (hb.mp h),E1];rfl
   ·refine ⟨s5.trans (z10 a3),?_,_,_,rfl⟩;rw [a4,tk,N4,D2 (λ z=>h (hb.mpr z)),List.filter_nil,N2]
  ·rintro σ Z ⟨s5,e5,x4,x6,rfl⟩;rw [<-o0 (f:=(·.1)) (as:=kvs'),K3] at e5;have gl:((kvs'.map (·.1)).filter (hrdB ts (dAll 0 [] c) ps n)).length<=61:=A0 (K2 _ _) (by rw [o0];exact kl2);have a8:((kvs'.map (·.1)).filter (hrdB ts (dAll 0 [] c) ps n)).Nodup:=nd2.filter _;have b1 :∀k∈(kvs'.map (·.1)).filter (hrdB ts (dAll 0 [] c) ps n),Hrd ts (dAll 0 [] c) ps n (kV k):=λ k B=>hrdB_iff.mp (List.mem_filter.mp B).2;have b6 :∀a,Hrd ts (dAll 0 [] c) ps n a->∃k,a=kV k/\k∈(kvs'.map (·.1)).filter (hrdB ts (dAll 0 [] c) ps n):=λ a ha=>by obtain ⟨k,rfl,B⟩:=kc a ha.met;exact ⟨k,rfl,List.mem_filter.mpr ⟨ko2 k B,hrdB_iff.mpr ha⟩⟩
   generalize (kvs'.map (·.1)).filter (hrdB ts (dAll 0 [] c) ps n)=gk at e5 gl a8 b1 b6;have L:Same H Z:=(a7.trans s5).trans hide_same;have gz:(gk.map kV).length<=sizeLine:=A0 (m:=61) (by rw [o0];exact gl) (by decide);refine t_nx (zn6 ?_);refine z5p (K:=KX w.params) (a:=l) (xs:=gk.map kV) (H1:=Z) (λ i=>(gk[i]?.map λ k=>k.isLeft).getD false) (λ i y _=>∃k,gk[i]? = some k/\y=kV k) (λ _ _ _ _ _ z=>z) (λ R h=>⟨_,rfl,h⟩) (SqL.of e5) gz ?_ ?_
   ·intro i hi v H6 s6 M KT KF J G;rw [O0] at M;obtain ⟨k,B,rfl⟩:=Option.map_eq_some_iff.mp M;rw [B] at J G;cases k with
    | inl j=>exact ⟨[some (.int j)],rfl,rfl,⟨_,rfl,_,_,"int",rfl,rfl,by decide,_,rfl,iteP (by decide) ⟨_,rfl,J rfl _ _ (Same.refl _) ⟨_,rfl,rfl⟩⟩⟩⟩
    | inr z=>exact ⟨[some (.str z)],rfl,rfl,⟨_,rfl,_,_,"str",rfl,rfl,by decide,_,rfl,iteN (by decide) (G rfl _ (Same.refl _))⟩⟩
   intro l6 H6 us s6 c8 Y;obtain ⟨H7,v7,W,e7⟩:=new1 (.lst us) c8;rw [<-v7];rw [o0] at Y;have Y:=z3p (z5u (q:=λ k:Key=>k.isLeft) Y);rw [zdf] at Y;subst Y;obtain ⟨L1,f2⟩:=zhg gk;refine ⟨l6,_,rfl,.inl (SqL.of e7),by omega,λ l8 d2 e1 pm pw=>?_⟩;obtain ⟨H8,v8,q8,e8⟩:=new1 (.lst (d2.map V.int)) e1;rw [<-v8];refine g_name ?_;have b2:=s6.trans (W.trans q8);refine sq_ret ⟨_,rfl,e_cb1 ?_⟩;refine z5p (K:=KX w.params) (a:=l) (xs:=gk.map kV) (H1:=H8) (λ i=>(gk[i]?.map λ k=>k.isRight).getD false) (λ i y _=>∃k,gk[i]? = some k/\y=kV k) (λ _ _ _ _ _ z=>z) (λ R h=>⟨_,rfl,h⟩) (SqL.of (b2 _ _ e5)) gz ?_ ?_
   ·intro i hi v H9 s9 M KT KF J G;rw [O0] at M;obtain ⟨k,B,rfl⟩:=Option.map_eq_some_iff.mp M;rw [B] at J G;cases k with
    | inl j=>exact ⟨[some (.int j)],rfl,rfl,⟨_,rfl,_,_,"int",rfl,rfl,by decide,_,rfl,iteN (by decide) (G rfl _ (Same.refl _))⟩⟩
    | inr z=>exact ⟨[some (.str z)],rfl,rfl,⟨_,rfl,_,_,"str",rfl,rfl,by decide,_,rfl,iteP (by decide) ⟨_,rfl,J rfl _ _ (Same.refl _) ⟨_,rfl,rfl⟩⟩⟩⟩
   intro l9 H9 us s9 c4 S;obtain ⟨Ha,va,qa,ea⟩:=new1 (.lst us) c4;rw [<-va];rw [o0] at S;have S:=z3p (z5u (q:=λ k:Key=>k.isRight) S);rw [zdv] at S;subst S;refine ⟨l9,_,rfl,SqL.of ea,by omega,λ lb c5 d5 b7 c6=>?_⟩;obtain ⟨Hb,vb,qb,eb⟩:=new1 (.lst (c5.map V.str)) d5;rw [<-vb];have b5:=s9.trans (qa.trans qb);exact .inr (.inr (.inl ⟨l8,lb,_,_,rfl,rfl,b5 _ _ e8,eb,A0 (m:=200) (by rw [o0,o0,pm.length_eq,b7.length_eq];omega) (by decide),λ p hp=>q p _ _ _ (L.trans ((b2.trans b5).trans (Same.upd hp))) upd_same (anl_of a8 b1 b6 pm pw b7 c6)⟩))
def anD (is:List Int) (ss:List Str):List PyData:=is.map PyData.int++ss.map J4
theorem zhc {K:b0} {H:Hp} :∀ss:List Str,IsPds K H (ss.map J4) (ss.map V.str)
 | []=>rfl
 | s :: ss=>⟨_,_,rfl,rfl,zhc ss⟩
theorem an_pds {K:b0} {H:Hp} (ss:List Str) :∀is:List Int,IsPds K H (anD is ss) (is.map V.int++ss.map V.str)
 | []=>zhc ss
 | i :: is=>⟨_,_,rfl,rfl,an_pds ss is⟩
theorem an_lay {ss:List Str} (h :∀z∈ss,z=wO\/z=wN) :∀is:List Int,V4 (anD is ss)=true/\O1 (anD is ss)=0/\C7 (anD is ss) (anD is ss)=true
 | []=>by
  unfold anD;rw [L4,List.nil_append];induction ss with
  | nil=>exact ⟨rfl,rfl,rfl⟩
  | cons z ss ih=>
   obtain ⟨b,a,c⟩:=ih λ x f=>h x (V0 _ f);have d:(J4 z).canLay0=true/\(J4 z).eqv (.str z)=true:=by rcases h z L0 with rfl|rfl<;>exact ⟨by decide +kernel,by decide +kernel⟩
   rw [X0];refine ⟨?_,?_,?_⟩
   ·show ((J4 z).canLay0 && V4 (ss.map J4))=true;rw [d.1,b];rfl
   ·show max 0 (O1 (ss.map J4))=0;rw [a];rfl
   ·show ((J4 z).eqv (.str z) && C7 (ss.map J4) (ss.map J4))=true;rw [d.2,c];rfl
 | i :: is=>by
  obtain ⟨b,a,c⟩:=an_lay h is;have e:anD (i :: is) ss=PyData.int i :: anD is ss:=rfl;rw [e];refine ⟨b,?_,?_⟩
  ·show max 0 (O1 (anD is ss))=0;rw [a];rfl
  ·show ((PyData.int i).eqv (.int i) && C7 (anD is ss) (anD is ss))=true;rw [c,j2h];exact decide_eq_true rfl
theorem zmx {K:b0} {H:Hp} {ts:zT} {rs:List Rc} {ps:List DD} {n:Nat} (gd:All2 (RcGd K H ts) rs ps) (ok:ThW ts) (rl:rs.length<=63) {z:Str} (h:Hrd ts rs ps n (.str z)):z=wO\/z=wN:=by
 obtain ⟨o,b,s,f,d,_,e,_⟩:=h;have j:=z4q (m:=0) (G:=λ b=>PlOk ts rs.length b.1.length b) (z9m ts _) (λ b g s d=>(zao gd ok g rl s d).1) f;rcases (zd9 (c:=cP 0 rs b.1) gd ok j rl rfl (λ n h=>cP_no h) (t0 _) s d).1 with a|a|⟨i,a,_⟩
 ·rw [a] at e;exact .inl (V.str.inj e).symm
 ·rw [a] at e;exact .inr (V.str.inj e).symm
 ·rw [a] at e;cases e
def z7e (K:b0):Sp:=λ vs H Q _=>∃(t ld:Addr) (ts:zT) (es:List Ev) (ps:List DD) (n:Nat) (r:Rc) (is:List Int) (ss:List Str),vs=[.ref t,.int r.h,.ref ld]/\TlP K H t ts es ps/\LBd ts (dAll 0 [] es) ps/\(dAll 0 [] es).length<=4/\(dAll 0 [] es)[n]? = some r/\r.e=none/\H ld=some (.lst (is.map V.int++ss.map V.str))/\AnL (Hrd ts (dAll 0 [] es) ps n) is ss/\∀H',Same H H'->Q (.bl true) H'
theorem zbr (T:TX (kx w) mg) (c0:Ca P w mg base "may_answer" ["tale","hand"] 11 (z5x (kx w))):Fo P w mg base CX0 12 465 y1g ["tale","hand","due"] (z7e (kx w)):=by
 refine (z5o w.params).ok sc__law_told (λ vs H Q E h=>?_) (λ a3 A a4 s H vs Q E C h=>?_)
 ·obtain ⟨t,o,ts,p,ps,n,r,c,d,rfl,_⟩:=h;rfl
 ·obtain ⟨t,o,ts,p,ps,n,r,c,d,rfl,tp,lb,O,hn,Z,el,f,q⟩:=h;refine ⟨_,(z02 (ps_set (i:=3) sc__law_told.nd rfl (U0 rfl) (pe_cal c0 (C.mono (by decide)) rfl (z00 (pv 0) (z00 (pv 1) pa_nil))))
   (z02 (ps_if (PW.pt (pw_or (pt_not (pt_val (z09 z0o rfl (T.no (z0l _)) i3 (z00 (pv 3) (z00 (z37 (v:=.ty "list") rfl (T.no (n_list _)) boot_list rfl) pa_nil))) (λ _=>rfl))) (pw_or (z08 (op_neC C) (pv 3) (pv 2) (nomark _)) (pw_or1 (z08 (zgm C) (pe_cg (xs:=["one"]) (g:=gName 0) (fr:=[]) (z17 (pv 3)) (λ _ _ _ _ _=>(pg_cn (N:=["one"]) 0)) (λ _ _ _ _ _=>(pf_one (pt_val (z09 z0o rfl (T.no (z0l _)) i3 (z00 (pv 0) (z00 (z37 (v:=.ty "bool") rfl (T.no (n_bool _)) boot_bool rfl) pa_nil))) (λ _=>rfl)))) (λ _ _ _ _ _=>(pv 0))) (pe_lst pa_nil) (nomark _))))))
   (z04 (ps_ret pe_bl))
   z0e)
   (z02 (z2b (z14 (pv 3) (z00 pe_int pa_nil)))
   (z04 (ps_ret pe_bl))))),?_⟩
  have I :∀z,Hrd ts (dAll 0 [] p) ps n (.str z)->z=wO\/z=wN:=λ z u=>zmx tp.2.2.2.2.1 tp.2.1 (by omega) u;refine z0k ⟨_,rfl,_,rfl,t,ts,p,ps,n,r,rfl,tp,lb,O,hn,Z,λ l a5 a2 H1 M hl j a0=>?_⟩;obtain ⟨rfl,rfl⟩:=f.uniq a0 I;refine g_name ?_;obtain ⟨U,y2,y3⟩:=an_lay (λ z u=>I z ((f.ms z).mp u)) c;have F:c.length + d.length<=1000:=by
   have a:=met_le (L:=c.map V.int++d.map V.str) O (by
    rw [E3];refine ⟨?_,?_,λ a y b x e=>?_⟩
    ·rw [E5,Z9];exact (List.nodup_iff_pairwise_ne.mp f.i).imp λ h e=>h (V.int.inj e)
    ·rw [E5,Z9];exact (List.nodup_iff_pairwise_ne.mp f.s).imp λ h e=>h (V.str.inj e)
    ·obtain ⟨i,_,rfl⟩:=List.mem_map.mp y;obtain ⟨z,_,rfl⟩:=List.mem_map.mp x;cases e) (ts:=ts) (ps:=ps) (n:=n) λ a y=>by
      rcases List.mem_append.mp y with z|z
      ·obtain ⟨i,k,rfl⟩:=List.mem_map.mp z;exact ((f.mi i).mp k).met
      ·obtain ⟨i,k,rfl⟩:=List.mem_map.mp z;exact ((f.ms i).mp k).met
   rw [D0,o0,o0] at a;omega
  refine sq_if (t_or ?_);refine ⟨_,rfl,_,_,"list",rfl,.inl ⟨⟨_,j⟩,rfl⟩,by decide,_,rfl,iteN (by decide) (t_or ?_)⟩;have i1:IsPd (kx w) H1 (.list (anD c d)) (.ref l):=⟨l,_,rfl,SqL.of j,an_pds d c⟩
  have W:IsPd (kx w) H1 (.list (anD c d)) (.ref o):=⟨o,_,rfl,SqL.of (M _ _ el),an_pds d c⟩
  refine ⟨_,rfl,_,rfl,.list (anD c d),.list (anD c d),i1,W,U,U,by show O1 _ + 1<=60;rw [y2];decide,_,rfl,iteN (by show ¬ (!PyData.eqvAll (anD c d) (anD c d))=true;rw [y3];decide) ?_⟩;refine t_test ?_;refine z5p (K:=KX w.params) (a:=l) (xs:=c.map V.int++d.map V.str) (H1:=H1) (λ _=>false) (λ _ _ _=>True) (λ _ _ _ _ _ z=>z) (λ R h=>⟨_,rfl,h⟩) (SqL.of j) (A0 (m:=1000) (by rw [D0,o0,o0];exact F) (by decide)) ?_ ?_
  ·intro i k v D G hv KT KF k1 k2;obtain ⟨T',hT,x⟩ :∃T,TagOf D v T/\instB T "bool" = false:=by
    rcases List.mem_append.mp (G0 hv) with z|z
    ·obtain ⟨i,_,rfl⟩:=List.mem_map.mp z;exact ⟨"int",rfl,by decide⟩
    ·obtain ⟨i,_,rfl⟩:=List.mem_map.mp z;exact ⟨"str",rfl,by decide⟩
   exact ⟨[some v],rfl,rfl,⟨_,rfl,_,_,T',rfl,hT,by decide,_,rfl,iteN (by rw [x];decide) (k2 rfl _ (Same.refl _))⟩⟩
  intro l2 D us G a1 S;rw [List.filter_eq_nil_iff.mpr (λ _ _=>by decide)] at S;cases S;obtain ⟨H3,v3,q3,e3⟩:=new1 (.lst []) a1;rw [<-v3];refine ⟨w_0,λ Y X=>?_⟩;obtain ⟨H4,v4,J,e4⟩:=new1 (.lst []) X;rw [<-v4];refine ⟨l2,Y,_,rfl,rfl,SqL.of (J _ _ e3),SqL.of e4,_,rfl,iteN (by decide) (t_nx ?_)⟩;have B:=G.trans (q3.trans J);refine ⟨_,rfl,.inl ⟨rfl,_,SqL.of (B _ _ j)⟩,l,_,_,rfl,rfl,B _ _ j,A1 (m:=1000) (by rw [D0,o0,o0];exact F) (by decide),t_nx ?_⟩;exact q _ (Same.keep (M.trans B) hl)
def sp_law (K:b0):Sp:=λ vs H Q _=>∃(a:Addr) (ns:List Int),vs=[.ref a]/\SqL K H a (ns.map V.int)/\ns.length<=63/\∀H',Q (.bl true) H'
theorem ok_law (T:TX (kx w) mg) (c0:Ca P w mg base "_law_tale" ["script","most"] 4 (z6v (kx w))) (c1:Ca P w mg base "_law_deeds" ["tale"] 1 (z1g (kx w))) (c2:Ca P w mg base "_law_due" ["tale","hand","number"] 6 (z89 (kx w))) (c3:Ca P w mg base "_law_told" ["tale","hand","due"] 12 (z7e (kx w))):Fo P w mg base CX0 13 472 fd_law ["script"] (sp_law (kx w)):=by
 refine (F_law w.params).ok sc_law (λ vs H Q E h=>?_) (λ a5 A a4 s H vs Q E f h=>?_)
 ·obtain ⟨a,I,rfl,_⟩:=h;rfl
 ·obtain ⟨C,I,rfl,sq,nl,q⟩:=h;refine ⟨_,(z02 (ps_set (i:=1) sc_law.nd rfl (U0 rfl) (pe_cal c0 (f.mono (by decide)) rfl (z00 (pv 0) (z00 pe_int pa_nil))))
   (z02 (ps_set (i:=2) sc_law.nd rfl (U0 rfl) (pe_cal c1 (f.mono (by decide)) rfl (z00 (pv 1) pa_nil)))
   (z02 (ps_for K1 rfl (z2o rfl (T.no (z6n _)) (z00 (z09 z1h rfl (T.no (n_len _)) X3 (z00 (pv 2) pa_nil)) pa_nil)) (z0g (i:=3) sc_law.nd rfl (U0 rfl))
   (z04 (ps_if (z08 op_isN (pe_ix ix_seq (pe_ix ix_seq (pv 2) (pv 3) (λ _ _=>rfl)) pe_int (λ _ _=>rfl)) pe_non (nomark _))
   (z02 (ps_set (i:=4) sc_law.nd rfl (U0 rfl) (pe_cal c2 (f.mono (by decide)) rfl (z00 (pv 1) (z00 (pe_ix ix_seq (pe_ix ix_seq (pv 2) (pv 3) (λ _ _=>rfl)) pe_int (λ _ _=>rfl)) (z00 (pv 3) pa_nil)))))
   (z04 (ps_if (PW.pt (pw_or (pt_not (pt_val (pe_cal c3 (f.mono (by decide)) rfl (z00 (pv 1) (z00 (pe_ix ix_seq (pe_ix ix_seq (pv 2) (pv 3) (λ _ _=>rfl)) pe_int (λ _ _=>rfl)) (z00 (pv 4) pa_nil)))) (λ _=>rfl))) (pw_or1 (pt_not (pt_val (pe_cal c3 (f.mono (by decide)) rfl (z00 (pv 1) (z00 (pe_ix ix_seq (pe_ix ix_seq (pv 2) (pv 3) (λ _ _=>rfl)) pe_int (λ _ _=>rfl)) (z00 (pv 4) pa_nil)))) (λ _=>rfl))))))
   (z04 (ps_ret pe_bl))
   z0e)))
   z0e)))
   (z04 (ps_ret pe_bl))))),?_⟩
  refine ⟨_,rfl,C,I,rfl,sq,nl,λ t pt te ys es ts p s1 et a3 th ok a2 u el wf bg hb=>?_⟩;refine g_name (t_nx ?_);have eg :∀e∈es,EvGd (kx w) p ts e:=λ e he=>by obtain ⟨i,G⟩:=List.mem_iff_getElem?.mp he;obtain ⟨y,_,z⟩:=z0u u G;exact z.n
  obtain ⟨ps,gd⟩:=rc_gd (K:=KX w.params) (H:=p) (ts:=ts) (es:=es) (i:=0) (rs:=[]) (ps:=[]) eg .nil;have D:(dAll 0 [] es).length<=4:=by rw [zkv,R4,d7];exact bg
  have tp:TlP (kx w) p t ts es ps:=⟨⟨pt,te,ys,et,th,a3,z01 (λ _ _ z=>z.a) u⟩,ok.thw,by omega,wf,gd,by omega⟩
  have lb:LBd ts (dAll 0 [] es) ps:=λ n L nd h=>by
   refine A0 (zdn (R:=λ F row=>∃o,Wk 0 ts (dAll 0 [] es) ps o F/\row=(o.map (·.1)).reverse) nd (λ F hp=>?_) λ x x' y r r'=>?_) (enS_le (a:=0) (b:=4) (by decide) (by decide) n)
   ·obtain ⟨o,N,e⟩:=h F hp;rw [<-e];exact ⟨_,(wk_row (by omega) (λ z=>by omega) N).1,o,N,rfl⟩
   ·obtain ⟨o,w1,e⟩:=r;obtain ⟨o',w2,e'⟩:=r';exact zdq _ rfl w1 w2 (List.reverse_inj.mp (e.symm.trans e'))
  clear u eg th a2 hb;refine z0k ⟨_,rfl,t,es,rfl,⟨ts,tp.1,tp.2.2.1,wf⟩,λ m d Y s2 a0 J=>?_⟩;refine g_name ?_;have lz:d.length=(dAll 0 [] es).length:=z03 J;refine ⟨_,rfl,.inl ⟨m,d,rfl,.inl (SqL.of a0),d.length,rfl,by omega,by omega,?_⟩⟩;refine z3q (lo:=0) (n:=d.length) (λ i σ c=>∃x3 x4,Same Y c/\σ=[some (.ref C),some (.ref t),some (.ref m),x3,x4]) ⟨_,_,Same.refl _,rfl⟩ ?_ (λ σ c _=>q c);rintro n σ H3 hn ⟨x3,x4,s3,rfl⟩;rw [g7];refine g_name ?_;have g:(dAll 0 [] es)[n]? = some (dAll 0 [] es)[n]:=B0 (by omega);obtain ⟨y,hy,U,rfl,ek⟩:=z0u J g;generalize (dAll 0 [] es)[n]=r at g ek;have j :∀{c:Hp} {R:VK} {x4:Option V} {i:Nat} {v:V},Same Y c->([.int r.h,r.n,r.v,r.x,r.a,.int r.b,endV r.e]:List V)[i]? = some v->R v c->tOp (rIx (kx w)) (tOp (rIx (kx w)) (tVar 2) (tVar 3)) (tC (.int i)) [some (.ref C),some (.ref t),some (.ref m),some (.int (n:Nat)),x4] c R:=λ s' G h=>⟨_,rfl,_,rfl,.inl ⟨m,d,n,.ref U,rfl,rfl,SqL.of (s' _ _ a0),z06 hy,.inl ⟨U,_,_,_,rfl,rfl,SqL.of (s' _ _ ek),z06 G,h⟩⟩⟩
  refine z3z (j (i:=6) s3 rfl ⟨rfl,_,rfl,?_⟩);cases re:r.e with
  | some e=>exact iteN (by simp [endV]) ⟨_,_,s3,rfl⟩
  | none=>
  refine iteP rfl ?_;have X:=s2.trans s3;refine z0k ⟨_,rfl,j (i:=0) s3 rfl ⟨_,rfl,t,ts,es,ps,n,r,rfl,tp.same X,D,by omega,g,re,λ l S M H4 Z W O=>?_⟩⟩;refine g_name ?_;have B:=s3.trans Z;have a1:=X.trans Z;refine z3z (t_or ?_);refine ⟨_,rfl,j (i:=0) B rfl ⟨_,rfl,t,l,ts,es,ps,n,r,S,M,rfl,tp.same a1,lb,D,g,re,W,O,λ H5 k=>⟨_,rfl,iteN (by decide) ?_⟩⟩⟩;exact ⟨_,rfl,j (i:=0) (B.trans k) rfl ⟨_,rfl,t,l,ts,es,ps,n,r,S,M,rfl,tp.same (a1.trans k),lb,D,g,re,k _ _ W,O,λ H6 s6=>⟨_,rfl,iteN (by decide) ⟨_,_,B.trans (k.trans s6),rfl⟩⟩⟩⟩
end
theorem all_law {P:Program} {w:R0} {mg:Str->Option Value} {base:Heap} (T:TX (kx w) mg):Fo P w mg base CX0 13 472 fd_law ["script"] (sp_law (kx w)):=by have m:=@cal_mk P w (kx w) mg base;have c:=m T (z75 _) (zfx _) (zhj _) (zel T );have u:=m T (z5j _) (zex _) (zeo _) (zcp T c);have l:=m T (z6z _) (zhq _) (zf9 _) (zej T u);have t:=m T (z38 _) (za9 _) (zam _) (z90 T );have g:=m T (z8m _) (zj3 _) (zj2 _) (zfa T );have Q:=m T (z8l _) (zjs _) (zjg _) (zgr T g l t);have B:=m T (z4k _) (z77 _) (zbs _) (zba T );have Y:=m T (z31 _) (z5w _) (za0 _) (z8x T );have C:=m T (z26 _) (z3w _) (z7y _) (z6x T );have D:=m T (z45 _) (z6k _) (zbg _) (zaz T );have S:=m T (z43 _) (z73 _) (zbm _) (zb6 T );have N:=m T (z4f _) (z6g _) (zcg _) (zar T );have O:=m T (z2g _) (z57 _) (z8k _) (z7w T );have z:=m T (z2p _) (z52 _) (z96 _) (z7x T );have Z:=m T (z4i _) (z6a _) (zbh _) (zaq T );have a1:=m T (F_do _) (g_do _) (b_do _) (ok_do T Q B Y C S N O z Z D);have o:=m T (z3d _) (zad _) (zal _) (z9e T g);have d:=m T (zhl _) (zms _) (zmt _) (zl8 T );have J:=m T (z4a _) (zcs _) (zby _) (zb9 T );have s:=m T (z1c _) (z5q _) (z5v _) (z56 T );have M:=m T (zc0 _) (zkx _) (zlt _) (zid T d s J);have r:=zcq (P:=P) (w:=w) (base:=base) T;have x:=z2z (P:=P) (w:=w) (base:=base) T;have A:=m T (z8q _) (zin _) (zij _) (zf5 T a1);have a4:=m T (z21 _) (z7q _) (z7n _) (z6b T );have K:=m T (z5f _) (zev _) (zep _) (zce T );have v:=m T (z2y _) (z9s _) (za3 _) (z8h T o);have j:=zky (P:=P) (w:=w) (base:=base) T M d v a4 r;have i:=z59 (P:=P) (w:=w) (base:=base) T x A;have L:=m T (z2n _) (z9k _) (z8r _) (z7l T );have a:=m T (z5k _) (zek _) (zen _) (zbz T );have I:=m T (z42 _) (zc6 _) (zc9 _) (zah T a);have y:=m T (z5s _) (zei _) (zeq _) (zc4 T a I);have V:=m T (z8z _) (zjl _) (zio _) (zg5 T );have e:=m T (z4j _) (zcd _) (zbo _) (zax T );have f:=m T (z2k _) (z8n _) (z91 _) (z7s T V);have E:=m T (z3f _) (za4 _) (zbd _) (z8t T a);have a5:=m T (z5e _) (zef _) (zee _) (zbp T L a E e f y);have a0:=z6l (P:=P) (w:=w) (base:=base) T K;have b:=m T (z4b _) (zbk _) (zc7 _) (zaw T );have R:=m T (z25 _) (z7u _) (z7v _) (z6y T );have p:=m T (z1a _) (z5g _) (z5b _) (z54 T R);have U:=m T (z2d _) (z8y _) (z93 _) (z7o T );have h:=m T (z49 _) (zbt _) (zbv _) (z9t T p f);have k:=m T (z3k _) (zb3 _) (zai _) (z9p T b e h);have W:=m T (z2f _) (z8i _) (z9a _) (z7p T b k U);have n:=m T (z4c _) (zcj _) (zck _) (za5 T i);have a2:=m T (z44 _) (zcb _) (zc2 _) (zap T j n);have F:=m T (z5l _) (zec _) (zes _) (zco T c d);have X:=m T (z0y _) (z4r _) (z4z _) (z46 T j a2 i a0);have H:=m T (z4h _) (zca _) (zci _) (zav T F X c);have q:=m T (z7f _) (zfr _) (zhf _) (ze6 T b k h);have G:=m T (z6q _) (zg0 _) (zgz _) (zew T q W);have a3:=m T (z5o _) (ze7 _) (zer _) (zbr T H);exact ok_law T a5 b G a3
end K71
open PySem PySem.W PyProof.Rows
set_option maxRecDepth 100000 in
set_option maxHeartbeats 0 in
theorem PySem.Challenge.cw_talejudge_k71_what_may_be_answered_holds : PySem.Challenge.rw_talejudge_k71_what_may_be_answered.Holds := by
 w_on;o_law
 refine holds_open (q:=K71.viewX) (loose:=K71.looseX) (Xt:=K71.XtX) (XP:=XL K71.viewX []) (Yf:=Hook.obs K71.HX) (Ya:=Hook.val K71.HX) (YP:=Hook.says K71.HX) (N:=200000) K71.leftX (Hook.of K71.HX) (Hook.keeps K71.HX) (λ s e=>xl_of s (Bool.and_eq_true_iff.mp e).1) XL.keeps (by rfl) (by rfl) (by rfl) (λ s e=>recFacts_of (Bool.and_eq_true_iff.mp e).2) (by rfl) (by assumption) (by decide +kernel) ⟨rfl,rfl,rfl,rfl,rfl,by decide +kernel⟩ ?hw ?hc
 case hw=>w_witness2
 case hc=>
  refine L2.walk_of (l:=PySem.Challenge.rw_talejudge_k71_what_may_be_answered) (n:=63) (k:=13) (x:="script") (K:=K71.KX) (CX:=λ _=>L2.CX0) (sp:=λ w=>K71.sp_law (K71.KX w.params)) rfl (by decide) rfl ⟨rfl,by decide,by decide,rfl⟩ (λ w h Y=>PySem.W.kIn_of Y) ?F ?S ?C
  case F=>intro w r o h KX G b;have T:=L2.TX.mk' KX G;have d:=b.symm.trans (T.of (K71.g_law _));cases d;exact ⟨K71.fd_law,λ s u=>.of_eq rfl,λ i m j=>K71.all_law T⟩
  case S=>exact λ w H a c f p g=>⟨a,c,rfl,g,f,λ _=>rfl⟩
  case C=>exact λ _ _ _ _ _ z=>z
