import PyProof.Rows.All
import Wide.All
import OpenK.AllK
import Wide.FinOn
import Lean
import PyProof.EqAt
import PyProof.EqKinds
import PyProof.TupleCall
import Open.Tops
import KE.KIntText
import PyProof.ZipIter
import PyProof.ReprRoads
import PyProof.Draws
import KE.KDictSum
import KE.KSortedM
import OpenK.KRaise
import OpenK.KOwn
import PyProof.ExcBaseAll.ValueError
import KE.KTryMore
import PyProof.NsDelKeeps
import KE.KDictOf
import KE.KEqDict
import PyProof.DictWalks
import PyProof.TupleKey
import PyProof.MinMaxWalk
import KE.KSortTup
import PyProof.StrWalks
import KE.KRevIter
import KE.KListMore
import PyProof.StrLawsTight
import PyProof.StrLawsChain
import PySem.Challenge.RW_talejudge_k70_whole_beginnings_alike
open PySem.W renaming Frag->b0,kia_one->T2,keepIn->j3,findIn->m3,instObj->U3,fnOf->B5,KasT->C5,kas_sort->O5,nsIn->o6,callWith_K->z6,plainGet->g7,lookIn->i8,codeIn->j8,plainGet_of->F8,methodObj->Z8,hasDictIn->c9,kas_desc->K9,takerIn->V9,kas_rev->W9,isFn->j15,cellsFrom_some->j16,kdu_collect->j2d,specialIn->j38,plainOver->j39,kitx_list->j3a,kitx_dict->j3b
open PySem.PyData renaming keyHash->c0,depthAll->U1,canLayAll0->W6,strOk->L7,depth->j1g
open PySem renaming wpAny_bind->d0,Shared->t0,wpAny_pure->G0,Params->N0,World->S0,wpAny->U0,model->B1,reduceHash->G1,starEach->N1,Around->X1,compareOp->B2,OsState->K2,sliceBounds->N2,wpAny_call_entry->S2,wpAny_newObj_type->V2,mainGlobals->W2,treeTable->X2,wpAny_mono->d3,sysModules->i3,eval->u3,wpAny_truthy_bool->C3,boot_len->E3,wpAny_callSpecial?_slot->M3,wpAny_holding->S3,attributeBase->T3,eqIsQuiet->i4,backTo->A4,binaryOp->F4,wpAny_typeNameOfWhole_keyiter->K4,wpAny_passesOwn->T4,foldedSetIterable->Y4,mem_of_lookup->Z4,NameKind->i5,wpAny_pyIter_tuple->M5,wpAny_Call_Name_kw->N5,tupleKind->R5,placesWithHash->Y5,Keyword->c6,swapsWith->y6,wpAny_field->G6,keywordEach->K6,callSpecialIfBoundUnlessNone?->L6,ReadsAll->O6,importedModules->U6,wpAny_typeOf->b7,bootBuiltins->c7,tupleKind_room_in1->E7,Fin->G7,wpAny_pyIter_enum->U7,relabel->V7,getItem->W7,behindInMarks->c8,wpAny_isInstance->C8,atKey->E8,strKind_is->M8,assignEach->O8,Paired->P8,IsPart->Q8,wpAny_execs_nil->S8,typeNameOfWhole->U8,letOwnedTupleGo->V8,wpAny_setField->C9,richCompare->D9,firstArgMember->F9,backToKw->G9,valueAt->M9,codeAny->N9,Builtin->S9,wpAny_newList->X9,wpAny_tupleItemsOf->j03,wpAny_rule->j04,wpAny_pyIter_list->j0a,wpAny_dictEntries->j0b,holding->j0c,codeAny_mono->j0d,callerA->j0e,rawInt->j13,noFill_tuple_add->j14,subscripted->j1b,wpAny_specialOf->j23,wpAny_dictEpoch->j24,Within->j26,standAt->j2b,wpAny_seqItems->j2g,wpAny_letOwnedTupleGo_enum->j2h,pyNext->j30,call_meets->j31,Thread->j34
open PySem.Builtin.Tuple renaming tupleHashOf->o0,tupleExact->N4,tupleItemsOf->j9
open Nat renaming le_refl->u0,le_trans->C0,ne_of_lt->E1,lt_of_lt_of_le->L1,lt_of_le_of_lt->O1,zero_le->S1,lt_succ_of_lt->u2,lt_succ_self->F2,le_of_lt->A3,le_succ->B3,lt_irrefl->O3,ne_of_gt->Z3,le_succ_of_le->S4,not_lt_zero->z5,le_of_eq->P5,succ_le_succ->Z5,mul_le_mul_right->r6,min_eq_left->A6,zero_add->m8,min_le_left->z8,le_of_not_lt->j05,mul_le_mul->j18,add_assoc->j29,sub_self->j36
open List renaming not_mem_nil->A0,getElem?_eq_getElem->B0,length_map->F0,length_append->K0,size_toArray->L0,mem_of_getElem?->O0,length_cons->P0,mem_cons_self->R0,getElem?_map->V0,mem_cons_of_mem->W0,map_cons->j1,map_append->u1,range->C1,mem_cons->F1,mem_append_right->J1,getElem?_append_left->K1,getElem?_append_right->P1,replicate->T1,forall_mem_cons->W1,length_range->Y1,getElem?_cons_succ->Z1,getD_eq_getElem?_getD->A2,append_nil->D2,getElem?_modify->G2,getElem?_cons_zero->O2,length_take->Q2,length_filter_le->U2,map_map->v3,length_replicate->F3,take_length->G3,take_of_length_le->N3,getElem?_eq_none->R3,find?_cons->X3,nodup_append->Y3,lookup_cons->j4,filter_cons_of_pos->o4,filter_cons_of_neg->u4,filter_cons->y4,map_nil->D4,dropLast_concat_getLast->G4,forIn_nil->V4,forIn_cons->o5,length_modify->A5,take_succ_eq_append_getElem->G5,drop_zero->K5,length_drop->U5,getElem_mem->V5,ext_getElem->X5,take_append_of_le_length->g6,mem_append_left->i6,lookup->j6,length->m6,filter_append->Q6,ext_getElem?->m7,append_assoc->o7,length_filterMap_le->z7,getElem?_take_of_lt->A7,any_cons->B7,getElem?_replicate->M7,any_eq_true->N7,all_eq_true->O7,length_pos_of_mem->Y7,range_succ->n8,of_mem_zip->o8,length_nil->t8,getElem?_range->X8,filterMap_cons->Y8,take_nil->g9,zip_cons_cons->z9,getElem_range->A9,set_eq_take_append_cons_drop->L9,getElem?_inj->P9,foldl_append->Q9,getElem_map->Z9,getElem_inj->j00,length_set->j07,drop_eq_getElem_cons->j19,length_erase_of_mem->j1h,filterMap_cons_some->j1i,filterMap_cons_none->j1j,pairwise_mergeSort->j2a,getElem?_set_self->j2e,any_map->j2f,getElem?_toArray->j37,mem_of_mem_take->j3c,length_dropLast->j3d,getElem?_set_ne->j3e
open PySem.Heap renaming get?_push_of_some->D0,lt_size->Q0,get?_push_size->Z0,size_push->P3,SameBut->L5,get?_update_other->Z7,get?_update_self->A8
open Bool renaming false_ne_true->M0,and_eq_true->j2,false_eq_true->J3,false_and->R6,not_true->C7,and_false->L8,true_and->u9,not_eq_true->j02,false_or->j21
open Or renaming inr->X0,inl->Y0
open PySem.Value renaming ref->A1,none->P2,bool->C4,str->T5,type->M6,isStrOf->d7,int->F7,float->j33
open Option.some renaming inj->Q1
open PySem.PassesOwn renaming never->R1
open PySem.NameKind renaming free->V1
open Array renaming getElem?_eq_getElem->C2,length_toList->J2,getElem?_toList->S5,getD_eq_getD_getElem?->E6,map->j22
open ForInStep renaming yield->E2,done->S7
open Pure renaming pure->Y2,pure->j27
open PyProof.Rows renaming boot_isinstance->Z2,callWith_type1->K3,slot_tuple_getitem->Q3,boot_tuple->W3,seqObj->S6,boot_sorted->X7,AllBare->b8,envOfC->N8,IntsAre->R8,subscriptTail->Y9,entry_list_sort->j25,StrsAre->j2c,tail_any->j2i,slot_list_sort->j2j,args_list_sort->j32,Subscript_->j35
open False renaming elim->L3
open Ne renaming symm->V3
open PySem.Builtin.SmallTypes renaming nextOf->B4,ownedTupleFields->E4
open PySem.Builtin.Slice renaming slicePlaces->J4,sliceAdjust->d6,sliceApplied->m9
open PySem.Heap.SameBut renaming update->L4
open PySem.F renaming slot_dict_keyiterator_next->M4,slot_tuple_iterator_next->c5,plainAttrs_list->j5,args_tuple_add_2->V6,entry_tuple_add->i7,slot_tuple_add->K7,slot_dict_get->Q7,args_dict_keyiterator_next_1->j0f,plainAttrs_dict->j0h,args_dict_get_3->j0i,entry_dict_keyiterator_next->j12,entry_dict_get->j17,args_tuple_iterator_next_1->j1a,slot_dict_pop->j1f,entry_tuple_iterator_next->j20
open PySem.W.Fast renaming tw16697807410369149715->O4,tw13926502685295537346->P4,tw13383273872528276517->Q4,te14364793385576792824->R4,tw4214721358667687652->U4,tw14364793385576792824->P7
open PySem.Obj renaming mapSeq->X4,mapDictKeys->u8,mapFields->j28
open PySem.Calls renaming spliced_cons->u5,callWith_builtin->F5,call_function_entry->Y6,spliced_nil->Z6,evalArgs_plain->G8,Name_function_global->j0g
open Int renaming emod_lt_of_pos->E5,toNat_natCast->Q5,emod_nonneg->B6,zero_add->P6,le_refl->j08
open PySem.Builtin.List renaming listTooLong->u6,listLengthHint->o9
open Classical renaming byContradiction->C6
open PySem.Builtin.Dict renaming notOrdered->F6
open PySem.Str renaming ofString->N6
open Option renaming isSome_map->X6,map_some->R7,toList_none->W8,getD_some->O9,map->j06
open PySem.Builtin.Dict_items renaming ownsTuple->a8,isOneOf->B8,slot0->K8
open Sum.inr renaming inj->d8
open Sum.inl renaming inj->g8
open PUnit renaming unit->d9
open PySem.Around renaming under->B9
open ForIn renaming forIn->E9
open PySem.Code renaming isFrame->R9,frames->j3g
open PySem.SeqAt renaming eqAt_reads->U9
open Decidable renaming byContradiction->j01
open PySem.Heap.IsSliceOf renaming new->j09
open Prod renaming ext->j0j
open PySem.Paired renaming length->j10
open List.Pairwise renaming nil->j11
open PySem.SeqAt.EqAt renaming str_str->j1c,str_int->j1d,int_str->j1e
open PySem.Data renaming fields->j3f
set_option maxRecDepth 100000
set_option maxHeartbeats 0
namespace PySem.W.Fast
noncomputable def tw7181926878922967887:=0
noncomputable def tw4811497285464307711:=0
noncomputable def tw11977815656442324709:=0
noncomputable def tw15063398536370913680:=0
noncomputable def tw12102376907967076130:=0
noncomputable def tw2540437767789617630:=0
noncomputable def tw7225705282984200660:=0
noncomputable def tw8534468646035782429:=0
noncomputable def tw6712648753711896537:=0
noncomputable def tw4727355974065489590:=0
noncomputable def tw12787008754433087405:=0
noncomputable def tw3846116290529714939:=0
noncomputable def tw4039836290112287611:=0
noncomputable def tw16623255008405636316:=0
noncomputable def tw15028120001721738572:=0
end PySem.W.Fast
namespace K70
open_shared pre for PySem.Challenge.pw_talejudge_k70_whole_beginnings_alike leaving 48
end K70
set_option maxHeartbeats 200000
-- CHANGE: your row's module here,as the last of these rows
set_option Elab.async false
set_option linter.all false
namespace L2
open PySem PySem.Spec PyProof.Rows
noncomputable abbrev Key:=Sum Int Str
noncomputable def keyIs:Key->Value->Bool
 | .inl k,v=>Value.isInt k v
 | .inr x,v=>d7 x v
noncomputable def keyH (w:S0):Key->Int
 | .inl k=>hashInt k
 | .inr x=>hashStr w x
theorem z0n :∀{k:Key} {v:Value},keyIs k v=true->(∃i t,k=Sum.inl i/\v=F7 i t)\/(∃x t,k=Sum.inr x/\v=T5 x t)
 | .inl i,v,h=>by obtain ⟨t,e⟩:=Value.isInt_shape (k:=i) (v:=v) h;exact .inl ⟨i,t,rfl,e⟩
 | .inr x,v,h=>by obtain ⟨t,e⟩:=Value.isStrOf_shape (x:=x) (v:=v) h;exact .inr ⟨x,t,rfl,e⟩
theorem zh8 (i:Int) (t:Tok):keyIs (.inl i) (.int i t)=true:=by simp [keyIs,Value.isInt]
theorem zif (x:Str) (t:Tok):keyIs (.inr x) (.str x t)=true:=by simp [keyIs,d7]
theorem key_ll (a b:Int):decide ((Sum.inl a:Key)=Sum.inl b)=(a == b):=by
 by_cases e:a=b
 ·subst e;simp
 ·have h:¬ (Sum.inl a:Key)=Sum.inl b:=λ q=>e (g8 q);rw [decide_eq_false h];exact (beq_eq_false_iff_ne.mpr e).symm
theorem key_rr (a b:Str):decide ((Sum.inr a:Key)=Sum.inr b)=decide (a=b):=by
 by_cases e:a=b
 ·subst e;simp
 ·have h:¬ (Sum.inr a:Key)=Sum.inr b:=λ q=>e (d8 q);rw [decide_eq_false h,decide_eq_false e]
theorem key_lr (a:Int) (b:Str):decide ((Sum.inl a:Key)=Sum.inr b)=false:=decide_eq_false (λ q=>nomatch q)
theorem key_rl (a:Str) (b:Int):decide ((Sum.inr a:Key)=Sum.inl b)=false:=decide_eq_false (λ q=>nomatch q)
noncomputable def z13 (prog:Program) (w:S0):PySem.KeyKind prog w Key where
 is:=keyIs
 hash:=keyH w
 inj:=λ v a b ha hb=>by
  rcases z0n ha with ⟨i,t,rfl,rfl⟩|⟨x,t,rfl,rfl⟩
  ·rcases z0n hb with ⟨j,u,rfl,e⟩|⟨y,u,rfl,e⟩
   ·injection e with e1 _;rw [e1]
   ·exact nomatch e
  ·rcases z0n hb with ⟨j,u,rfl,e⟩|⟨y,u,rfl,e⟩
   ·exact nomatch e
   ·injection e with e1 _;rw [e1]
 byValue:=λ k v h=>by rcases z0n h with ⟨i,t,rfl,rfl⟩|⟨x,t,rfl,rfl⟩<;>rfl
 pyHash:=λ hv h=>by
  rcases z0n hv with ⟨i,t,rfl,rfl⟩|⟨x,t,rfl,rfl⟩
  ·exact wpAny_pyHash_int h
  ·exact wpAny_pyHash_str h
 eqBool:=λ hu hv h=>by
  rcases z0n hu with ⟨i,t,rfl,rfl⟩|⟨x,t,rfl,rfl⟩
  ·rcases z0n hv with ⟨j,u,rfl,rfl⟩|⟨y,u,rfl,rfl⟩
   ·rw [key_ll] at h;exact wpAny_eqBool_int h
   ·rw [key_lr] at h;exact j1e i t y u _ _ _ _ h
  ·rcases z0n hv with ⟨j,u,rfl,rfl⟩|⟨y,u,rfl,rfl⟩
   ·rw [key_rl] at h;exact j1d x t j u _ _ _ _ h
   ·rw [key_rr] at h;exact wpAny_eqBool_str h
 «strs»:=λ k x t v h=>by
  rcases z0n h with ⟨i,u,rfl,e⟩|⟨y,u,rfl,e⟩
  ·exact nomatch e
  ·injection e with e1 _;subst e1;cases v<;>rfl
theorem zdw (prog:Program) (w:S0) (i:Int) (t:Tok):(z13 prog w).is (.inl i) (.int i t)=true:=zh8 i t
theorem zdt (prog:Program) (w:S0) (x:Str) (t:Tok):(z13 prog w).is (.inr x) (.str x t)=true:=zif x t
inductive V where
 | non|bl (b:Bool)|int (i:Int)|str (x:Str)|byt (b:Array UInt8)|flt (b:UInt64)|ref (a:Addr)|ty (n:String)
 deriving DecidableEq
noncomputable def RelV:V->Value->Prop
 | .non,u=>u=P2
 | .bl b,u=>u=C4 b
 | .int i,u=>∃t,u=F7 i t
 | .str x,u=>∃t,u=T5 x t
 | .byt b,u=>∃t,u=Value.bytes b t
 | .flt b,u=>∃t,u=j33 b t
 | .ref a,u=>u=A1 a
 | .ty n,u=>u=M6 n
abbrev Vals:List V->List Value->Prop:=P8 RelV
theorem Vals.length {xs:List V} {us:List Value} (r:Vals xs us):xs.length=us.length:=j10 r
theorem Vals.get :∀{xs:List V} {us:List Value} {i:Nat} {x:V},Vals xs us->xs[i]? = some x->∃u,us[i]? = some u/\RelV x u
 | _,_,_,_,.nil,e=>by simp at e
 | _,_,0,_,.cons r _,e=>by simp at e;subst e;exact ⟨_,rfl,r⟩
 | _,_,i + 1,x,.cons _ t,e=>by obtain ⟨u,a,b⟩:=Vals.get (i:=i) (x:=x) t (by simpa using e);exact ⟨u,by simpa using a,b⟩
theorem Vals.set {x:V} {u:Value} (r:RelV x u) :∀{xs:List V} {us:List Value} (i:Nat),Vals xs us->Vals (xs.set i x) (us.set i u)
 | _,_,_,.nil=>.nil
 | _,_,0,.cons _ t=>.cons r t
 | _,_,i + 1,.cons q t=>.cons q (Vals.set r i t)
theorem Vals.append :∀{xs ys:List V} {us ws:List Value},Vals xs us->Vals ys ws->Vals (xs++ys) (us++ws)
 | _,_,_,_,.nil,s=>s
 | _,_,_,_,.cons r t,s=>.cons r (Vals.append t s)
theorem Vals.take :∀{xs:List V} {us:List Value} (n:Nat),Vals xs us->Vals (xs.take n) (us.take n)
 | _,_,0,_=>.nil
 | _,_,_ + 1,.nil=>.nil
 | _,_,n + 1,.cons r t=>.cons r (Vals.take n t)
theorem Vals.drop :∀{xs:List V} {us:List Value} (n:Nat),Vals xs us->Vals (xs.drop n) (us.drop n)
 | _,_,0,r=>r
 | _,_,_ + 1,.nil=>.nil
 | _,_,n + 1,.cons _ t=>Vals.drop n t
noncomputable def RelO:Option V->Option Value->Prop
 | some v,some u=>RelV v u
 | none,none=>True
 | _,_=>False
def KV {κ:Type}:List (κ×V)->List (κ×Value)->Prop:=P8 λ (p:κ×V) (q:κ×Value)=>p.1=q.1/\RelV p.2 q.2
noncomputable def kV:Key->V
 | .inl i=>.int i
 | .inr x=>.str x
inductive HO where
 | lst (xs:List V)
 | tup (xs:List V)
 | dK (kvs:List (Key×V))|dT (kvs:List (List Key×V))
 | set (S:Int->Bool) (n:Nat)
 | ins (C dx:Addr) (fs:List (Str×V))
 | own (x:Addr)
 | xd (fs:List (Str×V))
 | met (f x:Addr)
 | rng (lo hi:Int)
 | frz (o:Obj) (u:HO)
 | tbl (ps:Array Value)
 | ext (φ:Heap->Prop)
noncomputable abbrev Hp:=Addr->Option HO
noncomputable def upd (H:Hp) (a:Addr) (o:HO):Hp:=λ b=>if b=a then some o else H b
theorem upd_same {H:Hp} {a:Addr} {o:HO}:upd H a o a=some o:=by unfold upd;rw [if_pos rfl]
theorem upd_ne {H:Hp} {a b:Addr} {o:HO} (h:b≠a):upd H a o b=H b:=by unfold upd;rw [if_neg h]
theorem ne_of {H:Hp} {a b:Addr} {o u:HO} (h:H a=some o) (h':H b=some u) (d:o≠u):a≠b:=by intro e;subst e;rw [h] at h';exact d (Q1 h')
theorem z08 {H:Hp} {a b:Addr} {o:HO} (h:H a=some o) (h':H b=none):a≠b:=by intro e;subst e;rw [h] at h';cases h'
section
variable (P:Program) (w:S0)
def IsTupN (h:Heap) (a:Addr) (items:Array Value):Prop:=IsTup h a items/\∃o,h.get? a=some o/\o.dict=none
theorem IsTupN.new (h:Heap) (items:Array Value):IsTupN (h.push { cls:=.type "tuple",data:=.seq items }) h.objs.size items:=⟨IsTup.new _ _,_,Z0 _ rfl,rfl⟩
noncomputable def ObjOk (H:Hp) (h:Heap) (a:Addr):HO->Prop
 | .lst xs=>xs.length<=sizeLine/\∃(its:List Value) (n:Nat),Vals xs its/\h.get? a=some { cls:=.type "list",data:=.seq its.toArray n }
 | .tup xs=>xs.length<=sizeLine/\∃its:List Value,Vals xs its/\IsTupN h a its.toArray
 | .dK kvs=>kvs.length<=sizeLine/\(a == i3)=false/\∃vs,KV kvs vs/\h.DictOf (z13 P w) a vs
 | .dT kvs=>kvs.length<=sizeLine/\(a == i3)=false/\∃xs:List (List Key×Addr×Value),
   P8 (λ (p:List Key×V) (q:List Key×Addr×Value)=>p.1=q.1/\H q.2.1=some (.tup (p.1.map kV))/\RelV p.2 q.2.2) kvs xs/\
   ∃o es ep,h.get? a=some o/\o.ExactDict/\o.data=.dict es ep/\es.toList=xs.map (entryOfKey (R5 (z13 P w)))/\(xs.map (·.1)).Nodup
 | .set S n=>h.SetOf (intKind P w) a S n
 | .ins C dx fs=>H dx=some (.own a)/\fs.length<=1000/\dx≠a/\h.get? a=some (U3 C dx)/\
   ∃mA,h.Ns1 dx mA/\(∀f,RelO (fs.lookup f) (mA f))/\j26 mA (fs.map (·.1))
 | .own _=>∃o,h.get? a=some o
 | .xd fs=>∃mA,h.Ns1 a mA/\∀f,RelO (fs.lookup f) (mA f)
 | .rng lo hi=>∃t u v,h.get? a=some { cls:=.type "range",data:=.fields #[.int lo t,.int hi u,.int 1 v] }
 | .frz o u=>h.get? a=some o/\ObjOk H h a u
 | .tbl ps=>h.get? a=some { cls:=.none,data:=.fields ps }
 | .met f x=>h.get? a=some (Z8 (.ref f) (.ref x))
 | .ext φ=>φ h/\(∃o,h.get? a=some o)/\∀h1 h2:Heap,φ h1->(∀o,h1.get? a=some o->h2.get? a=some o)->φ h2
def HOk (H:Hp) (h:Heap):Prop:=∀a o,H a=some o->ObjOk P w H h a o
end
section
variable {P:Program} {w:S0} {H H':Hp} {h h':Heap} {a:Addr} {o:HO}
theorem ObjOk.lt (x:ObjOk P w H h a o):a < h.objs.size:=by
 cases o with
 | lst xs=>obtain ⟨_,_,_,_,e⟩:=x;exact Q0 e
 | tup xs=>obtain ⟨_,_,_,p⟩:=x;exact p.1.lt
 | dK kvs=>obtain ⟨_,_,_,_,o,_,_,e,_⟩:=x;exact Q0 e
 | dT kvs=>obtain ⟨_,_,_,_,o,_,_,e,_⟩:=x;exact Q0 e
 | set S n=>obtain ⟨o,_,_,_,e,_⟩:=x;exact Q0 e
 | ins C dx fs=>obtain ⟨_,_,_,e,_⟩:=x;exact Q0 e
 | own y=>obtain ⟨_,e⟩:=x;exact Q0 e
 | xd fs=>obtain ⟨_,⟨_,_,_,e,_⟩,_⟩:=x;exact Q0 e
 | rng lo hi=>obtain ⟨_,_,_,e⟩:=x;exact Q0 e
 | frz ob u=>obtain ⟨e,_⟩:=x;exact Q0 e
 | tbl ps=>exact Q0 (show h.get? a=some _ from x)
 | met f y=>exact Q0 (show h.get? a=some _ from x)
 | ext φ=>obtain ⟨_,⟨_,e⟩,_⟩:=x;exact Q0 e
theorem Paired.mapP {α β:Type} {F G:α->β->Prop} :∀{l₁:List α} {l₂:List β},P8 F l₁ l₂->(∀a b,F a b->G a b)->P8 G l₁ l₂
 | _,_,.nil,_=>.nil
 | _,_,.cons r t,f=>.cons (f _ _ r) (Paired.mapP t f)
theorem ObjOk.stay (x:ObjOk P w H h a o) (k :∀b u,(b=a\/H b=some (.own a))->h.get? b=some u->h'.get? b=some u)
  (ho :∀b,H b=some (.own a)->H' b=some (.own a)) (ht :∀b xs,H b=some (.tup xs)->H' b=some (.tup xs)):ObjOk P w H' h' a o:=by
 induction o with
 | lst xs=>obtain ⟨z,s,n,r,e⟩:=x;exact ⟨z,s,n,r,k _ _ (.inl rfl) e⟩
 | tup xs=>obtain ⟨z,s,r,⟨g,e,c⟩,F,A,E⟩:=x;exact ⟨z,s,r,⟨g,k _ _ (.inl rfl) e,c⟩,F,k _ _ (.inl rfl) A,E⟩
 | dK kvs=>obtain ⟨z,y,D,r,g,j,i,e,c⟩:=x;exact ⟨z,y,D,r,g,j,i,k _ _ (.inl rfl) e,c⟩
 | dT kvs=>obtain ⟨z,y,xs,r,g,j,i,e,c⟩:=x;exact ⟨z,y,xs,Paired.mapP r λ p q z=>⟨z.1,ht _ _ z.2.1,z.2.2⟩,g,j,i,k _ _ (.inl rfl) e,c⟩
 | set S n=>obtain ⟨g,j,i,t,e,c⟩:=x;exact ⟨g,j,i,t,k _ _ (.inl rfl) e,c⟩
 | ins C dx fs=>obtain ⟨d,z,ne,e,l,⟨m,j,i,A,c⟩,r⟩:=x;exact ⟨ho _ d,z,ne,k _ _ (.inl rfl) e,l,⟨m,j,i,k _ _ (.inr d) A,c⟩,r⟩
 | own y=>obtain ⟨g,e⟩:=x;exact ⟨g,k _ _ (.inl rfl) e⟩
 | xd fs=>obtain ⟨l,⟨m,j,i,e,c⟩,r⟩:=x;exact ⟨l,⟨m,j,i,k _ _ (.inl rfl) e,c⟩,r⟩
 | rng lo hi=>obtain ⟨t,u,v,e⟩:=x;exact ⟨t,u,v,k _ _ (.inl rfl) e⟩
 | frz g u ih=>obtain ⟨e,q⟩:=x;exact ⟨k _ _ (.inl rfl) e,ih q⟩
 | tbl ps=>have e:h.get? a=some { cls:=.none,data:=.fields ps }:=x;show h'.get? a=some { cls:=.none,data:=.fields ps };exact k a _ (.inl rfl) e
 | met f y=>have e:h.get? a=some (Z8 (.ref f) (.ref y)):=x;show h'.get? a=some (Z8 (.ref f) (.ref y));exact k a _ (.inl rfl) e
 | ext φ=>obtain ⟨p,⟨o,e⟩,B⟩:=x;exact ⟨B _ _ p λ o q=>k _ _ (.inl rfl) q,⟨o,k _ _ (.inl rfl) e⟩,B⟩
theorem HOk.lt (x:HOk P w H h) (e:H a=some o):a < h.objs.size:=(x a o e).lt
theorem HOk.fresh (x:HOk P w H h) (e:h.objs.size<=a):H a=none:=by
 cases q:H a with
 | none=>rfl
 | some u=>exact absurd (L1 (x.lt q) e) (O3 _)
theorem HOk.kept (x:HOk P w H h) (k :∀b u,h.get? b=some u->h'.get? b=some u):HOk P w H h':=λ a o e=>(x a o e).stay (λ b u _ q=>k b u q) (λ _ q=>q) λ _ _ q=>q
theorem HOk.laid (x:HOk P w H h) (k :∀b u,h.get? b=some u->h'.get? b=some u) (hp:h.objs.size<=a) (new:ObjOk P w (upd H a o) h' a o):HOk P w (upd H a o) h':=λ b u e=>by
 have d:=x.fresh hp;by_cases hb:b=a
 ·subst hb;rw [upd_same] at e;cases e;exact new
 ·rw [upd_ne hb] at e;exact (x b u e).stay (λ c v _ q=>k c v q) (λ c q=>by rw [upd_ne (z08 q d)];exact q) λ c f q=>by rw [upd_ne (z08 q d)];exact q
end
def Rd (H:Hp) (a:Addr) (u:HO):Prop:=H a=some u\/∃o,H a=some (.frz o u)
theorem Rd.ok {P:Program} {w:S0} {H:Hp} {h:Heap} {a:Addr} {u:HO} (r:Rd H a u) (x:HOk P w H h):ObjOk P w H h a u:=by
 rcases r with r|⟨o,r⟩
 ·exact x a u r
 ·obtain ⟨_,q⟩:=x a _ r;exact q
noncomputable def Mut:Option HO->Prop
 | some (.lst _)=>True
 | some (.dK _)=>True
 | some (.dT _)=>True
 | some (.set _ _)=>True
 | some (.ins _ _ _)=>True
 | some (.ext _)=>True
 | _=>False
section
variable {P:Program} {w:S0} {H:Hp} {h h':Heap} {x e:Addr} {o':HO}
theorem HOk.write (ok:HOk P w H h) (mu:Mut (H x)) (he:e=x\/H e=some (.own x)) (k :∀b u,b≠e->h.get? b=some u->h'.get? b=some u) (heo :∃u,h'.get? e=some u)
  (new:ObjOk P w (upd H x o') h' x o'):HOk P w (upd H x o') h':=λ b u q=>by
 have g :∀c y,H c=some (.own y)->c≠x:=λ c y r z=>by subst z;rw [r] at mu;exact mu
 have i :∀c d,H c=some (.tup d)->c≠x:=λ c d r z=>by subst z;rw [r] at mu;exact mu
 by_cases hb:b=x
 ·subst hb;rw [upd_same] at q;cases q;exact new
 ·rw [upd_ne hb] at q;by_cases hbe:b=e
  ·have f:H b=some (.own x):=by
    rcases he with z|z
    ·exact absurd (hbe.trans z) hb
    ·rw [hbe];exact z
   rw [q] at f;cases f;obtain ⟨v,j⟩:=heo;exact ⟨v,by rw [hbe];exact j⟩
  ·refine (ok b u q).stay (λ c v a r=>k c v ?_ r) (λ c r=>by rw [upd_ne (g c b r)];exact r) λ c d r=>by rw [upd_ne (i c d r)];exact r
   rcases a with rfl|a
   ·exact hbe
   ·rintro rfl;rcases he with z|z
    ·exact g c b a z
    ·rw [a] at z;cases z;exact hb rfl
end
structure Un (fs ex:List Addr) (H H':Hp) (h h':Heap):Prop where
 keep :∀b o,h.get? b=some o->H b=none->b∉fs->b∉ex->h'.get? b=some o
 slot :∀b o,h.get? b=some o->H b=none->b∈fs->b∉ex->∃sl,h'.get? b=some { o with slots:=sl }
 free :∀b o,h.get? b=some o->H b=none->b∉ex->H' b=none
 there :∀b o,h.get? b=some o->b∉ex->∃o',h'.get? b=some o'
 tups :∀b xs,H b=some (.tup xs)->H' b=some (.tup xs)
 frzs :∀b o u,H b=some (.frz o u)->H' b=some (.frz o u)
 tbls :∀b ps,H b=some (.tbl ps)->∃more,H' b=some (.tbl (ps++more))
section
variable {fs fs' ex ex':List Addr} {H H1 H2:Hp} {h h1 h2 h':Heap} {a x e:Addr} {o:HO}
theorem Un.any (u:Un fs ex H H1 h h1) {b:Addr} {ob:Obj} (q:h.get? b=some ob) (n:H b=none) (hx:b∉ex) :∃sl,h1.get? b=some { ob with slots:=sl }:=by
 by_cases hb:b∈fs
 ·exact u.slot b ob q n hb hx
 ·exact ⟨ob.slots,u.keep b ob q n hb hx⟩
theorem Un.kept (k :∀b u,h.get? b=some u->h'.get? b=some u):Un fs ex H H h h':=
 ⟨λ b a q _ _ _=>k b a q,λ b a q _ _ _=>⟨a.slots,k b a q⟩,λ _ _ _ n _=>n,λ b a q _=>⟨a,k b a q⟩,λ _ _ q=>q,λ _ _ _ q=>q,λ _ c q=>⟨#[],by rw [q];simp⟩⟩
theorem Un.refl:Un fs ex H H h h:=Un.kept λ _ _ q=>q
theorem Un.laid (k :∀b u,h.get? b=some u->h'.get? b=some u) (hp:h.objs.size<=a) (hn:H a=none):Un fs ex H (upd H a o) h h' where
 keep:=λ b u q _ _ _=>k b u q
 slot:=λ b u q _ _ _=>⟨u.slots,k b u q⟩
 free:=λ b u q n _=>by rw [upd_ne (E1 (L1 (Q0 q) hp))];exact n
 there:=λ b u q _=>⟨u,k b u q⟩
 tups:=λ b c q=>by rw [upd_ne (z08 q hn)];exact q
 frzs:=λ b u c q=>by rw [upd_ne (z08 q hn)];exact q
 tbls:=λ b d q=>⟨#[],by rw [upd_ne (z08 q hn),q];simp⟩
theorem Un.write (mu:Mut (H x)) (he:e=x\/H e=some (.own x)) (k :∀b u,b≠e->h.get? b=some u->h'.get? b=some u) (heo :∃u,h'.get? e=some u):Un fs ex H (upd H x o) h h':=by
 have d :∀b,H b=none->b≠x:=λ b n z=>by subst z;rw [n] at mu;exact mu
 have c :∀b,H b=none->b≠e:=λ b n z=>by
  subst z;rcases he with r|r
  ·exact d b n r
  ·rw [n] at r;cases r
 have a :∀b u,H b=some u->¬ Mut (some u)->b≠x:=λ b u q g z=>by subst z;rw [q] at mu;exact g mu
 refine ⟨λ b u q n _ _=>k b u (c b n) q,λ b u q n _ _=>⟨u.slots,k b u (c b n) q⟩,λ b u q n _=>by rw [upd_ne (d b n)];exact n,λ b u q _=>?_,
  λ b f q=>by rw [upd_ne (a b _ q λ z=>z)];exact q,λ b u f q=>by rw [upd_ne (a b _ q λ z=>z)];exact q,λ b i q=>⟨#[],by rw [upd_ne (a b _ q λ z=>z),q];simp⟩⟩
 by_cases hbe:b=e
 ·subst hbe;exact heo
 ·exact ⟨u,k b u hbe q⟩
end
noncomputable def trk (h:Heap) (H:Hp):List Addr:=(C1 h.objs.size).filter λ a=>(H a).isSome
noncomputable def hidT (h:Heap) (H:Hp):Heap:=PySem.W.hideAll h (trk h H)
theorem zib (h:Heap) (H:Hp):(hidT h H).objs.size=h.objs.size:=PySem.W.hideAll_size _ _
theorem zjq {h:Heap} {H:Hp} {b:Addr} {o:Obj} (e:h.get? b=some o) (n:H b=none):(hidT h H).get? b=some o:=
 PySem.W.hideAll_get _ e λ a=>by have q:(H b).isSome=true:=(List.mem_filter.mp a).2;rw [n] at q;simp at q
theorem zlu {h:Heap} {H:Hp} {b:Addr} {o:Obj} (e:(hidT h H).get? b=some o):h.get? b=some o/\H b=none:=by
 have a:h.get? b=some o:=PySem.W.of_hideAll (trk h H) e;refine ⟨a,?_⟩;cases q:H b with
 | none=>rfl
 | some x=>have c:b∈trk h H:=List.mem_filter.mpr ⟨List.mem_range.mpr (Q0 a),by simp [q]⟩;have z:(hidT h H).get? b=none:=PySem.W.hideAll_none (trk h H) c;rw [z] at e;cases e
noncomputable def zm1 (g h:Heap) (L:Addr):List (Addr×Obj):=(C1 h.objs.size).filterMap λ a=>if a=L\/(g.get? a).isSome=true then none else (h.get? a).map λ o=>(a,o)
noncomputable def rest (g h:Heap) (L d:Addr):List (Addr×Obj):=(zm1 g h L).filter λ p=>decide (p.1≠d)
structure Mod (K:b0) (mg:Str->Option Value) (base:Heap):Prop where
 kin:K.In base
 glob:base.Ns W2 mg
 blt :∃mb,base.Ns builtinsNs mb/\∀x:Str,x≠"__name__"->mb x=c7 x
 nolimit:base.NoLimit
structure Cx where
 prog:Program
 w:S0
 K:b0
 mg:Str->Option Value
 base:Heap
 A:X1
 N:List Str
 s₀:t0
 H₀:Hp
 env:Env
 outer:List Env
 stack:List Env
 ex:List Addr
 fn:Str->Bool
 calm:Bool
 pn:List (Addr×Obj)
 xe:Value->t0->Prop
noncomputable def frs (l:List Env):List Addr:=l.filterMap (·.frame)
noncomputable abbrev Cx.fs (X:Cx):List Addr:=frs X.outer
def Vis (sc:Scope) (x:Str):Prop:=sc.names.lookup x=some .local\/sc.names.lookup x=some .cell\/sc.names.lookup x=some .free
def Loc (sc:Scope) (x:Str):Prop:=sc.names.lookup x=some .local\/sc.names.lookup x=some .cell
def Look (env:Env) (h:Heap) (m:Str->Option Value) (x:Str) (u:Value):Prop:=
 (env.kindOf x=some .local/\m x=some u)\/((env.kindOf x=some .cell\/env.kindOf x=some .free)/\∃c,env.cells.lookup x=some c/\h.IsCell c (some u))
structure Cx.Ok (X:Cx):Prop where
 mod:Mod X.K X.mg X.base
 kind:X.env.scope.kind=.function
 glob:X.env.globals=W2
 blt:X.env.builtins=builtinsNs
 above:X.s₀.heap.objs.size<=X.env.locals
 inj :∀x y c,X.env.cells.lookup x=some c->X.env.cells.lookup y=some c->x=y
 has :∀x,(X.env.kindOf x=some .cell\/X.env.kindOf x=some .free)->∃c,X.env.cells.lookup x=some c
 cab :∀x c,X.fn x=true->X.env.cells.lookup x=some c->X.s₀.heap.objs.size<=c
 hd:X.calm=true->X.A.handled=none
 frames:X.A.frames=some X.stack
 stk:X.stack=X.outer\/(X.stack=X.env :: X.outer/\X.env.frame=some X.env.locals)
 exf :∀b∈X.ex,b≠X.env.locals/\∀x c,X.env.cells.lookup x=some c->c≠b
 bs :∀b o,X.base.get? b=some o->X.s₀.heap.get? b=some o/\X.H₀ b=none
 bsz:X.base.objs.size<=X.s₀.heap.objs.size
 noex :∀b o,X.base.get? b=some o->b∉X.ex
 exfs :∀b∈X.ex,b∉X.fs
 funs:X.s₀.heap.FunFrames X.base X.outer
 frf :∀b∈X.fs,X.H₀ b=none
structure Inv (X:Cx) (pins:List (Addr×Obj)) (σ:List (Option V)) (H:Hp) (s:t0):Prop where
 ok:X.Ok
 os:s.os=X.s₀.os
 bare:b8 s.gens
 base:Un X.fs X.ex X.H₀ H X.s₀.heap s.heap
 loc :∃m,s.heap.Ns X.env.locals m/\∀(i:Nat) (x:Str) (v:V),X.N[i]? = some x->σ[i]? = some (some v)->Vis X.env.scope x->∃u,RelV v u/\Look X.env s.heap m x u
 cell :∀x c,X.env.cells.lookup x=some c->∃v,s.heap.IsCell c v
 free:H X.env.locals=none
 freeC :∀x c,X.env.cells.lookup x=some c->H c=none
 pin :∀p∈X.pn++pins,s.heap.get? p.1=some p.2/\H p.1=none/\p.1≠X.env.locals/\p.1∉X.fs/\∀v,p.2.data≠.cell v
 hok:HOk X.prog X.w H s.heap
 len:σ.length=X.N.length
section
variable {X:Cx} {pins:List (Addr×Obj)} {σ:List (Option V)} {H H':Hp} {s:t0} {h':Heap}
theorem Cx.Ok.nofr (ok:X.Ok) {b:Addr} {o:Obj} (e:X.base.get? b=some o):b∉X.fs:=λ a=>by have:=(ok.funs.mem a).1;rw [e] at this;cases this
theorem Inv.bs (I:Inv X pins σ H s) :∀b o,X.base.get? b=some o->s.heap.get? b=some o/\H b=none:=λ b o e=>⟨I.base.keep b o (I.ok.bs b o e).1 (I.ok.bs b o e).2 (I.ok.nofr e) (I.ok.noex b o e),I.base.free b o (I.ok.bs b o e).1 (I.ok.bs b o e).2 (I.ok.noex b o e)⟩
theorem Inv.bk (I:Inv X pins σ H s) :∀b o,X.base.get? b=some o->s.heap.get? b=some o:=λ b o e=>(I.bs b o e).1
theorem Inv.mod (I:Inv X pins σ H s):Mod X.K X.mg X.base:=I.ok.mod
theorem Inv.kIn (I:Inv X pins σ H s):X.K.In s.heap:=I.ok.mod.kin.keeps I.bk
theorem Inv.lt (I:Inv X pins σ H s):X.env.locals < s.heap.objs.size:=let ⟨_,hn,_⟩:=I.loc;hn.lt
theorem Inv.sz (I:Inv X pins σ H s):X.s₀.heap.objs.size<=s.heap.objs.size:=C0 I.ok.above (A3 I.lt)
theorem Inv.nofs (I:Inv X pins σ H s) {a:Addr} (h:s.heap.objs.size<=a):a∉X.fs:=λ c=>by obtain ⟨_,o,b,_⟩:=I.ok.funs.mem c;exact absurd (L1 (Q0 b) (C0 I.sz h)) (O3 _)
theorem Inv.cne (I:Inv X pins σ H s) :∀x c,X.env.cells.lookup x=some c->c≠X.env.locals:=λ x c e z=>by obtain ⟨v,o,a,b⟩:=I.cell x c e;obtain ⟨m,⟨i,g,h,f,d,_⟩,_⟩:=I.loc;rw [z,f] at a;cases a;rw [d] at b;cases b
theorem Inv.funs (I:Inv X pins σ H s):s.heap.FunFrames X.base X.outer:=by
 have all :∀(l:List Env),(∀b∈frs l,b∈X.fs)->X.s₀.heap.FunFrames X.base l->s.heap.FunFrames X.base l:=by
  intro l;induction l with
  | nil=>intro _ _;trivial
  | cons env r ih=>intro f h;obtain ⟨m,⟨L,o,c,j,i,k⟩,g⟩:=h;have d:L∈X.fs:=f L (by unfold frs;rw [Y8,c];exact R0);obtain ⟨n,e⟩:=I.base.slot L o i (I.ok.frf L d) d λ z=>I.ok.exfs L z d;exact ⟨m,⟨L,_,c,j,e,k⟩,ih (λ b a=>f b (by unfold frs;rw [Y8,c];exact W0 _ a)) g⟩
 exact all X.outer (λ _ a=>a) I.ok.funs
theorem Inv.stack (I:Inv X pins σ H s):s.heap.FunFrames X.base X.stack:=by
 rcases I.ok.stk with e|⟨e,hf⟩
 ·rw [e];exact I.funs
 ·rw [e];obtain ⟨m,a,_⟩:=I.loc;refine .cons (by rw [I.ok.kind];decide) hf a ?_ I.funs;exact Heap.get?_none_of_le (C0 I.ok.bsz I.ok.above)
theorem Inv.stkSub (I:Inv X pins σ H s) :∀b∈frs X.stack,b∈X.env.locals :: X.fs:=λ b a=>by
 rcases I.ok.stk with e|⟨e,hf⟩
 ·rw [e] at a;exact W0 _ a
 ·rw [e] at a;unfold frs at a;rw [Y8,hf] at a;exact a
theorem Inv.stkFree (I:Inv X pins σ H s) :∀b∈frs X.stack,H b=none:=λ b a=>by
 rcases List.mem_cons.mp (I.stkSub b a) with e|a
 ·rw [e];exact I.free
 ·obtain ⟨_,o,c,_⟩:=I.ok.funs.mem a;exact I.base.free b o c (I.ok.frf b a) λ z=>I.ok.exfs b z a
theorem Inv.step {g':Array GenState} {t':Nat} {d':Drawn} {ch:List Addr} (I:Inv X pins σ H s)
  (hch :∀b∈ch,(b∈X.ex\/X.s₀.heap.objs.size<=b)/\b≠X.env.locals/\(∀x c,X.env.cells.lookup x=some c->c≠b)/\∀p∈X.pn++pins,p.1≠b)
  (keep :∀b o,b≠X.env.locals->b∉X.fs->b∉ch->s.heap.get? b=some o->H b=none->h'.get? b=some o)
  (slot :∀b o,b≠X.env.locals->b∈X.fs->b∉ch->s.heap.get? b=some o->H b=none->∃sl,h'.get? b=some { o with slots:=sl }) (free :∀b o,b∉ch->s.heap.get? b=some o->H b=none->H' b=none)
  (there :∀b o,b∉ch->s.heap.get? b=some o->∃o',h'.get? b=some o')
  (tups :∀b xs,H b=some (.tup xs)->H' b=some (.tup xs)) (frzs :∀b o u,H b=some (.frz o u)->H' b=some (.frz o u)) (tbls :∀b ps,H b=some (.tbl ps)->∃more,H' b=some (.tbl (ps++more)))
  (ns :∀m,s.heap.Ns X.env.locals m->h'.Ns X.env.locals m) (hok:HOk X.prog X.w H' h') (hg:b8 g') :
  Inv X pins σ H' { s with heap:=h',gens:=g',drawn:=d',toks:=t' }:=by
 have D :∀b o,X.s₀.heap.get? b=some o->b≠X.env.locals:=λ b o e=>E1 (L1 (Q0 e) I.ok.above);have y :∀b o,X.s₀.heap.get? b=some o->b∉X.ex->b∉ch:=λ b o e a g=>by
  rcases (hch b g).1 with z|z
  ·exact a z
  ·exact absurd (L1 (Q0 e) z) (O3 _)
 have B :∀x c,X.env.cells.lookup x=some c->∀v,s.heap.IsCell c v->h'.IsCell c v:=λ x c e v ⟨o,h,A⟩=>by
  have j:c∉ch:=λ z=>(hch c z).2.2.1 x c e rfl;by_cases hc:c∈X.fs
  ·obtain ⟨sl,q⟩:=slot c o (I.cne x c e) hc j h (I.freeC x c e);exact ⟨_,q,A⟩
  ·exact ⟨o,keep c o (I.cne x c e) hc j h (I.freeC x c e),A⟩
 refine ⟨I.ok,I.os,hg,⟨λ b o e n g a=>?_,λ b o e n g a=>?_,λ b o e n a=>?_,λ b o e a=>?_,λ b xs e=>tups b xs (I.base.tups b xs e),λ b o xs e=>frzs b o xs (I.base.frzs b o xs e),λ b ps e=>?_⟩,?_,λ x c e=>?_,?_,λ x c e=>?_,λ p E=>?_,hok,I.len⟩
 ·exact keep b o (D b o e) g (y b o e a) (I.base.keep b o e n g a) (I.base.free b o e n a)
 ·obtain ⟨sl,f⟩:=I.base.slot b o e n g a;obtain ⟨M,t⟩:=slot b _ (D b o e) g (y b o e a) f (I.base.free b o e n a);exact ⟨M,t⟩
 ·obtain ⟨o',f⟩:=I.base.there b o e a;exact free b o' (y b o e a) f (I.base.free b o e n a)
 ·obtain ⟨o',f⟩:=I.base.there b o e a;exact there b o' (y b o e a) f
 ·obtain ⟨L,f⟩:=I.base.tbls b ps e;obtain ⟨G,t⟩:=tbls b _ f;exact ⟨L++G,by rw [t,Array.append_assoc]⟩
 ·obtain ⟨m,K,F⟩:=I.loc;refine ⟨m,ns m K,λ i x v f t J=>?_⟩;obtain ⟨u,r,l⟩:=F i x v f t J;refine ⟨u,r,?_⟩;rcases l with l|⟨k,c,e,z⟩
  ·exact .inl l
  ·exact .inr ⟨k,c,e,B x c e _ z⟩
 ·obtain ⟨v,z⟩:=I.cell x c e;exact ⟨v,B x c e v z⟩
 ·obtain ⟨m,⟨o,_,_,h,_⟩,_⟩:=I.loc;exact free _ o (λ z=>(hch _ z).2.1 rfl) h I.free
 ·obtain ⟨v,o,h,A⟩:=I.cell x c e;exact free c o (λ z=>(hch c z).2.2.1 x c e rfl) h (I.freeC x c e)
 ·obtain ⟨e,n,ne,C,d⟩:=I.pin p E;have j:p.1∉ch:=λ z=>(hch p.1 z).2.2.2 p E rfl;exact ⟨keep p.1 p.2 ne C j e n,free p.1 p.2 j e n,ne,C,d⟩
theorem Inv.un {t':Nat} (I:Inv X pins σ H s) (u:Un X.fs [] H H' s.heap h') (hok:HOk X.prog X.w H' h'):Inv X pins σ H' { s with heap:=h',toks:=t' }:=by obtain ⟨m,⟨o,l,k,d,r⟩,_⟩:=id I.loc;obtain ⟨p,i⟩:=u.any d I.free (by simp);exact I.step (g':=s.gens) (d':=s.drawn) (ch:=[]) (λ _ z=>nomatch z) (λ b o _ a _ e n=>u.keep b o e n a (by simp)) (λ b o _ a _ e n=>u.slot b o e n a (by simp)) (λ b o _ e n=>u.free b o e n (by simp)) (λ b o _ e=>u.there b o e (by simp)) u.tups u.frzs u.tbls (λ t f=>by obtain ⟨q,h,j,c,g⟩:=f;rw [d] at c;cases c;exact ⟨_,h,j,i,g⟩) hok I.bare
theorem Inv.call {g':Array GenState} {t':Nat} {d':Drawn} {ch:List Addr} (I:Inv X pins σ H s) (u:Un (frs X.stack) ch H H' s.heap h') (hok:HOk X.prog X.w H' h') (hg:b8 g')
  (hch :∀b∈ch,(b∈X.ex\/X.s₀.heap.objs.size<=b)/\b≠X.env.locals/\(∀x c,X.env.cells.lookup x=some c->c≠b)/\∀p∈X.pn++pins,p.1≠b) :
  Inv X pins σ H' { s with heap:=h',gens:=g',drawn:=d',toks:=t' }:=by
 obtain ⟨m,⟨o,t,q,g,r⟩,_⟩:=id I.loc;obtain ⟨v,d⟩:=u.any g I.free λ z=>(hch _ z).2.1 rfl;exact I.step (ch:=ch) hch (λ b o d l a e n=>u.keep b o e n (λ z=>(List.mem_cons.mp (I.stkSub b z)).elim d l) a) (λ b o _ _ a e n=>u.any e n a) (λ b o a e n=>u.free b o e n a) (λ b o a e=>u.there b o e a) u.tups u.frzs u.tbls (λ A h=>by obtain ⟨y,j,k,f,i⟩:=h;rw [g] at f;cases f;exact ⟨_,j,k,d,i⟩) hok hg
theorem Inv.turned {t':Nat} {it:Addr} (I:Inv X pins σ H s) (k :∀b o,b≠it->s.heap.get? b=some o->h'.get? b=some o) (hn:H it=none) (hL:it≠X.env.locals)
  (h1:it∈X.ex\/X.s₀.heap.objs.size<=it) (h2 :∀x c,X.env.cells.lookup x=some c->c≠it) (h3 :∀p∈X.pn++pins,p.1≠it):Inv X pins σ H { s with heap:=h',toks:=t' }:=by
 have d :∀b u,H b=some u->b≠it:=λ b u e z=>by rw [z,hn] at e;cases e
 refine I.step (g':=s.gens) (d':=s.drawn) (ch:=[it]) (λ b j=>?_) (λ b o _ _ a e _=>k b o (λ z=>a (by simp [z])) e) (λ b o _ _ a e _=>⟨o.slots,k b o (λ z=>a (by simp [z])) e⟩) (λ _ _ _ _ n=>n)
  (λ b o a e=>⟨o,k b o (λ z=>a (by simp [z])) e⟩) (λ _ _ e=>e) (λ _ _ _ e=>e) (λ b l e=>⟨#[],by rw [e];simp⟩) (λ m f=>?_) (λ b u e=>?_) I.bare
 ·have e:b=it:=by simpa using j
  subst e;exact ⟨h1,hL,h2,h3⟩
 ·obtain ⟨o,g,h,i,r⟩:=f;exact ⟨o,g,h,k _ o (V3 hL) i,r⟩
 ·refine (I.hok b u e).stay (λ c v a q=>k c v ?_ q) (λ _ q=>q) λ _ _ q=>q;rcases a with z|z
  ·rw [z];exact d b u e
  ·exact d c _ z
theorem Inv.tok (I:Inv X pins σ H s) (t:Nat):Inv X pins σ H { s with toks:=t }:=I.un (h':=s.heap) (t':=t) Un.refl I.hok
theorem Inv.kept {t':Nat} (I:Inv X pins σ H s) (k :∀b u,s.heap.get? b=some u->h'.get? b=some u):Inv X pins σ H { s with heap:=h',toks:=t' }:=I.un (Un.kept k) (I.hok.kept k)
theorem Inv.laid {a:Addr} {o:HO} {t':Nat} (I:Inv X pins σ H s) (k :∀b u,s.heap.get? b=some u->h'.get? b=some u) (hp:s.heap.objs.size<=a) (new:ObjOk X.prog X.w (upd H a o) h' a o) :
  Inv X pins σ (upd H a o) { s with heap:=h',toks:=t' }:=I.un (Un.laid k hp (I.hok.fresh hp)) (I.hok.laid k hp new)
theorem Inv.write {x e:Addr} {o:HO} {t':Nat} (I:Inv X pins σ H s) (mu:Mut (H x)) (he:e=x\/H e=some (.own x)) (k :∀b u,b≠e->s.heap.get? b=some u->h'.get? b=some u) (heo :∃u,h'.get? e=some u)
  (new:ObjOk X.prog X.w (upd H x o) h' x o):Inv X pins σ (upd H x o) { s with heap:=h',toks:=t' }:=I.un (Un.write mu he k heo) (I.hok.write mu he k heo new)
theorem Inv.weak {σ':List (Option V)} (I:Inv X pins σ H s) (hl:σ'.length=σ.length) (w :∀(i:Nat) v,σ'[i]? = some (some v)->σ[i]? = some (some v)):Inv X pins σ' H s:=
 ⟨I.ok,I.os,I.bare,I.base,let ⟨m,hn,hl'⟩:=I.loc;⟨m,hn,λ i x v a b c=>hl' i x v a (w i v b) c⟩,I.cell,I.free,I.freeC,I.pin,I.hok,hl.trans I.len⟩
theorem Inv.pins_of {pins':List (Addr×Obj)} (I:Inv X pins σ H s) (h :∀p∈pins',s.heap.get? p.1=some p.2/\H p.1=none/\p.1≠X.env.locals/\p.1∉X.fs/\∀v,p.2.data≠.cell v):Inv X pins' σ H s:=
 ⟨I.ok,I.os,I.bare,I.base,I.loc,I.cell,I.free,I.freeC,λ p a=>(List.mem_append.mp a).elim (λ z=>I.pin p (i6 _ z)) (h p),I.hok,I.len⟩
theorem zg6 {N:List Str} (hN:N.Nodup) {i j:Nat} {x:Str} (a:N[i]? = some x) (b:N[j]? = some x):i=j:=by obtain ⟨e,c⟩:=List.getElem?_eq_some_iff.mp a;obtain ⟨f,d⟩:=List.getElem?_eq_some_iff.mp b;exact (j00 hN).mp (c.trans d.symm)
theorem zho {M:Model} {A:X1} {E:Value->t0->Prop} {i:Nat} {x:Str} {v:V} {u:Value} {Q:Unit->t0->Prop} (I:Inv X pins σ H s) (hN:X.N.Nodup) (hi:X.N[i]? = some x) (hx:Loc X.env.scope x) (r:RelV v u)
  (h :∀s',Inv X pins (σ.set i (some v)) H s'->(∃a,L5 a s.heap s'.heap/\(a=X.env.locals\/X.env.cells.lookup x=some a))->Q () s') (hf:X.fn x=true\/X.env.scope.names.lookup x=some .local:=by first|exact .inl rfl|exact .inr rfl|assumption):U0 M A (storeName X.env x u) Q E s:=by
 obtain ⟨m,S,W⟩:=id I.loc;have a7:(X.env.scope.kind == .class || (X.env.scope.kind == .module && X.env.locals != X.env.globals))=false:=by rw [I.ok.kind];rfl
 have a3:i < σ.length:=by rw [I.len];exact (List.getElem?_eq_some_iff.mp hi).1
 have cne:=I.cne;have a2 :∀{a:Addr} {C:Heap},(∃o,s.heap.get? a=some o/\H a=none)->L5 a s.heap C->HOk X.prog X.w H C:=λ {a C} ha f b ob e=>by
  obtain ⟨_,_,a0⟩:=ha;refine (I.hok b ob e).stay (λ c F l q=>(f.2 c ?_).trans q) (λ _ q=>q) λ _ _ q=>q;rintro rfl;rcases l with rfl|l
  ·rw [a0] at e;cases e
  ·rw [a0] at l;cases l
 rcases hx with hk|hk
 ·refine wpAny_storeName_local hk S (λ C a5 f=>?_) a7;obtain ⟨oL,_,_,a6,_⟩:=id S;refine h _ ⟨I.ok,I.os,I.bare,⟨λ b o e n B hx=>?_,λ b o e n B hx=>?_,I.base.free,λ b o e hx=>?_,I.base.tups,I.base.frzs,I.base.tbls⟩,⟨_,a5,λ j y J g t R=>?_⟩,λ y c e=>?_,I.free,I.freeC,λ p U=>?_,a2 ⟨oL,a6,I.free⟩ f,by simpa using I.len⟩ ⟨_,f,.inl rfl⟩
  ·exact (f.2 b (E1 (L1 (Q0 e) I.ok.above))).trans (I.base.keep b o e n B hx)
  ·obtain ⟨O,g⟩:=I.base.slot b o e n B hx;exact ⟨O,(f.2 b (E1 (L1 (Q0 e) I.ok.above))).trans g⟩
  ·obtain ⟨P,g⟩:=I.base.there b o e hx;exact ⟨P,(f.2 b (E1 (L1 (Q0 e) I.ok.above))).trans g⟩
  ·by_cases hj:j=i
   ·subst hj;rw [hi] at g;cases g;rw [j2e a3] at t;cases t;exact ⟨u,r,.inl ⟨hk,by simp⟩⟩
   ·rw [j3e (V3 hj)] at t;obtain ⟨L,K,q⟩:=W j y J g t R;refine ⟨L,K,?_⟩;rcases q with ⟨k,e⟩|⟨k,c,e,z⟩
    ·refine .inl ⟨k,?_⟩;have:y≠x:=λ e=>hj (zg6 hN g (e ▸ hi));simp [this,e]
    ·exact .inr ⟨k,c,e,z.sameBut f (cne y c e)⟩
  ·obtain ⟨F,z⟩:=I.cell y c e;exact ⟨F,z.sameBut f (cne y c e)⟩
  ·obtain ⟨e,n,ne,T,d⟩:=I.pin p U;exact ⟨(f.2 p.1 ne).trans e,n,ne,T,d⟩
 ·have G:X.fn x=true:=by
   rcases hf with z|z
   ·exact z
   ·rw [z] at hk;cases hk
  obtain ⟨c,l⟩:=I.ok.has x (.inl hk);obtain ⟨F,z⟩:=I.cell x c l;refine wpAny_storeName_cell I.ok.kind hk l z (λ C Z f=>?_);obtain ⟨Y,a1,a4⟩:=id z;refine h { s with heap:=C } ⟨I.ok,I.os,I.bare,⟨λ b o e n B hx=>?_,λ b o e n B hx=>?_,I.base.free,λ b o e hx=>?_,I.base.tups,I.base.frzs,I.base.tbls⟩,⟨m,S.sameBut f (V3 (cne x c l)),λ j y J g t R=>?_⟩,λ y D e=>?_,I.free,I.freeC,λ p U=>?_,a2 ⟨Y,a1,I.freeC x c l⟩ f,by simpa using I.len⟩ ⟨c,f,.inr l⟩
  ·exact (f.2 b (E1 (L1 (Q0 e) (I.ok.cab x c G l)))).trans (I.base.keep b o e n B hx)
  ·obtain ⟨O,g⟩:=I.base.slot b o e n B hx;exact ⟨O,(f.2 b (E1 (L1 (Q0 e) (I.ok.cab x c G l)))).trans g⟩
  ·obtain ⟨P,g⟩:=I.base.there b o e hx;exact ⟨P,(f.2 b (E1 (L1 (Q0 e) (I.ok.cab x c G l)))).trans g⟩
  ·by_cases hj:j=i
   ·subst hj;rw [hi] at g;cases g;rw [j2e a3] at t;cases t;exact ⟨u,r,.inr ⟨.inl hk,c,l,Z⟩⟩
   ·rw [j3e (V3 hj)] at t;obtain ⟨L,K,q⟩:=W j y J g t R;refine ⟨L,K,?_⟩;rcases q with q|⟨k,D,e,z'⟩
    ·exact .inl q
    ·refine .inr ⟨k,D,e,z'.sameBut f ?_⟩;rintro rfl;exact hj (zg6 hN g (I.ok.inj _ _ _ e l ▸ hi))
  ·by_cases hcc:D=c
   ·subst hcc;exact ⟨_,Z⟩
   ·obtain ⟨w2,z2⟩:=I.cell y D e;exact ⟨w2,z2.sameBut f hcc⟩
  ·obtain ⟨e,n,ne,T,d⟩:=I.pin p U;refine ⟨(f.2 p.1 ?_).trans e,n,ne,T,d⟩;intro q;rw [q,a1] at e;have q':Y=p.2:=Q1 e;exact d F (by rw [<-q'];exact a4)
theorem zfs {M:Model} {A:X1} {E:Value->t0->Prop} {i:Nat} {x:Str} {v:V} {u:Value} {Q:Unit->t0->Prop} (I:Inv X pins σ H s) (hN:X.N.Nodup) (hi:X.N[i]? = some x) (hx:Loc X.env.scope x) (r:RelV v u)
  (h :∀s',Inv X pins (σ.set i (some v)) H s'->Q () s') (hf:X.fn x=true\/X.env.scope.names.lookup x=some .local:=by first|exact .inl rfl|exact .inr rfl|assumption):U0 M A (storeName X.env x u) Q E s:=
 zho I hN hi hx r (λ s' a _=>h s' a) hf
theorem Inv.call' {s':t0} {ch:List Addr} (I:Inv X pins σ H s) (ho:s'.os=s.os) (u:Un (frs X.stack) ch H H' s.heap s'.heap) (hok:HOk X.prog X.w H' s'.heap) (hg:b8 s'.gens)
  (hch :∀b∈ch,(b∈X.ex\/X.s₀.heap.objs.size<=b)/\b≠X.env.locals/\(∀x c,X.env.cells.lookup x=some c->c≠b)/\∀p∈X.pn++pins,p.1≠b):Inv X pins σ H' s':=by
 obtain ⟨d,g',d',t',a⟩:=s';have e:a=s.os:=ho;subst e;exact I.call (g':=g') (t':=t') (d':=d') u hok hg hch
end
noncomputable abbrev XK:=Value->Option Addr->Hp->Prop
noncomputable abbrev St:=List (Option V)
noncomputable abbrev VK:=V->Hp->Prop
noncomputable abbrev TE:=St->Hp->VK->Prop
noncomputable abbrev TT:=St->Hp->(Bool->Hp->Prop)->Prop
noncomputable abbrev TA:=St->Hp->(List V->Hp->Prop)->Prop
structure Ends where
 nx:St->Hp->Prop
 rt:VK
 bk:St->Hp->Prop:=λ _ _=>False
 ct:St->Hp->Prop:=λ _ _=>False
noncomputable abbrev TS:=Ends->St->Hp->Prop
def EP (X:Cx) (pins:List (Addr×Obj)) (σ:St) (Q:VK) (u:Value) (s':t0):Prop:=∃v H',Inv X pins σ H' s'/\RelV v u/\Q v H'
def TP (X:Cx) (pins:List (Addr×Obj)) (σ:St) (Q:Bool->Hp->Prop) (b:Bool) (s':t0):Prop:=∃H',Inv X pins σ H' s'/\Q b H'
def AP (X:Cx) (pins:List (Addr×Obj)) (σ:St) (Q:List V->Hp->Prop) (us:List Value) (s':t0):Prop:=∃vs H',Inv X pins σ H' s'/\Vals vs us/\Q vs H'
def SP (X:Cx) (pins:List (Addr×Obj)) (D:Ends) (f:Flow) (s':t0):Prop:=
 match f with
 | .next=>∃σ' H',Inv X pins σ' H' s'/\D.nx σ' H'
 | .brk=>∃σ' H',Inv X pins σ' H' s'/\D.bk σ' H'
 | .cont=>∃σ' H',Inv X pins σ' H' s'/\D.ct σ' H'
 | .ret u=>∃v σ' H',Inv X pins σ' H' s'/\RelV v u/\D.rt v H'
def PE (X:Cx) (e:Expr) (t:TE):Prop:=
 ∀(pins:List (Addr×Obj)) (s:t0) (σ:St) (H:Hp) (Q:VK),Inv X pins σ H s->t σ H Q->U0 (B1 X.prog X.w) X.A (u3 e X.env) (EP X pins σ Q) X.xe s
def PT (X:Cx) (e:Expr) (t:TT):Prop:=
 ∀(pins:List (Addr×Obj)) (s:t0) (σ:St) (H:Hp) (Q:Bool->Hp->Prop),Inv X pins σ H s->t σ H Q->U0 (B1 X.prog X.w) X.A (isTrue e X.env (u3 e X.env)) (TP X pins σ Q) X.xe s
def PW (X:Cx) (e:Expr) (t:TT):Prop:=
 ∀(whole:Sem Value) (pins:List (Addr×Obj)) (s:t0) (σ:St) (H:Hp) (Q:Bool->Hp->Prop),Inv X pins σ H s->t σ H Q->U0 (B1 X.prog X.w) X.A (isTrue e X.env whole) (TP X pins σ Q) X.xe s
theorem PW.pt {X:Cx} {e:Expr} {t:TT} (h:PW X e t):PT X e t:=h _
def PA (X:Cx) (es:List Expr) (t:TA):Prop:=
 ∀(pos:Pos) (pins:List (Addr×Obj)) (s:t0) (σ:St) (H:Hp) (Q:List V->Hp->Prop),Inv X pins σ H s->t σ H Q->U0 (B1 X.prog X.w) X.A (spliced (A4 pos (N1 es X.env))) (AP X pins σ Q) X.xe s
def PS (X:Cx) (st:Stmt) (t:TS):Prop:=
 ∀(pins:List (Addr×Obj)) (s:t0) (σ:St) (H:Hp) (D:Ends),Inv X pins σ H s->t D σ H->U0 (B1 X.prog X.w) X.A (exec st X.env) (SP X pins D) X.xe s
def PSs (X:Cx) (st:List Stmt) (t:TS):Prop:=
 ∀(pins:List (Addr×Obj)) (s:t0) (σ:St) (H:Hp) (D:Ends),Inv X pins σ H s->t D σ H->U0 (B1 X.prog X.w) X.A (execs st X.env) (SP X pins D) X.xe s
theorem thn {α:Type} {t:Sem α} {Q Q':α->t0->Prop} {M:Model} {A:X1} {E:Value->t0->Prop} {s:t0} (h:U0 M A t Q E s) (hQ :∀a s,Q a s->Q' a s):U0 M A t Q' E s:=d3 h hQ λ _ _ x=>x
section
variable {X:Cx}
noncomputable def tVar (i:Nat):TE:=λ σ H Q=>∃v,σ[i]? = some (some v)/\Q v H
noncomputable def tC (v:V):TE:=λ _ H Q=>Q v H
theorem pe_var {i:Nat} {x:Str} {pos:Pos} (hN:X.N[i]? = some x) (hv:Vis X.env.scope x) (hd:(x == ("__debug__" : Str))=false:=by decide) (hcd:(x == ("__classdict__" : Str))=false:=by decide):PE X (.Name x pos) (tVar i):=by
 intro f s σ H Q I h;obtain ⟨v,e,h⟩:=h;obtain ⟨m,j,g⟩:=I.loc;obtain ⟨u,r,l⟩:=g i x v hN e hv;have b:EP X f σ Q u s:=⟨v,H,I,r,h⟩
 rcases l with ⟨a,d⟩|⟨a,c,hc,hcell⟩
 ·exact wpAny_Name (wpAny_loadName_local I.ok.kind a j d b) hd
 ·rcases a with a|a
  ·exact wpAny_Name (wpAny_loadName_cell I.ok.kind a hc hcell b) hd
  ·exact wpAny_Name (wpAny_loadName_free I.ok.kind a hc hcell b hcd) hd
theorem pe_int {i j pos}:PE X (.Constant (.int i) j pos) (tC (.int i)):=λ _ _ _ H _ I h=>wpAny_Constant_int ⟨.int i,H,I.tok _,⟨_,rfl⟩,h⟩
theorem pe_bl {b j pos}:PE X (.Constant (.bool b) j pos) (tC (.bl b)):=λ _ _ _ H _ I h=>Constant_bool ⟨.bl b,H,I,rfl,h⟩
theorem pe_non {j pos}:PE X (.Constant .none j pos) (tC .non):=λ _ _ _ H _ I h=>Constant_none ⟨.non,H,I,rfl,h⟩
theorem pe_str {x j pos}:PE X (.Constant (.str x) j pos) (tC (.str x)):=λ _ _ _ H _ I h=>Calls.Constant_str ⟨.str x,H,I.tok _,⟨_,rfl⟩,h⟩
def Gl (X:Cx) (x:Str):Prop:=X.env.kindOf x=some .globalImplicit
theorem zf5 {E:Value->t0->Prop} {pins:List (Addr×Obj)} {s:t0} {σ:St} {H:Hp} {x:Str} {u:Value} {pos:Pos} {Q:Value->t0->Prop} (I:Inv X pins σ H s) (hg:Gl X x) (hm:X.mg x=some u) (h:Q u s)
  (hd:(x == ("__debug__" : Str))=false:=by decide):U0 (B1 X.prog X.w) X.A (u3 (.Name x pos) X.env) Q E s:=
 j0g I.ok.kind hg (Calls.loadGlobal_global (by rw [I.ok.glob];exact I.mod.glob.keeps I.bk) hm h) hd
theorem ld_blt {E:Value->t0->Prop} {pins:List (Addr×Obj)} {s:t0} {σ:St} {H:Hp} {x:Str} {u:Value} {pos:Pos} {Q:Value->t0->Prop} (I:Inv X pins σ H s) (hg:Gl X x) (hm:X.mg x=none) (hv:c7 x=some u) (h:Q u s)
  (hn:x≠"__name__":=by decide) (hd:(x == ("__debug__" : Str))=false:=by decide):U0 (B1 X.prog X.w) X.A (u3 (.Name x pos) X.env) Q E s:=by
 obtain ⟨c,a,b⟩:=I.mod.blt;exact j0g I.ok.kind hg (Calls.loadGlobal_builtin (by rw [I.ok.glob];exact I.mod.glob.keeps I.bk) hm (by rw [I.ok.blt];exact a.keeps I.bk) ((b x hn).trans hv) h) hd
theorem z6v {x:Str} {v:V} {u:Value} {pos:Pos} (hg:Gl X x) (hm:X.mg x=some u) (r:RelV v u) (hd:(x == ("__debug__" : Str))=false:=by decide):PE X (.Name x pos) (tC v):=
 λ _ _ _ H _ I h=>zf5 I hg hm ⟨v,H,I,r,h⟩ hd
theorem z3g {x:Str} {v:V} {u:Value} {pos:Pos} (hg:Gl X x) (hm:X.mg x=none) (hv:c7 x=some u) (r:RelV v u) (hn:x≠"__name__":=by decide) (hd:(x == ("__debug__" : Str))=false:=by decide):PE X (.Name x pos) (tC v):=
 λ _ _ _ H _ I h=>ld_blt I hg hm hv ⟨v,H,I,r,h⟩ hn hd
variable {a b:Expr} {ta tb:TE} {pos:Pos}
def PC (X:Cx) (op:CmpOp) (a b:Expr) (t:TE):Prop:=
 ∀(pins:List (Addr×Obj)) (s:t0) (σ:St) (H:Hp) (Q:VK),Inv X pins σ H s->t σ H Q->
  U0 (B1 X.prog X.w) X.A (u3 a X.env) (λ v s₁=>U0 (B1 X.prog X.w) X.A (u3 b X.env) (λ u s₂=>U0 (B1 X.prog X.w) X.A (B2 op v u) (EP X pins σ Q) X.xe s₂) X.xe s₁) X.xe s
noncomputable def tB (t:TE):TT:=λ σ H Q=>t σ H λ x H1=>∃c,x=.bl c/\Q c H1
theorem pt_cmp {op:CmpOp} {t:TE} (h:PC X op a b t) (h1:c8 op b=false:=by first|exact nobehind _ (by decide) (by decide)|rfl):PT X (.Compare a [op] [b] pos) (tB t):=by intro e s σ H Q I f;refine wpAny_isTrue_Compare1 (thn (h e s σ H _ I f) λ v j h1=>thn h1 λ u i g=>thn g λ c k ⟨x,H1,I1,r1,q1⟩=>?_) h1;obtain ⟨d,rfl,q⟩:=q1;cases r1;exact C3 ⟨H1,I1,q⟩
theorem pt_val {e:Expr} {t:TE} (h:PE X e t) (he :∀whole,isTrue e X.env whole=(do let v <-whole;j2b e.pos;j0c [v] (truthy v)):=by intro _;rfl):PT X e (tB t):=by intro a s σ H Q I b;refine isTrue_plain (thn (h a s σ H _ I b) λ v c ⟨x,H1,I1,r1,q1⟩=>?_) (he _);obtain ⟨d,rfl,q⟩:=q1;cases r1;exact C3 ⟨H1,I1,q⟩
variable {tA tB':TT} {rest:List Expr}
noncomputable def tAnd (t u:TT):TT:=λ σ H Q=>t σ H λ c H1=>if c=true then u σ H1 Q else Q false H1
noncomputable def tOr (t u:TT):TT:=λ σ H Q=>t σ H λ c H1=>if c=true then Q true H1 else u σ H1 Q
noncomputable def tNot (t:TT):TT:=λ σ H Q=>t σ H λ c H1=>Q (!c) H1
theorem z5v (ha:PT X a tA):PW X (.BoolOp .And [a] pos) tA:=by
 intro f b s σ H Q I h;refine isTrue_and (thn (ha b s σ H Q I h) λ c d e=>?_);cases c with
 | true=>exact isTrue_and_nil e
 | false=>exact e
theorem pw_or1 (ha:PT X a tA):PW X (.BoolOp .Or [a] pos) tA:=by
 intro f b s σ H Q I h;refine isTrue_or (thn (ha b s σ H Q I h) λ c d e=>?_);cases c with
 | false=>exact isTrue_or_nil e
 | true=>exact e
theorem pw_and (ha:PT X a tA) (hb:PW X (.BoolOp .And (b :: rest) pos) tB'):PW X (.BoolOp .And (a :: b :: rest) pos) (tAnd tA tB'):=by
 intro f d s σ H Q I h;refine isTrue_and (thn (ha d s σ H _ I h) λ c e ⟨H1,I1,q1⟩=>?_);cases c with
 | true=>exact hb f d e σ H1 Q I1 q1
 | false=>exact ⟨H1,I1,q1⟩
theorem pw_or (ha:PT X a tA) (hb:PW X (.BoolOp .Or (b :: rest) pos) tB'):PW X (.BoolOp .Or (a :: b :: rest) pos) (tOr tA tB'):=by
 intro f d s σ H Q I h;refine isTrue_or (thn (ha d s σ H _ I h) λ c e ⟨H1,I1,q1⟩=>?_);cases c with
 | true=>exact ⟨H1,I1,q1⟩
 | false=>exact hb f d e σ H1 Q I1 q1
theorem pt_not (ha:PT X a tA):PT X (.UnaryOp .Not a pos) (tNot tA):=by intro d s σ H Q I h;exact isTrue_not (ha d s σ H (λ c b=>Q (!c) b) I h)
noncomputable def tAndV (ta tb:TE):TE:=λ σ H Q=>ta σ H λ x H1=>∃c,x=.bl c/\if c=true then tb σ H1 Q else Q (.bl false) H1
noncomputable def tNotV (ta:TE):TE:=λ σ H Q=>ta σ H λ x H1=>∃c,x=.bl c/\Q (.bl (!c)) H1
theorem pe_one {op} {t:TE} (h:PE X a t):PE X (.BoolOp op [a] pos) t:=λ b s σ H Q I c=>BoolOp_one (h b s σ H Q I c)
theorem pe_and (ha:PE X a ta) (hb:PE X (.BoolOp .And (b :: rest) pos) tb):PE X (.BoolOp .And (a :: b :: rest) pos) (tAndV ta tb):=by
 intro e s σ H Q I h;refine BoolOp_and (thn (ha e s σ H _ I h) λ v f ⟨x,H1,I1,r1,d⟩=>?_);obtain ⟨c,rfl,d⟩:=d;cases r1;refine C3 ?_;cases c with
 | true=>exact hb e f σ H1 Q I1 d
 | false=>exact ⟨.bl false,H1,I1,rfl,d⟩
theorem pe_not (ha:PE X a ta):PE X (.UnaryOp .Not a pos) (tNotV ta):=by intro d s σ H Q I h;refine UnaryOp_ (thn (ha d s σ H _ I h) λ v e ⟨x,H1,I1,r1,b⟩=>?_);obtain ⟨c,rfl,b⟩:=b;cases r1;exact not_of (C3 ⟨.bl (!c),H1,I1,rfl,b⟩)
noncomputable def tIf (t:TT) (ta tb:TE):TE:=λ σ H Q=>t σ H λ c H1=>if c=true then ta σ H1 Q else tb σ H1 Q
theorem zkm {c:Expr} (hc:PT X c tA) (ha:PE X a ta) (hb:PE X b tb):PE X (.IfExp c a b pos) (tIf tA ta tb):=by
 intro e s σ H Q I h;refine wpAny_IfExp (thn (hc e s σ H _ I h) λ d f ⟨H1,I1,q1⟩=>?_);cases d with
 | true=>exact ha e f σ H1 Q I1 q1
 | false=>exact hb e f σ H1 Q I1 q1
end
def SqL (K:b0) (H:Hp) (a:Addr) (xs:List V):Prop:=
 Rd H a (.lst xs)\/
  ∃(o:Obj) (its:Array Value) (n:Nat),K.lookup a=some o/\o.cls=.type "list"/\o.dict=none/\o.data=.seq its n/\its.size<=sizeLine/\Vals xs its.toList
def SqT (K:b0) (H:Hp) (a:Addr) (xs:List V):Prop:=
 Rd H a (.tup xs)\/
  ∃(o:Obj) (its:Array Value) (n:Nat),K.lookup a=some o/\o.cls=.type "tuple"/\o.data=.seq its n/\its.size<=sizeLine/\Vals xs its.toList
noncomputable def absV:Value->Option V
 | .none=>some .non
 | .bool b=>some (.bl b)
 | .int i _=>some (.int i)
 | .str x _=>some (.str x)
 | .bytes b _=>some (.byt b)
 | .float b _=>some (.flt b)
 | .ref a=>some (.ref a)
 | .type n=>some (.ty n)
 | _=>none
theorem RelV.abs {x:V} {u:Value} (r:RelV x u):absV u=some x:=by
 cases x with
 | non=>cases r;rfl
 | bl _=>cases r;rfl
 | int _=>obtain ⟨t,rfl⟩:=r;rfl
 | str _=>obtain ⟨t,rfl⟩:=r;rfl
 | byt _=>obtain ⟨t,rfl⟩:=r;rfl
 | flt _=>obtain ⟨t,rfl⟩:=r;rfl
 | ref _=>cases r;rfl
 | ty _=>cases r;rfl
theorem RelV.inj {x y:V} {u:Value} (r:RelV x u) (q:RelV y u):x=y:=Q1 (r.abs.symm.trans q.abs)
theorem Vals.inj :∀{xs ys:List V} {us:List Value},Vals xs us->Vals ys us->xs=ys
 | _,_,_,.nil,.nil=>rfl
 | _,_,_,.cons r t,.cons r' t'=>by rw [r.inj r',Vals.inj t t']
section
variable {X:Cx} {pins:List (Addr×Obj)} {σ:St} {H:Hp} {s:t0} {a:Addr} {xs ys:List V}
theorem SqL.of {K:b0} (h:H a=some (.lst xs)):SqL K H a xs:=.inl (.inl h)
theorem SqT.of {K:b0} (h:H a=some (.tup xs)):SqT K H a xs:=.inl (.inl h)
theorem Inv.list (I:Inv X pins σ H s) (h:SqL X.K H a xs) :∃its:List Value,Vals xs its/\PlainL s.heap a its.toArray/\xs.length<=sizeLine:=by
 rcases h with h|⟨o,its,n,hk,hc,hd,hs,hz,r⟩
 ·obtain ⟨z,its,n,r,e⟩:=h.ok I.hok;exact ⟨its,r,⟨_,n,e,rfl,rfl,rfl⟩,z⟩
 ·refine ⟨its.toList,r,⟨o,n,I.kIn a o hk,hc,hd,by simpa using hs⟩,?_⟩;have e:=r.length;simp only [J2] at e;omega
theorem Inv.tuple (I:Inv X pins σ H s) (h:SqT X.K H a xs) :∃its:List Value,Vals xs its/\IsTup s.heap a its.toArray/\xs.length<=sizeLine:=by
 rcases h with h|⟨o,its,n,hk,hc,hs,hz,r⟩
 ·obtain ⟨z,its,r,p⟩:=h.ok I.hok;exact ⟨its,r,p.1,z⟩
 ·refine ⟨its.toList,r,⟨o,I.kIn a o hk,hc,n,by simpa using hs⟩,?_⟩;have e:=r.length;simp only [J2] at e;omega
theorem Inv.list_inj (I:Inv X pins σ H s) (h:SqL X.K H a xs) (h':SqL X.K H a ys):xs=ys:=by
 obtain ⟨g,r,⟨o,n,e,_,_,d⟩,_⟩:=I.list h;obtain ⟨f,i,⟨k,j,b,_,_,c⟩,_⟩:=I.list h';rw [e] at b;cases b;rw [d] at c;injection c with d1 _;have:g=f:=by simpa using congrArg Array.toList d1
 subst this;exact r.inj i
theorem Inv.tuple_inj (I:Inv X pins σ H s) (h:SqT X.K H a xs) (h':SqT X.K H a ys):xs=ys:=by
 obtain ⟨g,r,⟨o,e,_,n,d⟩,_⟩:=I.tuple h;obtain ⟨f,i,⟨k,b,_,j,c⟩,_⟩:=I.tuple h';rw [e] at b;cases b;rw [d] at c;injection c with d1 _;have:g=f:=by simpa using congrArg Array.toList d1
 subst this;exact r.inj i
end
noncomputable abbrev Cx.wish (X:Cx) (E:Value->t0->Prop):Cx:={ X with xe:=E }
noncomputable abbrev Cx.nox (X:Cx):Cx:=X.wish λ _ _=>False
theorem Cx.Ok.wish {X:Cx} (ok:X.Ok) (E:Value->t0->Prop):(X.wish E).Ok:=
 ⟨ok.mod,ok.kind,ok.glob,ok.blt,ok.above,ok.inj,ok.has,ok.cab,ok.hd,ok.frames,ok.stk,ok.exf,ok.bs,ok.bsz,ok.noex,ok.exfs,ok.funs,ok.frf⟩
theorem Cx.Ok.unwish {X:Cx} {E:Value->t0->Prop} (ok:(X.wish E).Ok):X.Ok:=
 ⟨ok.mod,ok.kind,ok.glob,ok.blt,ok.above,ok.inj,ok.has,ok.cab,ok.hd,ok.frames,ok.stk,ok.exf,ok.bs,ok.bsz,ok.noex,ok.exfs,ok.funs,ok.frf⟩
section
variable {X:Cx} {pins:List (Addr×Obj)} {σ:St} {H:Hp} {s:t0} {E:Value->t0->Prop}
theorem Inv.wish (I:Inv X pins σ H s) (E:Value->t0->Prop):Inv (X.wish E) pins σ H s:=⟨I.ok.wish E,I.os,I.bare,I.base,I.loc,I.cell,I.free,I.freeC,I.pin,I.hok,I.len⟩
theorem Inv.unwish (I:Inv (X.wish E) pins σ H s):Inv X pins σ H s:=⟨I.ok.unwish,I.os,I.bare,I.base,I.loc,I.cell,I.free,I.freeC,I.pin,I.hok,I.len⟩
theorem SP.unwish {D:Ends} {f:Flow} {s':t0} (h:SP (X.wish E) pins D f s'):SP X pins D f s':=by
 cases f with
 | next=>obtain ⟨b,a,I,q⟩:=h;exact ⟨b,a,I.unwish,q⟩
 | brk=>obtain ⟨b,a,I,q⟩:=h;exact ⟨b,a,I.unwish,q⟩
 | cont=>obtain ⟨b,a,I,q⟩:=h;exact ⟨b,a,I.unwish,q⟩
 | ret u=>obtain ⟨v,b,a,I,r,q⟩:=h;exact ⟨v,b,a,I.unwish,r,q⟩
theorem PSs.nox {st:List Stmt} {t:TS} (h:PSs X.nox st t):PSs X st t:=λ a s σ H D I b=>d3 (h a s σ H D (I.wish _) b) (λ _ _ q=>q.unwish) λ _ _ z=>L3 z
end
section
variable {X:Cx} {st:Stmt} {rest:List Stmt} {t u:TS} {e:Expr} {te:TE} {pos:Pos}
noncomputable def tNext:TS:=λ D σ H=>D.nx σ H
noncomputable def tSeq (t u:TS):TS:=λ D σ H=>t { D with nx:=u D } σ H
theorem z0b:PSs X [] tNext:=λ _ _ σ H _ I h=>S8 ⟨σ,H,I,h⟩
theorem z02 (h1:PS X st t) (h2:PSs X rest u):PSs X (st :: rest) (tSeq t u):=by
 intro a s σ H D I h;refine wpAny_execs_cons (thn (h1 a s σ H { D with nx:=u D } I h) λ f c q=>?_);cases f with
 | next=>obtain ⟨e,b,d,q⟩:=q;exact h2 a c e b D d q
 | ret v=>exact q
 | brk=>exact q
 | cont=>exact q
theorem z04 (h1:PS X st t):PSs X [st] t:=by
 intro a s σ H D I h;refine wpAny_execs_cons (thn (h1 a s σ H D I h) λ f b q=>?_);cases f with
 | next=>exact S8 q
 | ret v=>exact q
 | brk=>exact q
 | cont=>exact q
theorem Inv.quiet {pins:List (Addr×Obj)} {σ:St} {H:Hp} {s:t0} (I:Inv X pins σ H s):interactive X.env=false:=by simp [interactive,I.ok.kind]
noncomputable def tDrop (te:TE):TS:=λ D σ H=>te σ H λ _ H1=>D.nx σ H1
theorem z33 (he:PE X e te) (hs:y6 e none pos.line X.env=Y2 false:=by rfl):PS X (.Expr e pos) (tDrop te):=by intro a s σ H D I h;exact wpAny_Expr_any (thn (he a s σ H _ I h) λ v b ⟨x,H1,I1,r1,q1⟩=>⟨σ,H1,I1,q1⟩) I.quiet hs
noncomputable def tRet (te:TE):TS:=λ D σ H=>te σ H D.rt
theorem ps_ret (he:PE X e te):PS X (.Return (some e) pos) (tRet te):=by intro a s σ H D I h;exact wpAny_Return_some (thn (he a s σ H _ I h) λ v b ⟨x,H1,I1,r1,q1⟩=>⟨x,σ,H1,I1,r1,q1⟩)
noncomputable def tIfS (c:TT) (t u:TS):TS:=λ D σ H=>c σ H λ b H1=>if b=true then t D σ H1 else u D σ H1
theorem ps_if {c:Expr} {a b:List Stmt} {tc:TT} (hc:PT X c tc) (ha:PSs X a t) (hb:PSs X b u):PS X (.If c a b pos) (tIfS tc t u):=by
 intro e s σ H D I h;refine wpAny_If (thn (hc e s σ H _ I h) λ d f ⟨H1,I1,q1⟩=>?_);cases d with
 | true=>exact ha e f σ H1 D I1 q1
 | false=>exact hb e f σ H1 D I1 q1
noncomputable def tNever:TS:=λ _ _ _=>False
theorem z8o:PS X st tNever:=λ _ _ _ _ _ _ h=>h.elim
end
noncomputable abbrev TG:=V->St->Hp->(St->Hp->Prop)->Prop
noncomputable abbrev TGs:=List V->St->Hp->(St->Hp->Prop)->Prop
def PG (X:Cx) (target:Expr) (t:TG):Prop:=
 ∀(pins:List (Addr×Obj)) (s:t0) (σ:St) (H:Hp) (v:V) (u:Value) (Q:St->Hp->Prop),Inv X pins σ H s->RelV v u->t v σ H Q->
  U0 (B1 X.prog X.w) X.A (assign target X.env u) (λ _ s'=>∃σ' H',Inv X pins σ' H' s'/\Q σ' H') X.xe s
def PGs (X:Cx) (ts:List Expr) (t:TGs):Prop:=
 ∀(pins:List (Addr×Obj)) (s:t0) (σ:St) (H:Hp) (vs:List V) (us:List Value) (Q:St->Hp->Prop),Inv X pins σ H s->Vals vs us->t vs σ H Q->
  U0 (B1 X.prog X.w) X.A (assignInOrder ((O8 ts X.env).map (·.2)) us) (λ _ s'=>∃σ' H',Inv X pins σ' H' s'/\Q σ' H') X.xe s
noncomputable abbrev TSet:=V->V->V->Hp->(Hp->Prop)->Prop
def PSet (X:Cx) (t:TSet):Prop:=
 ∀(pins:List (Addr×Obj)) (s:t0) (σ:St) (H:Hp) (o i v:V) (ov iv u:Value) (Q:Hp->Prop),Inv X pins σ H s->RelV o ov->RelV i iv->RelV v u->t o i v H Q->
  U0 (B1 X.prog X.w) X.A (setItem ov iv u) (λ _ s'=>∃H',Inv X pins σ H' s'/\Q H') X.xe s
section
variable {X:Cx} {pos:Pos}
noncomputable def gName (i:Nat):TG:=λ v σ H Q=>Q (σ.set i (some v)) H
theorem z0h {i:Nat} {x:Str} (hN:X.N.Nodup) (hi:X.N[i]? = some x) (hx:Loc X.env.scope x) (hf:X.fn x=true\/X.env.scope.names.lookup x=some .local:=by first|exact .inl rfl|exact .inr rfl|assumption):PG X (.Name x pos) (gName i):=by intro c s σ H v u Q I r h;exact wpAny_assign_Name (zfs I hN hi hx r (λ b a=>⟨_,H,a,h⟩) hf)
noncomputable def gNil:TGs:=λ vs σ H Q=>vs=[]/\Q σ H
noncomputable def gCons (t:TG) (u:TGs):TGs:=λ vs σ H Q=>∃v r,vs=v :: r/\t v σ H λ σ' H'=>u r σ' H' Q
theorem z1b:PGs X [] gNil:=by intro a s σ H c b Q I r h;obtain ⟨e,h⟩:=h;subst e;cases r;exact assignInOrder_nil ⟨σ,H,I,h⟩
theorem z0d {e:Expr} {es:List Expr} {t:TG} {u:TGs} (h1:PG X e t) (h2:PGs X es u)
  (hs:(O8 (e :: es) X.env).map (·.2)=assign e X.env :: (O8 es X.env).map (·.2):=by rfl):PGs X (e :: es) (gCons t u):=by
 intro a s σ H f d Q I r h;obtain ⟨v,g,c,h⟩:=h;subst c;cases r with
 | cons r rr=>rw [hs];refine assignInOrder_cons (thn (h1 a s σ H _ _ _ I r h) λ _ b ⟨σ1,H1,I1,q1⟩=>?_);exact h2 a b σ1 H1 _ _ Q I1 rr q1
noncomputable def gTup (K:b0) (n:Nat) (t:TGs):TG:=λ v σ H Q=>∃a xs,v=.ref a/\SqT K H a xs/\xs.length=n/\t xs σ H Q
theorem pg_tup {es:List Expr} {k:Nat} {t:TGs} {n:Nat} (hc:X.calm=true) (h:PGs X es t)
  (hn:(O8 es X.env).length=n:=by rfl) (hst:(O8 es X.env).findIdx? (·.1)=none:=by rfl):PG X (.Tuple es k pos) (gTup X.K n t):=by
 intro f s σ H v u Q I r c;obtain ⟨a,l,q,w,g,c⟩:=c;subst q;cases r;obtain ⟨x,d,i,y⟩:=I.tuple w;refine assign_Tuple_tuple (I.ok.hd hc) i (by simp [hn,<-g,d.length]) hst λ p m=>?_;have j:Inv X f σ H { s with heap:=p }:=I.kept (t':=s.toks) λ b o e=>m b o (E1 (Q0 e)) e;exact h f _ σ H l _ Q j (by simpa using d) c
noncomputable def gSub (to ti:TE) (t:TSet):TG:=λ v σ H Q=>to σ H λ o H1=>ti σ H1 λ i H2=>t o i v H2 λ H3=>Q σ H3
theorem pg_sub {o i:Expr} {to ti:TE} {t:TSet} (ho:PE X o to) (hi:PE X i ti) (hs:PSet X t)
  (ha :∀v,assign (.Subscript o i pos) X.env v=(do
   let ov <-j0c [v] (u3 o X.env)
   let iv <-j0c [v,ov] (u3 i X.env)
   j2b pos
   j0c [v,ov,iv] (setItem ov iv v)
   release [v,ov,iv] []):=by intro _;rfl):PG X (.Subscript o i pos) (gSub to ti t):=by
 intro a s σ H v u Q I r h;rw [ha];refine d0 (S3 (thn (ho a s σ H _ I h) λ ov c ⟨x,H1,I1,r1,q1⟩=>?_));refine d0 (S3 (thn (hi a c σ H1 _ I1 q1) λ iv b ⟨y,H2,I2,r2,q2⟩=>?_));refine d0 (wpAny_standAt (d0 (S3 (thn (hs a b σ H2 x y v ov iv u _ I2 r1 r2 r q2) λ _ d ⟨H3,I3,q3⟩=>?_))));exact wpAny_release ⟨σ,H3,I3,q3⟩
noncomputable def tAsg (te:TE) (g:TG):TS:=λ D σ H=>te σ H λ x H1=>g x σ H1 D.nx
theorem ps_asg {tg e:Expr} {te:TE} {g:TG} (he:PE X e te) (hg:PG X tg g) (hs:swapsWithSole [tg] e pos.line X.env=Y2 false:=by rfl) (hw:swappedStores [tg] e X.env=Y2 none:=by rfl)
  (h1:(O8 [tg] X.env).map (·.2)=[assign tg X.env]:=by rfl):PS X (.Assign [tg] e pos) (tAsg te g):=by
 intro a s σ H D I h;refine wpAny_Assign_stores (thn (he a s σ H _ I h) λ v b ⟨x,H1,I1,r1,q1⟩=>?_) hs hw;rw [h1];exact thn (hg a b σ H1 x v _ I1 r1 q1) λ _ c q=>q
theorem ps_set {i:Nat} {x:Str} {e:Expr} {te:TE} {pos':Pos} (hN:X.N.Nodup) (hi:X.N[i]? = some x) (hx:Loc X.env.scope x) (he:PE X e te) (hs:y6 e (some (.Name x pos')) pos.line X.env=Y2 false:=by rfl) (hf:X.fn x=true\/X.env.scope.names.lookup x=some .local:=by first|exact .inl rfl|exact .inr rfl|assumption) :
  PS X (.Assign [.Name x pos'] e pos) (tAsg te (gName i)):=by
 intro a s σ H D I h;refine wpAny_Assign_Name (thn (he a s σ H _ I h) λ v d ⟨y,H1,I1,r1,q1⟩=>?_) hs;exact zfs I1 hN hi hx r1 (λ c b=>⟨_,H1,b,q1⟩) hf
noncomputable def tWhile (c:TT) (tb:TS):TS:=λ D σ H=>∃W:Nat->St->Hp->Prop,(∃m,W m σ H)/\∀m σ H,W m σ H->
 c σ H λ b H1=>if b=true then∃N:St->Hp->Prop,(∀σ' H',N σ' H'->∃m',m' < m/\W m' σ' H')/\tb { D with nx:=N,ct:=N,bk:=D.nx } σ H1 else D.nx σ H1
theorem zbq {c:Expr} {body:List Stmt} {tc:TT} {tb:TS} (hp:PassesOwn (B1 X.prog X.w) X.A X.env X.xe) (hc:PT X c tc) (hb:PSs X body tb):PS X (.While c body [] pos) (tWhile tc tb):=by
 intro j s σ H D I h;obtain ⟨W,⟨q,y⟩,x⟩:=h;refine wpAny_While (codeAny_whileLoop (λ n t=>∃σ' H',Inv X j σ' H' t/\W n σ' H') ?_ q ⟨σ,H,I,y⟩);rintro n u ⟨σ1,H1,I1,w1⟩;refine T4 hp (thn (hc j u σ1 H1 _ I1 (x n σ1 H1 w1)) λ b r ⟨H2,I2,e⟩=>?_);cases b with
 | true=>
  obtain ⟨N,p,e⟩:=e;rw [if_pos rfl];refine T4 hp (thn (hb j r σ1 H2 _ I2 e) λ f z g=>?_);cases f with
  | next=>obtain ⟨d,a,l,k⟩:=g;obtain ⟨m,i,o⟩:=p d a k;exact ⟨m,i,d,a,l,o⟩
  | cont=>obtain ⟨d,a,l,k⟩:=g;obtain ⟨m,i,o⟩:=p d a k;exact ⟨m,i,d,a,l,o⟩
  | brk=>exact g
  | ret v=>exact g
 | false=>rw [if_neg M0];exact S8 ⟨σ1,H2,I2,e⟩
end
structure It where
 go:Nat->Hp->Prop
 yld:Nat->Hp->V->Hp->Prop
 stop:Nat->Hp->Prop
def FpOk (X:Cx) (pins:List (Addr×Obj)) (H:Hp) (b:Addr):Prop:=
 H b=none/\b≠X.env.locals/\b∉X.fs/\(b∈X.ex\/X.s₀.heap.objs.size<=b)/\(∀x c,X.env.cells.lookup x=some c->c≠b)/\∀p∈X.pn++pins,p.1≠b
theorem Inv.fpOk {X:Cx} {pins:List (Addr×Obj)} {σ:St} {H H':Hp} {s:t0} {b:Addr} (I:Inv X pins σ H s) (hb:s.heap.objs.size<=b) (hn:H' b=none):FpOk X pins H' b:=by
 refine ⟨hn,Z3 (L1 I.lt hb),I.nofs hb,.inr (C0 I.sz hb),λ x c e z=>?_,λ p a z=>?_⟩
 ·obtain ⟨v,q⟩:=I.cell x c e;exact absurd (L1 q.lt (by rw [z];exact hb)) (O3 _)
 ·exact absurd (L1 (Q0 (I.pin p a).1) (by rw [z];exact hb)) (O3 _)
structure Turn (P:Program) (w:S0) (K:b0) (tg:Expr) (J:It) (fp:List Addr) (it:Addr) (tn:Nat->Heap->Prop):Prop where
 mem:it∈fp
 obj :∀i h,tn i h->∀b∈fp,∃o,h.get? b=some o/\∀v,o.data≠.cell v
 keep :∀i h h',tn i h->(∀b∈fp,∀o,h.get? b=some o->h'.get? b=some o)->tn i h'
 item :∀(X:Cx),X.prog=P->X.w=w->X.K=K->X.calm=true->∀(i:Nat) (pins:List (Addr×Obj)) (s:t0) (σ:St) (H:Hp) (E:Value->t0->Prop),Inv X pins σ H s->(∀b∈fp,FpOk X pins H b)->tn i s.heap->J.go i H->
  U0 (B1 P w) X.A (j30 (.ref it)) (λ r s1=>∃u,r=some u/\
   U0 (B1 P w) X.A (V8 tg (.ref it) u) (λ _ s2=>∃x H',Inv X pins σ H' s2/\RelV x u/\J.yld i H x H'/\tn (i + 1) s2.heap/\∀b∈fp,H' b=none) E s1) E s
 done :∀(X:Cx),X.prog=P->X.w=w->X.K=K->X.calm=true->∀(i:Nat) (pins:List (Addr×Obj)) (s:t0) (σ:St) (H:Hp) (E:Value->t0->Prop),Inv X pins σ H s->(∀b∈fp,FpOk X pins H b)->tn i s.heap->J.stop i H->
  U0 (B1 P w) X.A (j30 (.ref it)) (λ r s1=>r=none/\Inv X pins σ H s1) E s
 self :∀(A:X1) (i:Nat) (s:t0) (Q:Value->t0->Prop) (E:Value->t0->Prop),tn i s.heap->Q (.ref it) s->U0 (B1 P w) A (pyIter (.ref it)) Q E s
noncomputable abbrev TI:=St->Hp->(It->Hp->Prop)->Prop
def PIE (X:Cx) (pins:List (Addr×Obj)) (σ:St) (tg:Expr) (R:It->Hp->Prop) (itv:Value) (s2:t0):Prop:=
 ∃(it:Addr) (fp:List Addr) (tn:Nat->Heap->Prop) (J:It) (H':Hp),itv=.ref it/\Inv X pins σ H' s2/\Turn X.prog X.w X.K tg J fp it tn/\tn 0 s2.heap/\(∀b∈fp,FpOk X pins H' b)/\R J H'
def PI (X:Cx) (tg iter:Expr) (wi:TI):Prop:=
 ∀(pins:List (Addr×Obj)) (s:t0) (σ:St) (H:Hp) (R:It->Hp->Prop),Inv X pins σ H s->wi σ H R->
  U0 (B1 X.prog X.w) X.A (u3 iter X.env) (λ v s1=>U0 (B1 X.prog X.w) X.A (pyIter v) (PIE X pins σ tg R) X.xe s1) X.xe s
theorem go_of {M:Model} {A:X1} {E:Value->t0->Prop} {s:t0} {tg:Expr} {it:Addr} {u:Value} {o:Obj} {n:String} {vs:Array Value} {Q:Unit->t0->Prop} (ho:s.heap.get? it=some o) (hc:o.cls=.type n) (hd:o.data=.fields vs)
    (hn:["enumerate","zip","dict_itemiterator","dict_reverseitemiterator","odict_iterator","itertools.zip_longest","itertools.pairwise"].contains n=false) (hQ:Q () s):U0 M A (V8 tg (.ref it) u) Q E s:=by
  unfold V8;cases tg<;>first
    | exact G0 hQ
    | (cases u<;>first
        | exact G0 hQ
        | (refine d0 (wpAny_load ho ?_)
           rw [hc,hd];show U0 M A (if (["enumerate","zip","dict_itemiterator","dict_reverseitemiterator","odict_iterator","itertools.zip_longest","itertools.pairwise"].contains n && vs[0]? == some (j13 _))=true then _ else _) Q E s;rw [if_neg (by intro h;rw [hn,R6] at h;cases h)];exact G0 hQ))
noncomputable def Itl (K:b0) (a:Addr):It:=
 ⟨λ i H=>∃xs x,SqL K H a xs/\xs[i]? = some x,λ i H x H'=>H'=H/\∀xs,SqL K H a xs->xs[i]? = some x,λ i H=>∃xs,SqL K H a xs/\xs.length<=i⟩
noncomputable def Itt (K:b0) (a:Addr):It:=
 ⟨λ i H=>∃xs x,SqT K H a xs/\xs[i]? = some x,λ i H x H'=>H'=H/\∀xs,SqT K H a xs->xs[i]? = some x,λ i H=>∃xs,SqT K H a xs/\xs.length<=i⟩
noncomputable def Itr (lo:Int) (n:Nat):It:=⟨λ i _=>i < n,λ i H x H'=>H'=H/\x=.int (lo + i),λ i _=>n<=i⟩
theorem zhj {P:Program} {w:S0} {K:b0} {tg:Expr} (a it:Addr):Turn P w K tg (Itl K a) [it] it (λ i h=>h.IsListIter it a i) where
 mem:=by simp
 obj:=λ i h f b g=>by
  have e:b=it:=by simpa using g
  subst e;obtain ⟨o,e,c,d⟩:=f;exact ⟨o,e,λ v z=>by rw [d] at z;cases z⟩
 keep:=λ i h l f k=>f.at λ o e=>k it (by simp) o e
 item:=by intro X q B C J i M s σ H E I j f F;subst q B C;obtain ⟨U,x,m,r⟩:=F;obtain ⟨T,n,p,Y⟩:=I.list m;obtain ⟨u,Q,W⟩:=n.get r;obtain ⟨D,t,O,G,y,A⟩:=j it (by simp);refine wpAny_pyNext_list_item f p.isList (x:=u) (by simpa using Q) λ l L S=>?_;have R:Inv X M σ H { s with heap:=l }:=I.turned (t':=s.toks) (λ b o g e=>(S.2 b g).trans e) D t G y A;obtain ⟨o,e,c,d⟩:=id L;exact ⟨u,rfl,go_of (s:={ s with heap:=l }) e c d (by decide) ⟨x,H,R,W,⟨rfl,λ ys N=>by rw [I.list_inj N m];exact r⟩,L,λ b g=>(j b g).1⟩⟩
 done:=by intro X q B C J i M s σ H E I j f F;subst q B C;obtain ⟨U,m,r⟩:=F;obtain ⟨T,n,p,Y⟩:=I.list m;obtain ⟨D,t,O,G,y,A⟩:=j it (by simp);have Z:=n.length;exact wpAny_pyNext_list_end (I.ok.hd J) f p.isList (by simp;omega) λ l V=>⟨rfl,I.turned (t':=s.toks) (λ b o g e=>V b o g e) D t G y A⟩
 self:=λ _ _ _ _ _ f h=>wpAny_pyIter_listiter f h
theorem zf6 {P:Program} {w:S0} {K:b0} {tg:Expr} (a it:Addr):Turn P w K tg (Itt K a) [it] it (λ i h=>h.IsTupleIter it a i) where
 mem:=by simp
 obj:=λ i h f b g=>by
  have e:b=it:=by simpa using g
  subst e;obtain ⟨o,e,c,d⟩:=f;exact ⟨o,e,λ v z=>by rw [d] at z;cases z⟩
 keep:=λ i h l f k=>f.at λ o e=>k it (by simp) o e
 item:=by intro X q C D L i N s σ H E I j f G;subst q C D;obtain ⟨U,x,m,t⟩:=G;obtain ⟨r,n,p,Y⟩:=I.tuple m;obtain ⟨u,R,W⟩:=n.get t;obtain ⟨F,y,Q,J,A,B⟩:=j it (by simp);refine wpAny_pyNext_tuple_item f (show s.heap.IsTuple a r.toArray from p) (x:=u) (by simpa using R) λ l M T=>?_;have S:Inv X N σ H { s with heap:=l }:=I.turned (t':=s.toks) (λ b o g e=>(T.2 b g).trans e) F y J A B;obtain ⟨o,e,c,d⟩:=id M;exact ⟨u,rfl,go_of (s:={ s with heap:=l }) e c d (by decide) ⟨x,H,S,W,⟨rfl,λ ys O=>by rw [I.tuple_inj O m];exact t⟩,M,λ b g=>(j b g).1⟩⟩
 done:=by intro X q C D L i N s σ H E I j f G;subst q C D;obtain ⟨U,m,t⟩:=G;obtain ⟨r,n,p,Y⟩:=I.tuple m;obtain ⟨F,y,Q,J,A,B⟩:=j it (by simp);have Z:=n.length;exact wpAny_pyNext_tuple_end (I.ok.hd L) f (show s.heap.IsTuple a r.toArray from p) (by simp;omega) λ l V=>⟨rfl,I.turned (t':=s.toks) (λ b o g e=>V b o g e) F y J A B⟩
 self:=λ _ _ _ _ _ f h=>wpAny_pyIter_tupleiter f h
theorem zex {P:Program} {w:S0} {K:b0} {tg:Expr} (it:Addr) (lo:Int) (n:Nat):Turn P w K tg (Itr lo n) [it] it (λ i h=>IsRangeIter h it (lo + (i:Nat) * 1) ((n:Int) - (i:Nat)) 1) where
 mem:=by simp
 obj:=λ i h a b c=>by
  have e:b=it:=by simpa using c
  subst e;exact ⟨_,a,λ v z=>by have G:j3f _=Data.cell v:=z;cases G⟩
 keep:=λ i h f a k=>k it (by simp) _ a
 item:=by intro X j q r g i C s σ H E I d a x;subst j q r;obtain ⟨u,l,D,y,m,p⟩:=d it (by simp);have W:=Walks.range (prog:=X.prog) (w:=X.w) (I.ok.hd g) it lo 1 n;refine W.item i s _ _ x a λ v f A M B L=>?_;obtain ⟨t,rfl⟩:=M;have F:Inv X C σ H { s with heap:=f,toks:=A }:=I.turned (λ b o c e=>L b o (by simpa using c) e) u l y m p;refine ⟨_,rfl,go_of (s:={ s with heap:=f,toks:=A }) (n:="range_iterator") B rfl rfl (by decide) ⟨.int (lo + i),H,F,⟨t,?_⟩,⟨rfl,rfl⟩,B,λ b c=>(d b c).1⟩⟩;rw [Int.mul_one]
 done:=by intro X j q r g i C s σ H E I d a x;subst j q r;obtain ⟨u,l,D,y,m,p⟩:=d it (by simp);exact wpAny_pyNext_range_end (I.ok.hd g) a (by have:n<=i:=x;omega) λ f J=>⟨rfl,I.turned (t':=s.toks) (λ b o c e=>J b o c e) u l y m p⟩
 self:=λ _ _ _ _ _ a h=>wpAny_pyIter_rangeiter a h
section
variable {X:Cx} {tg:Expr}
noncomputable def iList (K:b0) (tl:TE):TI:=λ σ H R=>tl σ H λ x H1=>∃a,x=.ref a/\(∃xs,SqL K H1 a xs)/\R (Itl K a) H1
noncomputable def iTup (K:b0) (tl:TE):TI:=λ σ H R=>tl σ H λ x H1=>∃a,x=.ref a/\(∃xs,SqT K H1 a xs)/\R (Itt K a) H1
theorem z2m {l:Expr} {tl:TE} (hl:PE X l tl):PI X tg l (iList X.K tl):=by
 intro d s σ H R I h;refine thn (hl d s σ H _ I h) λ v c ⟨x,H1,I1,r1,q1⟩=>?_;obtain ⟨a,e,⟨k,g⟩,q⟩:=q1;subst e;cases r1;obtain ⟨j,i,p,m⟩:=I1.list g;refine j0a p.isList ?_;refine ⟨c.heap.objs.size,[c.heap.objs.size],_,_,H1,rfl,I1.kept (t':=c.toks) λ b o e=>D0 _ e,zhj a _,⟨_,Z0 _ rfl,rfl,rfl⟩,λ b f=>?_,q⟩;have e:b=c.heap.objs.size:=by simpa using f
 subst e;exact I1.fpOk (u0 _) (I1.hok.fresh (u0 _))
theorem pi_tup {l:Expr} {tl:TE} (hl:PE X l tl):PI X tg l (iTup X.K tl):=by
 intro f s σ H R I h;refine thn (hl f s σ H _ I h) λ v c ⟨x,H1,I1,r1,q1⟩=>?_;obtain ⟨a,e,⟨k,i⟩,q⟩:=q1;subst e;cases r1;obtain ⟨d,j,p,m⟩:=I1.tuple i;refine M5 (show c.heap.IsTuple a d.toArray from p) ?_;refine ⟨c.heap.objs.size,[c.heap.objs.size],_,_,H1,rfl,I1.kept (t':=c.toks) λ b o e=>D0 _ e,zf6 a _,⟨_,Z0 _ rfl,rfl,rfl⟩,λ b g=>?_,q⟩;have e:b=c.heap.objs.size:=by simpa using g
 subst e;exact I1.fpOk (u0 _) (I1.hok.fresh (u0 _))
theorem zjz {pins:List (Addr×Obj)} {σ:St} {H:Hp} {s:t0} {R:It->Hp->Prop} {E:Value->t0->Prop} {lo hi:Int} {t u v:Tok} {tk:Nat} (I:Inv X pins σ H s) (h1:-(2 ^ 62)<=lo) (h2:lo < 2 ^ 62) (h3:-(2 ^ 62)<=hi) (h4:hi < 2 ^ 62)
  (q:R (Itr lo (hi - lo).toNat) H):U0 (B1 X.prog X.w) X.A (pyIter (.ref s.heap.objs.size)) (PIE X pins σ tg R) E { s with heap:=s.heap.push { cls:=.type "range",data:=.fields #[.int lo t,.int hi u,.int 1 v] },toks:=tk }:=by
 refine wpAny_pyIter_range (IsRange.new ..) (small_one h1 h2 h3 h4) ?_;have a:Inv X pins σ H { s with heap:=s.heap.push { cls:=.type "range",data:=.fields #[.int lo t,.int hi u,.int 1 v] },toks:=tk }:=I.kept λ b o e=>D0 _ e;refine ⟨(s.heap.push { cls:=.type "range",data:=.fields #[.int lo t,.int hi u,.int 1 v] }).objs.size,[(s.heap.push { cls:=.type "range",data:=.fields #[.int lo t,.int hi u,.int 1 v] }).objs.size],_,_,H,rfl,
  a.kept (t':=tk) λ b o e=>D0 _ e,zex _ lo (hi - lo).toNat,?_,λ b c=>?_,q⟩
 ·have d:lo + ((0:Nat):Int) * 1=lo:=by simp
  have f:(((hi - lo).toNat:Nat):Int) - ((0:Nat):Int)=Builtin.Range.rangeSize lo hi 1:=by rw [rangeSize_one];split<;>omega
  show IsRangeIter _ _ (lo + ((0:Nat):Int) * 1) ((((hi - lo).toNat:Nat):Int) - ((0:Nat):Int)) 1;rw [d,f];exact Z0 _ rfl
 ·have e:b=(s.heap.push { cls:=.type "range",data:=.fields #[.int lo t,.int hi u,.int 1 v] }).objs.size:=by simpa using c
  subst e;exact a.fpOk (u0 _) (a.hok.fresh (u0 _))
noncomputable def iRng1 (ta:TA):TI:=λ σ H R=>ta σ H λ vs H1=>∃j:Int,vs=[.int j]/\-(2 ^ 62)<=j/\j < 2 ^ 62/\R (Itr 0 j.toNat) H1
theorem z2e {a:Expr} {ta:TA} {p pos:Pos} (hg:Gl X "range") (hm:X.mg "range" = none) (ha:PA X [a] ta) (hs:N1 [a] X.env=[(false,u3 a X.env)]:=by rfl):PI X tg (.Call (.Name "range" p) [a] [] pos) (iRng1 ta):=by
 intro c s σ H R I h;refine Call_ (ld_blt I hg hm boot_range (K3 (thn (ha pos c s σ H _ I h) λ g f ⟨vs,H1,I1,r1,b⟩=>?_) hs rfl));obtain ⟨j,e,b,d,q⟩:=b;subst e;cases r1 with
 | cons r rr=>cases rr;obtain ⟨t,rfl⟩:=r;exact call_range_1 (zjz I1 (by omega) (by omega) b d (by simpa using q))
noncomputable def tFor (wi:TI) (g:TG) (tb:TS):TS:=λ D σ H=>wi σ H λ J H1=>∃W:Nat->Nat->St->Hp->Prop,(∃m,W 0 m σ H1)/\∀i m σ H,W i m σ H->
 (J.stop i H/\D.nx σ H)\/(J.go i H/\∃N:St->Hp->Prop,(∀σ' H',N σ' H'->∃m',m' < m/\W (i + 1) m' σ' H')/\∀x H',J.yld i H x H'->g x σ H' λ σ2 H2=>tb { D with nx:=N,ct:=N,bk:=D.nx } σ2 H2)
noncomputable def pinsAt (fp:List Addr) (h:Heap):List (Addr×Obj):=fp.filterMap λ b=>(h.get? b).map λ o=>(b,o)
theorem z4k {fp:List Addr} {h:Heap} {b:Addr} {o:Obj} (hb:b∈fp) (e:h.get? b=some o):(b,o)∈pinsAt fp h:=List.mem_filterMap.mpr ⟨b,hb,by rw [e];rfl⟩
theorem zd4 {fp:List Addr} {h:Heap} {p:Addr×Obj} (hp:p∈pinsAt fp h):p.1∈fp/\h.get? p.1=some p.2:=by
 obtain ⟨b,c,e⟩:=List.mem_filterMap.mp hp;cases q:h.get? b with
 | none=>rw [q] at e;cases e
 | some o=>rw [q] at e;have a:(b,o)=p:=Q1 e;subst a;exact ⟨c,q⟩
theorem Inv.pinned {pins:List (Addr×Obj)} {σ:St} {H:Hp} {s:t0} {fp:List Addr} (I:Inv X pins σ H s) (hf :∀b∈fp,FpOk X pins H b) (ho :∀b∈fp,∃o,s.heap.get? b=some o/\∀v,o.data≠.cell v):Inv X (pins++pinsAt fp s.heap) σ H s:=
 I.pins_of λ p h=>(List.mem_append.mp h).elim (λ z=>I.pin p (J1 _ z)) λ z=>by obtain ⟨c,e⟩:=zd4 z;obtain ⟨f,g,i,_⟩:=hf p.1 c;obtain ⟨o,a,d⟩:=ho p.1 c;rw [e] at a;cases a;exact ⟨e,f,g,i,d⟩
theorem Inv.unpinned {pins pl:List (Addr×Obj)} {σ:St} {H:Hp} {s:t0} (I:Inv X (pins++pl) σ H s):Inv X pins σ H s:=I.pins_of λ p a=>I.pin p (J1 _ (i6 _ a))
theorem ps_for {iter:Expr} {body:List Stmt} {wi:TI} {g:TG} {tb:TS} {pos:Pos} (hp:PassesOwn (B1 X.prog X.w) X.A X.env X.xe) (hc:X.calm=true) (hi:PI X tg iter wi) (hg:PG X tg g) (hb:PSs X body tb)
  (hs :∀x,Y4 iter X.env x=Y2 x:=by intro _;rfl):PS X (.For tg iter body [] pos) (tFor wi g tb):=by
 intro l s σ H D I h;refine wpAny_For (thn (hi l s σ H _ I h) λ v s1 h1=>thn h1 λ a1 s2 R=>?_) hs;obtain ⟨it,p,G,J,H2,e,I2,T,S,z,W,⟨L,V⟩,Z⟩:=R;subst e
 -- what stays true of the iterator's objects through the loop
 have y :∀{H':Hp},(∀b∈p,H' b=none)->∀b∈p,FpOk X l H' b:=λ Y b hb=>⟨Y b hb,(z b hb).2⟩
 refine codeAny_forLoop_any (λ n E=>∃i σ' H',Inv X l σ' H' E/\G i E.heap/\(∀b∈p,H' b=none)/\W i n σ' H') ?_ L ⟨0,σ,H2,I2,S,λ b hb=>(z b hb).1,V⟩;rintro n B ⟨i,σ3,H3,I3,st3,fr3,w3⟩;rcases Z i n σ3 H3 w3 with ⟨M,qn⟩|⟨go,N,hN,step⟩
 ·refine T4 hp (thn (T.done X rfl rfl rfl hc i l B σ3 H3 X.xe I3 (y fr3) st3 M) λ r O ⟨hr,I4⟩=>?_);subst hr;exact S8 ⟨σ3,H3,I4,qn⟩
 ·refine T4 hp (thn (T.item X rfl rfl rfl hc i l B σ3 H3 X.xe I3 (y fr3) st3 go) λ r O ⟨u,hr,h4⟩=>?_);subst hr;refine T4 hp (thn h4 λ _ F ⟨x,H5,I5,r5,y5,st5,fr5⟩=>?_);have a0:=I5.pinned (y fr5) (T.obj _ _ st5);refine T4 hp (thn (hg _ F σ3 H5 x u _ a0 r5 (step x H5 y5)) λ _ P ⟨σ6,H6,I6,q6⟩=>?_);refine T4 hp (thn (hb _ P σ6 H6 _ I6 q6) λ f t k=>?_);have C :∀{j:St} {a:Hp},Inv X (l++pinsAt p F.heap) j a t->N j a->∃m,m < n/\∃i σ' H',Inv X l σ' H' t/\G i t.heap/\(∀b∈p,H' b=none)/\W i m σ' H':=λ {j a} c q=>by obtain ⟨m',K,Q⟩:=hN j a q;refine ⟨m',K,i + 1,j,a,c.unpinned,T.keep _ _ _ st5 λ b hb o e=>(c.pin (b,o) (J1 _ (J1 _ (z4k hb e)))).1,λ b hb=>?_,Q⟩;obtain ⟨o,e,d⟩:=T.obj _ _ st5 b hb;exact (c.pin (b,o) (J1 _ (J1 _ (z4k hb e)))).2.1
  cases f with
  | next=>obtain ⟨j,a,c,q⟩:=k;exact C c q
  | cont=>obtain ⟨j,a,c,q⟩:=k;exact C c q
  | brk=>obtain ⟨j,a,c,k⟩:=k;exact ⟨j,a,c.unpinned,k⟩
  | ret v=>obtain ⟨x7,j,a,c,U,k⟩:=k;exact ⟨x7,j,a,c.unpinned,U,k⟩
end
theorem z5a {K:b0} {a:Addr} {xs:List V} {g:TG} {tb:TS} {D:Ends} {σ:St} {H:Hp} (Pv:Nat->St->Hp->Prop) (h0:Pv 0 σ H) (hl :∀i σ H,i<=xs.length->Pv i σ H->SqL K H a xs)
  (hs :∀i x σ H,xs[i]? = some x->Pv i σ H->g x σ H λ σ2 H2=>tb { D with nx:=Pv (i + 1),ct:=Pv (i + 1),bk:=D.nx } σ2 H2) (hd :∀σ H,Pv xs.length σ H->D.nx σ H) :
  ∃W:Nat->Nat->St->Hp->Prop,(∃m,W 0 m σ H)/\∀i m σ H,W i m σ H->
   ((Itl K a).stop i H/\D.nx σ H)\/((Itl K a).go i H/\∃N:St->Hp->Prop,(∀σ' H',N σ' H'->∃m',m' < m/\W (i + 1) m' σ' H')/\∀x H',(Itl K a).yld i H x H'->g x σ H' λ σ2 H2=>tb { D with nx:=N,ct:=N,bk:=D.nx } σ2 H2):=by
 refine ⟨λ i m σ H=>m=xs.length - i/\i<=xs.length/\Pv i σ H,⟨xs.length,by simp,S1 _,h0⟩,?_⟩;rintro i m σ H ⟨rfl,hi,p⟩;have q:=hl i σ H hi p;by_cases hlt:i < xs.length
 ·refine .inr ⟨⟨xs,xs[i],q,by simp [hlt]⟩,Pv (i + 1),λ σ' H' b=>⟨xs.length - (i + 1),by omega,rfl,hlt,b⟩,λ x H' y=>?_⟩;obtain ⟨e,y⟩:=y;subst e;exact hs i x σ _ (y xs q) p
 ·have e:i=xs.length:=by omega
  subst e;exact .inl ⟨⟨xs,q,u0 _⟩,hd σ H p⟩
theorem z3m {lo:Int} {n:Nat} {g:TG} {tb:TS} {D:Ends} {σ:St} {H:Hp} (Pv:Nat->St->Hp->Prop) (h0:Pv 0 σ H)
  (hs :∀i σ H,i < n->Pv i σ H->g (.int (lo + i)) σ H λ σ2 H2=>tb { D with nx:=Pv (i + 1),ct:=Pv (i + 1),bk:=D.nx } σ2 H2) (hd :∀σ H,Pv n σ H->D.nx σ H) :
  ∃W:Nat->Nat->St->Hp->Prop,(∃m,W 0 m σ H)/\∀i m σ H,W i m σ H->
   ((Itr lo n).stop i H/\D.nx σ H)\/((Itr lo n).go i H/\∃N:St->Hp->Prop,(∀σ' H',N σ' H'->∃m',m' < m/\W (i + 1) m' σ' H')/\∀x H',(Itr lo n).yld i H x H'->g x σ H' λ σ2 H2=>tb { D with nx:=N,ct:=N,bk:=D.nx } σ2 H2):=by
 refine ⟨λ i m σ H=>m=n - i/\i<=n/\Pv i σ H,⟨n,by simp,S1 _,h0⟩,?_⟩;rintro i m σ H ⟨rfl,hi,p⟩;by_cases hlt:i < n
 ·refine .inr ⟨hlt,Pv (i + 1),λ σ' H' a=>⟨n - (i + 1),by omega,rfl,hlt,a⟩,λ x H' y=>?_⟩;obtain ⟨e,y⟩:=y;subst e y;exact hs i σ _ hlt p
 ·have e:i=n:=by omega
  subst e;exact .inl ⟨u0 _,hd σ H p⟩
noncomputable abbrev R2:=V->V->Hp->VK->Prop
def OpR (X:Cx) (f:Value->Value->Sem Value) (r:R2):Prop:=
 ∀(pins:List (Addr×Obj)) (s:t0) (σ:St) (H:Hp) (x y:V) (v u:Value) (Q:VK),Inv X pins σ H s->RelV x v->RelV y u->r x y H Q->
  U0 (B1 X.prog X.w) X.A (f v u) (EP X pins σ Q) X.xe s
def UnR (X:Cx) (f:Value->Sem Value) (r:V->Hp->VK->Prop):Prop:=
 ∀(pins:List (Addr×Obj)) (s:t0) (σ:St) (H:Hp) (x:V) (v:Value) (Q:VK),Inv X pins σ H s->RelV x v->r x H Q->
  U0 (B1 X.prog X.w) X.A (f v) (EP X pins σ Q) X.xe s
def CallR (X:Cx) (f:Value) (r:List V->Hp->VK->Prop):Prop:=
 ∀(pins:List (Addr×Obj)) (s:t0) (σ:St) (H:Hp) (xs:List V) (us:List Value) (Q:VK),Inv X pins σ H s->Vals xs us->r xs H Q->
  U0 (B1 X.prog X.w) X.A (call f us) (EP X pins σ Q) X.xe s
noncomputable def tOp (r:R2) (ta tb:TE):TE:=λ σ H Q=>ta σ H λ x H1=>tb σ H1 λ y H2=>r x y H2 Q
noncomputable def tUn (r:V->Hp->VK->Prop) (ta:TE):TE:=λ σ H Q=>ta σ H λ x H1=>r x H1 Q
noncomputable def rI (C:Int->Int->Prop) (g:Int->Int->V):R2:=λ x y H Q=>∃i j,x=.int i/\y=.int j/\C i j/\Q (g i j) H
noncomputable def rI0 (g:Int->Int->V):R2:=λ x y H Q=>∃i j,x=.int i/\y=.int j/\Q (g i j) H
def rU (g:Int->V):V->Hp->VK->Prop:=λ x H Q=>∃i,x=.int i/\Q (g i) H
section
variable {X:Cx} {a b c:Expr} {ta tb tc:TE} {pos:Pos}
theorem binT (ha:PE X a ta) (hb:PE X b tb) {pins:List (Addr×Obj)} {s:t0} {σ:St} {H:Hp} {R:V->V->Hp->Prop} (I:Inv X pins σ H s)
  (h:ta σ H λ x H1=>tb σ H1 λ y H2=>R x y H2) {Q:Value->t0->Prop} {f:Value->Value->Sem Value}
  (hf :∀v u s2 x y H2,Inv X pins σ H2 s2->RelV x v->RelV y u->R x y H2->U0 (B1 X.prog X.w) X.A (f v u) Q X.xe s2) :
  U0 (B1 X.prog X.w) X.A (u3 a X.env) (λ v s₁=>U0 (B1 X.prog X.w) X.A (u3 b X.env) (λ u s₂=>U0 (B1 X.prog X.w) X.A (f v u) Q X.xe s₂) X.xe s₁) X.xe s:=by
 refine thn (ha pins s σ H _ I h) λ v c ⟨x,H1,I1,r1,q1⟩=>?_;refine thn (hb pins c σ H1 _ I1 q1) λ u s2 ⟨y,H2,I2,r2,q2⟩=>?_;exact hf v u s2 x y H2 I2 r1 r2 q2
theorem pe_op {op:Operator} {r:R2} (ho:OpR X (F4 op) r) (ha:PE X a ta) (hb:PE X b tb):PE X (.BinOp a op b pos) (tOp r ta tb):=by intro d s σ H Q I h;exact wpAny_BinOp (binT ha hb I h λ v u c x y e g f i q=>ho d c σ e x y v u Q g f i q)
theorem pe_un {op:UnaryOp} {r:V->Hp->VK->Prop} (ho:UnR X (unaryOp op) r) (ha:PE X a ta):PE X (.UnaryOp op a pos) (tUn r ta):=by intro b s σ H Q I h;exact UnaryOp_ (thn (ha b s σ H _ I h) λ v c ⟨x,H1,I1,r1,q1⟩=>ho b c σ H1 x v Q I1 r1 q1)
theorem opI {f:Value->Value->Sem Value} {C:Int->Int->Prop} {g:Int->Int->Int}
  (rule :∀(i j:Int) (t u:Tok) (s:t0) (Q:Value->t0->Prop) (E:Value->t0->Prop),C i j->Q (.int (g i j) s.toks) { s with toks:=s.toks + 1 }->U0 (B1 X.prog X.w) X.A (f (.int i t) (.int j u)) Q E s) :
  OpR X f (rI C λ i j=>.int (g i j)):=by
 intro e s σ H x y v u Q I b d h;obtain ⟨i,j,rfl,rfl,c,q⟩:=h;obtain ⟨t,rfl⟩:=b;obtain ⟨a,rfl⟩:=d;exact rule i j t a s _ _ c ⟨.int (g i j),H,I.tok _,⟨_,rfl⟩,q⟩
theorem opI0 {f:Value->Value->Sem Value} {g:Int->Int->Int}
  (rule :∀(i j:Int) (t u:Tok) (s:t0) (Q:Value->t0->Prop) (E:Value->t0->Prop),Q (.int (g i j) s.toks) { s with toks:=s.toks + 1 }->U0 (B1 X.prog X.w) X.A (f (.int i t) (.int j u)) Q E s) :
  OpR X f (rI0 λ i j=>.int (g i j)):=by
 intro d s σ H x y v u Q I b c h;obtain ⟨i,j,rfl,rfl,q⟩:=h;obtain ⟨t,rfl⟩:=b;obtain ⟨a,rfl⟩:=c;exact rule i j t a s _ _ ⟨.int (g i j),H,I.tok _,⟨_,rfl⟩,q⟩
theorem opB0 {f:Value->Value->Sem Value} {g:Int->Int->Bool}
  (rule :∀(i j:Int) (t u:Tok) (s:t0) (Q:Value->t0->Prop) (E:Value->t0->Prop),Q (.bool (g i j)) s->U0 (B1 X.prog X.w) X.A (f (.int i t) (.int j u)) Q E s) :
  OpR X f (rI0 λ i j=>.bl (g i j)):=by
 intro d s σ H x y v u Q I b c h;obtain ⟨i,j,rfl,rfl,q⟩:=h;obtain ⟨t,rfl⟩:=b;obtain ⟨a,rfl⟩:=c;exact rule i j t a s _ _ ⟨.bl (g i j),H,I,rfl,q⟩
def CPow (i j:Int):Prop:=0<=j/\j<=1000000/\i.natAbs < 2 ^ 64
def CMul (i j:Int):Prop:=(-(2 ^ 64) < i/\i < 2 ^ 64)\/(-(2 ^ 64) < j/\j < 2 ^ 64)
theorem CMul.ok {i j:Int} (h:CMul i j):IntMulOk i j:=by
 rcases h with ⟨a,b⟩|⟨a,b⟩
 ·exact .of_left (intBits_le_64 a b)
 ·exact .of_right (intBits_le_64 a b)
theorem op_add:OpR X (F4 .Add) (rI0 λ i j=>.int (i + j)):=opI0 λ _ _ _ _ _ _ _ q=>add_int q
theorem op_sub:OpR X (F4 .Sub) (rI0 λ i j=>.int (i - j)):=opI0 λ _ _ _ _ _ _ _ q=>sub_int q
theorem op_mul:OpR X (F4 .Mult) (rI CMul λ i j=>.int (i * j)):=opI λ _ _ _ _ _ _ _ a q=>mul_int q a.ok
theorem op_mod:OpR X (F4 .Mod) (rI (λ _ j=>0 < j) λ i j=>.int (i % j)):=opI λ i j _ _ _ _ _ a q=>by have b:(0:Int) < j:=a;exact mod_int' (by omega) (by rw [Int.fmod_eq_emod_of_nonneg i (by omega)];exact q)
theorem op_pow:OpR X (F4 .Pow) (rI CPow λ i j=>.int (i ^ j.toNat)):=opI λ _ _ _ _ _ _ _ a q=>pow_int_small a.1 a.2.1 a.2.2 q
theorem unI {f:Value->Sem Value} {g:Int->Int}
  (rule :∀(i:Int) (t:Tok) (s:t0) (Q:Value->t0->Prop) (E:Value->t0->Prop),Q (.int (g i) s.toks) { s with toks:=s.toks + 1 }->U0 (B1 X.prog X.w) X.A (f (.int i t)) Q E s) :
  UnR X f (rU λ i=>.int (g i)):=by
 intro b s σ H x v Q I a h;obtain ⟨i,rfl,q⟩:=h;obtain ⟨t,rfl⟩:=a;exact rule i t s _ _ ⟨.int (g i),H,I.tok _,⟨_,rfl⟩,q⟩
theorem un_neg:UnR X (unaryOp .USub) (rU λ i=>.int (-i)):=unI λ _ _ _ _ _ q=>neg_int q
end
noncomputable def scal:V->V->Bool
 | .non,.non=>true | .non,.int _=>true | .int _,.non=>true | .non,.bl _=>true | .bl _,.non=>true | .non,.str _=>true | .str _,.non=>true
 | .int _,.int _=>true | .bl _,.bl _=>true | .str _,.str _=>true | .byt _,.byt _=>true
 | .int _,.str _=>true | .str _,.int _=>true | .bl _,.str _=>true | .str _,.bl _=>true
 | _,_=>false
noncomputable def rEq:R2:=λ x y H Q=>scal x y=true/\Q (.bl (decide (x=y))) H
noncomputable def rNe:R2:=λ x y H Q=>scal x y=true/\Q (.bl (!decide (x=y))) H
theorem zjf {i j:Int}:decide (V.int i=V.int j)=(i == j):=by rw [Bool.eq_iff_iff];simp
theorem dec_bl {i j:Bool}:decide (V.bl i=V.bl j)=(i == j):=by rw [Bool.eq_iff_iff];simp
theorem zj6 {i j:Str}:decide (V.str i=V.str j)=(i == j):=by rw [Bool.eq_iff_iff];simp
theorem zjd {i j:Array UInt8}:decide (V.byt i=V.byt j)=(i.toList == j.toList):=by rw [Bool.eq_iff_iff];cases i;cases j;simp
section
variable {X:Cx} {a b c:Expr} {ta tb tc:TE} {pos:Pos}
theorem fin_bl {pins:List (Addr×Obj)} {σ:St} {H:Hp} {s:t0} {Q:VK} {k k':Bool} (I:Inv X pins σ H s) (q:Q (.bl k) H) (e:k=k'):EP X pins σ Q (.bool k') s:=by subst e;exact ⟨.bl k,H,I,rfl,q⟩
theorem op_eq:OpR X (B2 .Eq) rEq:=by
 intro e s σ H x y v u Q I d a h;obtain ⟨c,q⟩:=h;cases x with
 | non=>
  cases d;cases y with
  | non=>cases a;exact PySem.EqNone.eq_none_none (fin_bl I q (by simp))
  | bl j=>cases a;exact PySem.EqNone.eq_none_bool (fin_bl I q (by simp))
  | int j=>obtain ⟨b,rfl⟩:=a;exact PySem.EqNone.eq_none_int (fin_bl I q (by simp))
  | str j=>obtain ⟨b,rfl⟩:=a;exact PySem.EqNone.eq_none_str (fin_bl I q (by simp))
  | _=>exact absurd (show false=true from c) M0
 | bl i=>
  cases d;cases y with
  | non=>cases a;exact PySem.EqNone.eq_bool_none (fin_bl I q (by simp))
  | bl j=>cases a;exact eq_bool (fin_bl I q dec_bl)
  | str j=>obtain ⟨b,rfl⟩:=a;exact PySem.EqMixed.eq_bool_str (fin_bl I q (by simp))
  | _=>exact absurd (show false=true from c) M0
 | int i=>
  obtain ⟨t,rfl⟩:=d;cases y with
  | non=>cases a;exact PySem.EqNone.eq_int_none (fin_bl I q (by simp))
  | int j=>obtain ⟨b,rfl⟩:=a;exact eq_int (fin_bl I q zjf)
  | str j=>obtain ⟨b,rfl⟩:=a;exact PySem.EqMixed.eq_int_str (fin_bl I q (by simp))
  | _=>exact absurd (show false=true from c) M0
 | str i=>
  obtain ⟨t,rfl⟩:=d;cases y with
  | non=>cases a;exact PySem.EqNone.eq_str_none (fin_bl I q (by simp))
  | bl j=>cases a;exact PySem.EqMixed.eq_str_bool (fin_bl I q (by simp))
  | int j=>obtain ⟨b,rfl⟩:=a;exact PySem.EqMixed.eq_str_int (fin_bl I q (by simp))
  | str j=>obtain ⟨b,rfl⟩:=a;exact eq_str (fin_bl I q zj6)
  | _=>exact absurd (show false=true from c) M0
 | byt i=>
  obtain ⟨t,rfl⟩:=d;cases y with
  | byt j=>obtain ⟨b,rfl⟩:=a;exact PySem.W.eq_bytes (fin_bl I q zjd)
  | _=>exact absurd (show false=true from c) M0
 | _=>cases y<;>exact absurd (show false=true from c) M0
theorem op_ne:OpR X (B2 .NotEq) rNe:=by
 intro e s σ H x y v u Q I d a h;obtain ⟨c,q⟩:=h;cases x with
 | non=>
  cases d;cases y with
  | non=>cases a;exact PySem.EqNone.ne_none_none (fin_bl I q (by simp))
  | bl j=>cases a;exact PySem.EqNone.ne_none_bool (fin_bl I q (by simp))
  | int j=>obtain ⟨b,rfl⟩:=a;exact PySem.EqNone.ne_none_int (fin_bl I q (by simp))
  | str j=>obtain ⟨b,rfl⟩:=a;exact PySem.EqNone.ne_none_str (fin_bl I q (by simp))
  | _=>exact absurd (show false=true from c) M0
 | bl i=>
  cases d;cases y with
  | non=>cases a;exact PySem.EqNone.ne_bool_none (fin_bl I q (by simp))
  | bl j=>cases a;exact ne_bool (fin_bl I q (congrArg not dec_bl))
  | str j=>obtain ⟨b,rfl⟩:=a;exact PySem.EqMixed.ne_bool_str (fin_bl I q (by simp))
  | _=>exact absurd (show false=true from c) M0
 | int i=>
  obtain ⟨t,rfl⟩:=d;cases y with
  | non=>cases a;exact PySem.EqNone.ne_int_none (fin_bl I q (by simp))
  | int j=>obtain ⟨b,rfl⟩:=a;exact ne_int (fin_bl I q (congrArg not zjf))
  | str j=>obtain ⟨b,rfl⟩:=a;exact PySem.EqMixed.ne_int_str (fin_bl I q (by simp))
  | _=>exact absurd (show false=true from c) M0
 | str i=>
  obtain ⟨t,rfl⟩:=d;cases y with
  | non=>cases a;exact PySem.EqNone.ne_str_none (fin_bl I q (by simp))
  | bl j=>cases a;exact PySem.EqMixed.ne_str_bool (fin_bl I q (by simp))
  | int j=>obtain ⟨b,rfl⟩:=a;exact PySem.EqMixed.ne_str_int (fin_bl I q (by simp))
  | str j=>obtain ⟨b,rfl⟩:=a;exact ne_str (fin_bl I q (congrArg not zj6))
  | _=>exact absurd (show false=true from c) M0
 | byt i=>
  obtain ⟨t,rfl⟩:=d;cases y with
  | byt j=>obtain ⟨b,rfl⟩:=a;exact PySem.W.ne_bytes (fin_bl I q (congrArg not zjd))
  | _=>exact absurd (show false=true from c) M0
 | _=>cases y<;>exact absurd (show false=true from c) M0
theorem op_lt:OpR X (B2 .Lt) (rI0 λ i j=>.bl (decide (i < j))):=opB0 λ _ _ _ _ _ _ _ q=>lt_int q
theorem op_le:OpR X (B2 .LtE) (rI0 λ i j=>.bl (decide (i<=j))):=opB0 λ _ _ _ _ _ _ _ q=>le_int q
theorem op_gt:OpR X (B2 .Gt) (rI0 λ i j=>.bl (decide (j < i))):=opB0 λ _ _ _ _ _ _ _ q=>gt_int q
theorem op_ge:OpR X (B2 .GtE) (rI0 λ i j=>.bl (decide (j<=i))):=opB0 λ _ _ _ _ _ _ _ q=>ge_int q
theorem op_isN:OpR X (B2 .Is) (λ x y H Q=>y=.non/\Q (.bl (decide (x=.non))) H):=by
 intro c s σ H x y v u Q I a b h;obtain ⟨rfl,q⟩:=h;cases b;refine is_none_gen (fin_bl I q ?_);cases x<;>first
  | (cases a;rfl)
  | (obtain ⟨t,rfl⟩:=a;rfl)
theorem z3v:OpR X (B2 .IsNot) (λ x y H Q=>y=.non/\Q (.bl (!decide (x=.non))) H):=by
 intro c s σ H x y v u Q I a b h;obtain ⟨rfl,q⟩:=h;cases b;refine isnot_none_gen (fin_bl I q ?_);cases x<;>first
  | (cases a;rfl)
  | (obtain ⟨t,rfl⟩:=a;rfl)
theorem OpR.or {f:Value->Value->Sem Value} {r r':R2} (h:OpR X f r) (h':OpR X f r'):OpR X f (λ x y H Q=>r x y H Q\/r' x y H Q):=by
 intro a s σ H x y v u Q I b c q;rcases q with q|q
 ·exact h a s σ H x y v u Q I b c q
 ·exact h' a s σ H x y v u Q I b c q
theorem nomark (b:Expr) {op:CmpOp} (h:op≠.In:=by decide) (h2:op≠.NotIn:=by decide):c8 op b=false:=by
 have a:(op == CmpOp.In)=false:=by cases op<;>first|rfl|exact absurd rfl h
 have c:(op == CmpOp.NotIn)=false:=by cases op<;>first|rfl|exact absurd rfl h2
 cases b<;>simp [c8,a,c]
theorem z0v {op:CmpOp} {r:R2} (ho:OpR X (B2 op) r) (ha:PE X a ta) (hb:PE X b tb) (hm:c8 op b=false):PE X (.Compare a [op] [b] pos) (tOp r ta tb):=by intro d s σ H Q I h;exact wpAny_Compare1 (binT ha hb I h λ v u c x y e g f i q=>ho d c σ e x y v u Q g f i q) hm
noncomputable def tTest (t:TE):TT:=λ σ H Q=>t σ H λ x H'=>∃k,x=.bl k/\Q k H'
theorem z07 {op:CmpOp} {r:R2} (ho:OpR X (B2 op) r) (ha:PE X a ta) (hb:PE X b tb) (hm:c8 op b=false):PT X (.Compare a [op] [b] pos) (tTest (tOp r ta tb)):=by
 intro d s σ H Q I h;refine wpAny_isTrue_Compare1 (thn (ha d s σ H _ I h) λ v g ⟨x,H1,I1,r1,q1⟩=>thn (hb d g σ H1 _ I1 q1) λ u f ⟨y,H2,I2,r2,q2⟩=>thn (ho d f σ H2 x y v u _ I2 r1 r2 q2) λ c i ⟨z,H3,I3,r3,k,e,q3⟩=>?_) hm;subst e;cases r3;exact C3 ⟨H3,I3,q3⟩
noncomputable def tChain (r r':R2) (ta tb tc:TE):TE:=λ σ H Q=>ta σ H λ x H1=>tb σ H1 λ y H2=>r x y H2 λ z H3=>∃k,z=.bl k/\
 (if k=true then tc σ H3 λ w' H4=>r' y w' H4 Q else Q (.bl false) H3)
theorem zkd {op op':CmpOp} {r r':R2} (ho:OpR X (B2 op) r) (ho':OpR X (B2 op') r') (ha:PE X a ta) (hb:PE X b tb) (hc:PE X c tc)
  (hm:lastMarks [op,op'] [b,c]=false:=by with_unfolding_all rfl):PE X (.Compare a [op,op'] [b,c] pos) (tChain r r' ta tb tc):=by
 intro f s σ H Q I h;refine Compare_chain (thn (ha f s σ H _ I h) λ v i ⟨x,H1,I1,r1,q1⟩=>chain_link (thn (hb f i σ H1 _ I1 q1) λ u g ⟨y,H2,I2,r2,q2⟩=>thn (ho f g σ H2 x y v u _ I2 r1 r2 q2) λ d m ⟨z,H3,I3,r3,k,e,q3⟩=>?_)) hm;subst e;cases r3;refine C3 ?_;cases k with
 | false=>exact ite_ff ⟨.bl false,H3,I3,rfl,q3⟩
 | true=>exact ite_tt (chain_last (thn (hc f m σ H3 _ I3 q3) λ l j ⟨z',H4,I4,r4,q4⟩=>ho' f j σ H4 y z' u l Q I4 r2 r4 q4))
theorem zkp {op op':CmpOp} {r r':R2} (ho:OpR X (B2 op) r) (ho':OpR X (B2 op') r') (ha:PE X a ta) (hb:PE X b tb) (hc:PE X c tc)
  (hm:lastMarks [op,op'] [b,c]=false:=by with_unfolding_all rfl):PT X (.Compare a [op,op'] [b,c] pos) (tTest (tChain r r' ta tb tc)):=by
 intro f s σ H Q I h;refine isTrue_chain (thn (ha f s σ H _ I h) λ v n ⟨x,H1,I1,r1,q1⟩=>test_link (thn (hb f n σ H1 _ I1 q1) λ u l ⟨y,H2,I2,r2,q2⟩=>thn (ho f l σ H2 x y v u _ I2 r1 r2 q2) λ d i ⟨z,H3,I3,r3,k,e,q3⟩=>?_)) hm;subst e;cases r3;refine C3 ?_;cases k with
 | false=>obtain ⟨p,j,m⟩:=q3;cases j;exact ite_ff ⟨H3,I3,m⟩
 | true=>refine ite_tt (test_last (thn (hc f i σ H3 _ I3 q3) λ o g ⟨z',H4,I4,r4,q4⟩=>thn (ho' f g σ H4 y z' u o _ I4 r2 r4 q4) λ t q ⟨z2,H5,I5,r5,k2,e2,q5⟩=>?_));subst e2;cases r5;exact C3 ⟨H5,I5,q5⟩
theorem line63:(sizeLine:Nat) < 2 ^ 63:=by rw [sizeLine_eq];decide
theorem op_add_str:OpR X (F4 .Add) (λ x y H Q=>∃i j,x=.str i/\y=.str j/\i.length + j.length<=sizeLine/\Q (.str (i++j)) H):=by intro e s σ H x y v u Q I b c h;obtain ⟨i,j,rfl,rfl,d,q⟩:=h;obtain ⟨t,rfl⟩:=b;obtain ⟨a,rfl⟩:=c;exact add_str (λ a f=>⟨.str (i++j),H,I.tok _,⟨_,rfl⟩,q⟩) d
theorem vals1 {x:V} {us:List Value} (r:Vals [x] us) :∃u,us=[u]/\RelV x u:=by
 cases r with
 | cons r1 r2=>cases r2;exact ⟨_,rfl,r1⟩
theorem vals2 {x y:V} {us:List Value} (r:Vals [x,y] us) :∃u w',us=[u,w']/\RelV x u/\RelV y w':=by
 cases r with
 | cons r1 r2=>
  cases r2 with
  | cons r3 r4=>cases r4;exact ⟨_,_,rfl,r1,r3⟩
theorem zhm (hc:X.calm=true):CallR X (.builtin "max") (λ xs H Q=>∃i j,xs=[.int i,.int j]/\Q (.int (if j > i then j else i)) H):=by
 intro b s σ H xs d Q I r h;obtain ⟨i,j,rfl,q⟩:=h;obtain ⟨u,e,rfl,⟨t,rfl⟩,⟨a,rfl⟩⟩:=vals2 r;refine max_two_ints (I.ok.hd hc) λ f c k=>⟨_,H,I.kept k,?_,q⟩
 by_cases hj:j > i
 ·rw [if_pos hj,if_pos hj];exact ⟨_,rfl⟩
 ·rw [if_neg hj,if_neg hj];exact ⟨_,rfl⟩
theorem zha (hc:X.calm=true):CallR X (.builtin "min") (λ xs H Q=>∃i j,xs=[.int i,.int j]/\Q (.int (if j < i then j else i)) H):=by
 intro b s σ H xs d Q I r h;obtain ⟨i,j,rfl,q⟩:=h;obtain ⟨u,e,rfl,⟨t,rfl⟩,⟨a,rfl⟩⟩:=vals2 r;refine min_two_ints (I.ok.hd hc) λ f c k=>⟨_,H,I.kept k,?_,q⟩
 by_cases hj:j < i
 ·rw [if_pos hj,if_pos hj];exact ⟨_,rfl⟩
 ·rw [if_neg hj,if_neg hj];exact ⟨_,rfl⟩
theorem call_int1:CallR X (.type "int") (λ xs H Q=>(∃i,xs=[.int i]/\Q (.int i) H)\/∃k,xs=[.bl k]/\Q (.int (if k then 1 else 0)) H):=by
 intro b s σ H xs c Q I r h;rcases h with ⟨i,rfl,q⟩|⟨k,rfl,q⟩
 ·obtain ⟨u,rfl,t,rfl⟩:=vals1 r;exact call_int_int ⟨.int i,H,I,⟨_,rfl⟩,q⟩
 ·obtain ⟨u,rfl,a⟩:=vals1 r;cases a;exact call_int_bool ⟨.int (if k then 1 else 0),H,I.tok _,⟨_,rfl⟩,q⟩
end
structure ObjM (h:Heap) (x dx C:Addr) (mA:Str->Option Value):Prop where
 obj:h.get? x=some (U3 C dx)
 ns:h.Ns1 dx mA
 ne:dx≠x
theorem zic {h:Heap} {dx:Addr} {mA:Str->Option Value} (n:h.Ns1 dx mA) :∃od,h.get? dx=some od/\∀name,i8 name od=some (mA name):=by
 obtain ⟨o,b,l,g,i,k,_,c⟩:=n;refine ⟨o,g,λ name=>?_⟩;have e:=c name;unfold nsFind findBy at e;rw [<-Array.find?_toList] at e;unfold i8;rw [i];dsimp only;split
 ·rename_i y q;rw [q] at e;exact congrArg some e
 ·rename_i q;rw [q] at e;have a:b.toList.any (·.refKey)=false:=by rw [List.any_eq_false];intro y f;obtain ⟨z,t,j⟩:=k y (Array.mem_toList_iff.mp f);simp [DictEntry.refKey,j]
  have d:¬ b.toList.any (·.refKey)=true:=by rw [a];exact M0
  rw [if_neg d];exact congrArg some e
theorem ObjM.look {h:Heap} {x dx C:Addr} {mA:Str->Option Value} (I:ObjM h x dx C mA) :∃od,PySem.W.InstAt h x (U3 C dx) C (some od)/\∀name,i8 name od=some (mA name):=
 let ⟨od,ho,hl⟩:=zic I.ns
 ⟨od,⟨I.obj,rfl,rfl,ho⟩,hl⟩
section
variable {prog:Program} {w:S0} {A:X1} {E:Value->t0->Prop} {s:t0} {K:b0} {x dx C f:Addr} {mA:Str->Option Value} {name:Str} {v:Value}
theorem zl7 {expr:Bool} {Q:Value->t0->Prop} (X:K.In s.heap) (I:ObjM s.heap x dx C mA) (hg:g7 K C name=true) (hh:c9 K C=true)
  (ha:m3 K (.ref C) name=some none) (hv:mA name=some v) (hv':PySem.W.handedIn v=true) (h:Q v { s with toks:=s.toks + 1 }) :
  U0 (B1 prog w) A (getAttr (.ref x) name expr) Q E s:=by
 obtain ⟨b,J,a⟩:=I.look;exact PySem.W.get_value X J (F8 hg).1 (PySem.W.findObj_own hh ha rfl (by rw [a,hv])) hv' h
theorem zjv {pl:Sem Bool} {Q:Value×List Value->t0->Prop} (X:K.In s.heap) (I:ObjM s.heap x dx C mA) (hg:g7 K C name=true)
  (hf:m3 K (.ref C) name=some (some (.ref f))) (ht:j15 K (.ref f)=true) (hv:mA name=none) (h:Q (.ref f,[.ref x]) s) :
  U0 (B1 prog w) A (getMethod (.ref x) name pl) Q E s:=by
 obtain ⟨b,J,a⟩:=I.look;exact PySem.W.method_fn X J (F8 hg).1 (F8 hg).2 hf (beq_iff_eq.mp ht) (by show (i8 name b).map (·.isSome)=some false;rw [a,hv];rfl) h
theorem zlj {ns:List Str} {Q:Unit->t0->Prop} (X:K.In s.heap) (I:ObjM s.heap x dx C mA)
  (hs:m3 K (.ref C) "__setattr__" = some (some (.builtin "object.__setattr__"))) (hp:j39 K C=true) (ht:V9 K C name=some none) (hh:c9 K C=true)
  (hw:j26 mA ns) (hsz:ns.length<=sizeLine)
  (h :∀h',ObjM h' x dx C (λ y=>if y=name then some v else mA y)->L5 dx s.heap h'->Q () { s with heap:=h',toks:=s.toks + 2 }) :
  U0 (B1 prog w) A (setAttr (.ref x) name v) Q E s:=by
 obtain ⟨m,J,l⟩:=I.look;refine PySem.W.set_plain X J hs (PySem.W.osa_open (s:={ s with toks:=s.toks + 1 }) (r:=none) X J hp ht λ b=>?_);obtain ⟨n,i,e⟩:=PySem.W.any_some hh;have j:s.heap.get? x=some ⟨.ref C,some dx,.plain,#[]⟩:=I.obj;refine d0 (G0 (d0 (d0 (wpAny_loadPart j (d0 (PySem.W.Looks.here (s:={ s with toks:=s.toks + 1 }) (PySem.W.looks_clsIn X i) ?_))))));rw [e];refine G0 (a:=some dx) (d0 (G0 (d0 ?_)));refine wpAny_nsSet1 (s:={ s with toks:=s.toks + 1 }) I.ns λ h' c d=>?_;obtain ⟨q,o,p,f,k,g⟩:=c.count (PySem.Within.cons name v hw);refine d0 (wpAny_lookBehind f (by rw [k];exact pastItsLine_dict (C0 g (by rw [P0];omega))) ?_);exact G0 (h _ ⟨(d.2 _ (V3 I.ne)).trans I.obj,c,I.ne⟩ d)
theorem zjy {R:Result->t0->Prop} {vs:List Value} {kw:List (Str×Value)} (X:K.In s.heap) (hm:PySem.W.makesIn K C=true)
  (hi:m3 K (.ref C) "__init__" = some (some (.ref f))) (hf:PySem.W.typeIn K (.ref f)=some (.type "function"))
  (h:N9 (B1 prog w) (A.under (.builtin "type.__call__" ⟨.ref C :: vs,kw⟩)) (.call (.ref f) ⟨.ref (s.heap.objs.size + 1) :: vs,kw⟩) (PySem.W.InitBack (s.heap.objs.size + 1) R)
   { s with heap:=(s.heap.push PySem.W.emptyDict).push (U3 C s.heap.objs.size) }) :
  N9 (B1 prog w) A (.call (.ref C) ⟨vs,kw⟩) R s:=by
 obtain ⟨c,g,d,t,b⟩:=s;exact PySem.W.make_core (PySem.W.makes_of X hm) (PySem.W.looks_findIn X hi) (λ a=>PySem.W.bind_fn X a hf) (.inl rfl) h
end
noncomputable def putF (f:Str) (v:V):List (Str×V)->List (Str×V)
 | []=>[(f,v)]
 | (g,x) :: r=>if g=f then (g,v) :: r else (g,x) :: putF f v r
theorem z3l (f g:Str) (v:V) :∀fs:List (Str×V),(putF f v fs).lookup g=if g=f then some v else fs.lookup g
 | []=>by
  show j6 g [(f,v)]=_;by_cases h:g=f
  ·have a:(g == f)=true:=beq_iff_eq.mpr h;simp only [j6,a,if_pos h]
  ·have a:(g == f)=false:=beq_eq_false_iff_ne.mpr h;simp only [j6,a,if_neg h]
 | (k,x) :: r=>by
  have b:=z3l f g v r;rw [show putF f v ((k,x) :: r)=(if k=f then (k,v) :: r else (k,x) :: putF f v r) from rfl];by_cases hk:k=f
  ·rw [if_pos hk];by_cases h:g=k
   ·have a:(g == k)=true:=beq_iff_eq.mpr h;simp only [j6,a,if_pos (h.trans hk)]
   ·have a:(g == k)=false:=beq_eq_false_iff_ne.mpr h;simp only [j6,a,if_neg (λ e:g=f=>h (e.trans hk.symm))]
  ·rw [if_neg hk];by_cases h:g=k
   ·have a:(g == k)=true:=beq_iff_eq.mpr h;simp only [j6,a,if_neg (λ e:g=f=>hk (h.symm.trans e))]
   ·have a:(g == k)=false:=beq_eq_false_iff_ne.mpr h;simp only [j6,a];exact b
theorem z88 (f:Str) (v:V) :∀fs:List (Str×V),f∈(putF f v fs).map (·.1)/\∀g,g∈fs.map (·.1)->g∈(putF f v fs).map (·.1)
 | []=>⟨by simp [putF],λ g h=>by simp at h⟩
 | (k,x) :: r=>by
  obtain ⟨a,b⟩:=z88 f v r;rw [show putF f v ((k,x) :: r)=(if k=f then (k,v) :: r else (k,x) :: putF f v r) from rfl];by_cases hk:k=f
  ·rw [if_pos hk];subst hk;exact ⟨by simp,λ g h=>by simpa using h⟩
  ·rw [if_neg hk];refine ⟨?_,λ g h=>?_⟩
   ·rw [j1];exact W0 _ a
   ·rw [j1] at h⊢;rcases List.mem_cons.mp h with e|e
    ·exact List.mem_cons.mpr (.inl e)
    ·exact W0 _ (b g e)
theorem z7z (f:Str) (v:V) :∀fs:List (Str×V),(putF f v fs).length<=fs.length + 1
 | []=>by simp [putF]
 | (k,x) :: r=>by
  have a:=z7z f v r;rw [show putF f v ((k,x) :: r)=(if k=f then (k,v) :: r else (k,x) :: putF f v r) from rfl];by_cases hk:k=f
  ·rw [if_pos hk,P0,P0];omega
  ·rw [if_neg hk,P0,P0];omega
theorem RelO.some_of {v:V} {o:Option Value} (r:RelO (some v) o) :∃u,o=some u/\RelV v u:=by
 cases o with
 | none=>exact (show False from r).elim
 | some u=>exact ⟨u,rfl,r⟩
theorem RelO.none_of {o:Option Value} (r:RelO none o):o=none:=by
 cases o with
 | none=>rfl
 | some u=>exact (show False from r).elim
theorem zh6 {v:V} {u:Value} (r:RelV v u):PySem.W.handedIn u=true:=by
 cases v with
 | non=>cases (show u=P2 from r);rfl
 | bl b=>cases (show u=C4 b from r);rfl
 | int i=>obtain ⟨t,e⟩:=(show∃t,u=F7 i t from r);cases e;rfl
 | str x=>obtain ⟨t,e⟩:=(show∃t,u=T5 x t from r);cases e;rfl
 | byt b=>obtain ⟨t,e⟩:=(show∃t,u=Value.bytes b t from r);cases e;rfl
 | flt b=>obtain ⟨t,e⟩:=(show∃t,u=j33 b t from r);cases e;rfl
 | ref a=>cases (show u=A1 a from r);rfl
 | ty n=>cases (show u=M6 n from r);rfl
section
variable {P:Program} {w:S0} {H H':Hp} {h h':Heap} {a C dx:Addr} {fs fs':List (Str×V)}
theorem zck (hok:HOk P w H h) (e:H a=some (.ins C dx fs)) :∃mA,ObjM h a dx C mA/\(∀f,RelO (fs.lookup f) (mA f))/\j26 mA (fs.map (·.1))/\fs.length<=1000/\H dx=some (.own a):=by
 obtain ⟨d,z,ne,b,mA,n,r,q⟩:=(show ObjOk P w H h a (.ins C dx fs) from hok a _ e)
 exact ⟨mA,⟨b,n,ne⟩,r,q,z,d⟩
end
structure Cls (K:b0) (C:Addr):Prop where
 pg:g7 K C Str.empty=true
 hd:c9 K C=true
 po:j39 K C=true
 sa:m3 K (.ref C) "__setattr__" = some (some (.builtin "object.__setattr__"))
theorem Cls.get {K:b0} {C:Addr} (c:Cls K C) (f:Str):g7 K C f=true:=c.pg
def NoAttr (K:b0) (C:Addr) (f:Str):Prop:=m3 K (.ref C) f=some none
theorem NoAttr.taker {K:b0} {C:Addr} {f:Str} (n:NoAttr K C f):V9 K C f=some none:=by unfold V9;rw [show m3 K (.ref C) f=some none from n];rfl
structure Con (K:b0) (C:Addr) (f:Str) (v:V) (u:Value):Prop where
 at_:m3 K (.ref C) f=some (some u)
 rel:RelV v u
 get:j38 K u "__get__" = some none
 cp:PySem.W.copiedNames.contains f=false
structure Meth (K:b0) (C:Addr) (m:Str) (f:Addr):Prop where
 at_:m3 K (.ref C) m=some (some (.ref f))
 fn:j15 K (.ref f)=true
 kp:j3 K (.ref f)=true
section
variable {X:Cx} {pins:List (Addr×Obj)} {σ:St} {H:Hp} {s:t0} {a C dx:Addr} {fs:List (Str×V)} {f:Str} {v:V} {A:X1} {E:Value->t0->Prop}
theorem ze9 {b:Bool} {Q:Value->t0->Prop} (I:Inv X pins σ H s) (e:H a=some (.ins C dx fs)) (c:Cls X.K C) (n:NoAttr X.K C f) (l:fs.lookup f=some v)
  (h :∀u s',Inv X pins σ H s'->RelV v u->Q u s'):U0 (B1 X.prog X.w) A (getAttr (.ref a) f b) Q E s:=by
 obtain ⟨g,O,r,_,_,_⟩:=zck I.hok e;obtain ⟨u,i,d⟩:=RelO.some_of (v:=v) (o:=g f) (by rw [<-l];exact r f);exact zl7 I.kIn O (c.get f) c.hd n i (zh6 d) (h u _ (I.tok _) d)
theorem zgc {m:Str} {g:Addr} {pl:Sem Bool} {Q:Value×List Value->t0->Prop} (I:Inv X pins σ H s) (e:H a=some (.ins C dx fs)) (c:Cls X.K C) (k:Meth X.K C m g) (l:fs.lookup m=none)
  (h:Q (.ref g,[.ref a]) s):U0 (B1 X.prog X.w) A (getMethod (.ref a) m pl) Q E s:=by
 obtain ⟨b,O,r,_,_,_⟩:=zck I.hok e;have d:b m=none:=RelO.none_of (by rw [<-l];exact r m);exact zjv I.kIn O (c.get m) k.at_ k.fn d h
theorem zf7 {y:V} {u:Value} {Q:Unit->t0->Prop} (I:Inv X pins σ H s) (e:H a=some (.ins C dx fs)) (c:Cls X.K C) (n:NoAttr X.K C f) (hl:fs.length < 1000) (ry:RelV y u)
  (h :∀s',Inv X pins σ (upd H a (.ins C dx (putF f y fs))) s'->Q () s'):U0 (B1 X.prog X.w) A (setAttr (.ref a) f u) Q E s:=by
 obtain ⟨i,O,r,k,_,j⟩:=zck I.hok e;have t:(fs.map (·.1)).length<=sizeLine:=by rw [F0,sizeLine_eq];omega
 refine zlj I.kIn O c.sa c.po n.taker c.hd k t λ v d l=>h _ ?_;have p :∃o,v.get? dx=some o:=let ⟨o,_,_,e',_⟩:=d.ns;⟨o,e'⟩;refine I.write (x:=a) (e:=dx) (by rw [e];exact True.intro) (.inr j) (λ b q m z=>(l.2 b m).trans z) p ?_;refine ⟨by rw [upd_ne O.ne];exact j,?_,O.ne,d.obj,_,d.ns,λ g=>?_,λ g B=>?_⟩
 ·have:=z7z f y fs;omega
 ·show RelO ((putF f y fs).lookup g) (if g=f then some u else i g);rw [z3l];by_cases q:g=f
  ·rw [if_pos q,if_pos q];exact ry
  ·rw [if_neg q,if_neg q];exact r g
 ·by_cases q:g=f
  ·rw [q];exact (z88 f y fs).1
  ·refine (z88 f y fs).2 g (k g λ z=>B ?_);show (if g=f then some u else i g)=none;rw [if_neg q];exact z
theorem Inv.made (I:Inv X pins σ H s):Inv X pins σ (upd (upd H s.heap.objs.size (.own (s.heap.objs.size + 1))) (s.heap.objs.size + 1) (.ins C s.heap.objs.size []))
  { s with heap:=(s.heap.push PySem.W.emptyDict).push (U3 C s.heap.objs.size) }:=by
 have c:(s.heap.push PySem.W.emptyDict).get? s.heap.objs.size=some PySem.W.emptyDict:=Z0 s.heap rfl;have i:((s.heap.push PySem.W.emptyDict).push (U3 C s.heap.objs.size)).get? (s.heap.objs.size + 1)=some (U3 C s.heap.objs.size):=by
  have:=Z0 (s.heap.push PySem.W.emptyDict) (o:=U3 C s.heap.objs.size) rfl
  rwa [P3] at this
 have g:(s.heap.push PySem.W.emptyDict).Ns s.heap.objs.size (λ _=>none):=⟨PySem.W.emptyDict,#[],_,c,rfl,(λ e h=>absurd h (by simp)),λ _=>rfl⟩
 have d:=I.laid (a:=s.heap.objs.size) (o:=.own (s.heap.objs.size + 1)) (h':=s.heap.push PySem.W.emptyDict) (t':=s.toks) (λ b u q=>D0 _ q) (u0 _) ⟨_,c⟩;refine d.laid (a:=s.heap.objs.size + 1) (o:=.ins C s.heap.objs.size []) (t':=s.toks) (λ b u q=>D0 _ q) (P5 (P3 _ _)) ?_;have ne:s.heap.objs.size≠s.heap.objs.size + 1:=E1 (F2 _);refine ⟨by rw [upd_ne ne,upd_same],S1 _,ne,i,λ _=>none,(Heap.Ns1.of_empty g).at λ o q=>D0 _ q,λ _=>True.intro,λ y f=>absurd rfl f⟩
theorem zlc {prog:Program} {w:S0} {env:Env} {e:Expr} {f:Str} {pos:Pos} {s:t0} {Q:Value->t0->Prop} (hb:T3 e f env (u3 e env)=u3 e env)
  (h:U0 (B1 prog w) A (u3 e env) (λ o s₁=>U0 (B1 prog w) A (getAttr o f true) Q E s₁) E s):U0 (B1 prog w) A (u3 (.Attribute e f pos) env) Q E s:=
 Attribute_any_ h (by rw [arm_eval_Attribute,hb])
end
noncomputable def tFld (K:b0) (ta:TE) (f:Str):TE:=λ σ H Q=>ta σ H λ x H1=>∃a C dx fs v,x=.ref a/\H1 a=some (.ins C dx fs)/\Cls K C/\NoAttr K C f/\fs.lookup f=some v/\Q v H1
noncomputable def sFld (K:b0) (ta tv:TE) (f:Str):TS:=λ D σ H=>tv σ H λ y H1=>ta σ H1 λ x H2=>∃a C dx fs,x=.ref a/\H2 a=some (.ins C dx fs)/\Cls K C/\NoAttr K C f/\fs.length < 1000/\
 D.nx σ (upd H2 a (.ins C dx (putF f y fs)))
section
variable {X:Cx} {o e value:Expr} {f:Str} {pos pos' tpos:Pos} {ta tv:TE}
theorem pe_fld (he:PE X e ta) (hb:T3 e f X.env (u3 e X.env)=u3 e X.env):PE X (.Attribute e f pos) (tFld X.K ta f):=by intro b s σ H Q I h;refine zlc hb (thn (he b s σ H _ I h) λ u j ⟨x,H1,I1,rx,a,C,dx,fs,v,ex,ea,c,n,l,q⟩=>?_);subst ex;obtain rfl:u=A1 a:=rx;exact ze9 I1 ea c n l λ k i g d=>⟨v,H1,g,d,q⟩
theorem ps_fld (ha:PE X o ta) (hv:PE X value tv) (hs:y6 value (some (.Attribute o f pos')) pos.line X.env=Y2 false):PS X (.Assign [.Attribute o f pos'] value pos) (sFld X.K ta tv f):=by intro b s σ H D I h;refine plainObj_wpAny_Assign_Attribute (thn (hv b s σ H _ I h) λ u d ⟨y,H1,I1,ry,q⟩=>thn (ha b d σ H1 _ I1 q) λ g i ⟨x,H2,I2,rx,a,C,dx,fs,ex,ea,c,n,l,q2⟩=>?_) hs;subst ex;obtain rfl:g=A1 a:=rx;exact zf7 I2 ea c n l ry λ j e=>⟨σ,_,e,q2⟩
end
section
variable {X:Cx} {pins:List (Addr×Obj)} {σ:St} {H:Hp} {s:t0} {A:X1} {E:Value->t0->Prop} {Q:Value->t0->Prop} {c:Value} {b:Bool}
inductive TyOf (K:b0) (H:Hp):V->Value->Prop where
 | non:TyOf K H .non (.type "NoneType")
 | bl (x:Bool):TyOf K H (.bl x) (.type "bool")
 | int (i:Int):TyOf K H (.int i) (.type "int")
 | str (x:Str):TyOf K H (.str x) (.type "str")
 | flt (x:UInt64):TyOf K H (.flt x) (.type "float")
 | lst {a:Addr} {xs:List V} (e:H a=some (.lst xs)):TyOf K H (.ref a) (.type "list")
 | frz {a:Addr} {o:Obj} {xs:List V} (e:H a=some (.frz o (.lst xs))):TyOf K H (.ref a) (.type "list")
 | tup {a:Addr} {xs:List V} (e:H a=some (.tup xs)):TyOf K H (.ref a) (.type "tuple")
 | dK {a:Addr} {kvs:List (Key×V)} (e:H a=some (.dK kvs)):TyOf K H (.ref a) (.type "dict")
 | dT {a:Addr} {kvs:List (List Key×V)} (e:H a=some (.dT kvs)):TyOf K H (.ref a) (.type "dict")
 | ins {a C dx:Addr} {fs:List (Str×V)} (e:H a=some (.ins C dx fs)) (cl:Cls K C) (ha:m3 K (.ref C) "__class__" = some (some (.builtin "object.__class__")))
   (hn:j38 K (.builtin "object.__class__") "__get__" = some (some (.builtin "getset_descriptor.__get__"))) (htk:PySem.W.takesIn K (.builtin "object.__class__")=some true)
   (hm:PySem.W.mroIn K C (.type "object")=some true):TyOf K H (.ref a) (.ref C)
theorem zgs {x:V} {u t:Value} (I:Inv X pins σ H s) (rx:RelV x u) (ty:TyOf X.K H x t) (e:PySem.W.kitOne X.K t c=some b) (h :∀tk,Q (.bool b) { s with toks:=tk }) :
  U0 (B1 X.prog X.w) A (call (.builtin "isinstance") [u,c]) Q E s:=by
 cases ty with
 | non=>cases (show u=P2 from rx);exact T2 PySem.W.kitx_none I.kIn True.intro e (λ z=>nomatch z) h
 | bl y=>cases (show u=C4 y from rx);exact T2 PySem.W.kitx_bool I.kIn True.intro e (λ z=>nomatch z) h
 | int i=>obtain ⟨t,q⟩:=(show∃t,u=F7 i t from rx);cases q;exact T2 PySem.W.kitx_int I.kIn True.intro e (λ z=>nomatch z) h
 | str y=>obtain ⟨t,q⟩:=(show∃t,u=T5 y t from rx);cases q;exact T2 PySem.W.kitx_str I.kIn True.intro e (λ z=>nomatch z) h
 | flt y=>obtain ⟨t,q⟩:=(show∃t,u=j33 y t from rx);cases q;exact T2 PySem.W.kitx_float I.kIn True.intro e (λ z=>nomatch z) h
 | @lst a f ea=>
  cases (show u=A1 a from rx);obtain ⟨_,_,n,_,d⟩:=(show ObjOk X.prog X.w H s.heap a (.lst f) from I.hok a _ ea)
  exact T2 j3a I.kIn ⟨_,d,rfl⟩ e (λ z=>nomatch z) h
 | @frz a ob f ea=>
  cases (show u=A1 a from rx);obtain ⟨_,_,_,n,_,d⟩:=(show ObjOk X.prog X.w H s.heap a (.frz ob (.lst f)) from I.hok a _ ea)
  exact T2 j3a I.kIn ⟨_,d,rfl⟩ e (λ z=>nomatch z) h
 | @tup a f ea=>
  cases (show u=A1 a from rx);obtain ⟨_,_,_,p,_⟩:=(show ObjOk X.prog X.w H s.heap a (.tup f) from I.hok a _ ea)
  obtain ⟨o,d,g,_⟩:=p;exact T2 PySem.W.kitx_tuple I.kIn ⟨o,d,g⟩ e (λ z=>nomatch z) h
 | @dK a kvs ea=>
  cases (show u=A1 a from rx);obtain ⟨_,_,r,_,p⟩:=(show ObjOk X.prog X.w H s.heap a (.dK kvs) from I.hok a _ ea)
  obtain ⟨o,j,k,d,g,_⟩:=p;exact T2 j3b I.kIn ⟨o,d,g.1⟩ e (λ z=>nomatch z) h
 | @dT a kvs ea=>
  cases (show u=A1 a from rx);obtain ⟨_,_,f,_,o,j,k,d,g,_⟩:=(show ObjOk X.prog X.w H s.heap a (.dT kvs) from I.hok a _ ea)
  exact T2 j3b I.kIn ⟨o,d,g.1⟩ e (λ z=>nomatch z) h
 | @ins a C dx fs ea cl ha hn htk hm=>cases (show u=A1 a from rx);obtain ⟨m,O,_⟩:=zck I.hok ea;obtain ⟨l,J,_⟩:=O.look;exact T2 (PySem.W.kitx_own (cl.get _) cl.hd ha hn htk hm) I.kIn J e (λ z=>nomatch z) h
end
structure Room (k:Nat) (A:X1):Prop where
 hd:A.handled=none
 dp:A.depth + 3 * k + 5 < recursionLimit
 un:A.units + 16 * k + 200 < cLine
 gd:A.guards=some []
theorem Room.mono {j k:Nat} {A:X1} (r:Room k A) (h:j<=k):Room j A:=⟨r.hd,by have:=r.dp;omega,by have:=r.un;omega,r.gd⟩
theorem Room.deeper {k:Nat} {A:X1} (r:Room (k + 1) A) (env:Env):Room k (A.deeper env):=
 ⟨r.hd,by have:=r.dp;show A.depth + 1 + 3 * k + 5 < _;omega,by have:=r.un;show A.units + 3 + 16 * k + 200 < _;omega,r.gd⟩
theorem zgg {A:X1} {C:Addr} {us:List Value} {kw:List (Str×Value)}:(A.under (.builtin "type.__call__" ⟨.ref C :: us,kw⟩)).depth=A.depth + 1:=by first|rfl|simp [B9,Code.weight,Code.isCreation,Code.isGuard,Code.isCaller,j3g,R9,guardIds]
theorem zfm {A:X1} {C:Addr} {us:List Value} {kw:List (Str×Value)}:(A.under (.builtin "type.__call__" ⟨.ref C :: us,kw⟩)).units=A.units + 1:=by first|rfl|simp [B9,Code.cUnits,j3g,R9]
theorem Room.make {k:Nat} {A:X1} (r:Room (k + 1) A) (C:Addr) (us:List Value) (kw:List (Str×Value)):Room k (A.under (.builtin "type.__call__" ⟨.ref C :: us,kw⟩)):=
 ⟨r.hd,by have:=r.dp;rw [zgg];omega,by have:=r.un;rw [zfm];omega,by have h:=r.gd;first|exact h|simp [B9,h,Code.weight,Code.isCreation,Code.isGuard,Code.isCaller,j3g,R9,guardIds]⟩
theorem Room.depth {k:Nat} {A:X1} (r:Room k A):A.depth < recursionLimit:=by have:=r.dp;omega
theorem Room.units {k:Nat} {A:X1} (r:Room k A):A.units + 64 < cLine:=by have:=r.un;omega
noncomputable def tNil:TA:=λ _ H Q=>Q [] H
noncomputable def tCons (ta:TE) (tr:TA):TA:=λ σ H Q=>ta σ H λ x H1=>tr σ H1 λ xs H2=>Q (x :: xs) H2
section
variable {X:Cx} {e:Expr} {es:List Expr} {te:TE} {t:TA} {pos:Pos}
theorem pa_nil:PA X [] tNil:=λ _ _ _ _ H Q I h=>Z6 ⟨[],H,I,.nil,h⟩
theorem z00 (ha:PE X e te) (hr:PA X es t) (hs:N1 (e :: es) X.env=(false,u3 e X.env) :: N1 es X.env:=by rfl):PA X (e :: es) (tCons te t):=by intro b a s σ H Q I h;rw [hs];show U0 _ _ (spliced ((false,u3 e X.env) :: A4 b (N1 es X.env))) _ _ s;refine u5 (thn (ha a s σ H _ I h) λ u c ⟨x,H1,I1,r1,q1⟩=>?_);exact thn (hr b a c σ H1 _ I1 q1) λ f d ⟨xs,H2,I2,r2,q2⟩=>⟨x :: xs,H2,I2,.cons r1 r2,q2⟩
noncomputable def tTup (t:TA):TE:=λ σ H Q=>t σ H λ xs H1=>xs.length<=sizeLine/\∀p,H1 p=none->Q (.ref p) (upd H1 p (.tup xs))
noncomputable def tLst (t:TA):TE:=λ σ H Q=>t σ H λ xs H1=>xs.length<=sizeLine/\∀p,H1 p=none->Q (.ref p) (upd H1 p (.lst xs))
theorem pe_tup {x1} (h:PA X es t):PE X (.Tuple es x1 pos) (tTup t):=by intro c s σ H Q I d;refine wpAny_Tuple_spliced (thn (h pos c s σ H _ I d) λ f a ⟨xs,H1,I1,r,z,q⟩=>⟨by rw [<-r.length];exact z,?_⟩);have g:H1 a.heap.objs.size=none:=I1.hok.fresh (u0 _);refine ⟨.ref a.heap.objs.size,upd H1 a.heap.objs.size (.tup xs),I1.laid (t':=a.toks) (λ b u e=>D0 _ e) (u0 _) ?_,rfl,q _ g⟩;exact ⟨z,f,r,IsTupN.new _ _⟩
theorem pe_lst (h:PA X es t):PE X (.List es pos) (tLst t):=by intro c s σ H Q I d;refine wpAny_List_spliced (thn (h pos c s σ H _ I d) λ f a ⟨xs,H1,I1,r,z,q⟩=>⟨by rw [<-r.length];exact z,?_⟩);have g:H1 a.heap.objs.size=none:=I1.hok.fresh (u0 _);refine ⟨.ref a.heap.objs.size,upd H1 a.heap.objs.size (.lst xs),I1.laid (t':=a.toks) (λ b u e=>D0 _ e) (u0 _) ?_,rfl,q _ g⟩;exact ⟨z,f,0,r,Z0 _ rfl⟩
end
noncomputable abbrev Sp:=List V->Hp->VK->XK->Prop
noncomputable abbrev CXT:=List Env->Hp->t0->XK->Value->t0->Prop
structure Env0 (P:Program) (w:S0) (K:b0) (mg:Str->Option Value) (base:Heap) (A:X1) (outer:List Env) (s:t0) (H:Hp):Prop where
 frames:A.frames=some outer
 mod:Mod K mg base
 bs :∀b o,base.get? b=some o->s.heap.get? b=some o/\H b=none
 bsz:base.objs.size<=s.heap.objs.size
 funs:s.heap.FunFrames base outer
 frf :∀b∈frs outer,H b=none
 hok:HOk P w H s.heap
 bare:b8 s.gens
def CE (outer:List Env) (P:Program) (w:S0) (H:Hp) (s:t0) (Q:VK) (u:Value) (s':t0):Prop:=
 ∃v H',s'.os=s.os/\b8 s'.gens/\Un (frs outer) [] H H' s.heap s'.heap/\HOk P w H' s'.heap/\RelV v u/\Q v H'
def CR (CX:CXT) (outer:List Env) (P:Program) (w:S0) (H:Hp) (s:t0) (Q:VK) (E:XK) (r:Result) (s':t0):Prop:=
 match r with
 | .ok (.ret u)=>CE outer P w H s Q u s'
 | .ok _=>False
 | .error e=>CX outer H s E e s'
structure FnOk (P:Program) (w:S0) (K:b0) (mg:Str->Option Value) (base:Heap) (CX:CXT) (k:Nat) (f:Addr) (fd:FuncData) (ps:List Str) (sp:Sp):Prop where
 len :∀vs H Q E,sp vs H Q E->vs.length=ps.length
 run :∀(A:X1) (outer:List Env) (s:t0) (H:Hp) (args:Args) (us:List Value) (vs:List V) (Q:VK) (E:XK),Room k A->Env0 P w K mg base A outer s H->BindsTo s fd args (ps.zip us)->Vals vs us->sp vs H Q E->
  N9 (B1 P w) A (.call (.ref f) args) (CR CX outer P w H s Q E) s
theorem Env0.make {P:Program} {w:S0} {K:b0} {mg:Str->Option Value} {base:Heap} {A:X1} {outer:List Env} {s:t0} {H:Hp} (e:Env0 P w K mg base A outer s H) (C:Addr) (us:List Value) (kw:List (Str×Value)) :
  Env0 P w K mg base (A.under (.builtin "type.__call__" ⟨.ref C :: us,kw⟩)) outer s H:=⟨by first|exact e.frames|(simpa [B9,Code.envs,R9,pushEnvs] using e.frames),e.mod,e.bs,e.bsz,e.funs,e.frf,e.hok,e.bare⟩
section
variable {X:Cx} {pins:List (Addr×Obj)} {σ:St} {H:Hp} {s s':t0}
theorem Inv.env0 (I:Inv X pins σ H s):Env0 X.prog X.w X.K X.mg X.base X.A X.stack s H:=
 ⟨I.ok.frames,I.ok.mod,I.bs,C0 I.ok.bsz I.sz,I.stack,I.stkFree,I.hok,I.bare⟩
theorem Inv.after {Q:VK} {u:Value} (I:Inv X pins σ H s) (h:CE X.stack X.prog X.w H s Q u s'):EP X pins σ Q u s':=by obtain ⟨v,c,a,e,un,j,r,q⟩:=h;obtain ⟨i,g,d,t,f⟩:=s';obtain rfl:f=s.os:=a;exact ⟨v,c,I.call (h':=i) (g':=g) (d':=d) (t':=t) (ch:=[]) un j e (λ b z=>absurd z (by simp)),r,q⟩
end
noncomputable def tCall (sp:Sp) (dvs:List V) (E:XK) (t:TA):TE:=λ σ H Q=>t σ H λ vs H1=>sp (vs++dvs) H1 Q E
noncomputable def tMeth (C:Addr) (m:Str) (sp:Sp) (dvs:List V) (E:XK) (ta:TE) (t:TA):TE:=λ σ H Q=>ta σ H λ x H1=>∃a dx fs,x=.ref a/\H1 a=some (.ins C dx fs)/\fs.lookup m=none/\
 t σ H1 λ vs H2=>sp (x :: (vs++dvs)) H2 Q E
noncomputable def tMake (C:Addr) (sp:Sp) (dvs:List V) (E:XK) (t:TA):TE:=λ σ H Q=>t σ H λ vs H1=>∀x dx,H1 x=none->H1 dx=none->dx≠x->
 sp (.ref x :: (vs++dvs)) (upd (upd H1 dx (.own x)) x (.ins C dx [])) (λ v H2=>v=.non/\Q (.ref x) H2) E
def Binds (K:b0) (fd:FuncData) (ps:List Str) (ds:List Value):Prop:=
 ∀(s:t0) (us:List Value),K.In s.heap->(us++ds).length=ps.length->BindsTo s fd ⟨us,[]⟩ (ps.zip (us++ds))
theorem Binds.all {K:b0} {fd:FuncData} {ps:List Str} (h :∀us:List Value,us.length=ps.length->bindArgs fd ⟨us,[]⟩=Y2 (ps.zip us)):Binds K fd ps []:=λ s us _ a=>by rw [D2] at a⊢;exact .of_eq (h us a)
def Passes (CX:CXT) (X:Cx) (E:XK):Prop:=∀(pins:List (Addr×Obj)) (σ:St) (H:Hp) (s:t0) (e:Value) (s':t0),Inv X pins σ H s->CX X.stack H s E e s'->X.xe e s'
section
variable {X:Cx} {CX:CXT} {k:Nat} {f C:Addr} {fd:FuncData} {ps:List Str} {sp:Sp} {dvs:List V} {ds:List Value} {E:XK} {x m:Str} {p pos apos:Pos} {e o:Expr} {es:List Expr} {ta:TE} {t:TA}
theorem run_fn {pins:List (Addr×Obj)} {σ:St} {H:Hp} {s:t0} {Q:VK} {us:List Value} {vs:List V} (F:FnOk X.prog X.w X.K X.mg X.base CX k f fd ps sp) (hr:Room k X.A) (hb:Binds X.K fd ps ds) (hd:Vals dvs ds) (hx:Passes CX X E)
  (I:Inv X pins σ H s) (r:Vals vs us) (h:sp (vs++dvs) H Q E):U0 (B1 X.prog X.w) X.A (call (.ref f) us) (EP X pins σ Q) X.xe s:=by
 have b:Vals (vs++dvs) (us++ds):=r.append hd;have d:(us++ds).length=ps.length:=by rw [<-b.length];exact F.len _ _ _ _ h
 refine wpAny_call (j0d (F.run X.A X.stack s H ⟨us,[]⟩ (us++ds) (vs++dvs) Q E hr I.env0 (hb s us I.kIn d) b h) λ r c a=>?_);cases r with
 | error e=>exact hx pins σ H s e c I a
 | ok fl=>
  cases fl with
  | ret u=>exact I.after a
  | next=>exact L3 a
  | brk=>exact L3 a
  | cont=>exact L3 a
theorem zlw (F:FnOk X.prog X.w X.K X.mg X.base CX k f fd ps sp) (hr:Room k X.A) (hg:Gl X x) (hm:X.mg x=some (.ref f)) (hk:j3 X.K (.ref f)=true) (hb:Binds X.K fd ps ds) (hd:Vals dvs ds) (hx:Passes CX X E)
  (ha:PA X (e :: es) t) (hdb:(x == ("__debug__" : Str))=false:=by decide) (he:N1 (e :: es) X.env=(false,u3 e X.env) :: N1 es X.env:=by rfl) (hpl:(A4 pos (N1 es X.env)).any (·.1)=false:=by rfl) :
  PE X (.Call (.Name x p) (e :: es) [] pos) (tCall sp dvs E t):=by
 intro a s σ H Q I h;refine N5 (zf5 I hg hm ?_ hdb);refine z6 (h₀:=X.base) I.ok.mod.kin hk (thn (ha pos a s σ H _ I h) λ c b ⟨vs,H1,I1,r,q⟩=>⟨I1.kIn,?_⟩) he hpl;exact run_fn F hr hb hd hx I1 r q
theorem zcd {pl:Sem Bool} (he:PE X o ta) (c:Cls X.K C) (hm:Meth X.K C m f) (F:FnOk X.prog X.w X.K X.mg X.base CX k f fd ps sp) (hr:Room k X.A) (hb:Binds X.K fd ps ds) (hd:Vals dvs ds) (hx:Passes CX X E) (ha:PA X (e :: es) t)
  (hst:N1 (e :: es) X.env=(false,u3 e X.env) :: N1 es X.env:=by rfl) (hpl:(A4 pos (N1 es X.env)).any (·.1)=false:=by rfl)
  (ht:u3 (.Call (.Attribute o m apos) (e :: es) [] pos) X.env=(do
   let ov <-u3 o X.env
   j2b apos.atName
   let (f,first) <-j0c [ov] (getMethod ov m pl)
   callWith pos f first (A4 pos (N1 (e :: es) X.env)) (G9 pos (K6 [] X.env))):=by rfl) :
  PE X (.Call (.Attribute o m apos) (e :: es) [] pos) (tMeth C m sp dvs E ta t):=by
 intro b s σ H Q I h;refine PySem.W.methodCall_KW (pl:=pl) (thn (he b s σ H _ I h) λ u d ⟨x,H1,I1,rx,a,dx,fs,ex,ea,l,q⟩=>?_) ht;subst ex;obtain rfl:u=A1 a:=rx;refine zgc I1 ea c hm l ?_;refine z6 (first:=[.ref a]) (h₀:=X.base) I.ok.mod.kin hm.kp (thn (ha pos b d σ H1 _ I1 q) λ us g ⟨vs,H2,I2,r,q2⟩=>⟨I2.kIn,?_⟩) hst hpl;exact run_fn (us:=.ref a :: us) (vs:=.ref a :: vs) F hr hb hd hx I2 (.cons rfl r) q2
structure Mk (K:b0) (C f:Addr):Prop where
 makes:PySem.W.makesIn K C=true
 init:m3 K (.ref C) "__init__" = some (some (.ref f))
 fn:j15 K (.ref f)=true
 kp:j3 K (.ref C)=true
theorem zkh {pins:List (Addr×Obj)} {σ:St} {H:Hp} {s:t0} {Q:VK} {us:List Value} {vs:List V} (M:Mk X.K C f) (F:FnOk X.prog X.w X.K X.mg X.base CX k f fd ps sp) (hr:Room (k + 1) X.A) (hb:Binds X.K fd ps ds) (hd:Vals dvs ds)
  (hx:Passes CX X E) (I:Inv X pins σ H s) (r:Vals vs us)
  (h :∀x dx,H x=none->H dx=none->dx≠x->sp (.ref x :: (vs++dvs)) (upd (upd H dx (.own x)) x (.ins C dx [])) (λ v H2=>v=.non/\Q (.ref x) H2) E) :
  U0 (B1 X.prog X.w) X.A (call (.ref C) us) (EP X pins σ Q) X.xe s:=by
 have d:=h (s.heap.objs.size + 1) s.heap.objs.size (I.hok.fresh (B3 _)) (I.hok.fresh (u0 _)) (E1 (F2 _));have b:=Inv.made (C:=C) I;have c:Vals (V.ref (s.heap.objs.size + 1) :: (vs++dvs)) (A1 (s.heap.objs.size + 1) :: (us++ds)):=.cons rfl (r.append hd);have i:(A1 (s.heap.objs.size + 1) :: us++ds).length=ps.length:=by have e:=c.length;rw [F.len _ _ _ _ d] at e;exact e.symm
 refine wpAny_call (zjy (f:=f) I.kIn M.makes M.init (beq_iff_eq.mp M.fn) (j0d (F.run _ X.stack _ _ ⟨A1 (s.heap.objs.size + 1) :: us,[]⟩ (A1 (s.heap.objs.size + 1) :: (us++ds)) _ _ E (hr.make C us [])
  (b.env0.make C us []) (hb _ (A1 (s.heap.objs.size + 1) :: us) b.kIn i) c d) λ r g a=>?_))
 cases r with
 | error e=>exact hx pins σ _ _ e g b a
 | ok fl=>
  cases fl with
  | ret u=>obtain ⟨v,j,m,l,o,n⟩:=b.after a;subst o;exact ⟨l,⟨V.ref (s.heap.objs.size + 1),j,m,rfl,n⟩⟩
  | next=>exact L3 a
  | brk=>exact L3 a
  | cont=>exact L3 a
theorem zgk (M:Mk X.K C f) (F:FnOk X.prog X.w X.K X.mg X.base CX k f fd ps sp) (hr:Room (k + 1) X.A) (hg:Gl X x) (hm:X.mg x=some (.ref C)) (hb:Binds X.K fd ps ds) (hd:Vals dvs ds) (hx:Passes CX X E)
  (ha:PA X (e :: es) t) (hdb:(x == ("__debug__" : Str))=false:=by decide) (he:N1 (e :: es) X.env=(false,u3 e X.env) :: N1 es X.env:=by rfl) (hpl:(A4 pos (N1 es X.env)).any (·.1)=false:=by rfl) :
  PE X (.Call (.Name x p) (e :: es) [] pos) (tMake C sp dvs E t):=by
 intro a s σ H Q I h;refine N5 (zf5 I hg hm ?_ hdb);refine z6 (h₀:=X.base) I.ok.mod.kin M.kp (thn (ha pos a s σ H _ I h) λ c b ⟨vs,H1,I1,r,q⟩=>⟨I1.kIn,?_⟩) he hpl;exact zkh M F hr hb hd hx I1 r q
end
section
variable {X:Cx} {CX:CXT} {k:Nat} {f C:Addr} {fd:FuncData} {ps ks:List Str} {sp:Sp} {E:XK} {x m:Str} {p pos apos kpos:Pos} {e o:Expr} {es:List Expr} {kws:List c6} {te ta:TE} {t tk:TA} {nm:Option Str}
structure KBinds (K:b0) (fd:FuncData) (ps ks:List Str) (g:List Value->List Value->List Value) (gV:List V->List V->List V):Prop where
 to :∀(s:t0) (us ws:List Value),K.In s.heap->(g us ws).length=ps.length->BindsTo s fd ⟨us,ks.zip ws⟩ (ps.zip (g us ws))
 rel :∀{vs:List V} {us:List Value} {zs:List V} {ws:List Value},Vals vs us->Vals zs ws->Vals (gV vs zs) (g us ws)
variable {g:List Value->List Value->List Value} {gV:List V->List V->List V}
end
structure FnScope (N P:List Str) (sc:Scope):Prop where
 kind:sc.kind=.function
 co:sc.isCoroutine=false
 gen:sc.isGenerator=false
 nd:N.Nodup
 pre:N.take P.length=P
 par :∀x∈P,sc.names.lookup x=some .local\/sc.names.lookup x=some .cell
 nofree :∀y∈sc.names,y.2≠.free
theorem zcf {kindOf:Str->Option i5} {x:Str} :∀{binds:List (Str×Value)} {m:Str->Option Value},(∀v,(x,v)∉binds)->bindL kindOf binds m x=m x
 | [],_,_=>rfl
 | (n,v) :: r,m,h=>by
  unfold bindL;rw [zcf λ w a=>h w (W0 _ a)];split
  ·have:x≠n:=by rintro rfl;exact h v R0
   simp [this]
  ·rfl
theorem zcq {kindOf:Str->Option i5} {x:Str} :∀{binds:List (Str×Value)} {m:Str->Option Value},(∀v,(x,v)∉binds)->bindC kindOf binds m x=m x
 | [],_,_=>rfl
 | (n,v) :: r,m,h=>by
  unfold bindC;rw [zcq λ w a=>h w (W0 _ a)];split
  ·rfl
  ·have:x≠n:=by rintro rfl;exact h v R0
   simp [this]
theorem zcr {kindOf:Str->Option i5} {x:Str} {v:Value} :∀{P:List Str} {vs:List Value} {i:Nat} {m:Str->Option Value},P.Nodup->P[i]? = some x->vs[i]? = some v->kindOf x=some .local->
  bindL kindOf (P.zip vs) m x=some v
 | [],_,_,_,_,h,_,_=>by simp at h
 | _ :: _,[],_,_,_,_,h,_=>by simp at h
 | p :: P,w :: vs,0,m,nd,h1,h2,hk=>by simp at h1 h2;subst h1;subst h2;show bindL kindOf ((p,w) :: P.zip vs) m p=_;unfold bindL;rw [zcf λ v a=>(List.nodup_cons.mp nd).1 (o8 a).1,if_pos hk];simp
 | p :: P,w :: vs,i + 1,m,nd,h1,h2,hk=>by show bindL kindOf ((p,w) :: P.zip vs) m x=_;unfold bindL;exact zcr (i:=i) (List.nodup_cons.mp nd).2 (by simpa using h1) (by simpa using h2) hk
theorem zcm {kindOf:Str->Option i5} {x:Str} {v:Value} :∀{P:List Str} {vs:List Value} {i:Nat} {m:Str->Option Value},P.Nodup->P[i]? = some x->vs[i]? = some v->kindOf x≠some .local->
  bindC kindOf (P.zip vs) m x=some v
 | [],_,_,_,_,h,_,_=>by simp at h
 | _ :: _,[],_,_,_,_,h,_=>by simp at h
 | p :: P,w :: vs,0,m,nd,h1,h2,hk=>by simp at h1 h2;subst h1;subst h2;show bindC kindOf ((p,w) :: P.zip vs) m p=_;unfold bindC;rw [zcq λ v a=>(List.nodup_cons.mp nd).1 (o8 a).1,if_neg hk];simp
 | p :: P,w :: vs,i + 1,m,nd,h1,h2,hk=>by show bindC kindOf ((p,w) :: P.zip vs) m x=_;unfold bindC;exact zcm (i:=i) (List.nodup_cons.mp nd).2 (by simpa using h1) (by simpa using h2) hk
noncomputable def start (N:List Str) (vs:List V):St:=vs.map some++T1 (N.length - vs.length) none
noncomputable def cxOf (CX:CXT) (P:Program) (w:S0) (K:b0) (mg:Str->Option Value) (base:Heap) (N:List Str) (qual:Str) (scope:Scope) (f:Addr) (cd:Value) (A:X1) (outer:List Env) (s:t0) (H:Hp) (E:XK):Cx where
 prog:=P
 w:=w
 K:=K
 mg:=mg
 base:=base
 A:=A.deeper (N8 qual scope s.heap.objs.size f cd)
 N:=N
 s₀:=s
 H₀:=H
 env:=N8 qual scope s.heap.objs.size f cd
 outer:=outer
 stack:=N8 qual scope s.heap.objs.size f cd :: outer
 ex:=[]
 calm:=true
 fn:=λ _=>true
 pn:=[]
 xe:=λ e s'=>U0 (B1 P w) (A.deeper (N8 qual scope s.heap.objs.size f cd)) («leaving» (N8 qual scope s.heap.objs.size f cd) e) (λ _ s''=>CX outer H s E e s'') (λ e' s''=>CX outer H s E e' s'') s'
theorem zf4 {sc:Scope} {n:Nat} {x:Str} (h:sc.names.lookup x=some .cell) :∃c,(cellsFrom n sc.names []).lookup x=some c:=by have q:=j16 sc.names n [] (.inl h);exact Option.isSome_iff_exists.mp q
theorem zgz {CX:CXT} {P:Program} {w:S0} {K:b0} {mg:Str->Option Value} {base:Heap} {N ps:List Str} {qual:Str} {scope:Scope} {f:Addr} {cd:Value} {A:X1} {outer:List Env} {s s1:t0} {H:Hp} {E:XK} {us:List Value} {vs:List V}
  (S:FnScope N ps scope) (hd:A.handled=none) (e0:Env0 P w K mg base A outer s H) (hl:vs.length=ps.length) (r:Vals vs us)
  (x:InCallC s s.heap.objs.size (bindL (N8 qual scope s.heap.objs.size f cd).kindOf (ps.zip us) λ _=>none) (cellsFrom (s.heap.objs.size + 1) scope.names []) (bindC (N8 qual scope s.heap.objs.size f cd).kindOf (ps.zip us) λ _=>none) s1) :
  Inv (cxOf CX P w K mg base N qual scope f cd A outer s H E) [] (start N vs) H s1:=by
 have G:ps.length<=N.length:=by have:=congrArg m6 S.pre;rw [Q2] at this;omega
 obtain ⟨m,I,rfl,C⟩:=x.done;have o :∀b:Addr,b∉(cxOf CX P w K mg base N qual scope f cd A outer s H E).ex:=λ b z=>absurd (show b∈([]:List Addr) from z) (by simp);refine ⟨⟨e0.mod,S.kind,rfl,rfl,u0 _,λ y z c m d=>?_,λ y g=>?_,λ y c _ h=>?_,λ _=>hd,Around.frames_deeper e0.frames,.inr ⟨rfl,rfl⟩,λ b z=>absurd z (o b),e0.bs,e0.bsz,λ b _ _=>o b,λ b z=>absurd z (o b),e0.funs,e0.frf⟩,
  rfl,e0.bare,Un.kept C,⟨_,x.toInCall.ns,λ i y v m d J=>?_⟩,λ y c h=>⟨_,x.cell y c h⟩,e0.hok.fresh (u0 _),λ y c h=>?_,λ p j=>absurd (show p∈([]:List (Addr×Obj)) from j) (by simp),e0.hok.kept C,?_⟩
 ·exact name_of_addr x.apart (Z4 m) (Z4 d)
 ·have g:scope.names.lookup y=some .cell\/scope.names.lookup y=some .free:=g;rcases g with g|g
  ·exact zf4 g
  ·exact absurd rfl (S.nofree _ (Z4 g))
 ·exact A3 (x.above y c (Z4 h))
 ·have l:i < vs.length:=by
   unfold start at d;by_cases l:i < vs.length
   ·exact l
   ·rw [P1 (by simpa using l)] at d;rw [M7] at d;split at d<;>cases d
  have F:vs[i]? = some v:=by
   unfold start at d;rw [K1 (by simpa using l),V0] at d;cases e:vs[i]? with
   | none=>rw [e] at d;cases d
   | some a=>rw [e] at d;cases d;rfl
  obtain ⟨u,t,D⟩:=r.get F;have j:ps[i]? = some y:=by rw [<-S.pre,A7 (by omega)];exact m
  have B:ps.Nodup:=by rw [<-S.pre];exact S.nd.sublist (List.take_sublist _ _)
  refine ⟨u,D,?_⟩;rcases S.par y (O0 j) with k|k
  ·exact .inl ⟨k,zcr B j t k⟩
  ·obtain ⟨c,e⟩:=zf4 (n:=s.heap.objs.size + 1) k;refine .inr ⟨.inl k,c,e,?_⟩;have q:=x.cell y c e;rw [zcm B j t (by show scope.names.lookup y≠_;rw [k];decide)] at q;exact q
 ·exact e0.hok.fresh (A3 (x.above y c (Z4 h)))
 ·unfold start;show _=N.length;rw [K0,F0,F3];omega
theorem fn_of {CX:CXT} {P:Program} {w:S0} {K:b0} {mg:Str->Option Value} {base:Heap} {k:Nat} {f:Addr} {name qual:Str} {params:Arguments} {body:List Stmt} {scope:Scope} {dV kV doc pm cdv ct oc:Value} {an od:Option Addr}
  {osl:Array (Option Value)} {N ps:List Str} {sp:Sp} (lk:K.lookup f=some ⟨oc,od,.func (B5 name qual params body scope dV kV doc pm an cdv ct),osl⟩) (hcd:j8 K cdv qual=true) (S:FnScope N ps scope)
  (len :∀vs H Q E,sp vs H Q E->vs.length=ps.length)
  (hbody :∀(A:X1) (outer:List Env) (s:t0) (H:Hp) (vs:List V) (Q:VK) (E:XK),Room k (A.deeper (N8 qual scope s.heap.objs.size f cdv))->sp vs H Q E->
   ∃t,PSs (cxOf CX P w K mg base N qual scope f cdv A outer s H E) body t/\t { nx:=λ _ H'=>Q .non H',rt:=Q } (start N vs) H) :
  FnOk P w K mg base CX (k + 1) f (B5 name qual params body scope dV kV doc pm an cdv ct) ps sp:=by
 refine ⟨len,λ A outer s H R F vs Q E h c L r m=>?_⟩;have p:=len _ _ _ _ m;have KX:K.In s.heap:=c.mod.kin.keeps λ b o e=>(c.bs b o e).1;have C:s.heap.NoLimit:=c.mod.nolimit.keeps λ b o e=>(c.bs b o e).1;have D :∀y∈ps.zip F,scope.names.lookup y.1=some .local\/(scope.names.lookup y.1=some .cell/\((cellsFrom (s.heap.objs.size + 1) scope.names []).lookup y.1).isSome=true):=λ ⟨n,v⟩ hy=>by
  rcases S.par n (o8 hy).1 with q|q
  ·exact .inl q
  ·exact .inr ⟨q,j16 _ _ _ (.inl q)⟩
 refine codeAny_call_function h.depth (KX _ _ lk) rfl S.co S.gen rfl (PySem.W.codeRec_of KX hcd) (L _ _ _ _ ?_);refine wpAny_newFunctionEnv_cells S.kind D λ O z l x=>?_;subst z;refine ⟨C.keeps x.toInCall.keep,codeAny_func ?_⟩;obtain ⟨t,B,M⟩:=hbody A outer s H vs Q E (h.deeper _) m;have I:Inv (cxOf CX P w K mg base N qual scope f cdv A outer s H E) [] (start N vs) H l:=zgz S h.hd c p r x;refine d3 (B [] l (start N vs) H _ I M) (λ G i a=>?_) λ e i a=>a;have j :∀{d:St} {H':Hp} {v:V} {u:Value},Inv (cxOf CX P w K mg base N qual scope f cdv A outer s H E) [] d H' i->RelV v u->Q v H'->CE outer P w H s Q u i:=
  λ {d H' v u} J g q=>⟨v,H',J.os,J.bare,J.base,J.hok,g,q⟩
 cases G with
 | ret u=>obtain ⟨v,d,H',J,g,q⟩:=a;exact j J g q
 | next=>obtain ⟨d,H',J,q⟩:=a;exact j (v:=V.non) (u:=P2) J rfl q
 | brk=>obtain ⟨_,_,_,q⟩:=a;exact L3 q
 | cont=>obtain ⟨_,_,_,q⟩:=a;exact L3 q
section
variable {X:Cx} {x:Str} {p pos:Pos} {e:Expr} {es:List Expr} {t:TA} {id T:String} {r:List V->Hp->VK->Prop}
noncomputable def tCB (r:List V->Hp->VK->Prop) (t:TA):TE:=λ σ H Q=>t σ H λ vs H1=>r vs H1 Q
theorem z09 (hc:CallR X (.builtin id) r) (hg:Gl X x) (hm:X.mg x=none) (hv:c7 x=some (.builtin id)) (ha:PA X (e :: es) t) (hn:x≠"__name__":=by decide) (hdb:(x == ("__debug__" : Str))=false:=by decide)
  (he:N1 (e :: es) X.env=(false,u3 e X.env) :: N1 es X.env:=by rfl) (hpl:(A4 pos (N1 es X.env)).any (·.1)=false:=by rfl):PE X (.Call (.Name x p) (e :: es) [] pos) (tCB r t):=by
 intro a s σ H Q I h;refine N5 (ld_blt I hg hm hv ?_ hn hdb);exact PyProof.Rows.callWith_builtin1 (thn (ha pos a s σ H _ I h) λ c b ⟨vs,H1,I1,r1,q1⟩=>hc a b σ H1 vs c Q I1 r1 q1) he hpl
theorem z0r (hc:CallR X (.type T) r) (hg:Gl X x) (hm:X.mg x=none) (hv:c7 x=some (.type T)) (ha:PA X (e :: es) t) (hn:x≠"__name__":=by decide) (hdb:(x == ("__debug__" : Str))=false:=by decide)
  (he:N1 (e :: es) X.env=(false,u3 e X.env) :: N1 es X.env:=by rfl) (hpl:(A4 pos (N1 es X.env)).any (·.1)=false:=by rfl):PE X (.Call (.Name x p) (e :: es) [] pos) (tCB r t):=by
 intro a s σ H Q I h;refine N5 (ld_blt I hg hm hv ?_ hn hdb);exact K3 (thn (ha pos a s σ H _ I h) λ c b ⟨vs,H1,I1,r1,q1⟩=>hc a b σ H1 vs c Q I1 r1 q1) he hpl
end
end L2
namespace HT
open PySem PyProof.Rows
section
variable {prog:Program} {w:S0} {A:X1} {E:Value->t0->Prop} {s:t0}
theorem cat_tup {t b:Addr} {vs ws:List Value} {Q:Value->t0->Prop} (ht:IsTup s.heap t vs.toArray) (hb:IsTup s.heap b ws.toArray) (hv:vs≠[])
  (h1:ws=[]->Q (.ref t) s) (h2:ws≠[]->Q (.ref s.heap.objs.size) { s with heap:=s.heap.push { cls:=.type "tuple",data:=.seq (vs++ws).toArray } })
  (hsz:vs.length + ws.length<=sizeLine):U0 (B1 prog w) A (F4 .Add (.ref t) (.ref b)) Q E s:=by
 obtain ⟨⟨cls,f,data,h⟩,a,j,n,m⟩:=id ht;obtain ⟨⟨p,k,o,g⟩,c,l,d,i⟩:=id hb;simp only at j m l i;subst j m l i;have e:vs.toArray++ws.toArray=(vs++ws).toArray:=by simp
 by_cases hw:ws=[]
 ·exact concat_meets ⟨_,a,rfl⟩ ⟨_,c,rfl⟩ j14 seq_tuple_add K7 i7 (V6 _ _)
   (tuple_addW1 t b vs.toArray ws.toArray n d f k h g (by simpa using hv) (by simp [hw])) ⟨a,c,h1 hw⟩
 ·refine concat_meets ⟨_,a,rfl⟩ ⟨_,c,rfl⟩ j14 seq_tuple_add K7 i7 (V6 _ _)
   (tuple_addW2 t b vs.toArray ws.toArray n d f k h g (by simpa using hv) (by simpa using hw) (by rw [L0,L0];exact hsz)) ⟨a,c,?_⟩
  rw [e];exact h2 hw
noncomputable def sIx (n d:Nat):Option Int->Nat
 | none=>d
 | some v=>if v < 0 then (v + (n:Int)).toNat else min v.toNat n
theorem sIx_none (n d:Nat):sIx n d none=d:=rfl
theorem sIx_nat (n d k:Nat):sIx n d (some (k:Int))=min k n:=by show (if (k:Int) < 0 then ((k:Int) + (n:Int)).toNat else min (k:Int).toNat n)=min k n;rw [if_neg (by omega),Q5]
theorem sIx_le (n d:Nat) (hd:d<=n) (o:Option Int):sIx n d o<=n:=by
 cases o with
 | none=>exact hd
 | some v=>
  show (if v < 0 then (v + (n:Int)).toNat else min v.toNat n)<=n;by_cases hv:v < 0
  ·rw [if_pos hv];omega
  ·rw [if_neg hv];exact Nat.min_le_right _ _
theorem ziu (v:Int) (n d:Nat):(if v < 0 then max (v + (n:Int)) 0 else min v (n:Int))=((sIx n d (some v):Nat):Int):=by
 show (if v < 0 then max (v + (n:Int)) 0 else min v (n:Int))=(((if v < 0 then (v + (n:Int)).toNat else min v.toNat n):Nat):Int);by_cases hv:v < 0
 ·simp only [if_pos hv];omega
 ·simp only [if_neg hv];omega
theorem zgp (lo hi:Option Int) (n:Nat):d6 lo hi 1 (n:Int)=(((sIx n 0 lo:Nat):Int),((sIx n n hi:Nat):Int)):=by
 have a:¬ ((1:Int) < 0):=by omega
 unfold d6;simp only [a,if_false];refine j0j ?_ ?_
 ·cases lo with
  | none=>rfl
  | some v=>exact ziu v n 0
 ·cases hi with
  | none=>rfl
  | some v=>exact ziu v n n
theorem zgo (i j:Nat):J4 (i:Int) (j:Int) 1=j - i:=by
 unfold J4;have a:(1:Int) > 0:=by omega
 simp only [a,if_true,Int.ediv_one];split<;>omega
theorem za5 {v:Value} {o:Option Int} {Q:Option Int->t0->Prop} (p:Q8 v o) (h:Q o s):U0 (B1 prog w) A (Builtin.Slice.slicePartIndex v) Q E s:=by
 cases p with
 | none=>exact slicePart_none h
 | int i t=>exact slicePart_int h
theorem z2s {sl:Addr} {vl vu:Value} {lo hi:Option Int} {n:Nat} {Q:Int×Int×Nat->t0->Prop} (hs:s.heap.IsSliceOf sl vl vu .none) (pl:Q8 vl lo) (pu:Q8 vu hi)
  (h:Q (((sIx n 0 lo:Nat):Int),1,sIx n n hi - sIx n 0 lo) s):U0 (B1 prog w) A (m9 (.ref sl) (Y2 (n:Int))) Q E s:=by
 obtain ⟨c,b,d,a⟩:=id hs;unfold m9 Builtin.Slice.sliceFields;refine d0 (d0 (G6 b a (x:=vl) rfl (d0 (G6 b a (x:=vu) rfl (d0 (G6 b a (x:=.none) rfl (G0 ?_)))))));refine d0 (slicePart_none ?_);show U0 _ _ (if ((1:Int) == 0)=true then _ else _) _ _ s;rw [if_neg (by decide)];refine d0 (za5 pl (d0 (za5 pu (d0 (G0 ?_)))));show U0 _ _ (match d6 lo hi 1 (n:Int) with|(lo,hi)=>Y2 (lo,(1:Int),J4 lo hi 1)) _ _ s;rw [zgp lo hi n];show U0 _ _ (Y2 (((sIx n 0 lo:Nat):Int),(1:Int),J4 ((sIx n 0 lo:Nat):Int) ((sIx n n hi:Nat):Int) 1)) _ _ s;rw [zgo];exact G0 h
theorem zjw (xs:Array Value) (i k:Nat):((C1 k).filterMap λ (m:Nat)=>xs[((i:Int) + (m:Int) * 1).toNat]?).toArray=((xs.toList.drop i).take k).toArray:=by
 have e:(λ (m:Nat)=>xs[((i:Int) + (m:Int) * 1).toNat]?)=λ m=>xs[i + m]?:=by
  funext m;have:((i:Int) + (m:Int) * 1).toNat=i + m:=by omega
  rw [this]
 rw [e];have:=pick_run xs i k;rw [List.filterMap_map] at this;have a:((λ x=>xs[x]?) ∘ λ x=>i + x)=λ m=>xs[i + m]?:=rfl;rw [a] at this;rw [this]
theorem getItem_tuple_cut {t sl:Addr} {items:Array Value} {vl vu:Value} {lo hi:Option Int} {Q:Value->t0->Prop} (ht:IsTup s.heap t items) (hs:s.heap.IsSliceOf sl vl vu .none) (pl:Q8 vl lo) (pu:Q8 vu hi)
  (hw:¬ (sIx items.size 0 lo=0/\sIx items.size items.size hi=items.size))
  (h:Q (.ref s.heap.objs.size) { s with heap:=s.heap.push { cls:=.type "tuple",data:=.seq ((items.toList.drop (sIx items.size 0 lo)).take (sIx items.size items.size hi - sIx items.size 0 lo)).toArray } })
  (hsz:items.size<=sizeLine):U0 (B1 prog w) A (W7 (.ref t) (.ref sl)) Q E s:=by
 have a:sizeOk (.seq ((items.toList.drop (sIx items.size 0 lo)).take (sIx items.size items.size hi - sIx items.size 0 lo)).toArray):=by show ((items.toList.drop (sIx items.size 0 lo)).take (sIx items.size items.size hi - sIx items.size 0 lo)).toArray.size<=sizeLine;rw [L0,Q2,U5,J2];omega
 have k:sIx items.size items.size hi<=items.size:=sIx_le _ _ (u0 _) hi;obtain ⟨b,e,d,j⟩:=id hs;have c:s.TypeIs (.ref sl) "slice":=⟨b,e,d⟩
 unfold W7
 try with_reducible refine S3 ?_
 first|refine d0 (G0 ?_)|skip
 refine d0 (wpAny_sequenceKey ht.typeIs (by decide) ?_);refine d0 (M3 (name:=N6 "__getitem__") ht.typeIs Q3
  (S2 Q3 ht.typeIs entry_tuple_getitem ?_ (args_tuple_getitem _ _)))
 show U0 _ _ (j9 (.ref t) >>= _) _ _ s;refine d0 (tupleItemsOf_ ht ?_);refine d0 (b7 c ?_);rw [if_pos (by decide)];refine d0 (z2s hs pl pu ?_);have f:¬ ((((sIx items.size 0 lo:Nat):Int) == 0 && (1:Int) == 1 && (sIx items.size items.size hi - sIx items.size 0 lo) == items.size)=true):=by intro q;rw [j2,j2] at q;have i:((sIx items.size 0 lo:Nat):Int)=0:=eq_of_beq q.1.1;have g:sIx items.size items.size hi - sIx items.size 0 lo=items.size:=eq_of_beq q.2;exact hw ⟨by omega,by omega⟩
 show U0 _ _ (if (((sIx items.size 0 lo:Nat):Int) == 0 && (1:Int) == 1 && (sIx items.size items.size hi - sIx items.size 0 lo) == items.size)=true then _ else _) _ _ s;rw [if_neg f,zjw];first
  | exact d0 (m:=N4 _) (V2 (G0 ⟨_,rfl,G0 h⟩) a)
  | exact d0 (m:=N4 _) (V2 (d0 (G0 (G0 ⟨_,rfl,G0 h⟩))) a)
  | exact d0 (d0 (m:=N4 _) (V2 (G0 (G0 ⟨_,rfl,G0 h⟩)) a))
  | exact d0 (d0 (m:=N4 _) (V2 (G0 ⟨_,rfl,G0 h⟩) a))
end
end HT
namespace L2
open PySem PySem.Spec PyProof.Rows
noncomputable abbrev TO:=St->Hp->(Option Int->Hp->Prop)->Prop
def PO (X:Cx) (e:Option Expr) (t:TO):Prop:=
 ∀(pins:List (Addr×Obj)) (s:t0) (σ:St) (H:Hp) (Q:Option Int->Hp->Prop),Inv X pins σ H s->t σ H Q->
  U0 (B1 X.prog X.w) X.A (evalPart e X.env) (λ u s'=>∃o H',Inv X pins σ H' s'/\Q8 u o/\Q o H') X.xe s
noncomputable def zfz:TO:=λ _ H Q=>Q none H
noncomputable def tPart (t:TE):TO:=λ σ H Q=>t σ H λ x H1=>∃i,x=.int i/\Q (some i) H1
theorem zae {ns:List Int} :∀{us:List Value},Vals (ns.map V.int) us->R8 us ns:=by
 induction ns with
 | nil=>intro us r;rw [D4] at r;cases r;exact .nil
 | cons n ns ih=>
  intro us r;rw [j1] at r;cases r with
  | cons r1 r2=>obtain ⟨t,e⟩:=r1;subst e;exact .cons n t (ih r2)
section
variable {X:Cx} {e:Expr} {te:TE} {lo hi:Option Expr} {tl th:TO} {pos p2:Pos}
theorem z3b:PO X none zfz:=by intro a s σ H Q I h;rw [evalPart_none];exact G0 ⟨none,H,I,.none,h⟩
theorem z1q (h:PE X e te):PO X (some e) (tPart te):=by intro a s σ H Q I b;rw [evalPart_some];refine thn (h a s σ H _ I b) λ u c ⟨x,H1,I1,r1,q1⟩=>?_;obtain ⟨i,rfl,q⟩:=q1;obtain ⟨t,rfl⟩:=r1;exact ⟨some i,H1,I1,.int i t,q⟩
def SlR (X:Cx) (r:V->Option Int->Option Int->Hp->VK->Prop):Prop:=
 ∀(pins:List (Addr×Obj)) (s:t0) (σ:St) (H:Hp) (x:V) (v vl vu:Value) (lo hi:Option Int) (sl:Addr) (Q:VK),Inv X pins σ H s->RelV x v->s.heap.IsSliceOf sl vl vu .none->Q8 vl lo->Q8 vu hi->r x lo hi H Q->
  ∃T id,typeLookup (.type T) "__getitem__" = Y2 (some (.builtin id))/\s.TypeIs v T/\U0 (B1 X.prog X.w) X.A (W7 v (.ref sl)) (EP X pins σ Q) X.xe s
theorem SlR.or {r r':V->Option Int->Option Int->Hp->VK->Prop} (h:SlR X r) (h':SlR X r'):SlR X (λ x lo hi H Q=>r x lo hi H Q\/r' x lo hi H Q):=by
 intro c s σ H x v b i lo hi a Q I f g d e q;rcases q with q|q
 ·exact h c s σ H x v b i lo hi a Q I f g d e q
 ·exact h' c s σ H x v b i lo hi a Q I f g d e q
noncomputable def tSl (r:V->Option Int->Option Int->Hp->VK->Prop) (te:TE) (tl th:TO):TE:=λ σ H Q=>te σ H λ x H1=>tl σ H1 λ l H2=>th σ H2 λ u H3=>r x l u H3 Q
theorem z1k {r:V->Option Int->Option Int->Hp->VK->Prop} (hr:SlR X r) (he:PE X e te) (hl:PO X lo tl) (hu:PO X hi th):PE X (.Subscript e (.Slice lo hi none p2) pos) (tSl r te tl th):=by intro c s σ H Q I h;refine j35 (thn (he c s σ H _ I h) λ v k ⟨x,H1,I1,r1,q1⟩=>?_);refine wpAny_Slice (thn (hl c k σ H1 _ I1 q1) λ f j ⟨l,H2,I2,pl,q2⟩=>thn (hu c j σ H2 _ I2 q2) λ d a ⟨u,H3,I3,pu,q3⟩=>?_);rw [evalPart_none];refine G0 ?_;have g:Inv X c σ H3 { a with heap:=a.heap.push { cls:=.type "slice",data:=.fields #[f,d,.none] } }:=I3.kept (t':=a.toks) λ b o q=>D0 _ q;obtain ⟨T,id,m,i,n⟩:=hr c { a with heap:=a.heap.push { cls:=.type "slice",data:=.fields #[f,d,.none] } } σ H3 x v f d l u a.heap.objs.size Q g r1 (j09 ..) pl pu q3;show U0 (B1 X.prog X.w) X.A (Y9 e (.Slice lo hi none p2) v (.ref a.heap.objs.size)) (EP X c σ Q) X.xe { a with heap:=a.heap.push { cls:=.type "slice",data:=.fields #[f,d,.none] } };exact j2i (ops:=[.ref a.heap.objs.size,v]) i m n (by with_unfolding_all rfl)
noncomputable def cutV (xs:List V) (lo hi:Option Int):List V:=(xs.drop (HT.sIx xs.length 0 lo)).take (HT.sIx xs.length xs.length hi - HT.sIx xs.length 0 lo)
theorem z7o (xs:List V) (lo hi:Option Int):(cutV xs lo hi).length<=xs.length:=by unfold cutV;rw [Q2,U5];omega
def rSlT (K:b0):V->Option Int->Option Int->Hp->VK->Prop:=λ x lo hi H Q=>∃a xs,x=.ref a/\SqT K H a xs/\
 ¬ (HT.sIx xs.length 0 lo=0/\HT.sIx xs.length xs.length hi=xs.length)/\∀p,H p=none->Q (.ref p) (upd H p (.tup (cutV xs lo hi)))
theorem sl_tup:SlR X (rSlT X.K):=by
 intro y s σ H x v A z d e w Q I j t n k h;obtain ⟨a,c,rfl,m,p,q⟩:=h;cases j;obtain ⟨l,r,g,i⟩:=I.tuple m;have f:l.toArray.size=c.length:=by rw [L0];exact r.length.symm
 refine ⟨"tuple",_,PyProof.Rows.slot_tuple_getitem.lookup,g.typeIs,?_⟩;refine HT.getItem_tuple_cut g t n k (by rw [f];exact p) ?_ (by rw [f];exact i);rw [f];refine ⟨.ref s.heap.objs.size,_,I.laid (t':=s.toks) (o:=.tup (cutV c d e)) (λ b u q=>D0 _ q) (u0 _) ?_,rfl,q _ (I.hok.fresh (u0 _))⟩;exact ⟨C0 (z7o c d e) i,_,(r.drop (HT.sIx c.length 0 d)).take (HT.sIx c.length c.length e - HT.sIx c.length 0 d),IsTupN.new _ _⟩
noncomputable def rCatT (K:b0):R2:=λ x y H Q=>∃a b xs ys,x=.ref a/\y=.ref b/\SqT K H a xs/\SqT K H b ys/\xs≠[]/\xs.length + ys.length<=sizeLine/\
 (ys=[]->Q (.ref a) H)/\(ys≠[]->∀p,H p=none->Q (.ref p) (upd H p (.tup (xs++ys))))
theorem Vals.nil_iff {xs:List V} {us:List Value} (r:Vals xs us):us=[]↔xs=[]:=by
 cases r with
 | nil=>simp
 | cons _ _=>simp
theorem za8:OpR X (F4 .Add) (rCatT X.K):=by intro D s σ H x y v u Q I f t h;obtain ⟨a,b,g,k,rfl,rfl,i,p,l,e,m,j⟩:=h;cases f;cases t;obtain ⟨B,d,n,_⟩:=I.tuple i;obtain ⟨A,c,r,_⟩:=I.tuple p;refine HT.cat_tup n r (λ z=>l (d.nil_iff.mp z)) (λ z=>⟨.ref a,H,I,rfl,m (c.nil_iff.mp z)⟩) (λ z=>?_) (by rw [<-d.length,<-c.length];exact e);refine ⟨.ref s.heap.objs.size,_,I.laid (t':=s.toks) (o:=.tup (g++k)) (λ b C q=>D0 _ q) (u0 _) ?_,rfl,j (λ w=>z (c.nil_iff.mpr w)) _ (I.hok.fresh (u0 _))⟩;exact ⟨by rw [K0];exact e,_,d.append c,IsTupN.new _ _⟩
end
noncomputable def ixN (n:Nat) (i:Int):Option Nat:=if 0<=i then (if i < n then some i.toNat else none) else if -(n:Int)<=i then some (i + n).toNat else none
noncomputable def atI {α:Type} (xs:List α) (i:Int):Option α:=(ixN xs.length i).bind λ j=>xs[j]?
theorem zjm {n:Nat} {i:Int} {j:Nat} (h:ixN n i=some j):seqIndex? i n=some j/\j < n/\-(n:Int)<=i/\i < n:=by
 unfold ixN at h;by_cases h0:0<=i
 ·rw [if_pos h0] at h;by_cases h1:i < n
  ·rw [if_pos h1] at h;have e:i.toNat=j:=Q1 h;exact ⟨by rw [seqIndex_of h0 h1,e],by omega,by omega,h1⟩
  ·rw [if_neg h1] at h;cases h
 ·rw [if_neg h0] at h;by_cases h1:-(n:Int)<=i
  ·rw [if_pos h1] at h;have e:(i + n).toNat=j:=Q1 h;exact ⟨by rw [seqIndex_neg (by omega) h1,e],by omega,h1,by omega⟩
  ·rw [if_neg h1] at h;cases h
theorem zed {α:Type} {xs:List α} {i:Int} {v:α} (h:atI xs i=some v) :∃j,seqIndex? i xs.length=some j/\xs[j]? = some v/\j < xs.length/\-(xs.length:Int)<=i/\i < xs.length:=by
 unfold atI at h;cases e:ixN xs.length i with
 | none=>rw [e] at h;cases h
 | some j=>rw [e] at h;obtain ⟨b,d,c,a⟩:=zjm e;exact ⟨j,b,h,d,c,a⟩
theorem z05 {α:Type} {xs:List α} {j:Nat} {v:α} (h:xs[j]? = some v):atI xs (j:Int)=some v:=by
 have a:j < xs.length:=(List.getElem?_eq_some_iff.mp h).1;have e:ixN xs.length (j:Int)=some j:=by unfold ixN;rw [if_pos (by omega),if_pos (by omega)];simp
 unfold atI;rw [e];exact h
def zj3 (b:Expr):Prop:=∀o i,j1b b false o i=operate [o,i] (W7 o i)
def IxR (X:Cx) (r:R2):Prop:=
 ∀(value slice:Expr) (pins:List (Addr×Obj)) (s:t0) (σ:St) (H:Hp) (x y:V) (v u:Value) (Q:VK),Inv X pins σ H s->RelV x v->RelV y u->r x y H Q->
  j1b slice false v u=operate [v,u] (W7 v u)->U0 (B1 X.prog X.w) X.A (Y9 value slice v u) (EP X pins σ Q) X.xe s
def MtR (X:Cx) (id:String) (r:V->List V->Hp->VK->Prop):Prop:=
 ∀(pins:List (Addr×Obj)) (s:t0) (σ:St) (H:Hp) (x:V) (xs:List V) (v:Value) (us:List Value) (Q:VK),Inv X pins σ H s->RelV x v->Vals xs us->r x xs H Q->
  U0 (B1 X.prog X.w) X.A (call (.builtin id) (v :: us)) (EP X pins σ Q) X.xe s
section
variable {X:Cx} {a b:Expr} {ta tb:TE} {pos:Pos}
theorem IxR.or {r r':R2} (h:IxR X r) (h':IxR X r'):IxR X (λ x y H Q=>r x y H Q\/r' x y H Q):=by
 intro c b a s σ H x y v u Q I d f q e;rcases q with q|q
 ·exact h c b a s σ H x y v u Q I d f q e
 ·exact h' c b a s σ H x y v u Q I d f q e
theorem pe_ix {r:R2} (hr:IxR X r) (ha:PE X a ta) (hb:PE X b tb) (hs:zj3 b):PE X (.Subscript a b pos) (tOp r ta tb):=by intro d s σ H Q I h;exact j35 (binT ha hb I h λ v u c x y e g f i q=>hr a b d c σ e x y v u Q g f i q (hs _ _))
noncomputable def rIxL (K:b0):R2:=λ x y H Q=>∃p xs i v,x=.ref p/\y=.int i/\SqL K H p xs/\atI xs i=some v/\Q v H
noncomputable def rIxT (K:b0):R2:=λ x y H Q=>∃p xs i v,x=.ref p/\y=.int i/\SqT K H p xs/\atI xs i=some v/\Q v H
noncomputable def rIxS:R2:=λ x y H Q=>∃z i c,x=.str z/\y=.int i/\z.length<=sizeLine/\atI z.cps.toList i=some c/\Q (.str ⟨#[c]⟩) H
theorem ix_list:IxR X (rIxL X.K):=by
 intro J N e s σ H x y v u Q I m E h g;obtain ⟨p,L,i,z,rfl,rfl,D,o,q⟩:=h;cases m;obtain ⟨t,rfl⟩:=E;obtain ⟨B,r,c,O⟩:=I.list D;obtain ⟨j,a,A,G,l,F⟩:=zed o;obtain ⟨w,f,n⟩:=r.get A;have k:=r.length;have M:=line63;have d:EP X e σ Q w s:=⟨z,H,I,n,q⟩
 by_cases h0:0<=i
 ·have b:i.toNat=j:=by rw [seqIndex_of h0 F] at a;exact Q1 a
  exact item_listR c.isList h0 (by omega) (by rw [b];simpa using f) d g
 ·have b:(i + (B.toArray.size:Int)).toNat=j:=by rw [seqIndex_neg (by omega) l] at a;rw [L0,<-k];exact Q1 a
  exact subscriptTail_builtinR (x:=w) c.isList.typeIs slot_list_getitem.lookup
   (wpAny_getItem_list_neg (Q:=λ r C=>r=w/\EP X e σ Q r C) c.isList (by omega) (by rw [L0]<;>omega) (by omega) (by rw [b];simpa using f) ⟨rfl,d⟩) g
theorem ix_tup:IxR X (rIxT X.K):=by
 intro E L a s σ H x y v u Q I d B h o;obtain ⟨p,G,i,z,rfl,rfl,A,f,q⟩:=h;cases d;obtain ⟨t,rfl⟩:=B;obtain ⟨F,r,b,M⟩:=I.tuple A;obtain ⟨j,n,g,D,C,N⟩:=zed f;obtain ⟨w,m,e⟩:=r.get g;have c:=r.length;have J:=line63;have k:EP X a σ Q w s:=⟨z,H,I,e,q⟩
 exact subscriptTail_builtinR (x:=w) b.typeIs slot_tuple_getitem.lookup
  (getItem_tuple (j:=j) (Q:=λ r l=>r=w/\EP X a σ Q r l) b (by omega) (by omega) (by rw [L0,<-c];exact n) (by simpa using m) ⟨rfl,k⟩) o
theorem ix_str:IxR X rIxS:=by
 intro r C w s σ H x y v u Q I e n h m;obtain ⟨z,i,c,rfl,rfl,D,f,q⟩:=h;obtain ⟨t,rfl⟩:=e;obtain ⟨B,rfl⟩:=n;obtain ⟨j,a,g,p,d,o⟩:=zed f;have b:z.cps.toList.length=z.length:=by simp [Str.length]
 rw [b] at a d o;have A:=line63;exact j2i (typeIs_str s z t) slot_str_getitem.lookup (getItem_str (c:=c) (by have l:decide (i < -(2 ^ 63:Int))=false:=decide_eq_false (by omega);have k:decide (i ≥ 2 ^ 63)=false:=decide_eq_false (by omega);rw [l,k,Bool.or_false]) (by rw [a];simpa using g) ⟨.str ⟨#[c]⟩,H,I.tok _,⟨_,rfl⟩,q⟩) m
noncomputable def rIx (K:b0):R2:=λ x y H Q=>rIxL K x y H Q\/rIxT K x y H Q\/rIxS x y H Q
theorem ix_seq:IxR X (rIx X.K):=ix_list.or (ix_tup.or ix_str)
theorem zdz (its:List Value) (n j:Nat) (u:Value):X4 (·.setIfInBounds j u) { cls:=.type "list",data:=.seq its.toArray n }={ cls:=.type "list",data:=.seq (its.set j u).toArray n }:=by simp [X4]
theorem Inv.lst {pins:List (Addr×Obj)} {σ:St} {H:Hp} {s:t0} {p:Addr} {xs:List V} (I:Inv X pins σ H s) (h:H p=some (.lst xs)) :
  ∃(its:List Value) (n:Nat),Vals xs its/\s.heap.get? p=some { cls:=.type "list",data:=.seq its.toArray n }/\xs.length<=sizeLine:=by
 obtain ⟨z,its,n,r,e⟩:=I.hok p _ h;exact ⟨its,n,r,e,z⟩
theorem Inv.lstUpd {pins:List (Addr×Obj)} {σ:St} {H:Hp} {s:t0} {p:Addr} {xs ys:List V} {its its':List Value} {n n':Nat} {f:Obj->Obj} (I:Inv X pins σ H s) (h:H p=some (.lst xs))
  (ho:s.heap.get? p=some { cls:=.type "list",data:=.seq its.toArray n }) (hf:f { cls:=.type "list",data:=.seq its.toArray n }={ cls:=.type "list",data:=.seq its'.toArray n' }) (r:Vals ys its') (hz:ys.length<=sizeLine) (t:Nat) :
  Inv X pins σ (upd H p (.lst ys)) { s with heap:=s.heap.update p f,toks:=t }:=by
 have e:(s.heap.update p f).get? p=some { cls:=.type "list",data:=.seq its'.toArray n' }:=by rw [A8 f ho (by rw [hf]<;>rfl),hf]
 refine I.write (x:=p) (e:=p) (by rw [h];trivial) (.inl rfl) (λ b u a q=>(Z7 _ _ (V3 a)).trans q) ⟨_,e⟩ ?_;exact ⟨hz,its',n',r,e⟩
def rSetL:V->V->V->Hp->(Hp->Prop)->Prop:=λ o i v H Q=>∃p xs k j,o=.ref p/\i=.int k/\H p=some (.lst xs)/\ixN xs.length k=some j/\Q (upd H p (.lst (xs.set j v)))
theorem z5k:PSet X rSetL:=by
 intro B s σ H o i v D G u Q I z x w h;obtain ⟨p,A,k,j,rfl,rfl,l,y,q⟩:=h;cases z;obtain ⟨t,rfl⟩:=x;obtain ⟨g,n,r,c,C⟩:=I.lst l;obtain ⟨a,E,f,e⟩:=zjm y;have b:=r.length;have F:=line63;have m:Inv X B σ (upd H p (.lst (A.set j v))) { s with heap:=s.heap.update p (X4 (·.setIfInBounds j u)) }:=
  I.lstUpd l c (zdz g n j u) (r.set w j) (by rw [j07];exact C) s.toks
 by_cases h0:0<=k
 ·have d:k.toNat=j:=by rw [seqIndex_of h0 e] at a;exact Q1 a
  exact PySem.W.ki_setAt c h0 (by omega) (by rw [L0,<-b];exact e) (by rw [d];exact ⟨_,m,q⟩)
 ·have d:(k + (g.toArray.size:Int)).toNat=j:=by rw [seqIndex_neg (by omega) f] at a;rw [L0,<-b];exact Q1 a
  exact PySem.W.ki_setBack c (by omega) (by rw [L0,<-b];exact f) (by omega) (by rw [d];exact ⟨_,m,q⟩)
theorem zbm (lo hi:Option Int) (n:Nat):(N2 lo hi none n).1=((HT.sIx n 0 lo:Nat):Int)/\(N2 lo hi none n).2.1=((HT.sIx n n hi:Nat):Int)/\(N2 lo hi none n).2.2=1:=by
 refine ⟨?_,?_,rfl⟩
 ·cases lo with
  | none=>simp [N2,HT.sIx]
  | some i=>
   simp only [N2,HT.sIx,Option.getD_none,show (1:Int) > 0 by decide,if_true];by_cases h:i < 0
   ·simp only [h,if_true]<;>omega
   ·simp only [h,if_false]<;>omega
 ·cases hi with
  | none=>simp [N2,HT.sIx]
  | some i=>
   simp only [N2,HT.sIx,Option.getD_none,show (1:Int) > 0 by decide,if_true];by_cases h:i < 0
   ·simp only [h,if_true]<;>omega
   ·simp only [h,if_false]<;>omega
theorem zam (its:List Value) (lo hi:Option Int):slicePick its.toArray lo hi none=((its.drop (HT.sIx its.length 0 lo)).take (HT.sIx its.length its.length hi - HT.sIx its.length 0 lo)).toArray:=by obtain ⟨a,c,b⟩:=zbm lo hi its.toArray.size;unfold slicePick;rw [a,c,b];simp only [sliceRange_one,pick_run,L0]<;>rfl
def rSlL (K:b0):V->Option Int->Option Int->Hp->VK->Prop:=λ x lo hi H Q=>∃a xs,x=.ref a/\SqL K H a xs/\∀p,H p=none->Q (.ref p) (upd H p (.lst (cutV xs lo hi)))
theorem sl_list:SlR X (rSlL X.K):=by intro w s σ H x v z y d e u Q I g l k i h;obtain ⟨a,c,rfl,j,q⟩:=h;cases g;obtain ⟨p,r,f,n⟩:=I.list j;have m:=r.length;refine ⟨"list",_,slot_list_getitem.lookup,f.isList.typeIs,?_⟩;refine wpAny_getItem_list_slice f.isList l k i .none (by simp) ?_ (by rw [L0]<;>omega);rw [zam,<-m];refine ⟨.ref s.heap.objs.size,_,I.laid (t':=s.toks) (o:=.lst (cutV c d e)) (λ b t q=>D0 _ q) (u0 _) ?_,rfl,q _ (I.hok.fresh (u0 _))⟩;exact ⟨C0 (z7o c d e) n,_,0,(r.drop (HT.sIx c.length 0 d)).take (HT.sIx c.length c.length e - HT.sIx c.length 0 d),Z0 _ rfl⟩
noncomputable def flatV:V->Bool
 | .non=>true
 | .bl _=>true
 | .int _=>true
 | .str _=>true
 | _=>false
noncomputable def eqV:V->V->Bool
 | .non,.non=>true
 | .bl a,.bl b=>a == b
 | .bl a,.int b=>(if a then 1 else 0) == b
 | .int a,.bl b=>a == (if b then 1 else 0)
 | .int a,.int b=>a == b
 | .str a,.str b=>a == b
 | _,_=>false
theorem eqAt_V {A:X1} {s:t0} {y x:V} {u v:Value} (ry:RelV y u) (rx:RelV x v) (fy:flatV y=true) (fx:flatV x=true):SeqAt.EqAt A s u v (eqV y x):=by
 cases y with
 | non=>
  cases ry;cases x with
  | non=>cases rx;exact SeqAt.EqAt.same _
  | bl b=>cases rx;exact SeqAt.EqAt.none_bool b
  | int b=>obtain ⟨t,rfl⟩:=rx;exact SeqAt.EqAt.none_int b t
  | str b=>obtain ⟨t,rfl⟩:=rx;exact SeqAt.EqAt.none_str b t
  | _=>exact absurd (show false=true from fx) M0
 | bl a=>
  cases ry;cases x with
  | non=>cases rx;exact SeqAt.EqAt.bool_none a
  | bl b=>cases rx;exact SeqAt.EqAt.bool_bool a b
  | int b=>obtain ⟨t,rfl⟩:=rx;exact SeqAt.EqAt.bool_int a b t
  | str b=>obtain ⟨t,rfl⟩:=rx;exact SeqAt.EqAt.bool_str a b t
  | _=>exact absurd (show false=true from fx) M0
 | int a=>
  obtain ⟨c,rfl⟩:=ry;cases x with
  | non=>cases rx;exact SeqAt.EqAt.int_none a c
  | bl b=>cases rx;exact SeqAt.EqAt.int_bool a c b
  | int b=>obtain ⟨t,rfl⟩:=rx;exact SeqAt.EqAt.int_int a c b t
  | str b=>obtain ⟨t,rfl⟩:=rx;exact j1e a c b t
  | _=>exact absurd (show false=true from fx) M0
 | str a=>
  obtain ⟨c,rfl⟩:=ry;cases x with
  | non=>cases rx;exact SeqAt.EqAt.str_none a c
  | bl b=>cases rx;exact SeqAt.EqAt.str_bool a c b
  | int b=>obtain ⟨t,rfl⟩:=rx;exact j1d a c b t
  | str b=>obtain ⟨t,rfl⟩:=rx;exact j1c a c b t
  | _=>exact absurd (show false=true from fx) M0
 | _=>exact absurd (show false=true from fy) M0
noncomputable def eqU (x:V) (u:Value):Bool:=match u with
 | .none=>eqV .non x
 | .bool b=>eqV (.bl b) x
 | .int i _=>eqV (.int i) x
 | .str z _=>eqV (.str z) x
 | _=>false
theorem eqU_of {x y:V} {u:Value} (r:RelV y u) (f:flatV y=true):eqU x u=eqV y x:=by
 cases y with
 | non=>cases r;rfl
 | bl b=>cases r;rfl
 | int i=>obtain ⟨t,rfl⟩:=r;rfl
 | str z=>obtain ⟨t,rfl⟩:=r;rfl
 | _=>exact absurd (show false=true from f) M0
theorem z9v {x:V} :∀{xs:List V} {us:List Value},Vals xs us->xs.all flatV=true->us.any (eqU x)=xs.any λ y=>eqV y x
 | _,_,.nil,_=>rfl
 | y :: xs,u :: us,.cons r t,f=>by rw [List.all_cons,j2] at f;rw [B7,B7,eqU_of r f.1,z9v t f.2]
theorem z5z {A:X1} {s:t0} {x:V} {v:Value} (rx:RelV x v) (fx:flatV x=true) :∀{xs:List V} {us:List Value},Vals xs us->xs.all flatV=true->∀u∈us,SeqAt.EqAt A s u v (eqU x u)
 | _,_,.nil,_=>λ u a=>by cases a
 | y :: xs,u :: us,.cons r t,f=>λ b a=>by
  rw [List.all_cons,j2] at f;rcases List.mem_cons.mp a with rfl|a
  ·rw [eqU_of r f.1];exact eqAt_V r rx f.1 fx
  ·exact z5z rx fx t f.2 b a
noncomputable def inV (x:V) (xs:List V):Bool:=xs.any λ y=>eqV y x
noncomputable def rIn (K:b0) (neg:Bool):R2:=λ x y H Q=>∃p xs,y=.ref p/\(SqL K H p xs\/SqT K H p xs)/\flatV x=true/\xs.all flatV=true/\Q (.bl (if neg then !inV x xs else inV x xs)) H
theorem z1u:OpR X (B2 .In) (rIn X.K false):=by
 intro k s σ H x y v u Q I e g h;obtain ⟨p,j,rfl,b,f,fs,q⟩:=h;cases g;rcases b with b|b
 ·obtain ⟨a,r,d,i⟩:=I.list b;refine SeqAt.in_listAt (eqU x) d.isList (λ w c=>z5z e f r fs w (by simpa using c)) ⟨.bl _,H,I,rfl,?_⟩;rw [show a.toArray.any (eqU x)=a.any (eqU x) by simp,z9v r fs];exact q
 ·obtain ⟨a,r,d,i⟩:=I.tuple b;refine SeqAt.in_tupleAt (eqU x) d (λ w c=>z5z e f r fs w (by simpa using c)) ⟨.bl _,H,I,rfl,?_⟩;rw [show a.toArray.any (eqU x)=a.any (eqU x) by simp,z9v r fs];exact q
theorem z16:OpR X (B2 .NotIn) (rIn X.K true):=by
 intro k s σ H x y v u Q I e g h;obtain ⟨p,j,rfl,b,f,fs,q⟩:=h;cases g;rcases b with b|b
 ·obtain ⟨a,r,d,i⟩:=I.list b;refine SeqAt.notIn_listAt (eqU x) d.isList (λ w c=>z5z e f r fs w (by simpa using c)) ⟨.bl _,H,I,rfl,?_⟩;rw [show a.toArray.any (eqU x)=a.any (eqU x) by simp,z9v r fs];exact q
 ·obtain ⟨a,r,d,i⟩:=I.tuple b;refine SeqAt.notIn_tupleAt (eqU x) d (λ w c=>z5z e f r fs w (by simpa using c)) ⟨.bl _,H,I,rfl,?_⟩;rw [show a.toArray.any (eqU x)=a.any (eqU x) by simp,z9v r fs];exact q
theorem call_len_seq:CallR X (.builtin "len") (λ xs H Q=>∃p ys,xs=[.ref p]/\(SqL X.K H p ys\/SqT X.K H p ys)/\Q (.int ys.length) H):=by
 intro i s σ H xs k Q I r h;obtain ⟨p,ys,rfl,a,q⟩:=h;obtain ⟨u,rfl,e⟩:=vals1 r;cases e;have j:=line63;rcases a with a|a
 ·obtain ⟨f,d,b,g⟩:=I.list a;have c:=d.length;exact Calls.call_len_list b.isList (by simp only [L0]<;>omega) ⟨.int ys.length,H,I.tok _,⟨s.toks + 1,by rw [L0,c]⟩,q⟩
 ·obtain ⟨f,d,b,g⟩:=I.tuple a;have c:=d.length;exact len_tuple b (by simp only [L0]<;>omega) ⟨.int ys.length,H,I.tok _,⟨s.toks + 1,by rw [L0,c]⟩,q⟩
theorem zbi:CallR X (.builtin "len") (λ xs H Q=>∃z,xs=[.str z]/\z.length<=sizeLine/\Q (.int z.length) H):=by intro a s σ H xs d Q I r h;obtain ⟨z,rfl,c,q⟩:=h;obtain ⟨u,rfl,t,rfl⟩:=vals1 r;have b:=line63;exact len_str (by omega) ⟨.int z.length,H,I.tok _,⟨_,rfl⟩,q⟩
theorem CallR.or {f:Value} {r r':List V->Hp->VK->Prop} (h:CallR X f r) (h':CallR X f r'):CallR X f (λ xs H Q=>r xs H Q\/r' xs H Q):=by
 intro a s σ H xs c Q I b q;rcases q with q|q
 ·exact h a s σ H xs c Q I b q
 ·exact h' a s σ H xs c Q I b q
theorem z0j:CallR X (.type "tuple") (λ xs H Q=>∃p ys,xs=[.ref p]/\((SqL X.K H p ys/\∀l,H l=none->Q (.ref l) (upd H l (.tup ys)))\/(SqT X.K H p ys/\Q (.ref p) H))):=by
 intro j s σ H xs v Q I r h;obtain ⟨p,ys,rfl,h⟩:=h;obtain ⟨u,rfl,m⟩:=vals1 r;cases m;rcases h with ⟨g,q⟩|⟨g,q⟩
 ·obtain ⟨c,d,f,k⟩:=I.list g;have x:=d.length;refine call_tuple_list f.isList (λ a n=>?_) (by simp only [L0]<;>omega);have i:Inv X j σ H { s with heap:=a }:=I.kept (t':=s.toks) n;have t:Inv X j σ (upd H a.objs.size (.tup ys)) { s with heap:=a.push { cls:=.type "tuple",data:=.seq c.toArray } }:=
   i.laid (t':=s.toks) (λ b o e=>D0 _ e) (u0 _) (show ObjOk X.prog X.w _ _ _ (.tup ys) from ⟨k,c,d,IsTupN.new _ _⟩)
  exact ⟨.ref a.objs.size,_,t,rfl,q _ (i.hok.fresh (u0 _))⟩
 ·obtain ⟨c,d,f,k⟩:=I.tuple g;exact call_tuple_same f ⟨.ref p,H,I,rfl,q⟩
def tyV (K:b0) (T:String) (x:V) (H:Hp):Prop:=match x with
 | .str _=>T = "str"
 | .int _=>T = "int"
 | .ref p=>(T = "list"/\∃xs,SqL K H p xs)\/(T = "tuple"/\∃o,K.lookup p=some o/\o.cls=.type "tuple"/\o.dict=none)\/
   (T = "dict"/\((∃kvs,H p=some (.dK kvs))\/∃kvs,H p=some (.dT kvs)))\/(T = "set"/\∃S n,H p=some (.set S n))
 | _=>False
theorem tyV_is {pins:List (Addr×Obj)} {σ:St} {H:Hp} {s:t0} {T:String} {x:V} {v:Value} (I:Inv X pins σ H s) (r:RelV x v) (ty:tyV X.K T x H) :
  s.TypeIs v T/\∀a,v=.ref a->∃ob,s.heap.get? a=some ob/\ob.dict=none:=by
 cases x with
 | str z=>obtain ⟨t,rfl⟩:=r;cases (show T = "str" from ty);exact ⟨typeIs_str s z t,λ _ e=>nomatch e⟩
 | int i=>obtain ⟨t,rfl⟩:=r;cases (show T = "int" from ty);exact ⟨typeIs_int s i t,λ _ e=>nomatch e⟩
 | ref p=>
  cases r;rcases ty with ⟨rfl,m,j⟩|⟨rfl,o,b,hc,f⟩|⟨rfl,b⟩|⟨rfl,S,n,b⟩
  ·obtain ⟨l,_,h,_⟩:=I.list j;refine ⟨h.isList.typeIs,λ a e=>?_⟩;cases e;obtain ⟨o,n,e,c,f,_⟩:=h;exact ⟨o,e,f⟩
  ·refine ⟨⟨o,I.kIn p o b,hc⟩,λ a e=>?_⟩;cases e;exact ⟨o,I.kIn _ o b,f⟩
  ·have z :∃o,s.heap.get? p=some o/\o.ExactDict:=by
    rcases b with ⟨k,b⟩|⟨k,b⟩
    ·obtain ⟨_,_,_,_,o,_,_,e,d,_⟩:=I.hok p _ b;exact ⟨o,e,d⟩
    ·obtain ⟨_,_,_,_,o,_,_,e,d,_⟩:=I.hok p _ b;exact ⟨o,e,d⟩
   obtain ⟨o,e,d⟩:=z;refine ⟨⟨o,e,d.1⟩,λ a g=>?_⟩;cases g;exact ⟨o,e,d.2.1⟩
  ·obtain ⟨o,_,_,_,e,d,_⟩:=I.hok p _ b;refine ⟨⟨o,e,d.1⟩,λ a g=>?_⟩;cases g;exact ⟨o,e,d.2.1⟩
 | _=>exact L3 ty
noncomputable def tBM0 (K:b0) (T:String) (r:V->List V->Hp->VK->Prop) (to:TE):TE:=λ σ H Q=>to σ H λ x H1=>tyV K T x H1/\r x [] H1 Q
noncomputable def tBM (K:b0) (T:String) (r:V->List V->Hp->VK->Prop) (to:TE) (t:TA):TE:=λ σ H Q=>to σ H λ x H1=>tyV K T x H1/\t σ H1 λ xs H2=>r x xs H2 Q
variable {o e:Expr} {es:List Expr} {to:TE} {t:TA} {name:Str} {apos cpos:Pos} {T id:String} {r:V->List V->Hp->VK->Prop}
theorem pe_bm0 (pa:PlainAttrs T) (slot:Slot T name id) (hty:typeOf (.builtin id)=Y2 (.type "method_descriptor")) (hm:MtR X id r) (ho:PE X o to)
  (hbase:T3 o name X.env (u3 o X.env)=u3 o X.env:=by rfl) (hline:(apos.endLine == cpos.line)=true:=by rfl):PE X (.Call (.Attribute o name apos) [] [] cpos) (tBM0 X.K T r to):=by
 intro a s σ H Q I h;refine wpAny_Call_method0_late hbase hline (thn (ho a s σ H _ I h) λ v c ⟨x,H1,I1,r1,ty,q1⟩=>?_);obtain ⟨b,d⟩:=tyV_is I1 r1 ty;exact ⟨T,id,pa,slot,hty,b,d,F5 rfl (PySem.evalArgs_none (hm a c σ H1 x [] v [] Q I1 r1 .nil q1))⟩
theorem pe_bm (pa:PlainAttrs T) (slot:Slot T name id) (hty:typeOf (.builtin id)=Y2 (.type "method_descriptor")) (hm:MtR X id r) (ho:PE X o to) (ha:PA X (e :: es) t)
  (hbase:T3 o name X.env (u3 o X.env)=u3 o X.env:=by rfl)
  (hfew:((A4 cpos (N1 (e :: es) X.env)).all (λ x=>!x.1) && (G9 cpos (K6 [] X.env)).all (λ x=>x.1.isSome)
   && decide ((e :: es).length + ([]:List c6).length + (if ([]:List c6).isEmpty then 0 else 1) < 30))=true:=by rfl)
  (hline:(apos.endLine == cpos.line)=true:=by rfl) (hs:N1 (e :: es) X.env=(false,u3 e X.env) :: N1 es X.env:=by rfl) (hplain:(A4 cpos (N1 es X.env)).any (·.1)=false:=by rfl) :
  PE X (.Call (.Attribute o name apos) (e :: es) [] cpos) (tBM X.K T r to t):=by
 intro a s σ H Q I h;refine wpAny_Call_method_late hbase hfew hline rfl (thn (ho a s σ H _ I h) λ v f ⟨x,H1,I1,r1,ty,q1⟩=>?_);obtain ⟨d,g⟩:=tyV_is I1 r1 ty;refine ⟨T,id,pa,slot,hty,d,g,?_⟩;have b:=ha cpos a f σ H1 _ I1 q1;rw [hs] at b⊢;refine F5 (by show (false || (A4 cpos (N1 es X.env)).any (·.1))=false;rw [hplain]<;>rfl) (G8 ?_);exact thn b λ i c ⟨vs,H2,I2,r2,q2⟩=>hm a c σ H2 x vs v i Q I2 r1 r2 q2
end
def MtM (X:Cx) (id:String) (r:V->List V->Hp->VK->Prop):Prop:=
 ∀(pins:List (Addr×Obj)) (s:t0) (σ:St) (H:Hp) (x:V) (xs:List V) (v:Value) (us:List Value) (Q:VK),Inv X pins σ H s->RelV x v->Vals xs us->r x xs H Q->
  U0 (B1 X.prog X.w) X.A (call (.builtin id) (v :: us)) (EP X pins σ Q) X.xe s
theorem Vals.one :∀{x:V} {us:List Value},Vals [x] us->∃u,us=[u]/\RelV x u
 | _,_,.cons r .nil=>⟨_,rfl,r⟩
theorem Vals.zero :∀{us:List Value},Vals [] us->us=[]
 | _,.nil=>rfl
theorem Vals.dropLast {xs:List V} {us:List Value} (h:Vals xs us):Vals xs.dropLast us.dropLast:=by
 induction h with
 | nil=>exact .nil
 | cons r t ih=>
  cases t with
  | nil=>exact .nil
  | cons q t'=>exact .cons r ih
theorem zgr {α:Type} (l:List α):l.eraseIdx (l.length - 1)=l.dropLast:=by
 induction l with
 | nil=>rfl
 | cons a r ih=>
  cases r with
  | nil=>rfl
  | cons b r=>
   have e:(a :: b :: r).length - 1=((b :: r).length - 1) + 1:=by have c:(a :: b :: r).length=r.length + 2:=rfl;have d:(b :: r).length=r.length + 1:=rfl;omega
   rw [e,List.eraseIdx_cons_succ,ih]
   all_goals rfl
section
variable {X:Cx} {pins:List (Addr×Obj)} {σ:St} {H:Hp} {s:t0} {l b:Addr} {xs ys zs:List V}
theorem Inv.lset {its its':List Value} {n:Nat} {f:Array Value->Array Value} {t':Nat} (I:Inv X pins σ H s) (hH:H l=some (.lst xs))
  (e:s.heap.get? l=some { cls:=.type "list",data:=.seq its.toArray n }) (hf:f its.toArray=its'.toArray) (hv:Vals ys its') (hz:ys.length<=sizeLine) :
  Inv X pins σ (upd H l (.lst ys)) { s with heap:=s.heap.update l (X4 f),toks:=t' }:=by
 have q:=PySem.IsL.update e f;rw [hf] at q;refine I.write (x:=l) (e:=l) (by rw [hH];exact trivial) (.inl rfl) (λ c u a b=>(Z7 s.heap (X4 f) (V3 a)).trans b) ⟨_,q⟩ ?_;exact ⟨hz,its',_,hv,q⟩
theorem Inv.lnew {its:List Value} {t':Nat} (I:Inv X pins σ H s) (hv:Vals ys its) (hz:ys.length<=sizeLine) :
  Inv X pins σ (upd H s.heap.objs.size (.lst ys)) { s with heap:=s.heap.push { cls:=.type "list",data:=.seq its.toArray },toks:=t' }:=
 I.laid (λ _ _ q=>D0 _ q) (u0 _) ⟨hz,its,0,hv,Z0 _ rfl⟩
theorem Inv.fresh (I:Inv X pins σ H s):H s.heap.objs.size=none:=I.hok.fresh (u0 _)
theorem Inv.lstM (I:Inv X pins σ H s) (hH:H l=some (.lst xs)):xs.length<=sizeLine/\∃(its:List Value) (n:Nat),Vals xs its/\xs.length=its.length/\s.heap.get? l=some { cls:=.type "list",data:=.seq its.toArray n }:=by obtain ⟨z,its,n,r,e⟩:=I.hok l _ hH;exact ⟨z,its,n,r,r.length,e⟩
theorem zkq {n:Nat} (h:n<=sizeLine):u6 n=false:=by unfold u6;exact decide_eq_false (by omega)
end
section
variable {X:Cx}
def zjl:V->List V->Hp->VK->Prop:=λ x vs H Q=>∃l xs y,x=.ref l/\vs=[y]/\H l=some (.lst xs)/\xs.length < sizeLine/\Q .non (upd H l (.lst (xs++[y])))
theorem zhf:MtM X "list.append" zjl:=by intro m s σ H x k v j Q I c d h;obtain ⟨l,i,y,rfl,rfl,b,o,q⟩:=h;cases c;obtain ⟨u,rfl,f⟩:=d.one;obtain ⟨z,a,n,r,g,e⟩:=I.lstM b;refine j31 F.slot_list_append ⟨_,e,rfl⟩ F.entry_list_append (F.args_list_append_2 _ _) (PySem.list_append l a.toArray n u (by rw [L0];omega)) ⟨e,?_⟩;refine ⟨.non,_,I.lset (its':=a++[u]) b e (by simp) (r.append (.cons f .nil)) ?_,rfl,q⟩;rw [K0,List.length_singleton];omega
def zjh:V->List V->Hp->VK->Prop:=λ x vs H Q=>∃l b xs zs,x=.ref l/\vs=[.ref b]/\H l=some (.lst xs)/\H b=some (.lst zs)/\xs.length + zs.length<=sizeLine/\Q .non (upd H l (.lst (xs++zs)))
theorem zhd:MtM X "list.extend" zjh:=by
 intro G s σ H x E v D Q I i j h;obtain ⟨l,b,C,y,rfl,rfl,d,g,J,q⟩:=h;cases i;obtain ⟨u,rfl,m⟩:=j.one;cases m;obtain ⟨z,a,n,r,w,e⟩:=I.lstM d;obtain ⟨A,c,k,f,B,p⟩:=I.lstM g;have o:a.toArray.size + c.toArray.size<=sizeLine:=by rw [L0,L0];omega
 have t:¬ (not a.toArray.isEmpty && u6 (a.toArray.size + c.toArray.size))=true:=by rw [zkq o,L8];exact M0
 refine j31 F.slot_list_extend ⟨_,e,rfl⟩ F.entry_list_extend (F.args_list_extend_2 _ _)
  (AutoSeq1.list_extend_list_list_0 l a.toArray n b c.toArray k t (by rw [L0];omega) (by omega)) ⟨e,p,?_⟩
 refine ⟨.non,_,I.lset (its':=a++c) d e (by simp) (r.append f) ?_,rfl,q⟩;rw [K0];omega
def rPop:V->List V->Hp->VK->Prop:=λ x vs H Q=>∃l xs y,x=.ref l/\vs=[]/\H l=some (.lst xs)/\xs[xs.length - 1]? = some y/\Q y (upd H l (.lst xs.dropLast))
theorem mt_pop:MtM X "list.pop" rPop:=by
 intro w s σ H x t v p Q I f g h;obtain ⟨l,o,y,rfl,rfl,b,d,q⟩:=h;cases f;have m:=g.zero;subst m;obtain ⟨z,a,n,r,c,e⟩:=I.lstM b;obtain ⟨u,i,k⟩:=r.get d;have j:a.toArray[a.toArray.size - 1]? = some u:=by show a.toArray[a.length - 1]? = some u;rw [<-S5,<-c];exact i
 refine j31 F.slot_list_pop ⟨_,e,rfl⟩ F.entry_list_pop (F.args_list_pop_1 _) (MeetsSeq.list_pop_last l a.toArray n u j (by rw [L0];omega)) ⟨e,?_⟩;refine ⟨y,_,I.lset (its':=a.dropLast) b e ?_ r.dropLast ?_,k,q⟩
 ·show a.toArray.eraseIdxIfInBounds (a.toArray.size - 1)=a.dropLast.toArray;rw [L0,List.eraseIdxIfInBounds_toArray,zgr]
 ·rw [j3d];omega
noncomputable def rCat:R2:=λ x y H Q=>∃l b xs zs,x=.ref l/\y=.ref b/\H l=some (.lst xs)/\H b=some (.lst zs)/\xs.length + zs.length<=sizeLine/\∀p,H p=none->Q (.ref p) (upd H p (.lst (xs++zs)))
theorem op_cat:OpR X (F4 .Add) rCat:=by
 intro C s σ H x y v u Q I g m h;obtain ⟨l,b,A,p,rfl,rfl,k,d,D,q⟩:=h;cases g;cases m;obtain ⟨z,c,n,r,o,e⟩:=I.lstM k;obtain ⟨t,a,B,f,w,i⟩:=I.lstM d;refine PySem.P.add_list e i ?_ (by rw [L0,L0];omega);have j:c.toArray++a.toArray=(c++a).toArray:=by simp
 rw [j];exact ⟨.ref _,_,I.lnew (t':=s.toks) (r.append f) (by rw [K0];omega),rfl,q _ I.fresh⟩
end
section
variable {prog:Program} {w:S0} {A:X1} {E:Value->t0->Prop} {s:t0}
set_option maxRecDepth 100000 in
end
section
variable {κ:Type} [DecidableEq κ]
noncomputable def valV (kvs:List (κ×V)) (k:κ):Option V:=(kvs.find? λ kv=>decide (kv.1=k)).map (·.2)
noncomputable def putK (kvs:List (κ×V)) (k:κ) (v:V):List (κ×V):=
 if (kvs.any λ kv=>decide (kv.1=k))=true then kvs.map (λ kv=>if kv.1=k then (kv.1,v) else kv) else kvs++[(k,v)]
noncomputable def dropK (kvs:List (κ×V)) (k:κ):List (κ×V):=kvs.filter λ kv=>decide (kv.1≠k)
theorem z0o {p:κ×V} {r:List (κ×V)} {k:κ} (e:p.1=k):valV (p :: r) k=some p.2:=by simp [valV,X3,e]
theorem z0m {p:κ×V} {r:List (κ×V)} {k:κ} (e:¬ p.1=k):valV (p :: r) k=valV r k:=by simp [valV,X3,e]
theorem z86 (k:κ) :∀kvs:List (κ×V),(kvs.any λ kv=>decide (kv.1=k))=(valV kvs k).isSome
 | []=>rfl
 | p :: r=>by
  rw [B7];by_cases e:p.1=k
  ·simp only [z0o e,decide_eq_true e,Bool.true_or,Option.isSome_some]
  ·rw [z0m e,decide_eq_false e,j21];exact z86 k r
theorem zen (k j:κ) (y:V) :∀kvs:List (κ×V),valV (kvs.map λ kv=>if kv.1=k then (kv.1,y) else kv) j=(valV kvs j).map λ x=>if j=k then y else x
 | []=>rfl
 | p :: r=>by
  have a:=zen k j y r;rw [j1];by_cases h:p.1=k
  ·rw [if_pos h];by_cases e:p.1=j
   ·rw [z0o (p:=(p.1,y)) e,z0o e,R7,if_pos (e.symm.trans h)]
   ·rw [z0m (p:=(p.1,y)) e,z0m e,a]
  ·rw [if_neg h];by_cases e:p.1=j
   ·rw [z0o (p:=p) e,z0o e,R7,if_neg (λ z=>h (e.trans z))]
   ·rw [z0m (p:=p) e,z0m e,a]
theorem zd7 (k j:κ) (y:V) :∀kvs:List (κ×V),valV kvs k=none->valV (kvs++[(k,y)]) j=if j=k then some y else valV kvs j
 | [],_=>by
  by_cases e:k=j
  ·rw [if_pos e.symm];exact z0o (p:=(k,y)) e
  ·rw [if_neg (λ z=>e z.symm)];exact z0m (p:=(k,y)) e
 | p :: r,hn=>by
  rw [List.cons_append];have a:¬ p.1=k:=λ z=>by rw [z0o z] at hn;cases hn
  rw [z0m a] at hn;have b:=zd7 k j y r hn;by_cases e:p.1=j
  ·rw [z0o e,z0o e,if_neg (λ z=>a (e.trans z))]
  ·rw [z0m e,z0m e,b]
theorem z4d (kvs:List (κ×V)) (k j:κ) (y:V):valV (putK kvs k y) j=if j=k then some y else valV kvs j:=by
 unfold putK;by_cases a:(kvs.any λ c=>decide (c.1=k))=true
 ·rw [if_pos a,zen];rw [z86] at a;by_cases e:j=k
  ·obtain ⟨x,b⟩:=Option.isSome_iff_exists.mp a;rw [if_pos e,e,b,R7,if_pos rfl]
  ·rw [if_neg e];cases valV kvs j with
   | none=>rfl
   | some x=>rw [R7,if_neg e]
 ·rw [if_neg a];refine zd7 k j y kvs ?_;rw [z86] at a;cases q:valV kvs k with
  | none=>rfl
  | some x=>rw [q] at a;exact (a rfl).elim
theorem z5e (kvs:List (κ×V)) (k:κ) (v:V):(putK kvs k v).length<=kvs.length + 1:=by
 unfold putK;split
 ·rw [F0];omega
 ·rw [K0,P0,t8];omega
theorem RelO.isSome_eq {o:Option V} {u:Option Value} (r:RelO o u):o.isSome=u.isSome:=by
 cases o with
 | none=>cases u with
  | none=>rfl
  | some _=>exact (show False from r).elim
 | some _=>cases u with
  | none=>exact (show False from r).elim
  | some _=>rfl
theorem RelO.getD {o:Option V} {u:Option Value} {d:V} {d':Value} (r:RelO o u) (rd:RelV d d'):RelV (o.getD d) (u.getD d'):=by
 cases o with
 | none=>cases u with
  | none=>exact rd
  | some _=>exact (show False from r).elim
 | some _=>cases u with
  | none=>exact (show False from r).elim
  | some _=>exact r
theorem KV.val {kvs:List (κ×V)} {vs:List (κ×Value)} (r:KV kvs vs) (k:κ):RelO (valV kvs k) (M9 vs k):=by
 unfold KV at r;induction r with
 | nil=>exact True.intro
 | @cons p q ps qs h t ih=>
  obtain ⟨c,d⟩:=h;by_cases e:p.1=k
  ·have a:q.1=k:=c.symm.trans e;have b:M9 (q :: qs) k=some q.2:=by simp [M9,X3,a]
   rw [z0o e,b];exact d
  ·have a:¬ q.1=k:=λ z=>e (c.trans z);have b:M9 (q :: qs) k=M9 qs k:=by simp [M9,X3,a]
   rw [z0m e,b];exact ih
theorem KV.any {kvs:List (κ×V)} {vs:List (κ×Value)} (r:KV kvs vs) (k:κ):(kvs.any λ kv=>decide (kv.1=k))=vs.any λ kv=>decide (kv.1=k):=by
 unfold KV at r;induction r with
 | nil=>rfl
 | cons h t ih=>rw [B7,B7,ih,h.1]
theorem KV.repl {kvs:List (κ×V)} {vs:List (κ×Value)} (r:KV kvs vs) (k:κ) {y:V} {u:Value} (ry:RelV y u) :
  KV (kvs.map λ kv=>if kv.1=k then (kv.1,y) else kv) (vs.map λ kv=>if kv.1=k then (kv.1,u) else kv):=by
 unfold KV at r⊢;induction r with
 | nil=>exact .nil
 | @cons p q ps qs h t ih=>
  rw [j1,j1];refine .cons ?_ ih;obtain ⟨a,b⟩:=h;by_cases e:p.1=k
  ·rw [if_pos e,if_pos (a.symm.trans e)];exact ⟨a,ry⟩
  ·rw [if_neg e,if_neg (λ z=>e (a.trans z))];exact ⟨a,b⟩
theorem KV.put {kvs:List (κ×V)} {vs:List (κ×Value)} (r:KV kvs vs) (k:κ) {y:V} {u:Value} (ry:RelV y u):KV (putK kvs k y) (stored vs k u):=by
 unfold putK stored;rw [r.any k];by_cases e:(vs.any λ a=>decide (a.1=k))=true
 ·rw [if_pos e,if_pos e];exact r.repl k ry
 ·rw [if_neg e,if_neg e];exact Paired.snoc r ⟨rfl,ry⟩
theorem KV.drop {kvs:List (κ×V)} {vs:List (κ×Value)} (r:KV kvs vs) (k:κ):KV (dropK kvs k) (without vs k):=by
 unfold KV at r⊢;unfold dropK without;induction r with
 | nil=>exact .nil
 | @cons p q ps qs h t ih=>
  obtain ⟨c,f⟩:=h;rw [y4,y4];by_cases e:p.1=k
  ·have a:¬ decide (p.1≠k)=true:=by simp [e]
   have b:¬ decide (q.1≠k)=true:=by simp [c.symm.trans e]
   rw [if_neg a,if_neg b];exact ih
  ·have d:¬ q.1=k:=λ z=>e (c.trans z);have a:decide (p.1≠k)=true:=by simp [e]
   have b:decide (q.1≠k)=true:=by simp [d]
   rw [if_pos a,if_pos b];exact .cons ⟨c,f⟩ ih
theorem KV.keys {kvs:List (κ×V)} {vs:List (κ×Value)} (r:KV kvs vs):kvs.map (·.1)=vs.map (·.1):=by
 unfold KV at r;induction r with
 | nil=>rfl
 | cons h t ih=>rw [j1,j1,ih,h.1]
theorem KV.length {kvs:List (κ×V)} {vs:List (κ×Value)} (r:KV kvs vs):kvs.length=vs.length:=j10 r
theorem zf8 (kvs:List (κ×V)) (k:κ):(dropK kvs k).length<=kvs.length:=U2 _ _
end
theorem kV_is {P:Program} {w:S0} {k:Key} {u:Value} (r:RelV (kV k) u):(z13 P w).is k u=true:=by
 cases k with
 | inl i=>obtain ⟨t,e⟩:=(show∃t,u=F7 i t from r);subst e;exact zdw P w i t
 | inr x=>obtain ⟨t,e⟩:=(show∃t,u=T5 x t from r);subst e;exact zdt P w x t
theorem zcg {P:Program} {w:S0} :∀{ks:List Key} {us:List Value},Vals (ks.map kV) us->ItemsAre (z13 P w) ks us
 | [],_,r=>by rw [D4] at r;cases r;exact .nil
 | k :: ks,_,r=>by
  rw [j1] at r;cases r with
  | cons h t=>exact .cons (kV_is h) (zcg t)
abbrev KT (H:Hp):List (List Key×V)->List (List Key×Addr×Value)->Prop:=P8 λ p q=>p.1=q.1/\H q.2.1=some (.tup (p.1.map kV))/\RelV p.2 q.2.2
theorem KT.val {H:Hp} {kvs:List (List Key×V)} {xs:List (List Key×Addr×Value)} (r:KT H kvs xs) (k:List Key):RelO (valV kvs k) ((E8 xs k).map (·.2)):=by
 induction r with
 | nil=>exact True.intro
 | @cons p q ps qs h t ih=>
  obtain ⟨c,_,d⟩:=h;by_cases e:p.1=k
  ·have a:q.1=k:=c.symm.trans e;have b:E8 (q :: qs) k=some q.2:=by simp [E8,X3,a]
   rw [z0o e,b];exact d
  ·have a:¬ q.1=k:=λ z=>e (c.trans z);have b:E8 (q :: qs) k=E8 qs k:=by simp [E8,X3,a]
   rw [z0m e,b];exact ih
theorem KT.repl {H:Hp} {kvs:List (List Key×V)} {xs:List (List Key×Addr×Value)} (r:KT H kvs xs) (k:List Key) {y:V} {u:Value} (ry:RelV y u) :
  KT H (kvs.map λ kv=>if kv.1=k then (kv.1,y) else kv) (xs.map (putAt k u)):=by
 induction r with
 | nil=>exact .nil
 | @cons p q ps qs h t ih=>
  rw [j1,j1];refine .cons ?_ ih;obtain ⟨a,b,c⟩:=h;unfold putAt;by_cases e:p.1=k
  ·rw [if_pos e,if_pos (a.symm.trans e)];exact ⟨a,b,ry⟩
  ·rw [if_neg e,if_neg (λ z=>e (a.trans z))];exact ⟨a,b,c⟩
theorem KT.put {H:Hp} {kvs:List (List Key×V)} {xs:List (List Key×Addr×Value)} (r:KT H kvs xs) (k:List Key) {b:Addr} {y:V} {u:Value} (hb:H b=some (.tup (k.map kV))) (ry:RelV y u) :
  KT H (putK kvs k y) (storedH xs k b u):=by
 have e:(kvs.any λ a=>decide (a.1=k))=(E8 xs k).isSome:=by rw [z86,(r.val k).isSome_eq,X6]
 unfold putK storedH;rw [e];by_cases q:(E8 xs k).isSome=true
 ·rw [if_pos q,if_pos q];exact r.repl k ry
 ·rw [if_neg q,if_neg q];exact Paired.snoc r ⟨rfl,hb,ry⟩
theorem KT.keeps {H H':Hp} {kvs:List (List Key×V)} {xs:List (List Key×Addr×Value)} (r:KT H kvs xs) (ht :∀b ys,H b=some (.tup ys)->H' b=some (.tup ys)):KT H' kvs xs:=
 Paired.mapP r λ _ _ z=>⟨z.1,ht _ _ z.2.1,z.2.2⟩
section
variable {P:Program} {w:S0} {H:Hp} {h:Heap} {a:Addr}
theorem rd_of {u:HO} (ok:HOk P w H h) (e:Rd H a u):ObjOk P w H h a u:=e.ok ok
theorem dk_rd {kvs:List (Key×V)} (ok:HOk P w H h) (e:Rd H a (.dK kvs)):kvs.length<=sizeLine/\(a == i3)=false/\∃vs,KV kvs vs/\h.DictOf (z13 P w) a vs:=
 show ObjOk P w H h a (.dK kvs) from rd_of ok e
theorem dk_of {kvs:List (Key×V)} (ok:HOk P w H h) (e:H a=some (.dK kvs)):kvs.length<=sizeLine/\(a == i3)=false/\∃vs,KV kvs vs/\h.DictOf (z13 P w) a vs:=dk_rd ok (.inl e)
theorem key_of {ks:List Key} (ok:HOk P w H h) (e:H a=some (.tup (ks.map kV))):(R5 (z13 P w)).is h ks a:=by
 obtain ⟨_,d,r,⟨o,b,c,n,f⟩,_⟩:=(show ObjOk P w H h a (.tup (ks.map kV)) from ok a _ e)
 exact ⟨o,d.toArray,n,b,c,f,by simpa using zcg r⟩
theorem dt_rd {kvs:List (List Key×V)} (ok:HOk P w H h) (e:Rd H a (.dT kvs)):kvs.length<=sizeLine/\(a == i3)=false/\
  ∃xs,KT H kvs xs/\h.DictOfH (R5 (z13 P w)) a xs:=by
 obtain ⟨z,y,xs,r,o,c,f,d,j,k,g,i⟩:=(show ObjOk P w H h a (.dT kvs) from rd_of ok e)
 refine ⟨z,y,xs,r,o,c,f,d,j,k,g,λ x b=>?_,i⟩;have all :∀{l:List (List Key×V)} {m:List (List Key×Addr×Value)},KT H l m->∀x∈m,(R5 (z13 P w)).is h x.1 x.2.1:=by
  intro l m q;induction q with
  | nil=>intro x b;exact nomatch b
  | @cons p q ps qs hq t ih=>
   intro x b;rcases List.mem_cons.mp b with e|b
   ·subst e;exact key_of ok (by rw [<-hq.1];exact hq.2.1)
   ·exact ih x b
 exact all r x b
theorem dt_of {kvs:List (List Key×V)} (ok:HOk P w H h) (e:H a=some (.dT kvs)):kvs.length<=sizeLine/\(a == i3)=false/\
  ∃xs,KT H kvs xs/\h.DictOfH (R5 (z13 P w)) a xs:=dt_rd ok (.inl e)
end
def DGet (H:Hp) (a:Addr) (y:V) (r:Option V):Prop:=
 (∃kvs k,Rd H a (.dK kvs)/\y=kV k/\r=valV kvs k)\/∃kvs k b,Rd H a (.dT kvs)/\y=.ref b/\H b=some (.tup (k.map kV))/\r=valV kvs k
def DPut (H:Hp) (a:Addr) (y v:V) (H':Hp):Prop:=
 (∃kvs k,H a=some (.dK kvs)/\y=kV k/\kvs.length < sizeLine/\H'=upd H a (.dK (putK kvs k v)))\/
 ∃kvs k b,H a=some (.dT kvs)/\y=.ref b/\H b=some (.tup (k.map kV))/\kvs.length < sizeLine/\H'=upd H a (.dT (putK kvs k v))
theorem DGet.k {H:Hp} {a:Addr} {kvs:List (Key×V)} {k:Key} (e:H a=some (.dK kvs)):DGet H a (kV k) (valV kvs k):=.inl ⟨kvs,k,.inl e,rfl,rfl⟩
theorem DPut.k {H:Hp} {a:Addr} {kvs:List (Key×V)} {k:Key} {v:V} (e:H a=some (.dK kvs)) (hl:kvs.length < sizeLine):DPut H a (kV k) v (upd H a (.dK (putK kvs k v))):=.inl ⟨kvs,k,e,rfl,hl,rfl⟩
section
variable {X:Cx} {pins:List (Addr×Obj)} {σ:St} {H:Hp} {s:t0} {a:Addr} {y v:V} {u r:Value} {o:Option V} {A:X1} {E:Value->t0->Prop}
theorem Inv.big (I:Inv X pins σ H s):i3 < s.heap.objs.size:=by have h:W2 < s.heap.objs.size:=(I.mod.glob.keeps I.bk).lt;exact Nat.lt_trans (by decide) h
theorem zgw {Q:Value->t0->Prop} (hu:A.units + 1 < cLine) (I:Inv X pins σ H s) (g:DGet H a y (some v)) (ry:RelV y u) (h :∀w' s',Inv X pins σ H s'->RelV v w'->Q w' s') :
  U0 (B1 X.prog X.w) A (W7 (.ref a) u) Q E s:=by
 rcases g with ⟨x,k,e,c,l⟩|⟨x,k,b,e,c,eb,l⟩
 ·subst c;obtain ⟨z,r,t,j,d⟩:=dk_rd I.hok e;obtain ⟨w',f,i⟩:=RelO.some_of (v:=v) (o:=M9 t k) (by rw [l];exact j.val k);exact wpAny_getItem_of (kV_is ry) d.mapOf f (h w' _ (I.tok _) i)
 ·subst c;cases (show u=A1 b from ry);obtain ⟨z,r,n,j,d⟩:=dt_rd I.hok e;obtain ⟨w',f,i⟩:=RelO.some_of (v:=v) (o:=(E8 n k).map (·.2)) (by rw [l];exact j.val k);obtain ⟨p,m,q⟩:=Option.map_eq_some_iff.mp f;refine wpAny_getItem_heap (E7 hu) (key_of I.hok eb) d m ?_;rw [q];exact h w' _ (I.tok _) i
theorem d_in {Q:Value->t0->Prop} (hu:A.units + 1 < cLine) (I:Inv X pins σ H s) (g:DGet H a y o) (ry:RelV y u) (h :∀s',Inv X pins σ H s'->Q (.bool o.isSome) s') :
  U0 (B1 X.prog X.w) A (B2 .In u (.ref a)) Q E s:=by
 rcases g with ⟨j,k,e,c,l⟩|⟨j,k,b,e,c,eb,l⟩
 ·subst c;obtain ⟨z,i,n,f,d⟩:=dk_rd I.hok e;refine wpAny_in_of (kV_is ry) i d.mapOf ?_;rw [<-(f.val k).isSome_eq,<-l];exact h _ (I.tok _)
 ·subst c;cases (show u=A1 b from ry);obtain ⟨z,i,m,f,d⟩:=dt_rd I.hok e;refine wpAny_in_heap (E7 hu) (key_of I.hok eb) i d ?_;have q:=(f.val k).isSome_eq;rw [X6] at q;rw [<-q,<-l];exact h _ (I.tok _)
theorem z9t {h':Heap} {t':Nat} {ob:HO} (I:Inv X pins σ H s) (mu:Mut (H a)) (hs:L5 a s.heap h') (he :∃q,h'.get? a=some q) (new:ObjOk X.prog X.w (upd H a ob) h' a ob) :
  Inv X pins σ (upd H a ob) { s with heap:=h',toks:=t' }:=
 I.write (x:=a) (e:=a) mu (.inl rfl) (λ b q c z=>(hs.2 b c).trans z) he new
theorem dk_new {P:Program} {w:S0} {H':Hp} {h':Heap} {kvs:List (Key×V)} {vs:List (Key×Value)} (z:kvs.length<=sizeLine) (hd:(a == i3)=false) (rel:KV kvs vs) (dd:h'.DictOf (z13 P w) a vs) :
  ObjOk P w H' h' a (.dK kvs):=⟨z,hd,vs,rel,dd⟩
theorem zgu {H':Hp} {Q:Unit->t0->Prop} (hu:A.units + 1 < cLine) (I:Inv X pins σ H s) (g:DPut H a y v H') (ry:RelV y u) (rv:RelV v r) (h :∀s',Inv X pins σ H' s'->Q () s') :
  U0 (B1 X.prog X.w) A (setItem (.ref a) u r) Q E s:=by
 rcases g with ⟨f,k,e,m,l,o⟩|⟨f,k,b,e,m,eb,l,o⟩
 ·subst m o;obtain ⟨z,p,O,d,t⟩:=dk_of I.hok e;have B:O.length<=sizeLine:=by rw [<-d.length];exact z
  have n:(putK f k v).length<=sizeLine:=by have:=z5e f k v;omega
  refine wpAny_setItem_pairs (hsz:=B) (kV_is ry) t λ D i x=>h _ ?_;have J :∃q,D.get? a=some q:=let ⟨q,_,_,j,_⟩:=i;⟨q,j⟩;exact z9t I (by rw [e];exact True.intro) x J (dk_new n p (d.put k rv) i)
 ·subst m o;cases (show u=A1 b from ry);obtain ⟨z,p,N,d,t⟩:=dt_of I.hok e;have B:N.length<=sizeLine:=by rw [<-j10 d];exact z
  have n:(putK f k v).length<=sizeLine:=by have:=z5e f k v;omega
  refine wpAny_setItem_heap (hsz:=B) (E7 hu) (key_of I.hok eb) t λ D i x=>h _ ?_;obtain ⟨q,L,F,j,M,K,G,_,P⟩:=i;refine z9t I (by rw [e];exact True.intro) x ⟨q,j⟩ ⟨n,p,_,(d.put k eb rv).keeps λ c R C=>?_,q,L,F,j,M,K,G,P⟩;rw [upd_ne (ne_of C e (λ z=>nomatch z))];exact C
end
section
variable {X:Cx} {pins:List (Addr×Obj)} {σ:St} {H:Hp} {s:t0} {a:Addr} {kvs:List (Key×V)} {k:Key} {u:Value} {A:X1} {E:Value->t0->Prop}
theorem d_pop {v:V} {more:List Value} {Q:Value->t0->Prop} (I:Inv X pins σ H s) (e:H a=some (.dK kvs)) (ry:RelV (kV k) u) (l:valV kvs k=some v) (hm:more=[]\/∃x,more=[x])
  (h :∀w' s',Inv X pins σ (upd H a (.dK (dropK kvs k))) s'->RelV v w'->Q w' s'):U0 (B1 X.prog X.w) A (call (.builtin "dict.pop") (.ref a :: u :: more)) Q E s:=by
 obtain ⟨z,B,f,b,c⟩:=dk_of I.hok e;obtain ⟨w',j,y⟩:=RelO.some_of (v:=v) (o:=M9 f k) (by rw [<-l];exact b.val k);have p:(keyPart u).isSome=true:=by
  cases k with
  | inl i=>obtain ⟨t,q⟩:=(show∃t,u=F7 i t from ry);subst q;rfl
  | inr x=>obtain ⟨t,q⟩:=(show∃t,u=T5 x t from ry);subst q;rfl
 have g:argsOk "dict.pop" ⟨.ref a :: u :: more,[]⟩:=by
  rcases hm with q|⟨x,q⟩
  ·subst q;exact PySem.F.args_dict_pop_2 _ _
  ·subst q;exact PySem.F.args_dict_pop_3 _ _ _
 refine call_meetsIn j1f c.typeIs PySem.F.entry_dict_pop g (meets_dict_pop_there (z13 X.prog X.w) a (kV_is ry) more hm p)
  ⟨f,w',c,by rw [<-b.length];exact z,j,λ m d n=>h w' _ ?_ y⟩
 have r :∃q,m.get? a=some q:=let ⟨q,_,_,hq,_⟩:=d;⟨q,hq⟩;exact z9t I (by rw [e];exact True.intro) n r (dk_new (C0 (zf8 kvs k) z) B (b.drop k) d)
end
def NoSl (i:Expr):Prop:=∀ov iv,j1b i false ov iv=operate [ov,iv] (W7 ov iv)
theorem zlr {prog:Program} {w:S0} {A:X1} {E:Value->t0->Prop} {s:t0} {env:Env} {value slice:Expr} {pos:Pos} {T id:String} {Q:Value->t0->Prop}
  (hl:typeLookup (.type T) "__getitem__" = Y2 (some (.builtin id))) (hs:NoSl slice)
  (h:U0 (B1 prog w) A (u3 value env) (λ o s₁=>U0 (B1 prog w) A (u3 slice env) (λ i s₂=>s₂.TypeIs o T/\U0 (B1 prog w) A (W7 o i) Q E s₂) E s₁) E s) :
  U0 (B1 prog w) A (u3 (.Subscript value slice pos) env) Q E s:=by
 refine j35 (d3 h (λ o s₁ f=>d3 f (λ i s₂ b=>?_) λ _ _ x=>x) λ _ _ x=>x);obtain ⟨d,b⟩:=b;unfold Y9;refine d0 ?_;rw [getitemInPython_of_ne d.not_modules];refine d0 (j23 d hl ?_);have a:U0 (B1 prog w) A (j1b slice false o i) (λ r c=>U0 (B1 prog w) A (letTemporaryGo value o r >>= λ _=>Y2 r) Q E c) E s₂:=by rw [hs o i];exact wpAny_operating (d3 b (λ r c e=>d0 (wpAny_letTemporaryGo (G0 e))) λ _ _ x=>x)
 first
  | exact G0 (d0 a)
  | exact d0 (G0 (d0 a))
  | exact d0 a
theorem zdg {X:Cx} {pins:List (Addr×Obj)} {σ:St} {H:Hp} {s:t0} {a:Addr} {y:V} {o:Option V} (I:Inv X pins σ H s) (g:DGet H a y o):s.TypeIs (.ref a) "dict":=by
 rcases g with ⟨d,k,e,_,_⟩|⟨d,k,b,e,_,_,_⟩
 ·obtain ⟨_,_,h,_,c⟩:=dk_rd I.hok e;exact c.typeIs
 ·obtain ⟨_,_,f,_,c⟩:=dt_rd I.hok e;exact c.typeIs
noncomputable def tDGet (td ty:TE):TE:=λ σ H Q=>td σ H λ x H1=>ty σ H1 λ y H2=>∃a v,x=.ref a/\DGet H2 a y (some v)/\Q v H2
noncomputable def tDIn (ty td:TE):TE:=λ σ H Q=>ty σ H λ y H1=>td σ H1 λ x H2=>∃a o,x=.ref a/\DGet H2 a y o/\Q (.bl o.isSome) H2
noncomputable def sDPut (td ty tv:TE):TS:=λ D σ H=>tv σ H λ v H1=>td σ H1 λ x H2=>ty σ H2 λ y H3=>∃a H4,x=.ref a/\DPut H3 a y v H4/\D.nx σ H4
section
variable {X:Cx} {o i e value:Expr} {pos pos' tpos:Pos} {td ty tv:TE}
theorem z6w (hu:X.A.units + 1 < cLine) (ho:PE X o td) (hi:PE X i ty) (hs:NoSl i):PE X (.Subscript o i pos) (tDGet td ty):=by intro b s σ H Q I h;refine zlr PySem.F.slot_dict_getitem.lookup hs (thn (ho b s σ H _ I h) λ u c ⟨x,H1,I1,rx,q1⟩=>thn (hi b c σ H1 _ I1 q1) λ j f ⟨y,H2,I2,ry,a,v,ex,g,q2⟩=>?_);subst ex;obtain rfl:u=A1 a:=rx;exact ⟨zdg I2 g,zgw hu I2 g ry λ k l d e=>⟨v,H2,d,e,q2⟩⟩
theorem pc_din (hu:X.A.units + 1 < cLine) (hi:PE X i ty) (ho:PE X o td):PC X .In i o (tDIn ty td):=by intro b s σ H Q I h;refine thn (hi b s σ H _ I h) λ f c ⟨y,H1,I1,ry,q1⟩=>thn (ho b c σ H1 _ I1 q1) λ u e ⟨x,H2,I2,rx,a,ov,ex,g,q2⟩=>?_;subst ex;obtain rfl:u=A1 a:=rx;exact d_in hu I2 g ry λ j d=>⟨.bl ov.isSome,H2,d,rfl,q2⟩
theorem zcp (hu:X.A.units + 1 < cLine) (ho:PE X o td) (hi:PE X i ty) (hv:PE X value tv) (hs:y6 value (some (.Subscript o i pos')) pos.line X.env=Y2 false) :
  PS X (.Assign [.Subscript o i pos'] value pos) (sDPut td ty tv):=by
 intro b s σ H D I h;refine wpAny_Assign_Subscript (thn (hv b s σ H _ I h) λ r e ⟨v,H1,I1,rv,q1⟩=>thn (ho b e σ H1 _ I1 q1) λ u c ⟨x,H2,I2,rx,q2⟩=>thn (hi b c σ H2 _ I2 q2) λ f k ⟨y,H3,I3,ry,a,H4,ex,g,q3⟩=>?_) hs;subst ex;obtain rfl:u=A1 a:=rx;exact zgu hu I3 g ry rv λ j d=>⟨σ,H4,d,q3⟩
end
theorem zfp {P:Program} {w:S0} {H:Hp} (h:Heap) (hb:i3 < h.objs.size):ObjOk P w H (h.push { cls:=.type "dict",data:=.dict #[] }) h.objs.size (.dK []):=
 ⟨S1 _,beq_eq_false_iff_ne.mpr (V3 (E1 hb)),[],.nil,Heap.DictOf.new h⟩
noncomputable def tDNewK:TE:=λ _ H Q=>∀p,H p=none->Q (.ref p) (upd H p (.dK []))
section
variable {X:Cx} {pos:Pos}
theorem z91:PE X (.Dict [] [] pos) tDNewK:=λ b s σ H Q I h=>wpAny_Dict_empty ⟨.ref s.heap.objs.size,_,I.laid (a:=s.heap.objs.size) (o:=.dK []) (t':=s.toks) (λ _ _ q=>D0 _ q) (u0 _) (zfp s.heap I.big),rfl,h _ (I.hok.fresh (u0 _))⟩
end
noncomputable def tPairs:List (TE×TE)->St->Hp->(List (V×V)->Hp->Prop)->Prop
 | [],_,H,Q=>Q [] H
 | (tk,tv) :: r,σ,H,Q=>tk σ H λ x H1=>tv σ H1 λ y H2=>tPairs r σ H2 λ ps H3=>Q ((x,y) :: ps) H3
abbrev VV:List (V×V)->List (Value×Value)->Prop:=P8 λ p q=>RelV p.1 q.1/\RelV p.2 q.2
def PPs (X:Cx) (pos:Pos) (keys:List (Option Expr)) (values:List Expr) (trs:List (TE×TE)):Prop:=
 ∀(pins:List (Addr×Obj)) (s:t0) (σ:St) (H:Hp) (Q:List (V×V)->Hp->Prop),Inv X pins σ H s->tPairs trs σ H Q->
  U0 (B1 X.prog X.w) X.A (evalPairs (pairTrees keys values X.env pos)) (λ vs s'=>∃ps H',Inv X pins σ H' s'/\VV ps vs/\Q ps H') X.xe s
theorem zj7 {X:Cx} {pos:Pos}:PPs X pos [] [] []:=λ a s σ H Q I h=>pairTrees_nil_walk ⟨[],H,I,.nil,h⟩
theorem zbz {X:Cx} {pos:Pos} {k v:Expr} {ks:List (Option Expr)} {vs:List Expr} {tk tv:TE} {trs:List (TE×TE)} (hk:PE X k tk) (hv:PE X v tv) (hr:PPs X pos ks vs trs) :
  PPs X pos (some k :: ks) (v :: vs) ((tk,tv) :: trs):=λ a s σ H Q I h=>
 pairTrees_cons_walk (thn (hk a s σ H _ I h) λ u c ⟨x,H1,I1,rx,q1⟩=>thn (hv a c σ H1 _ I1 q1) λ d b ⟨y,H2,I2,ry,q2⟩=>thn (hr a b σ H2 _ I2 q2) λ e f ⟨ps,H3,I3,rel,q3⟩=>⟨(x,y) :: ps,H3,I3,.cons ⟨rx,ry⟩ rel,q3⟩)
noncomputable def mergeK (kvs more:List (Key×V)):List (Key×V):=more.foldl (λ acc kv=>putK acc kv.1 kv.2) kvs
theorem KV.merge :∀{more:List (Key×V)} {rs:List (Key×Value)} {kvs:List (Key×V)} {vs:List (Key×Value)},KV more rs->KV kvs vs->KV (mergeK kvs more) (merged vs rs):=by
 intro more rs kvs vs r;unfold KV at r;induction r generalizing kvs vs with
 | nil=>intro q;exact q
 | @cons p q ps qs h t ih=>
  intro a;have e:KV (putK kvs p.1 p.2) (stored vs q.1 q.2):=by have:=a.put p.1 h.2;rw [<-h.1];exact this
  exact ih e
theorem z5s :∀(more kvs:List (Key×V)),(mergeK kvs more).length<=kvs.length + more.length
 | [],kvs=>by show kvs.length<=kvs.length + 0;omega
 | p :: r,kvs=>by have a:=z5s r (putK kvs p.1 p.2);have b:=z5e kvs p.1 p.2;show (mergeK (putK kvs p.1 p.2) r).length<=_;rw [P0];omega
theorem z9g {P:Program} {w:S0} :∀{kvs:List (Key×V)} {ws:List (Value×Value)},VV (kvs.map λ kv=>(kV kv.1,kv.2)) ws->∃rs,Carries (z13 P w) ws rs/\KV kvs rs
 | [],_,r=>by rw [D4] at r;cases r;exact ⟨[],True.intro,.nil⟩
 | p :: kvs,_,r=>by
  rw [j1] at r;cases r with
  | @cons a b as bs h t=>obtain ⟨rs,c,q⟩:=z9g (P:=P) (w:=w) t;obtain ⟨e,d⟩:=b;exact ⟨(p.1,d) :: rs,⟨kV_is h.1,rfl,c⟩,.cons ⟨rfl,h.2⟩ q⟩
noncomputable def tDisp (trs:List (TE×TE)):TE:=λ σ H Q=>∀p,H p=none->tPairs trs σ (upd H p (.dK [])) λ ps H2=>H2 p=some (.dK [])/\∃kvs:List (Key×V),ps=kvs.map (λ kv=>(kV kv.1,kv.2))/\kvs.length<=15/\Q (.ref p) (upd H2 p (.dK (mergeK [] kvs)))
theorem zjk {X:Cx} {pos:Pos} {keys:List (Option Expr)} {values:List Expr} {trs:List (TE×TE)} (h:PPs X pos keys values trs) (hall:keys.all (·.isSome)=true) (hl:keys.length=values.length) (h0:keys≠[])
  (h15:keys.length<=15):PE X (.Dict keys values pos) (tDisp trs):=by
 intro l s σ H Q I q;have m:=I.hok.fresh (u0 s.heap.objs.size);have g:=I.laid (a:=s.heap.objs.size) (o:=.dK []) (h':=s.heap.push { cls:=.type "dict",data:=.dict #[] }) (t':=s.toks) (λ _ _ q=>D0 _ q) (u0 _) (zfp s.heap I.big);refine wpAny_Dict_walk (knd:=z13 X.prog X.w) hall hl h0 h15 (thn (h l _ σ _ _ g (q _ m)) λ v x ⟨ps,H2,I2,rel,e,kvs,ep,lk,q2⟩=>?_);subst ep;obtain ⟨d,c,p⟩:=z9g (P:=X.prog) (w:=X.w) rel;obtain ⟨z,j,u,i,k⟩:=dk_of I2.hok e;cases i;refine ⟨d,c,k,λ h' b r=>⟨.ref s.heap.objs.size,_,?_,rfl,q2⟩⟩;have t:(mergeK [] kvs).length<=sizeLine:=by have n:=z5s kvs [];rw [t8] at n;rw [sizeLine_eq];omega
 have f :∃q,h'.get? s.heap.objs.size=some q:=let ⟨q,_,_,hq,_⟩:=b;⟨q,hq⟩;exact z9t I2 (by rw [e];exact True.intro) r f (dk_new t j (p.merge .nil) b)
structure M1 (X:Cx) (o:Expr) (m:Str) (apos:Pos) (e:Expr) (cpos:Pos):Prop where
 base:T3 o m X.env (u3 o X.env)=u3 o X.env
 few:((A4 cpos (N1 [e] X.env)).all (λ x=>!x.1) && (G9 cpos (K6 [] X.env)).all (λ x=>x.1.isSome)
  && decide (([e]:List Expr).length + ([]:List c6).length + (if ([]:List c6).isEmpty then 0 else 1) < 30))=true
 line:(apos.endLine == cpos.line)=true
 trees:A4 cpos (N1 [e] X.env)=[(false,u3 e X.env)]
structure M2 (X:Cx) (o:Expr) (m:Str) (apos:Pos) (e f:Expr) (cpos:Pos):Prop where
 base:T3 o m X.env (u3 o X.env)=u3 o X.env
 few:((A4 cpos (N1 [e,f] X.env)).all (λ x=>!x.1) && (G9 cpos (K6 [] X.env)).all (λ x=>x.1.isSome)
  && decide (([e,f]:List Expr).length + ([]:List c6).length + (if ([]:List c6).isEmpty then 0 else 1) < 30))=true
 line:(apos.endLine == cpos.line)=true
 trees:A4 cpos (N1 [e,f] X.env)=[(false,u3 e X.env),(false,u3 f X.env)]
def IsD (H:Hp) (a:Addr):Prop:=(∃kvs,Rd H a (.dK kvs))\/∃kvs,Rd H a (.dT kvs)
theorem isD_at {X:Cx} {pins:List (Addr×Obj)} {σ:St} {H:Hp} {s:t0} {a:Addr} (I:Inv X pins σ H s) (d:IsD H a) :
  s.TypeIs (.ref a) "dict"/\(∀b,A1 a=.ref b->∃ob,s.heap.get? b=some ob/\ob.dict=none)/\(a == i3)=false:=by
 rcases d with ⟨i,e⟩|⟨i,e⟩
 ·obtain ⟨_,h,k,_,c⟩:=dk_rd I.hok e;refine ⟨c.typeIs,λ b q=>?_,h⟩;cases q;obtain ⟨ob,_,_,f,g,_⟩:=c;exact ⟨ob,f,g.2.1⟩
 ·obtain ⟨_,h,j,_,c⟩:=dt_rd I.hok e;refine ⟨c.typeIs,λ b q=>?_,h⟩;cases q;obtain ⟨ob,_,_,f,g,_⟩:=c;exact ⟨ob,f,g.2.1⟩
section
variable {X:Cx} {pins:List (Addr×Obj)} {σ:St} {H:Hp} {s:t0} {a:Addr} {y d:V} {u r:Value} {o:Option V} {A:X1} {E:Value->t0->Prop}
theorem d_get2 {Q:Value->t0->Prop} (hu:A.units + 1 < cLine) (I:Inv X pins σ H s) (g:DGet H a y o) (ry:RelV y u) (rd:RelV d r) (h :∀w' s',Inv X pins σ H s'->RelV (o.getD d) w'->Q w' s') :
  U0 (B1 X.prog X.w) A (call (.builtin "dict.get") [.ref a,u,r]) Q E s:=by
 rcases g with ⟨n,k,e,f,l⟩|⟨n,k,b,e,f,eb,l⟩
 ·subst f;obtain ⟨z,j,p,i,c⟩:=dk_rd I.hok e;refine call_meetsIn Q7 c.typeIs j17 (j0i _ _ _) (meets_dict_get_default (z13 X.prog X.w) a (kV_is ry) j r) ⟨_,c.mapOf,h _ _ (I.tok _) ?_⟩;rw [l];exact (i.val k).getD rd
 ·subst f;cases (show u=A1 b from ry);obtain ⟨z,j,m,i,c⟩:=dt_rd I.hok e;refine call_meetsIn Q7 c.typeIs j17 (j0i _ _ _) (meetsH_dict_get_default (R5 (z13 X.prog X.w)) a b j r) ⟨E7 hu,k,m,key_of I.hok eb,c,h _ _ (I.tok _) ?_⟩;rw [l];exact (i.val k).getD rd
end
noncomputable def tDGet2 (td ty tx:TE):TE:=λ σ H Q=>td σ H λ x H1=>∃a,x=.ref a/\IsD H1 a/\ty σ H1 λ y H2=>tx σ H2 λ z H3=>∃o,DGet H3 a y o/\Q (o.getD z) H3
noncomputable def tDPop1 (td ty:TE):TE:=λ σ H Q=>td σ H λ x H1=>∃a,x=.ref a/\IsD H1 a/\ty σ H1 λ y H2=>∃kvs k v,H2 a=some (.dK kvs)/\y=kV k/\valV kvs k=some v/\Q v (upd H2 a (.dK (dropK kvs k)))
section
variable {X:Cx} {o e f:Expr} {apos cpos:Pos} {td ty tx:TE}
theorem zk9 (hu:X.A.units + 1 < cLine) (ho:PE X o td) (he:PE X e ty) (hf:PE X f tx) (m:M2 X o "get" apos e f cpos):PE X (.Call (.Attribute o "get" apos) [e,f] [] cpos) (tDGet2 td ty tx):=by
 intro b s σ H Q I h;refine wpAny_Call_method m.base m.few m.line j0h Q7 PySem.F.type_dict_get (thn (ho b s σ H _ I h) λ u n ⟨x,H1,I1,rx,a,ex,d,q1⟩=>?_);subst ex;obtain rfl:u=A1 a:=rx;obtain ⟨j,l,_⟩:=isD_at I1 d;refine ⟨j,l,?_⟩;rw [m.trees];refine F5 rfl (G8 (u5 (thn (he b n σ H1 _ I1 q1) λ v k ⟨y,H2,I2,ry,q2⟩=>u5 (thn (hf b k σ H2 _ I2 q2) λ t q ⟨z,H3,I3,rz,ov,g,q3⟩=>Z6 ?_))));exact d_get2 hu I3 g ry rz λ r p c i=>⟨_,H3,c,i,q3⟩
theorem zk4 (ho:PE X o td) (he:PE X e ty) (m:M1 X o "pop" apos e cpos):PE X (.Call (.Attribute o "pop" apos) [e] [] cpos) (tDPop1 td ty):=by intro b s σ H Q I h;refine wpAny_Call_method m.base m.few m.line j0h j1f PySem.F.type_dict_pop (thn (ho b s σ H _ I h) λ u g ⟨x,H1,I1,rx,a,ex,d,q1⟩=>?_);subst ex;obtain rfl:u=A1 a:=rx;obtain ⟨f,c,_⟩:=isD_at I1 d;refine ⟨f,c,?_⟩;rw [m.trees];refine F5 rfl (G8 (u5 (thn (he b g σ H1 _ I1 q1) λ p n ⟨y,H2,I2,ry,kvs,k,v,ea,ey,l,q2⟩=>Z6 ?_)));subst ey;exact d_pop I2 ea ry l (.inl rfl) λ q r i j=>⟨v,_,i,j,q2⟩
end
end L2
namespace Att
open PySem PySem.W PySem.Calls PyProof.Rows
theorem z7a {P:N0} {h:Heap} :∀(ns:List Int) (vs:List Value),WellAll P h vs (ns.map WData.int)->R8 vs ns:=by
 intro ns;induction ns with
 | nil=>intro vs w;rw [D4] at w;cases w;exact .nil
 | cons n ns ih=>
  intro vs w;rw [j1] at w;cases w with
  | cons a b=>cases a;exact .cons _ _ (ih _ b)
theorem zi6 {l:OpenLaw} {n:Nat} (hn:l.most=some n) {P:N0} {h:Heap} {args:List WData} {vals:List Value}
  (hpre:l.row.toRowW.claim.pre args=true) (hwl:WellAll P h vals args) :
  ∃a vs ns,vals=[A1 a]/\args=[WData.list (ns.map WData.int)]/\h.get? a=some { cls:=.type "list",data:=.seq vs.toArray }/\R8 vs ns/\ns.length<=n:=by
 have k:WShape.hasAll [] args [.list .int]=true:=(pre_splitW hpre).1;have e:l.pre.holds [] { args:=args }=true:=(pre_splitW hpre).2;obtain ⟨d,r,rfl,f,i⟩:=hasAllW_cons k;obtain rfl:=hasAllW_nil i;obtain ⟨o,rfl,m⟩:=hasW_list f;obtain ⟨ns,rfl⟩:=items_int m;have j:ns.length<=n:=by
  unfold OpenLaw.pre at e;have b:(WTm.not (.lt (.lit (.int (n:Int))) (.len (.arg 0)))).holds [] { args:=[.list (ns.map .int)] }=true:=by have b:=(holds_andW e).1;rw [hn] at b;exact b
  have c:=condW_of b (w_not (w_lt w_lit (w_len_list (w_arg rfl))));rw [F0] at c;refine j05 λ q=>?_;have g:(n:Int) < ((ns.length:Nat):Int):=by omega
  first
   | (rw [decide_eq_true g] at c;exact absurd c (by decide))
   | (simp at c;omega)
 cases hwl with
 | cons w1 w2=>
  cases w2;cases w1 with
  | list ho hall=>exact ⟨_,_,ns,rfl,rfl,ho,z7a ns _ hall,j⟩
theorem zig (l:OpenLaw) (args:List WData):l.row.toRowW.claim.post args (.bool true) args=true:=
 postW_of (r:=l.row.toRowW) (X:=(true == true))
  (show WShape.has [] (.bool true) .bool=true by first|rfl|decide|simp [WShape.has,WShape.arms,WShape.armsAll])
  (show (WTm.eq .res (.lit (.bool true))).value [] { args:=args,res:=some (.bool true),after:=args }=some (.bool (true == true)) from w_eq_bool (w_res rfl) w_lit) rfl
theorem attach_call {l:OpenLaw} {n:Nat} {q:Program} {loose:List Str} {XP:(Str->Option Value)->Heap->Prop} {YP:S0->Heap->Prop} {d:DefRec}
  (hn:l.most=some n) (hdf:d.params.defaults=[])
  (call :∀(w:S0) (s₀ s₁:t0) (mg mb:Str->Option Value) (fa:Addr) (o:Obj) (pm cd doc:Value) (a:Addr) (vs:List Value) (ns:List Int),
   Ground q loose [] XP w s₀ mg mb s₁.heap->YP w s₁.heap->
   s₁.heap.get? fa=some o->o.data=.func (docDef d.name d.params d.body d.scope pm cd doc)->s₁.heap.CodeRec cd d.name->mg d.name=some (.ref fa)->
   s₁.heap.get? a=some { cls:=.type "list",data:=.seq vs.toArray }->R8 vs ns->ns.length<=n->s₁.gens = #[]->
   N9 (B1 l.prog w) j0e (.call (.ref fa) ⟨[.ref a],[]⟩) (λ r s'=>r=.ok (.ret (.bool true))/\OldK s₁.heap s'.heap/\s'.os=s₁.os/\b8 s'.gens) s₁) :
  WalkO q loose XP YP l.row.toRowW d [] (λ f vs=>PySem.call f vs):=by
 intro w s₀ s₁ mg mb G Y fa o pm cd doc u kV s m p b j y E F D t C B i A;obtain rfl:u=.none:=Dflts.none b hdf;obtain rfl:kV=.none:=Dflts.noKw b;obtain ⟨a,vs,ns,rfl,rfl,z,k,v⟩:=zi6 hn t i;refine enter_call (j0d (call w s₀ s₁ mg mb fa o pm cd doc a vs ns G Y s (fd_plain m) p j z k v y) λ r s' x=>?_);obtain ⟨rfl,h,g,e⟩:=x;exact ⟨.inl ⟨.bool true,.bool true,[],rfl,λ _=>rfl,.bool true,zig l _,λ _=>⟨j11,λ _ c=>(nomatch c)⟩⟩,h,g,e⟩
end Att
namespace L2
open PySem PySem.Spec PyProof.Rows
theorem z8c :∀{vs:List Value} {ns:List Int},R8 vs ns->Vals (ns.map V.int) vs
 | _,_,.nil=>.nil
 | _,_,.cons n t h=>.cons ⟨t,rfl⟩ (z8c h)
def Only (H:Hp):Prop:=∀b,H b=none\/∃o xs,H b=some (.frz o (.lst xs))
theorem zkc {P:Program} {w:S0} {K:b0} {mg mb:Str->Option Value} {CX:CXT} {k:Nat} {fa a:Addr} {fd:FuncData} {x:Str} {sp:Sp} {s₁:t0} {vs:List Value} {ns:List Int}
  (KX:K.In s₁.heap) (hns:s₁.heap.Ns W2 mg) (hb:s₁.heap.Ns builtinsNs mb) (hbb :∀x:Str,x≠"__name__"->mb x=c7 x) (hlim:s₁.heap.NoLimit) (hg:s₁.gens = #[])
  (ha:s₁.heap.get? a=some { cls:=.type "list",data:=.seq vs.toArray }) (hi:R8 vs ns) (hl:ns.length<=sizeLine) (hr:Room k j0e)
  (F :∀base:Heap,K.In base->base.Ns W2 mg->FnOk P w K mg base CX k fa fd [x] sp) (hbind :∀(s:t0) (u:Value),BindsTo s fd ⟨[u],[]⟩ [(x,u)])
  (hsp :∀H:Hp,Only H->SqL K H a (ns.map V.int)->sp [.ref a] H (λ v _=>v=.bl true) λ _ _ _=>False)
  (hCX :∀H e s',CX [] H s₁ (λ _ _ _=>False) e s'->False) :
  N9 (B1 P w) j0e (.call (.ref fa) ⟨[.ref a],[]⟩) (λ r s'=>r=.ok (.ret (.bool true))/\OldK s₁.heap s'.heap/\s'.os=s₁.os/\b8 s'.gens) s₁:=by
 have i:=z8c hi;have G:=hi.length
 -- from an abstract heap in which nothing but the script may be tracked
 have j :∀H:Hp,Only H->SqL K H a (ns.map V.int)->HOk P w H s₁.heap->(∀b,H b≠none->b=a)->(H a≠none->K.lookup a=none)->
   N9 (B1 P w) j0e (.call (.ref fa) ⟨[.ref a],[]⟩) (λ r s'=>r=.ok (.ret (.bool true))/\OldK s₁.heap s'.heap/\s'.os=s₁.os/\b8 s'.gens) s₁:=by
  intro H l S A p Q;have t :∀{b:Addr} {o:Obj},s₁.heap.get? b=some o->H b=none->(hidT s₁.heap H).get? b=some o:=λ e n=>zjq e n;have C :∀{b:Addr} {o:Obj} {es:Array DictEntry} {ep:Nat},s₁.heap.get? b=some o->o.data=.dict es ep->H b=none:=λ {b o es ep} e d=>by
   cases q:H b with
   | none=>rfl
   | some u=>have g:b=a:=p b (by rw [q];simp);subst g;rw [ha] at e;cases e;have N:Data.seq vs.toArray _=Data.dict es ep:=d;cases N
  have f :∀{b:Addr} {m:Str->Option Value},s₁.heap.Ns b m->(hidT s₁.heap H).Ns b m:=λ {b m} ⟨o,es,ep,e,d,r⟩=>⟨o,es,ep,t e (C e d),d,r⟩
  have B:K.In (hidT s₁.heap H):=λ b o e=>t (KX b o e) (by
   cases q:H b with
   | none=>rfl
   | some u=>have g:b=a:=p b (by rw [q];simp);subst g;rw [Q (by rw [q];simp)] at e;cases e)
  have J:Mod K mg (hidT s₁.heap H):=⟨B,f hns,⟨mb,f hb,hbb⟩,let ⟨mc,h1,h2⟩:=hlim;⟨mc,f h1,h2⟩⟩
  have R:Env0 P w K mg (hidT s₁.heap H) j0e [] s₁ H:=⟨rfl,J,λ b o e=>zlu e,P5 (zib _ _),trivial,λ b hb=>absurd (show b∈([]:List Addr) from hb) (by simp),A,.of_eq hg⟩
  refine j0d ((F _ B (f hns)).run j0e [] s₁ H ⟨[.ref a],[]⟩ [.ref a] [.ref a] _ _ hr R (hbind s₁ (.ref a)) (.cons rfl .nil) (hsp H l S)) λ r s' h=>?_;cases r with
  | error e=>exact (hCX H e s' h).elim
  | ok fl=>
   cases fl with
   | next=>exact L3 h
   | brk=>exact L3 h
   | cont=>exact L3 h
   | ret u=>
    obtain ⟨v,T,os,E,un,I,L,q⟩:=h;have M:v=.bl true:=q;subst M;obtain rfl:u=C4 true:=L;refine ⟨rfl,OldK.of_keep λ b o e=>?_,os,E⟩;cases q:H b with
    | none=>exact un.keep b o e q (by intro z;exact absurd (show b∈([]:List Addr) from z) (by simp)) (by simp)
    | some u=>
     rcases l b with z|⟨ob,xs,z⟩
     ·rw [q] at z;cases z
     ·have D:=un.frzs b ob _ z;obtain ⟨y,_⟩:=A b _ z;obtain ⟨O,_⟩:=I b _ D;rw [e] at y;cases y;exact O
 cases hk:K.lookup a with
 | some o=>
  -- the script is one of the module's own objects
  have e:=KX a o hk;rw [ha] at e;cases e;refine j (λ _=>none) (λ _=>.inl rfl) (.inr ⟨_,vs.toArray,_,hk,rfl,rfl,rfl,by rw [L0,G];exact hl,by simpa using i⟩) (λ b u z=>by have c:(none:Option HO)=some u:=z;cases c) (λ b z=>absurd rfl z) λ z=>absurd rfl z
 | none=>
  refine j (λ b=>if b=a then some (.frz { cls:=.type "list",data:=.seq vs.toArray } (.lst (ns.map V.int))) else none) (λ b=>?_) (.inl (.inr ⟨{ cls:=.type "list",data:=.seq vs.toArray },if_pos rfl⟩)) (λ b u z=>?_) (λ b z=>?_) λ _=>hk
  ·by_cases hb:b=a
   ·exact .inr ⟨_,_,if_pos hb⟩
   ·exact .inl (if_neg hb)
  ·by_cases hb:b=a
   ·have c:=(if_pos hb).symm.trans z;cases c;subst hb;exact ⟨ha,by rw [F0];exact hl,vs,_,i,ha⟩
   ·have c:=(if_neg hb).symm.trans z;cases c
  ·by_cases hb:b=a
   ·exact hb
   ·exact absurd (if_neg hb) z
theorem walk_of {l:PySem.W.OpenLaw} {n k:Nat} {q:Program} {loose:List Str} {XP:(Str->Option Value)->Heap->Prop} {YP:S0->Heap->Prop} {d:DefRec} {K:N0->b0} {CX:S0->CXT} {sp:S0->Sp} {x:Str}
  (hn:l.most=some n) (hn2:n<=sizeLine) (hdf:d.params.defaults=[]) (hr:Room k j0e)
  (hY :∀(w:S0) (h:Heap),YP w h->(K w.params).In h)
  (F :∀(w:S0) (mg:Str->Option Value) (fa:Addr) (h:Heap),(K w.params).In h->h.Ns W2 mg->mg d.name=some (.ref fa)->
   ∃fd:FuncData,(∀(s:t0) (u:Value),BindsTo s fd ⟨[u],[]⟩ [(x,u)])/\
    ∀base:Heap,(K w.params).In base->base.Ns W2 mg->FnOk l.prog w (K w.params) mg base (CX w) k fa fd [x] (sp w))
  (hsp :∀(w:S0) (H:Hp) (a:Addr) (ns:List Int),ns.length<=n->Only H->SqL (K w.params) H a (ns.map V.int)->sp w [.ref a] H (λ v _=>v=.bl true) λ _ _ _=>False)
  (hCX :∀(w:S0) (H:Hp) (s:t0) (e:Value) (s':t0),CX w [] H s (λ _ _ _=>False) e s'->False) :
  PySem.W.WalkO q loose XP YP l.row.toRowW d [] (λ f vs=>PySem.call f vs):=by
 refine Att.attach_call hn hdf λ w L j mg I fa o M B D a vs ns G Y J C E i A p c z=>?_;have KX:=hY w _ Y;obtain ⟨fd,t,r⟩:=F w mg fa _ KX G.T.g i;exact zkc KX G.T.g G.T.b G.T.builtins G.T.nolimit z A p (C0 c hn2) hr r t (λ H m y=>hsp w H a ns c m y) λ H e s'=>hCX w H j e s'
noncomputable def z9w (s:Stmt):Arguments:=match s with
 | .FunctionDef _ a _ _ _ _ _ _ _ _=>a
 | _=>{ posonlyargs:=[],args:=[],vararg:=none,kwonlyargs:=[],kw_defaults:=[],kwarg:=none,defaults:=[] }
noncomputable def z6g (s:Stmt):List Stmt:=match s with
 | .FunctionDef _ _ b _ _ _ _ _ _ _=>b
 | _=>[]
noncomputable def z06 (s:Stmt):Scope:=match s with
 | .FunctionDef _ _ _ _ _ _ sc _ _ _=>sc
 | _=>{ kind:=.function,names:=[],isGenerator:=false,isCoroutine:=false }
noncomputable abbrev CX0:CXT:=λ _ _ _ _ _ _=>False
noncomputable abbrev E0:XK:=λ _ _ _=>False
theorem pass0 {X:Cx}:Passes CX0 X E0:=λ _ _ _ _ _ _ _ h=>h.elim
structure Fun (K:b0) (x qual:Str) (st:Stmt) (f:Addr) (fd:FuncData):Prop where
 ex :∃(oc:Value) (od:Option Addr) (kV doc pm:Value) (an:Option Addr) (cdv ct:Value) (osl:Array (Option Value)),
  fd=B5 x qual (z9w st) (z6g st) (z06 st) .none kV doc pm an cdv ct/\K.lookup f=some ⟨oc,od,.func fd,osl⟩/\j8 K cdv qual=true
 kp:j3 K (.ref f)=true
section
variable {P:Program} {w:S0} {K:b0} {mg:Str->Option Value} {base:Heap}
theorem Fun.ok {x qual:Str} {st:Stmt} {f:Addr} {fd:FuncData} {N ps:List Str} {k:Nat} {sp:Sp} (F:Fun K x qual st f fd) (S:FnScope N ps (z06 st)) (len :∀vs H Q E,sp vs H Q E->vs.length=ps.length)
  (hbody :∀(cdv:Value) (A:X1) (outer:List Env) (s:t0) (H:Hp) (vs:List V) (Q:VK) (E:XK),Room k (A.deeper (N8 qual (z06 st) s.heap.objs.size f cdv))->sp vs H Q E->
   ∃t,PSs (cxOf CX0 P w K mg base N qual (z06 st) f cdv A outer s H E).nox (z6g st) t/\t { nx:=λ _ H'=>Q .non H',rt:=Q } (start N vs) H):FnOk P w K mg base CX0 (k + 1) f fd ps sp:=by
 obtain ⟨i,e,kV,n,l,j,cdv,g,m,rfl,d,b⟩:=F.ex;refine fn_of d b S len λ A outer s H vs Q E a c=>?_;obtain ⟨t,h,q⟩:=hbody cdv A outer s H vs Q E a c;exact ⟨t,h.nox,q⟩
theorem Fun.binds {x qual:Str} {st:Stmt} {f:Addr} {fd:FuncData} {ps:List Str} (F:Fun K x qual st f fd)
  (h :∀(kV doc pm:Value) (an:Option Addr) (cdv ct:Value) (us:List Value),us.length=ps.length->bindArgs (B5 x qual (z9w st) (z6g st) (z06 st) .none kV doc pm an cdv ct) ⟨us,[]⟩=Y2 (ps.zip us)):Binds K fd ps []:=by
 obtain ⟨c,b,kV,doc,pm,an,cdv,ct,e,rfl,d,a⟩:=F.ex;exact .all (h kV doc pm an cdv ct)
theorem fun_mk {x qual:Str} {st:Stmt} {f:Addr} {oc:Value} {od an:Option Addr} {osl:Array (Option Value)} {kV doc pm cdv ct:Value} (l:K.lookup f=some ⟨oc,od,.func (B5 x qual (z9w st) (z6g st) (z06 st) .none kV doc pm an cdv ct),osl⟩)
  (c:j8 K cdv qual=true) (k:j3 K (.ref f)=true):Fun K x qual st f (B5 x qual (z9w st) (z6g st) (z06 st) .none kV doc pm an cdv ct):=⟨⟨oc,od,kV,doc,pm,an,cdv,ct,osl,rfl,l,c⟩,k⟩
end
theorem hu_of {A:X1} {k:Nat} (hr:Room k A):A.units + 1 < cLine:=O1 (Nat.add_le_add_left (by decide:1<=64) _) hr.units
section
variable {X:Cx}
theorem pv (i:Nat) {x:Str} {pos:Pos} (hN:X.N[i]? = some x:=by rfl) (hv:Vis X.env.scope x:=by first|exact Y0 rfl|exact X0 (Y0 rfl)|exact X0 (X0 rfl)) (hd:(x == ("__debug__" : Str))=false:=by decide)
  (hcd:(x == ("__classdict__" : Str))=false:=by decide):PE X (.Name x pos) (tVar i):=pe_var hN hv hd hcd
end
theorem iteF {A B:Prop} (h:B):if false=true then A else B:=by rw [if_neg M0];exact h
theorem iteT {A B:Prop} (h:A):if true=true then A else B:=by rw [if_pos rfl];exact h
theorem ite2 {c A B:Prop} [Decidable c] (h1:c->A) (h2:¬ c->B):if c then A else B:=by
 by_cases h:c
 ·rw [if_pos h];exact h1 h
 ·rw [if_neg h];exact h2 h
def Same (H H':Hp):Prop:=∀b o,H b=some o->H' b=some o
theorem Same.refl (H:Hp):Same H H:=λ _ _ h=>h
theorem Same.trans {H H1 H2:Hp} (a:Same H H1) (b:Same H1 H2):Same H H2:=λ c o h=>b c o (a c o h)
theorem Same.free {H H':Hp} (e:Same H H') {l:Addr} (h:H' l=Option.none):H l=Option.none:=by
 cases q:H l with
 | none=>rfl
 | some o=>rw [e l o q] at h;cases h
theorem Same.seq {K:b0} {H H':Hp} {a:Addr} {xs:List V} (e:Same H H') (h:SqL K H a xs):SqL K H' a xs:=by
 rcases h with (h|⟨o,h⟩)|h
 ·exact .inl (.inl (e _ _ h))
 ·exact .inl (.inr ⟨o,e _ _ h⟩)
 ·exact .inr h
section
variable {κ:Type} [DecidableEq κ]
theorem zch {p:κ×V} {r:List (κ×V)} {k:κ} (e:p.1=k):dropK (p :: r) k=dropK r k:=by unfold dropK;rw [y4,if_neg (by simp [e])]
theorem zcj {p:κ×V} {r:List (κ×V)} {k:κ} (e:¬ p.1=k):dropK (p :: r) k=p :: dropK r k:=by unfold dropK;rw [y4,if_pos (by simp [e])]
end
end L2
set_option maxHeartbeats 4000000
namespace L2
open PySem PySem.Spec PyProof.Rows
section
variable {prog:Program} {w:S0} {A:X1} {R:Result->t0->Prop} {s:t0}
theorem zhh {elt target iter:Expr} {ifs:List Expr} {scope:Scope} {pos:Pos} {it acc:Value} {env:Env} (J:Nat->t0->Prop)
  (turn :∀n s,J n s->U0 (B1 prog w) A (j30 it) (λ r s₁=>match r with
   | none=>R (.ok .next) s₁
   | some v=>U0 (B1 prog w) A (V8 target it v) (λ _ s₂=>U0 (B1 prog w) A (assign target env v) (λ _ s₃=>
     U0 (B1 prog w) A (E9 ifs true λ c r=>if r=true then do let ok <-isTrue c env (u3 c env);Y2 (E2 ok) else Y2 (E2 r)) (λ ok s₄=>
      if ok=true then U0 (B1 prog w) A (u3 elt env) (λ x s₅=>U0 (B1 prog w) A (call (.builtin "list.append") [acc,x]) (λ _ s₆=>∃m,m < n/\J m s₆) (λ _ _=>False) s₅) (λ _ _=>False) s₄
      else∃m,m < n/\J m s₄) (λ _ _=>False) s₃) (λ _ _=>False) s₂) (λ _ _=>False) s₁) (λ _ _=>False) s)
  (n:Nat) (h:J n s):N9 (B1 prog w) A (.compLoop (.ListComp elt [⟨target,iter,ifs,0⟩] scope pos) 0 it acc env) R s:=by
 refine codeAny_loop rfl J (λ n s j=>?_) n h;show U0 _ A ((compTurn (.ListComp elt [⟨target,iter,ifs,0⟩] scope pos) 0 it acc env).onRaise (λ x=>do noteFrame x env;theTreesLotGoes x)) _ _ s;refine wpAny_noted ?_;rw [compTurn_list];refine d0 (wpAny_standAt (d0 (d3 (turn n s j) (λ r s₁ b=>?_) λ _ _ f=>f.elim)));cases r with
 | none=>exact G0 b
 | some v=>
  refine d0 (d3 b (λ _ s₂ g=>d0 (d3 g (λ _ s₃ d=>d0 (d3 d (λ ok s₄ a=>?_) λ _ _ f=>f.elim)) λ _ _ f=>f.elim)) λ _ _ f=>f.elim);cases ok with
  | false=>exact G0 ⟨rfl,a⟩
  | true=>exact d0 (d0 (d3 a (λ x s₅ e=>d0 (d3 e (λ _ s₆ i=>G0 (G0 ⟨rfl,i⟩)) λ _ _ f=>f.elim)) λ _ _ f=>f.elim))
end
theorem z3z {env:Env} :∀(names:List (Str×i5)) (acc:List (Str×Addr)),(∀y∈names,y.2=V1->∃c,env.cells.lookup y.1=some c)->(∀y c,acc.lookup y=some c->env.cells.lookup y=some c)->
  ∃cl,(E9 names acc λ (x:Str×i5) (r:List (Str×Addr))=>(match x with
    | (name,kind)=>if (kind == V1)=true then do let c <-cellOf env name;Y2 (E2 ((name,c) :: r)) else Y2 (E2 r):Sem (ForInStep (List (Str×Addr)))))=Y2 cl/\
   (∀y c,cl.lookup y=some c->env.cells.lookup y=some c)/\(∀y,((y,V1)∈names\/∃c,acc.lookup y=some c)->∃c,cl.lookup y=some c)
 | [],acc,_,ha=>⟨acc,by rw [V4],ha,λ y h=>h.elim (λ z=>nomatch z) id⟩
 | (n,k) :: r,acc,hf,ha=>by
  rw [o5];dsimp only;by_cases hk:k=V1
  ·subst hk;obtain ⟨c,j⟩:=hf (n,.free) R0 rfl;have e:cellOf env n=Y2 c:=by unfold cellOf;rw [j]
   rw [if_pos (by rfl),e];obtain ⟨cl,f,g,i⟩:=z3z r ((n,c) :: acc) (λ y a=>hf y (W0 _ a)) (λ y d b=>by
    rw [j4] at b;by_cases a:(y == n)=true
    ·rw [a] at b;have:=eq_of_beq a;subst this;cases b;exact j
    ·rw [j02] at a;rw [a] at b;exact ha y d b)
   refine ⟨cl,f,g,λ y a=>i y ?_⟩;rcases a with a|⟨d,b⟩
   ·rcases List.mem_cons.mp a with z|z
    ·cases z;exact .inr ⟨c,by rw [j4];simp⟩
    ·exact .inl z
   ·refine .inr ?_;rw [j4];by_cases a:(y == n)=true
    ·rw [a];exact ⟨c,rfl⟩
    ·rw [j02] at a;rw [a];exact ⟨d,b⟩
  ·rw [if_neg (by simpa using hk)];obtain ⟨cl,f,g,i⟩:=z3z r acc (λ y a=>hf y (W0 _ a)) ha;refine ⟨cl,f,g,λ y a=>i y ?_⟩;rcases a with a|a
   ·rcases List.mem_cons.mp a with z|z
    ·cases z;exact absurd rfl hk
    ·exact .inl z
   ·exact .inr a
theorem zf0 {scope:Scope} {env:Env} (hf :∀y∈scope.names,y.2=V1->∃c,env.cells.lookup y.1=some c) :
  ∃cl,closureFor scope env=Y2 cl/\(∀y c,cl.lookup y=some c->env.cells.lookup y=some c)/\(∀y,(y,V1)∈scope.names->∃c,cl.lookup y=some c):=by
 obtain ⟨cl,a,d,e⟩:=z3z (env:=env) scope.names [] hf (λ _ _ z=>nomatch z);refine ⟨cl,?_,d,λ y b=>e y (.inl b)⟩;simp only [closureFor];rw [a];rfl
theorem mem_of_lookup {κ:Type} {y:Str} {k:κ} :∀{l:List (Str×κ)},l.lookup y=some k->(y,k)∈l
 | (n,c) :: r,h=>by
  rw [j4] at h;by_cases hy:(y == n)=true
  ·rw [hy] at h;cases h;rw [eq_of_beq hy];exact R0
  ·rw [j02] at hy;rw [hy] at h;exact W0 _ (mem_of_lookup h)
theorem z6n {scope:Scope} {env:Env} (hcell :∀y∈scope.names,y.2≠NameKind.cell) {y:Str} {k:i5} (h:(V7 scope env).names.lookup y=some k) (hk:k=.cell\/k=.free):(y,V1)∈scope.names:=by
 have m:=mem_of_lookup h;unfold V7 at m;obtain ⟨⟨n,c⟩,a,e⟩:=List.mem_map.mp m;dsimp only at e;by_cases hc:(c == V1)=true
 ·have:=eq_of_beq hc;subst this;split at e<;>(injection e with e1 e2;subst e1;exact a)
 ·rw [if_neg (by simp [hc])] at e;injection e with e1 e2;subst e1 e2;rcases hk with rfl|rfl
  ·exact absurd rfl (hcell _ a)
  ·exact absurd rfl hc
noncomputable abbrev cxComp (X:Cx) (scope:Scope) (cl:List (Str×Addr)) (N:List Str) (C:Addr) (s₂:t0) (H₂:Hp) (fp:List Addr):Cx:=
 { X with N:=N,s₀:=s₂,H₀:=H₂,env:=compEnvC scope cl C X.env,outer:=X.stack,stack:=X.stack,ex:=fp,fn:=λ _=>false,pn:=[],xe:=λ _ _=>False }
def PF (X:Cx) (ifs:List Expr) (t:TT):Prop:=
 ∀(pins:List (Addr×Obj)) (s:t0) (σ:St) (H:Hp) (Q:Bool->Hp->Prop),Inv X pins σ H s->t σ H Q->
  U0 (B1 X.prog X.w) X.A (E9 ifs true λ c r=>if r=true then do let ok <-isTrue c X.env (u3 c X.env);Y2 (E2 ok) else Y2 (E2 r)) (TP X pins σ Q) X.xe s
theorem pf_nil {X:Cx}:PF X [] (λ _ H Q=>Q true H):=λ _ _ _ H _ I h=>wpAny_tests_nil ⟨H,I,h⟩
theorem pf_one {X:Cx} {c:Expr} {t:TT} (h:PT X c t):PF X [c] t:=λ a s σ H Q I q=>wpAny_tests_one (h a s σ H Q I q)
theorem Vals.snoc {xs:List V} {us:List Value} {x:V} {u:Value} (r:Vals xs us) (q:RelV x u):Vals (xs++[x]) (us++[u]):=Vals.append r (.cons q .nil)
def TagOf (H:Hp) (x:V) (T:String):Prop:=match x with
 | .non=>T = "NoneType"
 | .bl _=>T = "bool"
 | .int _=>T = "int"
 | .str _=>T = "str"
 | .ref a=>((∃xs,H a=some (.lst xs))/\T = "list")\/((∃xs,H a=some (.tup xs))/\T = "tuple")\/((∃kvs,H a=some (.dK kvs))/\T = "dict")
 | _=>False
noncomputable def instB (T C:String):Bool:=T == C || (T == "bool" && C == "int")
theorem TagOf.ty {K:b0} {H:Hp} {x:V} {T:String} (h:TagOf H x T):TyOf K H x (.type T):=by
 cases x with
 | non=>cases (show T = "NoneType" from h);exact .non
 | bl b=>cases (show T = "bool" from h);exact .bl b
 | int i=>cases (show T = "int" from h);exact .int i
 | str z=>cases (show T = "str" from h);exact .str z
 | ref a=>
  rcases h with ⟨⟨c,e⟩,rfl⟩|⟨⟨c,e⟩,rfl⟩|⟨⟨c,e⟩,rfl⟩
  ·exact .lst e
  ·exact .tup e
  ·exact .dK e
 | _=>exact h.elim
theorem TagOf.one {H:Hp} {x:V} {T:String} (h:TagOf H x T):T = "NoneType"\/T = "bool"\/T = "int"\/T = "str"\/T = "list"\/T = "tuple"\/T = "dict":=by
 cases x with
 | non=>exact .inl h
 | bl b=>exact .inr (.inl h)
 | int i=>exact .inr (.inr (.inl h))
 | str z=>exact .inr (.inr (.inr (.inl h)))
 | ref a=>rcases h with ⟨_,rfl⟩|⟨_,rfl⟩|⟨_,rfl⟩<;>simp
 | _=>exact h.elim
noncomputable def isiC:List String:=["int","str","bool","tuple","list"]
theorem kit_of (K:b0) {T C:String} (h:T = "NoneType"\/T = "bool"\/T = "int"\/T = "str"\/T = "list"\/T = "tuple"\/T = "dict") (hC:C∈isiC):PySem.W.kitOne K (.type T) (.type C)=some (instB T C):=by
 have hC:C = "int"\/C = "str"\/C = "bool"\/C = "tuple"\/C = "list":=by simpa [isiC] using hC
 rcases h with rfl|rfl|rfl|rfl|rfl|rfl|rfl<;>rcases hC with rfl|rfl|rfl|rfl|rfl<;>kernel_rfl
section
variable {X:Cx}
theorem z0l:CallR X (.builtin "isinstance") (λ xs H Q=>∃x C T,xs=[x,.ty C]/\TagOf H x T/\C∈isiC/\Q (.bl (instB T C)) H):=by intro g s σ H xs i Q I r h;obtain ⟨x,C,T,rfl,a,e,q⟩:=h;obtain ⟨u,f,rfl,b,d⟩:=vals2 r;cases (show f=M6 C from d);exact zgs I b a.ty (kit_of X.K a.one e) λ c=>⟨.bl _,H,I.tok c,rfl,q⟩
theorem zih {ys:List V} {its:List Value} (rv:Vals ys its) (hb :∀y∈ys,∃b,y=V.bl b):((C1 its.length).all λ i=>decide (ys[i]? = some (V.bl true)))=ys.all λ y=>decide (y=V.bl true):=by
 have e:=rv.length;rw [Bool.eq_iff_iff,O7,O7];constructor
 ·intro h y d;obtain ⟨i,a,rfl⟩:=List.getElem_of_mem d;have:=h i (List.mem_range.mpr (by omega));simpa [a] using this
 ·intro h i a;have c:i < ys.length:=by have:=List.mem_range.mp a;omega
  have:=h ys[i] (V5 c);simpa [c] using this
theorem zcs (hc:X.calm=true):CallR X (.builtin "all") (λ xs H Q=>∃p ys,xs=[.ref p]/\SqL X.K H p ys/\(∀y∈ys,∃b,y=V.bl b)/\Q (.bl (ys.all λ y=>decide (y=V.bl true))) H):=by
 intro L s σ H xs G Q I r h;obtain ⟨p,ys,rfl,E,l,q⟩:=h;obtain ⟨u,rfl,t⟩:=vals1 r;cases t;obtain ⟨g,c,f,P⟩:=I.list E;have C:p≠s.heap.objs.size:=by obtain ⟨o,e,_⟩:=f.isList;exact E1 (Q0 e)
 refine call_all_walk (j0a f.isList ?_);refine ⟨s.heap.objs.size,_,_,_,_,_,λ i=>decide (ys[i]? = some (V.bl true)),rfl,Walks.list (show X.A.in1.handled=none from I.ok.hd hc) s.heap.objs.size p C g.toArray,⟨⟨_,Z0 _ rfl,rfl,rfl⟩,f.isList.at λ o e=>D0 _ e⟩,?_,?_⟩
 ·intro i v J N O a B;have a:g[i]? = some v:=by simpa using a
  obtain ⟨n,e⟩:=List.getElem?_eq_some_iff.mp a;have d:i < ys.length:=by rw [c.length];exact n
  obtain ⟨b,j⟩:=l ys[i] (V5 d);obtain ⟨u,m,k⟩:=c.get (i:=i) (x:=ys[i]) (by simp [d]);rw [a] at m;cases m;rw [j] at k;cases (show v=C4 b from k);have:decide (ys[i]? = some (V.bl true))=b:=by rw [B0 d,j];cases b<;>simp
  exact C3 (this ▸ B)
 ·intro M w F;have e:=zih c l;rw [<-L0] at e;refine ⟨.bl _,H,I.kept (t':=w) λ b o z=>F b o ?_ (D0 _ z),rfl,e.symm ▸ q⟩;intro D;rw [List.mem_singleton.mp D] at z;exact absurd (Q0 z) (O3 _)
def CDivB (i j:Int):Prop:=0 < j/\j < 2 ^ 64
theorem z8j:OpR X (F4 .FloorDiv) (rI CDivB λ i j=>.int (i / j)):=opI λ i j _ _ _ _ _ a q=>by
 obtain ⟨b,c⟩:=a;refine floordiv_int (by omega) ?_ (.inl (PyProof.noPylong_of_log2 ?_))
 ·rw [Int.fdiv_eq_ediv_of_nonneg _ (by omega)];exact q
 ·have:j.natAbs.log2 < 64:=(Nat.log2_lt (by omega)).mpr (by omega);omega
structure KDict (K:b0) (P:N0) (a:Addr) (kvs:List (Str×V)):Prop where
 ex :∃es n,K.lookup a=some ⟨.type "dict",none,.dict es n,#[]⟩/\P8 (λ (p:Str×V) (e:DictEntry)=>(∃t,e.key=.str p.1 t)/\e.hash=c0 P p.1/\RelV p.2 e.val) kvs es.toList
 lo:(a == i3)=false
theorem zhp {kvs:List (Str×V)} {P:N0} :∀{es:List DictEntry},P8 (λ (p:Str×V) (e:DictEntry)=>(∃t,e.key=.str p.1 t)/\e.hash=c0 P p.1/\RelV p.2 e.val) kvs es->∀z,
  RelO (kvs.lookup z) (findBy d7 es.toArray z):=by
 intro es r;induction r with
 | nil=>intro z;exact True.intro
 | @cons p e kvs es h t a=>
  intro z;obtain ⟨⟨f,d⟩,g,c⟩:=h;have a:=a z;unfold findBy at a⊢;rw [List.find?_toArray] at a⊢;rw [X3,j4];have b:d7 z e.key=(z == p.1):=by rw [d];show (p.1 == z)=_;rw [Bool.eq_iff_iff,beq_iff_eq,beq_iff_eq];exact ⟨λ q=>q.symm,λ q=>q.symm⟩
  cases hz:(z == p.1) with
  | true=>rw [b,hz];exact c
  | false=>rw [b,hz];exact a
theorem KDict.mapOf {a:Addr} {kvs:List (Str×V)} (D:KDict X.K X.w.params a kvs) {h:Heap} (k:X.K.In h) :∃f,h.MapOf (strKind X.prog X.w) a f/\∀z,RelO (kvs.lookup z) (f z):=by
 obtain ⟨b,n,d,r⟩:=D.ex;have c:PySem.W.KeysLit X.w.params b.toList:=by
  clear d D;generalize b.toList=l at r;induction r with
  | nil=>exact True.intro
  | cons h t ih=>obtain ⟨⟨e,c⟩,g,j⟩:=h;exact ⟨⟨_,e,c,g⟩,ih⟩
 have i :∀z,RelO (kvs.lookup z) (findBy d7 b.toList.toArray z):=zhp r;exact ⟨_,PySem.W.mapOf_K (prog:=X.prog) k d c,λ z=>by simpa using i z⟩
theorem zk7 {a:Addr} {kvs:List (Str×V)} (D:KDict X.K X.w.params a kvs):OpR X (B2 .In) (λ x y H Q=>∃z,x=.str z/\y=.ref a/\Q (.bl (kvs.lookup z).isSome) H):=by intro g s σ H x y v u Q I c d h;obtain ⟨z,rfl,rfl,q⟩:=h;obtain ⟨t,rfl⟩:=c;cases d;obtain ⟨f,b,e⟩:=D.mapOf I.kIn;refine wpAny_in_of (M8 X.prog X.w z t) D.lo b ⟨.bl _,H,I.tok _,rfl,?_⟩;have:=e z;rw [RelO.isSome_eq this] at q;exact q
theorem ix_kd {a:Addr} {kvs:List (Str×V)} (D:KDict X.K X.w.params a kvs):IxR X (λ x y H Q=>∃z v,x=.ref a/\y=.str z/\kvs.lookup z=some v/\Q v H):=by
 intro k m l s σ H x y v u Q I d j h i;obtain ⟨z,r,rfl,rfl,e,q⟩:=h;cases d;obtain ⟨t,rfl⟩:=j;obtain ⟨f,c,g⟩:=D.mapOf I.kIn;have b:=g z;rw [e] at b;cases ef:f z with
 | none=>rw [ef] at b;exact b.elim
 | some u=>rw [ef] at b;exact j2i c.typeIs slot_dict_getitem.lookup (wpAny_getItem_of (M8 X.prog X.w z t) c ef ⟨r,H,I.tok _,b,q⟩) i
structure KDictT (K:b0) (P:N0) (a:Addr) (kvs:List ((Str×Str)×V)):Prop where
 ex :∃es n,K.lookup a=some ⟨.type "dict",none,.dict es n,#[]⟩/\P8 (λ (p:(Str×Str)×V) (e:DictEntry)=>(∃(b:Addr) (t t':Tok) (m:Nat),e.key=.ref b/\K.lookup b=some ⟨.type "tuple",none,.seq #[.str p.1.1 t,.str p.1.2 t'] m,#[]⟩)/\
  e.hash=G1 (o0 [c0 P p.1.1,c0 P p.1.2])/\RelV p.2 e.val) kvs es.toList
 nd:(kvs.map (·.1)).Nodup
 lo:(a == i3)=false
theorem zhz {prog:Program} {w:S0} {K:b0} {h:Heap} (k:K.In h) :∀{kvs:List ((Str×Str)×V)} {es:List DictEntry},
  P8 (λ (p:(Str×Str)×V) (e:DictEntry)=>(∃(b:Addr) (t t':Tok) (m:Nat),e.key=.ref b/\K.lookup b=some ⟨.type "tuple",none,.seq #[.str p.1.1 t,.str p.1.2 t'] m,#[]⟩)/\
   e.hash=G1 (o0 [c0 w.params p.1.1,c0 w.params p.1.2])/\RelV p.2 e.val) kvs es->
  ∃xs:List (List Str×Addr×Value),es=xs.map (entryOfKey (R5 (strKind prog w)))/\(∀x∈xs,(R5 (strKind prog w)).is h x.1 x.2.1)/\xs.map (·.1)=kvs.map (λ p=>[p.1.1,p.1.2])/\
   ∀a b,RelO (kvs.lookup (a,b)) ((E8 xs [a,b]).map (·.2)):=by
 intro kvs es r;induction r with
 | nil=>exact ⟨[],rfl,λ x f=>absurd f A0,rfl,λ a b=>True.intro⟩
 | @cons p e kvs es hpe t ih=>
  obtain ⟨xs,y,u,s,o⟩:=ih;obtain ⟨⟨b,C,D,m,l,n⟩,g,A⟩:=hpe;refine ⟨([p.1.1,p.1.2],b,e.val) :: xs,?_,?_,?_,?_⟩
  ·rw [j1,<-y];congr 1;obtain ⟨v,q,B⟩:=e;have l:q=.ref b:=l;have g:v=_:=g;subst l g;rfl
  ·intro x f;rcases List.mem_cons.mp f with rfl|f
   ·exact ⟨_,_,m,k _ _ n,rfl,rfl,.cons (M8 prog w _ _) (.cons (M8 prog w _ _) .nil)⟩
   ·exact u x f
  ·rw [j1,j1,s]
  ·intro c d;have:=o c d;rw [j4];unfold E8 at this⊢;rw [X3];by_cases hcd:(c,d)=p.1
   ·have j:((c,d) == p.1)=true:=by rw [beq_iff_eq];exact hcd
    rw [j];have i:decide ([p.1.1,p.1.2]=[c,d])=true:=by rw [<-hcd];simp
    rw [i];exact A
   ·have j:((c,d) == p.1)=false:=by rw [beq_eq_false_iff_ne];exact hcd
    rw [j];have i:decide ([p.1.1,p.1.2]=[c,d])=false:=by rw [decide_eq_false_iff_not];intro z;injection z with z1 z;injection z with z2 _;exact hcd (j0j z1.symm z2.symm)
    rw [i];exact this
theorem z7v :∀{l:List (Str×Str)},l.Nodup->(l.map λ p=>[p.1,p.2]).Nodup
 | [],_=>List.nodup_nil
 | p :: r,h=>by obtain ⟨a,b⟩:=List.nodup_cons.mp h;rw [j1];refine List.nodup_cons.mpr ⟨λ m=>a ?_,z7v b⟩;obtain ⟨q,c,e⟩:=List.mem_map.mp m;injection e with e1 e;injection e with e2 _;have:q=p:=j0j e1 e2;exact this ▸ c
theorem KDictT.dict {a:Addr} {kvs:List ((Str×Str)×V)} (D:KDictT X.K X.w.params a kvs) {h:Heap} (k:X.K.In h) :∃xs,h.DictOfH (R5 (strKind X.prog X.w)) a xs/\∀c d,RelO (kvs.lookup (c,d)) ((E8 xs [c,d]).map (·.2)):=by obtain ⟨b,n,e,r⟩:=D.ex;obtain ⟨xs,f,i,j,g⟩:=zhz (prog:=X.prog) (w:=X.w) k r;refine ⟨xs,⟨_,b,n,k _ _ e,⟨rfl,rfl,rfl⟩,rfl,f,i,?_⟩,g⟩;rw [j];have:=z7v D.nd;rw [v3] at this;exact this
theorem zj4 {pins:List (Addr×Obj)} {σ:St} {H:Hp} {s:t0} {p:Addr} {c d:Str} (I:Inv X pins σ H s) (hp:H p=some (.tup [.str c,.str d])):(R5 (strKind X.prog X.w)).is s.heap [c,d] p:=by
 obtain ⟨_,i,a,⟨o,b,e,n,f⟩,_⟩:=(show ObjOk X.prog X.w H s.heap p (.tup [.str c,.str d]) from I.hok p _ hp)
 cases a with
 | cons r1 a=>
  cases a with
  | cons r2 a=>cases a;obtain ⟨h,rfl⟩:=r1;obtain ⟨g,rfl⟩:=r2;exact ⟨o,_,n,b,e,f,.cons (M8 X.prog X.w _ _) (.cons (M8 X.prog X.w _ _) .nil)⟩
theorem zbx {a:Addr} {kvs:List ((Str×Str)×V)} (hu:X.A.units + 1 < cLine) (D:KDictT X.K X.w.params a kvs) :
  OpR X (B2 .NotIn) (λ x y H Q=>∃p c d,x=.ref p/\H p=some (.tup [.str c,.str d])/\y=.ref a/\Q (.bl (!(kvs.lookup (c,d)).isSome)) H):=by
 intro j s σ H x y v u Q I e g h;obtain ⟨p,c,d,rfl,f,rfl,q⟩:=h;cases e;cases g;obtain ⟨l,b,i⟩:=D.dict I.kIn;refine wpAny_notIn_heap (k:=[c,d]) hu (zj4 I f) D.lo b ⟨.bl _,H,I.tok _,rfl,?_⟩;have:=RelO.isSome_eq (i c d);rw [X6] at this;rw [this] at q;exact q
theorem ix_kdt {a:Addr} {kvs:List ((Str×Str)×V)} (hu:X.A.units + 1 < cLine) (D:KDictT X.K X.w.params a kvs) :
  IxR X (λ x y H Q=>∃p c d v,x=.ref a/\y=.ref p/\H p=some (.tup [.str c,.str d])/\kvs.lookup (c,d)=some v/\Q v H):=by
 intro o B t s σ H x y v u Q I g n h l;obtain ⟨p,c,d,r,rfl,rfl,m,e,q⟩:=h;cases g;cases n;obtain ⟨i,f,j⟩:=D.dict I.kIn;have b:=j c d;rw [e] at b;cases ef:E8 i [c,d] with
 | none=>rw [ef] at b;exact b.elim
 | some z=>rw [ef] at b;exact j2i f.typeIs slot_dict_getitem.lookup (wpAny_getItem_heap (k:=[c,d]) hu (zj4 I m) f ef ⟨r,H,I.tok _,b,q⟩) l
end
structure Cal (P:Program) (w:S0) (K:b0) (mg:Str->Option Value) (base:Heap) (x:Str) (ps:List Str) (k:Nat) (sp:Sp):Prop where
 ex :∃f fd,FnOk P w K mg base CX0 k f fd ps sp/\mg x=some (.ref f)/\j3 K (.ref f)=true/\Binds K fd ps []
section
variable {X:Cx} {x:Str} {ps:List Str} {k:Nat} {sp:Sp} {e:Expr} {es:List Expr} {t:TA} {p pos:Pos}
theorem pe_cal (c:Cal X.prog X.w X.K X.mg X.base x ps k sp) (hr:Room k X.A) (hg:Gl X x) (ha:PA X (e :: es) t) (hn:x≠"__name__":=by decide) (hdb:(x == ("__debug__" : Str))=false:=by decide)
  (he:N1 (e :: es) X.env=(false,u3 e X.env) :: N1 es X.env:=by rfl) (hpl:(A4 pos (N1 es X.env)).any (·.1)=false:=by rfl):PE X (.Call (.Name x p) (e :: es) [] pos) (tCall sp [] E0 t):=by
 obtain ⟨f,g,F,a,d,b⟩:=c.ex;exact zlw F hr hg a d b .nil pass0 ha hdb he hpl
end
structure TX (K:b0) (mg:Str->Option Value):Prop where
 of :∀{n:Str} {v:Value},o6 K W2 n=some (some v)->mg n=some v
 no :∀{n:Str},o6 K W2 n=some none->mg n=none
theorem TX.mk' {K:b0} {mg:Str->Option Value} {h:Heap} (X:K.In h) (G:h.Ns W2 mg):TX K mg:=⟨λ e=>PySem.W.mg_of X G e,λ e=>PySem.W.mg_none_of X G e⟩
section
variable {X:Cx}
noncomputable def rAdd4 (K:b0):R2:=λ x y H Q=>(∃i j,x=.int i/\y=.int j/\Q (.int (i + j)) H)\/(∃i j,x=.str i/\y=.str j/\i.length + j.length<=sizeLine/\Q (.str (i++j)) H)\/rCat x y H Q\/rCatT K x y H Q
theorem opAdd:OpR X (F4 .Add) (rAdd4 X.K):=op_add.or (op_add_str.or (op_cat.or za8))
theorem opEq:OpR X (B2 .Eq) rEq:=op_eq
theorem opNe:OpR X (B2 .NotEq) rNe:=op_ne
theorem z0s:CallR X (.builtin "len") (λ xs H Q=>(∃p ys,xs=[.ref p]/\(SqL X.K H p ys\/SqT X.K H p ys)/\Q (.int ys.length) H)\/∃z,xs=[.str z]/\z.length<=sizeLine/\Q (.int z.length) H):=call_len_seq.or zbi
end
noncomputable def z0x (x:V) (g:Int):Bool:=match x with
 | .int i=>decide (-g<=i) && decide (i<=g)
 | _=>false
noncomputable def tupOf (H:Hp) (x:V):Option (List V):=match x with
 | .ref a=>(match H a with|some (.tup xs)=>some xs|_=>none)
 | _=>none
theorem zes {H H':Hp} {x:V} {T:String} (t:TagOf H x T) (e:Same H H'):tupOf H' x=tupOf H x:=by
 cases x with
 | ref a=>rcases t with ⟨⟨b,h⟩,_⟩|⟨⟨b,h⟩,_⟩|⟨⟨b,h⟩,_⟩<;>(unfold tupOf;dsimp only;rw [h,e a _ h])
 | _=>rfl
theorem TagOf.same {H H':Hp} {x:V} {T:String} (t:TagOf H x T) (e:Same H H'):TagOf H' x T:=by
 cases x with
 | ref a=>
  rcases t with ⟨⟨b,h⟩,z⟩|⟨⟨b,h⟩,z⟩|⟨⟨b,h⟩,z⟩
  ·exact .inl ⟨⟨b,e a _ h⟩,z⟩
  ·exact .inr (.inl ⟨⟨b,e a _ h⟩,z⟩)
  ·exact .inr (.inr ⟨⟨b,e a _ h⟩,z⟩)
 | _=>exact t
theorem TagOf.tuple {H:Hp} {x:V} (t:TagOf H x "tuple") :∃a xs,x=.ref a/\H a=some (.tup xs):=by
 cases x with
 | ref a=>
  rcases t with ⟨_,z⟩|⟨⟨xs,h⟩,_⟩|⟨_,z⟩
  ·exact absurd z (by decide)
  ·exact ⟨a,xs,rfl,h⟩
  ·exact absurd z (by decide)
 | non=>exact absurd (show "tuple" = "NoneType" from t) (by decide)
 | bl b=>exact absurd (show "tuple" = "bool" from t) (by decide)
 | int i=>exact absurd (show "tuple" = "int" from t) (by decide)
 | str z=>exact absurd (show "tuple" = "str" from t) (by decide)
 | _=>exact t.elim
theorem TagOf.int {H:Hp} {x:V} (t:TagOf H x "int") :∃i,x=.int i:=by
 cases x with
 | ref a=>rcases t with ⟨_,z⟩|⟨_,z⟩|⟨_,z⟩<;>exact absurd z (by decide)
 | non=>exact absurd (show "int" = "NoneType" from t) (by decide)
 | bl b=>exact absurd (show "int" = "bool" from t) (by decide)
 | int i=>exact ⟨i,rfl⟩
 | str z=>exact absurd (show "int" = "str" from t) (by decide)
 | _=>exact t.elim
theorem TagOf.str {H:Hp} {x:V} (t:TagOf H x "str") :∃z,x=.str z:=by
 cases x with
 | ref a=>rcases t with ⟨_,z⟩|⟨_,z⟩|⟨_,z⟩<;>exact absurd z (by decide)
 | non=>exact absurd (show "str" = "NoneType" from t) (by decide)
 | bl b=>exact absurd (show "str" = "bool" from t) (by decide)
 | int i=>exact absurd (show "str" = "int" from t) (by decide)
 | str z=>exact ⟨z,rfl⟩
 | _=>exact t.elim
theorem noInt {H:Hp} {x:V} {T:String} (t:TagOf H x T) (h:T≠"int") (g:Int):z0x x g=false:=by
 cases x with
 | int i=>exact absurd t h
 | _=>rfl
theorem noTup {H:Hp} {x:V} {T:String} (t:TagOf H x T) (h:T≠"tuple"):tupOf H x=none:=by
 cases x with
 | ref a=>
  rcases t with ⟨⟨b,e⟩,_⟩|⟨_,z⟩|⟨⟨b,e⟩,_⟩
  ·unfold tupOf;dsimp only;rw [e]
  ·exact absurd z h
  ·unfold tupOf;dsimp only;rw [e]
 | _=>rfl
theorem z8a {H:Hp} {x:V} {T:String} (t:TagOf H x T) {C:String} (h:C≠"int"):instB T C=decide (T=C):=by
 unfold instB;have:(C == "int")=false:=by simpa using h
 rw [this,L8,Bool.or_false,Bool.beq_eq_decide_eq]
def Flat (H:Hp) (x:V):Prop:=∀xs,tupOf H x=some xs->xs.length<=1000/\∀y∈xs,∃T,TagOf H y T
theorem zb8 {α β:Type} [BEq α] [LawfulBEq α] {l:List (α×β)} {a:α} {b:β} (h:l.lookup a=some b):(a,b)∈l:=by
 induction l with
 | nil=>cases h
 | cons p r ih=>
  obtain ⟨c,d⟩:=p;rw [j4] at h;cases hc:(a == c) with
  | true=>rw [hc] at h;cases h;rw [eq_of_beq hc];exact R0
  | false=>rw [hc] at h;exact W0 _ (ih h)
theorem zhb {names:List (Str×i5)} {Q:Str×i5->Prop} (h:(names.all λ y=>y.2 != V1)=true) :∀y∈names,y.2=V1->Q y:=λ y a e=>by have:=List.all_eq_true.mp h y a;rw [e] at this;exact absurd this (by decide)
theorem Same.upd {H:Hp} {p:Addr} {o:HO} (h:H p=none):Same H (upd H p o):=λ b u e=>by rw [upd_ne (z08 e h)];exact e
theorem Same.seqT {K:b0} {H H':Hp} {a:Addr} {xs:List V} (e:Same H H') (h:SqT K H a xs):SqT K H' a xs:=by
 rcases h with (h|⟨o,h⟩)|h
 ·exact .inl (.inl (e _ _ h))
 ·exact .inl (.inr ⟨o,e _ _ h⟩)
 ·exact .inr h
theorem zg5 {H:Hp} {x:V} {xs:List V} (h:tupOf H x=some xs) :∃a,x=.ref a/\H a=some (.tup xs):=by
 unfold tupOf at h;cases x with
 | ref a=>
  dsimp only at h;split at h
  ·rename_i ys e;exact ⟨a,rfl,by rw [e,Q1 h]⟩
  ·cases h
 | _=>cases h
end L2
namespace L2
open PySem PySem.Spec PyProof.Rows
open Builtin.Str (occurrences partsBetween strKind)
section
variable {X:Cx}
theorem zcz {vl:Value} {lo:Option Int} (p:Q8 vl lo) :∃l:Option (Int×Tok),vl=partValue l/\l.map (·.1)=lo:=by
 cases p with
 | none=>exact ⟨none,rfl,rfl⟩
 | int i t=>exact ⟨some (i,t),rfl,rfl⟩
end
end L2
namespace L2
open PySem PySem.Spec PyProof.Rows
section
variable {X:Cx}
def rSlS:V->Option Int->Option Int->Hp->VK->Prop:=λ x lo hi H Q=>∃z,x=.str z/\z.length<=sizeLine/\Q (.str (Txt.slice z lo hi)) H
theorem sl_str:SlR X rSlS:=by
 intro o s σ H x v r p m j n Q I a f e b h;obtain ⟨z,rfl,g,q⟩:=h;obtain ⟨t,rfl⟩:=a;obtain ⟨l,rfl,c⟩:=zcz e;obtain ⟨u,rfl,i⟩:=zcz b;subst c i;refine ⟨"str",_,F.slot_str_getitem.lookup,typeIs_str _ _ _,wpAny_getItem_str_slice (l:=l) (u:=u) (st:=none) f rfl
  (post_val_or_str ⟨C0 (Txt.slice_le z _ _) g,λ d k=>⟨.str (Txt.slice z _ _),H,I.tok k,⟨d,rfl⟩,q⟩⟩)⟩
theorem slSeq:SlR X (λ x lo hi H Q=>rSlL X.K x lo hi H Q\/rSlT X.K x lo hi H Q\/rSlS x lo hi H Q):=sl_list.or (sl_tup.or sl_str)
theorem zik:CallR X (.type "int") (λ xs H Q=>∃z n,xs=[.str z]/\PySem.intText? z=some n/\z.length<=640/\Q (.int n) H):=by intro c s σ H xs d Q I r h;obtain ⟨z,n,rfl,b,a,q⟩:=h;obtain ⟨u,rfl,t,rfl⟩:=vals1 r;exact PySem.W.KIN.call_text b a ⟨.int n,H,I.tok _,⟨_,rfl⟩,q⟩
theorem zb5:CallR X (.type "int") (λ xs H Q=>((∃i,xs=[.int i]/\Q (.int i) H)\/∃k,xs=[.bl k]/\Q (.int (if k then 1 else 0)) H)\/∃z n,xs=[.str z]/\PySem.intText? z=some n/\z.length<=640/\Q (.int n) H):=call_int1.or zik
end
def RowAt (H:Hp) (r:Addr):Prop:=∃a b c:Int,H r=some (.lst [.int a,.int b,.int c])/\0<=c/\c < 536870909
def Kept (r:Addr) (H H':Hp):Prop:=∀b o,b≠r->H b=some o->H' b=some o
theorem Kept.refl {r:Addr} {H:Hp}:Kept r H H:=λ _ _ _ h=>h
theorem Kept.trans {r:Addr} {H H1 H2:Hp} (a:Kept r H H1) (b:Kept r H1 H2):Kept r H H2:=λ c o n h=>b c o n (a c o n h)
theorem Same.kept {r:Addr} {H H':Hp} (s:Same H H'):Kept r H H':=λ b o _ h=>s b o h
theorem Kept.set {r:Addr} {H:Hp} {o:HO}:Kept r H (upd H r o):=λ b u n h=>by rw [upd_ne n];exact h
structure Rw (r:Addr) (H H':Hp):Prop where
 k:Kept r H H'
 r:RowAt H' r
theorem atI_of {α:Type} {xs:List α} {t:Int} (h0:0<=t) (h1:t < xs.length) :∃v,atI xs t=some v/\v∈xs:=by
 have a:t.toNat < xs.length:=by omega
 refine ⟨xs[t.toNat],?_,V5 a⟩;have:=z05 (xs:=xs) (j:=t.toNat) (v:=xs[t.toNat]) (by simp [a]);rw [Int.toNat_of_nonneg h0] at this;exact this
section
variable {r:Addr} {σ:St} {H0:Hp} {K:b0}
theorem g_name {i:Nat} {v:V} {σ:St} {H:Hp} {Q:St->Hp->Prop} (h:Q (σ.set i (some v)) H):gName i v σ H Q:=h
theorem t_nx {nx ct bk:St->Hp->Prop} {rt:VK} {σ:St} {H:Hp} (h:nx σ H):Ends.nx { nx:=nx,rt:=rt,bk:=bk,ct:=ct } σ H:=h
theorem t_next {nx ct bk:St->Hp->Prop} {rt:VK} {σ:St} {H:Hp} (h:nx σ H):tNext { nx:=nx,rt:=rt,bk:=bk,ct:=ct } σ H:=h
end
end L2
namespace L2
open PySem
section
variable {prog:Program} {w:S0} {A:X1} {E:Value->t0->Prop} {s:t0}
theorem tupOn {it t:Addr} {i:Nat} {its:Array Value} {x:Value} {Q:Value->t0->Prop} (a:s.heap.IsTupleIter it t i) (b:s.heap.IsTuple t its) (c:its[i]? = some x)
  (q :∀h',h'.IsTupleIter it t (i + 1)->L5 it s.heap h'->Q x { s with heap:=h' }):U0 (B1 prog w) A (B4 (.ref it)) Q E s:=by
 obtain ⟨o,e,f,d⟩:=id a;obtain ⟨p,h,_,n,g⟩:=b;unfold B4;refine d0 (M3 (name:=N6 "__next__") a.typeIs c5 (S2 c5 a.typeIs j20 (show U0 _ _ (field (.ref it) 0 >>= _) _ _ s from d0 (G6 e d (x:=.ref t) rfl ?_)) (j1a _)));show U0 _ _ (if (A1 t == P2)=true then _ else (field (.ref it) 1 >>= _)) _ _ s;rw [if_neg (by exact M0)];refine d0 (G6 e d (x:=.int i 0) rfl (show U0 _ _ (seqItems? (.ref t) >>= _) _ _ s from d0 (j2g h g ?_)));simp only [Q5,c];refine d0 (C9 e d (by simp) (G0 ⟨x,rfl,G0 (q _ ⟨_,A8 _ e (Obj.isFreed_of_fields (Obj.data_mapFields d _)),(Obj.cls_mapFields ..).trans f,?_⟩ (L4 ..))⟩));rw [Obj.data_mapFields d];simp [j13]
theorem tupOff {it t:Addr} {i:Nat} {its:Array Value} {Q:Value->t0->Prop} (hh:A.handled=none) (a:s.heap.IsTupleIter it t i) (b:s.heap.IsTuple t its) (c:its[i]? = none)
  (q :∀h' e,Heap.ExtBut it s.heap h'->(∃o,h'.get? e=some o/\o.cls=.type "StopIteration")->E (.ref e) { s with heap:=h' }):U0 (B1 prog w) A (B4 (.ref it)) Q E s:=by
 obtain ⟨o,f,j,d⟩:=id a;obtain ⟨p,h,_,n,g⟩:=b;unfold B4;refine d0 (M3 (name:=N6 "__next__") a.typeIs c5 (S2 c5 a.typeIs j20 (show U0 _ _ (field (.ref it) 0 >>= _) _ _ s from d0 (G6 f d (x:=.ref t) rfl ?_)) (j1a _)));show U0 _ _ (if (A1 t == P2)=true then _ else (field (.ref it) 1 >>= _)) _ _ s;rw [if_neg (by exact M0)];refine d0 (G6 f d (x:=.int i 0) rfl (show U0 _ _ (seqItems? (.ref t) >>= _) _ _ s from d0 (j2g h g ?_)));simp only [Q5,c];refine d0 (j04 (d0 (C9 f d (by simp) (show U0 _ _ (newExc (.type "StopIteration") [] >>= _) _ _ _ from d0 ?_))));simp only [newExc,newTuple];refine d0 (V2 (d0 (m:=F9 _ _) (wpAny_of_eq (a:=P2) (by first|rfl|(simp only [F9];rfl)) (V2 ?_ (by size_fits)))) (by size_fits));simp only [raiseNew];refine d0 (wpAny_handled ?_);first|rw [show A.in1.handled=none from hh]|rw [hh]
 exact d0 (G0 (wpAny_throw (q _ _ (((L4 ..).extBut.push _).push _) ⟨_,Z0 _ rfl,rfl⟩)))
structure ZApart (z T U i j a b:Addr):Prop where
 dis:[z,T,U,i,j].Nodup
 fa:a∉[z,T,U,i,j]
 fb:b∉[z,T,U,i,j]
structure ZAt (h:Heap) (z T U i j a b:Addr) (n:Nat) (f:Value):Prop where
 z:IsZip h z T U f
 t:IsPair h T (.ref i) (.ref j)
 u :∃p q,IsPair h U p q
 i:h.IsTupleIter i a n
 j:h.IsTupleIter j b n
end
end L2
namespace L2
open PySem PySem.Spec PyProof.Rows
inductive Dt where
 | non|bl (b:Bool)|int (i:Int)|str (z:Str)|tup (ds:List Dt)
mutual
noncomputable def IsDt (K:b0) (H:Hp):Dt->V->Prop
 | .non,v=>v=.non
 | .bl b,v=>v=.bl b
 | .int i,v=>v=.int i
 | .str z,v=>v=.str z
 | .tup ds,v=>∃a xs,v=.ref a/\SqT K H a xs/\IsDts K H ds xs
noncomputable def IsDts (K:b0) (H:Hp):List Dt->List V->Prop
 | [],xs=>xs=[]
 | d :: ds,xs=>∃x r,xs=x :: r/\IsDt K H d x/\IsDts K H ds r
end
mutual
theorem IsDt.same' {K:b0} {H H':Hp} (s:Same H H') :∀(d:Dt) (v:V),IsDt K H d v->IsDt K H' d v
 | .non,v,h=>h
 | .bl b,v,h=>h
 | .int i,v,h=>h
 | .str z,v,h=>h
 | .tup ds,v,h=>by obtain ⟨a,c,rfl,e,r⟩:=h;exact ⟨a,c,rfl,s.seqT e,IsDts.same' s ds c r⟩
theorem IsDts.same' {K:b0} {H H':Hp} (s:Same H H') :∀(d:List Dt) (v:List V),IsDts K H d v->IsDts K H' d v
 | [],xs,h=>h
 | d :: ds,xs,h=>by obtain ⟨x,r,rfl,a,b⟩:=h;exact ⟨x,r,rfl,IsDt.same' s d x a,IsDts.same' s ds r b⟩
end
theorem IsDt.same {K:b0} {H H':Hp} {d:Dt} {v:V} (h:IsDt K H d v) (s:Same H H'):IsDt K H' d v:=IsDt.same' s d v h
theorem IsDts.mk2 {K:b0} {H:Hp} {d e:Dt} {x y:V} (a:IsDt K H d x) (b:IsDt K H e y):IsDts K H [d,e] [x,y]:=⟨x,[y],rfl,a,y,[],rfl,b,rfl⟩
theorem IsDt.mkT {K:b0} {H:Hp} {p:Addr} {xs:List V} {ds:List Dt} (h:H p=some (.tup xs)) (r:IsDts K H ds xs):IsDt K H (.tup ds) (.ref p):=⟨p,xs,rfl,SqT.of h,r⟩
mutual
noncomputable def Dt.deep:Dt->Nat
 | .tup ds=>Dt.deeps ds + 1
 | _=>0
noncomputable def Dt.deeps:List Dt->Nat
 | []=>0
 | d :: ds=>max d.deep (Dt.deeps ds)
noncomputable def Dt.plain:Dt->Bool
 | .int _=>true
 | .str _=>true
 | .tup ds=>Dt.plains ds
 | _=>false
noncomputable def Dt.plains:List Dt->Bool
 | []=>true
 | d :: ds=>d.plain && Dt.plains ds
end
section
variable {X:Cx}
theorem zl0 {i:Nat} {x:Str} {p pos:Pos} {e:Expr} {es:List Expr} {t:TA} (tb:Addr->Sp->Prop) (hN:X.N[i]? = some x) (hv:Vis X.env.scope x)
  (G :∀f sp,tb f sp->∃k fd ps,FnOk X.prog X.w X.K X.mg X.base CX0 k f fd ps sp/\Room k X.A/\j3 X.K (.ref f)=true/\Binds X.K fd ps [])
  (ha:PA X (e :: es) t) (hd:(x == ("__debug__" : Str))=false:=by decide) (hcd:(x == ("__classdict__" : Str))=false:=by decide)
  (he:N1 (e :: es) X.env=(false,u3 e X.env) :: N1 es X.env:=by rfl) (hpl:(A4 pos (N1 es X.env)).any (·.1)=false:=by rfl) :
  PE X (.Call (.Name x p) (e :: es) [] pos) (λ σ H Q=>∃f sp,σ[i]? = some (some (.ref f))/\tb f sp/\t σ H λ vs H1=>sp vs H1 Q E0):=by
 intro a s σ H Q I h;obtain ⟨f,sp,j,l,h⟩:=h;obtain ⟨k,fd,ps,F,b,m,d⟩:=G f sp l;refine N5 (thn (pe_var hN hv hd hcd a s σ H (λ v g=>v=.ref f/\g=H) I ⟨_,j,rfl,rfl⟩) λ u c ⟨v,H0,I0,r0,ev,eH⟩=>?_);subst ev eH;obtain rfl:u=A1 f:=r0;refine z6 (h₀:=X.base) I0.ok.mod.kin m (thn (ha pos a c σ _ _ I0 h) λ o n ⟨vs,H1,I1,r,q⟩=>⟨I1.kIn,?_⟩) he hpl;exact run_fn F b d .nil pass0 I1 r (by rw [D2];exact q)
theorem Inv.turnedL {pins:List (Addr×Obj)} {σ:St} {H:Hp} {s:t0} {h':Heap} {t':Nat} {fp:List Addr} (I:Inv X pins σ H s) (k :∀b o,b∉fp->s.heap.get? b=some o->h'.get? b=some o) (hf :∀b∈fp,FpOk X pins H b) :
  Inv X pins σ H { s with heap:=h',toks:=t' }:=by
 have f :∀b u,H b=some u->b∉fp:=λ b u e z=>by have:=(hf b z).1;rw [this] at e;cases e
 refine I.step (g':=s.gens) (d':=s.drawn) (ch:=fp) (λ b d=>⟨(hf b d).2.2.2.1,(hf b d).2.1,(hf b d).2.2.2.2.1,(hf b d).2.2.2.2.2⟩) (λ b o _ _ a e _=>k b o a e) (λ b o _ _ a e _=>⟨o.slots,k b o a e⟩) (λ _ _ _ _ n=>n)
  (λ b o a e=>⟨o,k b o a e⟩) (λ _ _ e=>e) (λ _ _ _ e=>e) (λ b l e=>⟨#[],by rw [e];simp⟩) (λ m g=>?_) (λ b u e=>?_) I.bare
 ·obtain ⟨o,h,i,j,r⟩:=g;exact ⟨o,h,i,k _ o (λ z=>(hf _ z).2.1 rfl) j,r⟩
 ·refine (I.hok b u e).stay (λ c v a q=>k c v ?_ q) (λ _ q=>q) λ _ _ q=>q;rcases a with z|z
  ·rw [z];exact f b u e
  ·exact f c _ z
theorem Inv.turnedLaid {pins:List (Addr×Obj)} {σ:St} {H:Hp} {s:t0} {h':Heap} {t':Nat} {fp:List Addr} {a:Addr} {o:HO} (I:Inv X pins σ H s) (k :∀b o,b∉fp->s.heap.get? b=some o->h'.get? b=some o) (hf :∀b∈fp,FpOk X pins H b)
  (hp:s.heap.objs.size<=a) (new:ObjOk X.prog X.w (upd H a o) h' a o):Inv X pins σ (upd H a o) { s with heap:=h',toks:=t' }:=by
 have t:H a=none:=I.hok.fresh hp;have h :∀b u,H b=some u->b∉fp:=λ b u e z=>by have:=(hf b z).1;rw [this] at e;cases e
 have g :∀b u,H b=some u->upd H a o b=some u:=λ b u e=>by rw [upd_ne (z08 e t)];exact e
 refine I.step (g':=s.gens) (d':=s.drawn) (ch:=fp) (λ b f=>⟨(hf b f).2.2.2.1,(hf b f).2.1,(hf b f).2.2.2.2.1,(hf b f).2.2.2.2.2⟩) (λ b o _ _ d e _=>k b o d e) (λ b o _ _ d e _=>⟨o.slots,k b o d e⟩)
  (λ b u _ e n=>by rw [upd_ne (λ z=>by subst z;exact absurd (Q0 e) (Nat.not_lt.mpr hp))];exact n)
  (λ b o d e=>⟨o,k b o d e⟩) (λ _ _ e=>g _ _ e) (λ _ _ _ e=>g _ _ e) (λ b y e=>⟨#[],by rw [g _ _ e];simp⟩) (λ m i=>?_) (λ b u e=>?_) I.bare
 ·obtain ⟨o,l,j,p,r⟩:=i;exact ⟨o,l,j,k _ o (λ z=>(hf _ z).2.1 rfl) p,r⟩
 ·by_cases f:b=a
  ·subst f;rw [upd_same] at e;cases e;exact new
  ·rw [upd_ne f] at e;refine (I.hok b u e).stay (λ c v d q=>k c v ?_ q) (λ c q=>g _ _ q) λ c x q=>g _ _ q;rcases d with z|z
   ·rw [z];exact h b u e
   ·exact h c _ z
theorem zej:OpR X (F4 .Add) (λ x y H Q=>∃a b ys,x=.ref a/\y=.ref b/\SqT X.K H a []/\SqT X.K H b ys/\Q (.ref b) H):=by intro G s σ H x y v u Q I j B h;obtain ⟨a,b,ys,rfl,rfl,m,t,q⟩:=h;cases j;cases B;obtain ⟨L,z,p,_⟩:=I.tuple m;obtain ⟨n,M,w,_⟩:=I.tuple t;cases z;obtain ⟨⟨D,k,F,C⟩,e,i,r,c⟩:=id p;obtain ⟨⟨E,o,J,A⟩,f,d,l,g⟩:=id w;simp only at i c d g;subst i c d g;exact concat_meets ⟨_,e,rfl⟩ ⟨_,f,rfl⟩ j14 seq_tuple_add K7 i7 (V6 _ _) (tuple_addW0 a b ([]:List Value).toArray n.toArray r l k o C A (by simp)) ⟨e,f,⟨.ref b,H,I,rfl,q⟩⟩
noncomputable def rCatS (K:b0):R2:=λ x y H Q=>∃a b xs ys,x=.ref a/\y=.ref b/\SqT K H a xs/\SqT K H b ys/\ys≠[]/\xs.length + ys.length<=sizeLine/\∀p H',Same H H'->SqT K H' p (xs++ys)->Q (.ref p) H'
theorem op_catS:OpR X (F4 .Add) (rCatS X.K):=by
 intro g s σ H x y v u Q I e j h;obtain ⟨a,b,c,i,rfl,rfl,f,d,k,m,q⟩:=h;cases c with
 | nil=>exact zej g s σ H _ _ v u Q I e j ⟨a,b,i,rfl,rfl,f,d,q b H (Same.refl H) d⟩
 | cons x c=>exact za8 g s σ H _ _ v u Q I e j ⟨a,b,x :: c,i,rfl,rfl,f,d,by simp,m,λ z=>absurd z k,λ _ p l=>q p _ (Same.upd l) (SqT.of upd_same)⟩
theorem z1h {o e:Expr} {es:List Expr} {to:TE} {t:TA} {apos cpos:Pos} (ho:PE X o to) (ha:PA X (e :: es) t)
  (hbase:T3 o "append" X.env (u3 o X.env)=u3 o X.env:=by rfl)
  (hfew:((A4 cpos (N1 (e :: es) X.env)).all (λ x=>!x.1) && (G9 cpos (K6 [] X.env)).all (λ x=>x.1.isSome)
   && decide ((e :: es).length + ([]:List c6).length + (if ([]:List c6).isEmpty then 0 else 1) < 30))=true:=by rfl)
  (hline:(apos.endLine == cpos.line)=true:=by rfl) (hs:N1 (e :: es) X.env=(false,u3 e X.env) :: N1 es X.env:=by rfl) (hplain:(A4 cpos (N1 es X.env)).any (·.1)=false:=by rfl) :
  PE X (.Call (.Attribute o "append" apos) (e :: es) [] cpos) (tBM X.K "list" zjl to t):=pe_bm j5 PySem.F.slot_list_append PySem.F.type_list_append zhf ho ha hbase hfew hline hs hplain
end
def KeptL (L:List Addr) (H H':Hp):Prop:=∀b o,b∉L->H b=some o->H' b=some o
theorem KeptL.refl {L:List Addr} {H:Hp}:KeptL L H H:=λ _ _ _ h=>h
theorem KeptL.trans {L:List Addr} {H H1 H2:Hp} (a:KeptL L H H1) (b:KeptL L H1 H2):KeptL L H H2:=λ c o n h=>b c o n (a c o n h)
theorem Same.keptL {L:List Addr} {H H':Hp} (s:Same H H'):KeptL L H H':=λ b o _ h=>s b o h
theorem KeptL.set {L:List Addr} {H:Hp} {l:Addr} {o:HO} (h:l∈L):KeptL L H (upd H l o):=λ b u n e=>by rw [upd_ne (λ z=>n (by rw [z];exact h))];exact e
mutual
theorem IsDt.mono' {K:b0} {H H':Hp} (s :∀a xs,SqT K H a xs->SqT K H' a xs) :∀(d:Dt) (v:V),IsDt K H d v->IsDt K H' d v
 | .non,v,h=>h
 | .bl b,v,h=>h
 | .int i,v,h=>h
 | .str z,v,h=>h
 | .tup ds,v,h=>by obtain ⟨a,xs,rfl,e,r⟩:=h;exact ⟨a,xs,rfl,s _ _ e,IsDts.mono' s ds xs r⟩
theorem IsDts.mono' {K:b0} {H H':Hp} (s :∀a xs,SqT K H a xs->SqT K H' a xs) :∀(d:List Dt) (v:List V),IsDts K H d v->IsDts K H' d v
 | [],xs,h=>h
 | d :: ds,xs,h=>by obtain ⟨x,r,rfl,a,b⟩:=h;exact ⟨x,r,rfl,IsDt.mono' s d x a,IsDts.mono' s ds r b⟩
end
theorem SqT.wrote {K:b0} {H:Hp} {l a:Addr} {o:HO} {zs xs:List V} (e:H l=some (.lst zs)) (h:SqT K H a xs):SqT K (upd H l o) a xs:=by
 rcases h with (h|⟨ob,h⟩)|h
 ·exact .inl (.inl (by rw [upd_ne (ne_of h e (by intro z;cases z))];exact h))
 ·exact .inl (.inr ⟨ob,by rw [upd_ne (ne_of h e (by intro z;cases z))];exact h⟩)
 ·exact .inr h
section
variable {prog:Program} {w:S0} {A:X1} {E:Value->t0->Prop} {s:t0}
theorem zjp {v:Value} {Q:Value->t0->Prop} {ns:List Int} (hn:ns.length < 64)
  (hc :∀R:List Value->t0->Prop,(∀h' tk vs,(∀b o,s.heap.get? b=some o->h'.get? b=some o)->R8 vs ns->R vs { s with heap:=h',toks:=tk })->U0 (B1 prog w) A.in1 (collect v) R E s)
  (h :∀(h1 h':Heap) (tk:Nat) (out:Array Value) (ns':List Int) (e:Nat),(∀b o,s.heap.get? b=some o->h1.get? b=some o)->(∀b o,h1.get? b=some o->h'.get? b=some o)->h'.get? h1.objs.size=some { cls:=.type "list",data:=.seq out e }->R8 out.toList ns'->ns'.Perm ns->ns'.Pairwise (·<=·)->Q (.ref h1.objs.size) { s with heap:=h',toks:=tk }) :
  U0 (B1 prog w) A (call (.builtin "sorted") [v]) Q E s:=by
 refine Y6 kind_sorted plain_sorted entry_sorted (args_sorted1 _) ?_;unfold S9.«sorted»;refine d0 (m:=checkCount "sorted" 1 1 _) (G0 (d0 (hc _ λ h1 tk vs i f=>?_)));have c:vs.length < 64:=by rw [f.length];exact hn
 refine d0 (X9 ?_ (C0 (A3 c) (by decide)));have a:(h1.push (S6 "list" vs.toArray 0)).get? h1.objs.size=some (S6 "list" vs.toArray 0):=Z0 _ rfl;refine d0 (S3 (S2 j2j ⟨_,a,rfl⟩ j25 (list_sort_tree a f c λ out ns' j g l=>⟨_,rfl,?_⟩) (j32 _)));obtain ⟨e,k⟩:=sortedHeap_at (out:=out) a;refine G0 ⟨_,rfl,h h1 _ tk out ns' e i (λ b o d=>?_) k j g l⟩;have lt:=Q0 d;refine (sortedHeap_old (E1 lt) ?_).trans (D0 _ d);rw [size_push'];exact u2 lt
end
section
variable {X:Cx}
def srt (ns:List Int) (H:Hp) (Q:VK):Prop:=∀(l:Addr) (ns':List Int),H l=none->ns'.Perm ns->ns'.Pairwise (·<=·)->Q (.ref l) (upd H l (.lst (ns'.map V.int)))
theorem zm3 {pins:List (Addr×Obj)} {σ:St} {H:Hp} {s:t0} {Q:VK} {ns:List Int} {h1 h':Heap} {tk:Nat} {out:Array Value} {ns':List Int} {e:Nat} (I:Inv X pins σ H s) (hn:ns.length < 64) (q:srt ns H Q)
  (k1 :∀b o,s.heap.get? b=some o->h1.get? b=some o) (k2 :∀b o,h1.get? b=some o->h'.get? b=some o) (g:h'.get? h1.objs.size=some { cls:=.type "list",data:=.seq out e }) (i:R8 out.toList ns') (p:ns'.Perm ns) (r:ns'.Pairwise (·<=·)) :
  EP X pins σ Q (.ref h1.objs.size) { s with heap:=h',toks:=tk }:=by
 have a:Inv X pins σ H { s with heap:=h1 }:=I.kept (t':=s.toks) k1;refine ⟨.ref h1.objs.size,_,a.laid (t':=tk) (o:=.lst (ns'.map V.int)) k2 (u0 _) ⟨?_,out.toList,e,z8c i,by simpa using g⟩,rfl,q _ ns' (a.hok.fresh (u0 _)) p r⟩;rw [F0,p.length_eq];exact C0 (A3 hn) (by decide)
theorem z2g:CallR X (.builtin "sorted") (λ xs H Q=>∃a ns,xs=[.ref a]/\(SqL X.K H a (ns.map V.int)\/SqT X.K H a (ns.map V.int))/\ns.length < 64/\srt ns H Q):=by
 intro F s σ H xs E Q I r h;obtain ⟨a,ns,rfl,c,v,q⟩:=h;obtain ⟨u,rfl,x⟩:=vals1 r;cases x;refine zjp v (λ R w=>?_) λ G d C D B e y A g i p r=>zm3 I v q y A g i p r;rcases c with c|c
 ·obtain ⟨z,b,m,t⟩:=I.list c;obtain ⟨o,l,f,n,j⟩:=m.isList;exact wpAny_collect_seq a (.inl rfl) l f j (λ d k=>w d s.toks _ k (by simpa using zae b)) (by rw [L0,<-b.length];exact t)
 ·obtain ⟨z,b,m,t⟩:=I.tuple c;obtain ⟨o,l,f,n,j⟩:=m;exact wpAny_collect_seq a (.inr rfl) l f j (λ d k=>w d s.toks _ k (by simpa using zae b)) (by rw [L0,<-b.length];exact t)
end
theorem iteP {c A B:Prop} [Decidable c] (hc:c) (h:A):if c then A else B:=by rw [if_pos hc];exact h
theorem iteN {c A B:Prop} [Decidable c] (hc:¬ c) (h:B):if c then A else B:=by rw [if_neg hc];exact h
theorem z59 (i:Int) (ns:List Int):inV (.int i) (ns.map V.int)=decide (i∈ns):=by
 unfold inV;rw [j2f,Bool.eq_iff_iff,N7,decide_eq_true_eq];constructor
 ·rintro ⟨x,hx,e⟩;have e:(x == i)=true:=e;rw [beq_iff_eq] at e;exact e ▸ hx
 ·intro h;exact ⟨i,h,by show (i == i)=true;simp⟩
theorem z3i (ns:List Int):(ns.map V.int).all flatV=true:=by rw [O7];intro x a;obtain ⟨i,_,rfl⟩:=List.mem_map.mp a;rfl
theorem zkl {names:List (Str×i5)} {n:Str} {Q:Str×i5->Prop} (h:(names.all λ y=>y.2 != V1 || y.1 == n)=true) (q :∀k,Q (n,k)) :∀y∈names,y.2=V1->Q y:=λ y c e=>by
 have:=List.all_eq_true.mp h y c;rw [e] at this;have:(y.1 == n)=true:=by simpa using this
 obtain ⟨a,b⟩:=y;rw [beq_iff_eq] at this;have:a=n:=this;subst this;exact q b
noncomputable def CXE (P:Program) (w:S0) (base:Heap):CXT:=λ outer H s E e s'=>∃(ea:Addr) (cls a0:Value) (B:Heap) (H':Hp),e=.ref ea/\s'.os=s.os/\b8 s'.gens/\Un (frs outer) [] H H' s.heap s'.heap/\HOk P w H' s'.heap/\H' ea=none/\
 base.StaysIn B/\Heap.FlyingW B outer ea cls a0 s'.heap/\(∀b o,s'.heap.get? b=some o->b∉frs outer->((∃u,H' b=some u)\/∃u,s.heap.get? b=some u)->B.get? b=some o)/\E cls none H'
theorem passN {X:Cx}:Passes (CXE X.prog X.w X.base) X E0:=λ _ _ _ _ _ _ _ ⟨_,_,_,_,_,_,_,_,_,_,_,_,_,_,z⟩=>z.elim
theorem PS.nox {X:Cx} {st:Stmt} {t:TS} (h:PS X.nox st t):PS X st t:=λ a s σ H D I b=>d3 (h a s σ H D (I.wish _) b) (λ _ _ q=>q.unwish) λ _ _ z=>L3 z
section
variable {P:Program} {w:S0} {K:b0} {mg:Str->Option Value} {base:Heap} {N:List Str} {qual:Str} {scope:Scope} {f:Addr} {cd:Value} {A:X1} {outer:List Env} {s:t0} {H:Hp} {E:XK}
theorem Fun.okE {x qual:Str} {st:Stmt} {f:Addr} {fd:FuncData} {N ps:List Str} {k:Nat} {sp:Sp} (F:Fun K x qual st f fd) (S:FnScope N ps (z06 st)) (len :∀vs H Q E,sp vs H Q E->vs.length=ps.length)
  (hbody :∀(cdv:Value) (A:X1) (outer:List Env) (s:t0) (H:Hp) (vs:List V) (Q:VK) (E:XK),Room k (A.deeper (N8 qual (z06 st) s.heap.objs.size f cdv))->sp vs H Q E->
   ∃t,PSs (cxOf (CXE P w base) P w K mg base N qual (z06 st) f cdv A outer s H E) (z6g st) t/\t { nx:=λ _ H'=>Q .non H',rt:=Q } (start N vs) H):FnOk P w K mg base (CXE P w base) (k + 1) f fd ps sp:=by
 obtain ⟨h,e,kV,m,j,i,cdv,g,l,rfl,d,b⟩:=F.ex;exact fn_of d b S len λ A outer s H vs Q E a c=>hbody cdv A outer s H vs Q E a c
end
structure CalE (P:Program) (w:S0) (K:b0) (mg:Str->Option Value) (base:Heap) (x:Str) (ps:List Str) (k:Nat) (sp:Sp):Prop where
 ex :∃f fd,FnOk P w K mg base (CXE P w base) k f fd ps sp/\mg x=some (.ref f)/\j3 K (.ref f)=true/\Binds K fd ps []
end L2
set_option maxHeartbeats 400000
namespace L2
open PySem PySem.Spec PyProof.Rows PySem.W PySem.Calls PySem.Builtin PySem.Builtin.ObjectAttr PySem.Builtin.Getset_descriptor
end L2
namespace L2
open PySem PySem.Spec PyProof.Rows PySem.W
end L2
namespace L2
open PySem PySem.Spec PyProof.Rows
end L2
set_option maxHeartbeats 4000000
namespace L2
open PySem PySem.Spec PyProof.Rows
noncomputable def cStG (σ:St) (fr:List (Nat×Str)) (us:List (Option V)):St:=us++fr.map λ p=>(σ[p.1]?).join
noncomputable def tCompG (wi:TI) (n:Nat) (fr:List (Nat×Str)) (g:TG) (tc:TT) (te:TE):TE:=λ σ H Q=>wi σ H λ J H1=>∃W:Nat->Nat->List V->Hp->Prop,(∃m,W 0 m [] H1)/\∀i m ys H,W i m ys H->
 (J.stop i H/\ys.length<=sizeLine/\∀p,H p=none->Q (.ref p) (upd H p (.lst ys)))\/
 (J.go i H/\ys.length<=sizeLine/\∀v H',J.yld i H v H'->g v (cStG σ fr (T1 n none)) H' λ σ6 H6=>∃us,us.length=n/\σ6=cStG σ fr us/\tc (cStG σ fr us) H6 λ b H2=>if b=true then te (cStG σ fr us) H2 λ y H3=>∃m',m' < m/\W (i + 1) m' (ys++[y]) H3 else∃m',m' < m/\W (i + 1) m' ys H2)
section
variable {X:Cx}
theorem zkk {scope:Scope} {cl:List (Str×Addr)} {N:List Str} {C:Addr} {s₂:t0} {H₂:Hp} {fp:List Addr} {x:Str} {px:Pos} (i:Nat) (hN:N.Nodup) (hi:N[i]? = some x) (hx:scope.names.lookup x=some .local):PG (cxComp X scope cl N C s₂ H₂ fp) (.Name x px) (gName i):=
 z0h hN hi (.inl (lookup_relabel_local hx)) (.inr (lookup_relabel_local hx))
theorem zg0 {xs:List Str} {tg:Expr} {g:TG} {pos:Pos} {elt iter:Expr} {ifs:List Expr} {scope:Scope} {fr:List (Nat×Str)} {wi:TI} {tc:TT} {te:TE} {use:Option (Value->Sem Unit)} {QQ:Value->t0->Prop} {pins:List (Addr×Obj)} {s:t0} {σ:St} {H:Hp} {Q:VK} {pp:Pos} (hcalm:X.calm=true) (hi:PI X tg iter wi)
  (hfr :∀p∈fr,X.N[p.1]? = some p.2/\(X.env.kindOf p.2=some .cell\/X.env.kindOf p.2=some .free))
  (hfree :∀y∈scope.names,y.2=V1->X.env.kindOf y.1=some .cell\/X.env.kindOf y.1=some .free)
  (hfs :∀p∈fr,(p.2,V1)∈scope.names/\((V7 scope X.env).names.lookup p.2=some .cell\/(V7 scope X.env).names.lookup p.2=some .free))
  (hcell :∀y∈scope.names,y.2≠NameKind.cell) (hkind:scope.kind=.function) (hnames :∀y∈scope.names,y.2=NameKind.local->scope.names.lookup y.1=some .local)
  (hg :∀cl C s₂ H₂ fp,PG (cxComp X scope cl (xs++fr.map (·.2)) C s₂ H₂ fp) tg g)
  (ht :∀cl C s₂ H₂ fp,PF (cxComp X scope cl (xs++fr.map (·.2)) C s₂ H₂ fp) ifs tc) (he :∀cl C s₂ H₂ fp,PE (cxComp X scope cl (xs++fr.map (·.2)) C s₂ H₂ fp) elt te)
  (hs :∀x,Y4 iter X.env x=Y2 x) (I:Inv X pins σ H s) (h:tCompG wi xs.length fr g tc te σ H Q)
  (hend :∀(D:Addr) (s4:t0) (H4:Hp),Inv X pins σ H4 s4->(∃m,s4.heap.Ns (D + 1) m)->H4 (D + 1)=none->D + 1≠X.env.locals->X.s₀.heap.objs.size<=D + 1->(D + 1∉X.fs/\(∀x c,X.env.cells.lookup x=some c->c≠D + 1)/\∀p∈X.pn++pins,p.1≠D + 1)->Q (.ref D) H4->compPost (B1 X.prog X.w) X.A X.xe use QQ (.ref D) (D + 1) (.ok .next) s4) :
  U0 (B1 X.prog X.w) X.A (comprehension (.ListComp elt [⟨tg,iter,ifs,0⟩] scope pos) scope X.env pp (newList []) false (firstIter [⟨tg,iter,ifs,0⟩] X.env) use) QQ X.xe s:=by
 obtain ⟨cl,e7,U,b1⟩:=zf0 (scope:=scope) (env:=X.env) λ y P hk=>I.ok.has y.1 (hfree y P hk);refine wpAny_comprehension_free (use:=use) rfl hs e7 hkind hnames (thn (hi pins s σ H _ I h) λ xv s₁ h₁=>thn h₁ λ g1 s₂ h₂=>?_);obtain ⟨it,fp,tn,J,O,e,f,T,b2,L,W,⟨m0,w0⟩,d6⟩:=h₂;subst e
 -- the list that is filled,the block's names
 refine V2 (wpAny_newFunctionEnv hcell (by intro y P;simp at P) (λ h₁ a5 a1=>?_) hkind);dsimp only at a5 a1⊢;generalize hD:s₂.heap.objs.size=D at a5 a1⊢;generalize hG:s₂.heap.push { cls:=.type "list",dict:=none,data:=.seq ([]:List Value).toArray }=G at a5 a1⊢;have hC:G.objs.size=D + 1:=by rw [<-hG,P3,hD]
 generalize hCC:G.objs.size=C at a5 a1 hC⊢;subst hC;have a9 :∀b∈fp,b < D:=λ b a=>by obtain ⟨o,e,_⟩:=T.obj _ _ b2 b a;rw [<-hD];exact Q0 e
 have a2 :∀b o,s₂.heap.get? b=some o->h₁.get? b=some o:=λ b o e=>a1.extBut b o (E1 (u2 (by rw [<-hD];exact Q0 e))) (D0 _ (hG ▸ D0 _ e));have f8:G.get? D=some { cls:=.type "list",dict:=none,data:=.seq ([]:List Value).toArray }:=by rw [<-hG,<-hD];exact Z0 _ rfl
 have d8:h₁.PlainList D #[]:=⟨0,a1.extBut _ _ (E1 (F2 D)) (D0 _ f8)⟩
 have f0 :∀y c,cl.lookup y=some c->c < D:=λ y c e=>by obtain ⟨v,q⟩:=f.cell y c (U y c e);rw [<-hD];exact q.lt
 have e0 :∀b∈frs X.stack,b < D:=λ b a=>by
  rcases List.mem_cons.mp (f.stkSub b a) with e|a
  ·rw [e,<-hD];exact f.lt
  ·rw [<-hD];exact Nat.lt_of_not_le λ z=>f.nofs z a
 have d0 :∀b∈fp,b∉frs X.stack:=λ b a f6=>by
  rcases List.mem_cons.mp (f.stkSub b f6) with e|z
  ·exact (L b a).2.1 e
  ·exact (L b a).2.2.1 z
 generalize hX':cxComp X scope cl (xs++fr.map (·.2)) (D + 1) s₂ O fp=X';have d2:X'.Ok:=by
  subst hX';refine ⟨f.ok.mod,hkind,f.ok.glob,f.ok.blt,(by show s₂.heap.objs.size<=D + 1;omega),λ y z c S M=>f.ok.inj y z c (U _ _ S) (U _ _ M),λ y P=>?_,(λ _ _ z=>Bool.noConfusion z),f.ok.hd,f.ok.frames,.inl rfl,λ b a=>⟨?_,λ y c e=>?_⟩,λ b o e=>f.bs b o e,?_,λ b o e a=>?_,d0,f.env0.funs,f.stkFree⟩
  ·rcases P with P|P
   ·exact b1 y (z6n hcell P (.inl rfl))
   ·exact b1 y (z6n hcell P (.inr rfl))
  ·exact E1 (u2 (a9 b a))
  ·exact (L b a).2.2.2.2.1 y c (U y c e)
  ·exact C0 f.ok.bsz f.sz
  ·rcases (L b a).2.2.2.1 with z|z
   ·exact f.ok.noex b o e z
   ·exact absurd (L1 (Q0 (f.ok.bs b o e).1) z) (O3 _)
 have Z:X'.env.locals=D + 1:=by subst hX';rfl
 have a4:X'.env.cells=cl:=by subst hX';rfl
 have a7:X'.fs=frs X.stack:=by subst hX';rfl
 have b8:X'.pn=[]:=by subst hX';rfl
 have a3:X'.s₀=s₂:=by subst hX';rfl
 have c4:X'.H₀=O:=by subst hX';rfl
 have b3:X'.ex=fp:=by subst hX';rfl
 have c3:X'.N=xs++fr.map (·.2):=by subst hX';rfl
 have c6:X'.A=X.A:=by subst hX';rfl
 have E:X'.prog=X.prog/\X'.w=X.w/\X'.K=X.K/\X'.calm=true:=by subst hX';exact ⟨rfl,rfl,rfl,hcalm⟩
 have b9:X'.xe=λ _ _=>False:=by subst hX';rfl
 have c9:X'.env=compEnvC scope cl (D + 1) X.env:=by subst hX';rfl
 have f9:PF X' ifs tc:=hX' ▸ ht cl (D + 1) s₂ O fp;have d9:PE X' elt te:=hX' ▸ he cl (D + 1) s₂ O fp;have e8:PG X' tg g:=hX' ▸ hg cl (D + 1) s₂ O fp;have fresh :∀b,D<=b->O b=none:=λ b a=>f.hok.fresh (by rw [hD];exact a);have start :∀t,Inv X' [] (cStG σ fr (T1 xs.length none)) O { s₂ with heap:=h₁,toks:=t }:=λ t=>by
  refine ⟨d2,by rw [a3],f.bare,?_,⟨_,by rw [Z];exact a5,λ i y v S M e3=>?_⟩,λ y c e=>?_,by rw [Z];exact fresh _ (B3 _),λ y c e=>?_,λ p B=>?_,?_,?_⟩
  ·rw [a7,b3,c4,a3];exact Un.kept a2
  ·rw [c3] at S;by_cases a0:i < xs.length
   ·exfalso;unfold cStG at M;rw [K1 (by rw [F3];exact a0),M7,if_pos a0] at M;cases M
   ·have a0:xs.length<=i:=j05 a0;rw [P1 a0,V0] at S;unfold cStG at M;rw [P1 (by rw [F3];exact a0),F3,V0] at M;generalize i - xs.length=i at S M;cases ej:fr[i]? with
    | none=>rw [ej] at S;cases S
    | some p=>
     rw [ej] at S;obtain rfl:p.2=y:=Q1 S;have a8:(σ[p.1]?).join=some v:=by rw [ej] at M;exact Q1 M
     have f4:σ[p.1]? = some (some v):=by
      cases q:σ[p.1]? with
      | none=>rw [q] at a8;cases a8
      | some z=>rw [q] at a8;exact congrArg some a8
     have B:=O0 ej;obtain ⟨m,hn,hl⟩:=f.loc;obtain ⟨u,r,l⟩:=hl p.1 p.2 v (hfr p B).1 f4 (by rcases (hfr p B).2 with z|z;exact .inr (.inl z);exact .inr (.inr z));refine ⟨u,r,.inr ⟨?_,?_⟩⟩
     ·rw [c9];exact (hfs p B).2
     ·rcases l with ⟨z,_⟩|⟨_,c,ec,q⟩
      ·exfalso;rcases (hfr p B).2 with z'|z'<;>(rw [z] at z';cases z')
      ·obtain ⟨c',c5⟩:=b1 p.2 (hfs p B).1;have:=U _ _ c5;rw [ec] at this;cases this;obtain ⟨o,ho,hd⟩:=q;exact ⟨c,by rw [a4];exact c5,o,a2 _ _ ho,hd⟩
  ·rw [a4] at e;obtain ⟨v,o,ho,hd⟩:=f.cell y c (U y c e);exact ⟨v,o,a2 _ _ ho,hd⟩
  ·rw [a4] at e;exact f.freeC y c (U y c e)
  ·rw [b8] at B;exact nomatch B
  ·rw [E.1,E.2.1];exact f.hok.kept a2
  ·rw [c3];unfold cStG;simp
 have FP :∀{pins':List (Addr×Obj)} {H':Hp},(∀b∈fp,H' b=none)->(∀p∈pins',p.1=D)->∀b∈fp,FpOk X' pins' H' b:=λ hn B b a=>by
  refine ⟨hn b a,?_,?_,.inl (by rw [b3];exact a),λ y c e=>?_,λ p c7=>?_⟩
  ·rw [Z];exact E1 (u2 (a9 b a))
  ·rw [a7];exact d0 b a
  ·rw [a4] at e;exact (L b a).2.2.2.2.1 y c (U y c e)
  ·rw [b8] at c7;rw [B p c7];exact Z3 (a9 b a)
 -- the turns
 have loop :∀s₃:t0,s₃={ s₂ with heap:=h₁,toks:=s₂.toks + ([]:List (Str×Value)).length }->
   N9 (B1 X.prog X.w) X.A (.compLoop (.ListComp elt [⟨tg,iter,ifs,0⟩] scope pos) 0 (.ref it) (.ref D) (compEnvC scope cl (D + 1) X.env))
    (compPost (B1 X.prog X.w) X.A X.xe use QQ (.ref D) (D + 1)) s₃:=by
  rintro s₃ rfl;rw [<-c9,<-E.1,<-E.2.1,<-c6];refine zhh (λ k s'=>∃i ys its H',Inv X' [] (cStG σ fr (T1 xs.length none)) H' s'/\tn i s'.heap/\(∀b∈fp,H' b=none)/\s'.heap.PlainList D its.toArray/\Vals ys its/\H' D=none/\W i k ys H') ?_ m0
   ⟨0,[],[],O,start _,T.keep _ _ _ b2 λ b a o e=>a2 b o e,λ b a=>(L b a).1,d8,.nil,fresh _ (u0 _),w0⟩
  rintro n s3 ⟨i,ys,its,H3,I3,st3,fr3,ac3,rv3,hD3,w3⟩;obtain ⟨na,f5⟩:=id ac3;have c8:Inv X' [(D,{ cls:=.type "list",data:=.seq its.toArray na })] (cStG σ fr (T1 xs.length none)) H3 s3:=I3.pins_of λ p B=>by rw [List.mem_singleton] at B;subst B;refine ⟨f5,hD3,by rw [Z];exact E1 (F2 D),by rw [a7];exact λ z=>O3 _ (e0 D z),λ v z=>nomatch z⟩
  have hT:=T;rw [<-E.1,<-E.2.1,<-E.2.2.1] at hT;rcases d6 i n ys H3 w3 with ⟨e4,b7,qn⟩|⟨go,b7,step⟩
  ·refine thn (hT.done X' rfl rfl rfl E.2.2.2 i _ s3 _ H3 _ c8 (FP fr3 (by intro p B;rw [List.mem_singleton.mp B])) st3 e4) λ r s4 ⟨hr,I4⟩=>?_;subst hr;obtain ⟨m4,d4,_⟩:=id I4.loc;obtain ⟨h',c0⟩ :∃h',h'=s4.heap:=⟨_,rfl⟩
   have c2:L5 (D + 1) s4.heap h':=by rw [c0];exact ⟨rfl,λ _ _=>rfl⟩
   have f3:D≠D + 1:=E1 (F2 D);have f7:=(I4.pin (D,_) (J1 _ R0))
   have g0:h'.get? D=some { cls:=.type "list",data:=.seq its.toArray na }:=(c2.2 D f3).trans f7.1;have un:Un (frs X.stack) fp O H3 s₂.heap s4.heap:=by have:=I4.base;rw [a7,b3,c4,a3] at this;exact this
   have kp :∀b o,b≠D + 1->s4.heap.get? b=some o->h'.get? b=some o:=λ b o a e=>(c2.2 b a).trans e;have a6 :∀b o,s₂.heap.get? b=some o->b≠D + 1/\b≠D:=λ b o e=>by have:=Q0 e;rw [hD] at this;exact ⟨E1 (u2 this),E1 this⟩
   have d5:Un (frs X.stack) fp O (upd H3 D (.lst ys)) s₂.heap h':=by
    refine ⟨λ b o e n a Y=>kp b o (a6 b o e).1 (un.keep b o e n a Y),λ b o e n a Y=>?_,λ b o e n Y=>by rw [upd_ne (a6 b o e).2];exact un.free b o e n Y,λ b o e Y=>?_,λ b xs e=>?_,λ b o u e=>?_,λ b ps e=>?_⟩
    ·obtain ⟨sl,z⟩:=un.slot b o e n a Y;exact ⟨sl,kp _ _ (a6 b o e).1 z⟩
    ·obtain ⟨o',z⟩:=un.there b o e Y;exact ⟨o',kp _ _ (a6 b o e).1 z⟩
    ·rw [upd_ne (z08 e (fresh D (u0 _)))];exact un.tups b xs e
    ·rw [upd_ne (z08 e (fresh D (u0 _)))];exact un.frzs b o u e
    ·rw [upd_ne (z08 e (fresh D (u0 _)))];exact un.tbls b ps e
   have b4:H3 (D + 1)=none:=by have:=I4.free;rw [Z] at this;exact this
   have e5:HOk X.prog X.w (upd H3 D (.lst ys)) h':=λ b u e=>by
    by_cases a:b=D
    ·subst a;rw [upd_same] at e;cases e;exact ⟨b7,its,na,rv3,g0⟩
    ·rw [upd_ne a] at e;have z:=I4.hok b u e;rw [E.1,E.2.1] at z;refine z.stay (λ c v hc q=>kp c v ?_ q) (λ c q=>by rw [upd_ne (z08 q hD3)];exact q) λ c xs q=>by rw [upd_ne (z08 q hD3)];exact q
     rintro rfl;rcases hc with rfl|hc
     ·rw [b4] at e;cases e
     ·rw [b4] at hc;cases hc
   subst c0;have I5:Inv X pins σ (upd H3 D (.lst ys)) s4:=f.call' (s':=s4) (ch:=fp) (by have:=I4.os;rw [a3] at this;exact this) d5 e5 I4.bare (λ b a=>⟨(L b a).2.2.2.1,(L b a).2.1,(L b a).2.2.2.2.1,(L b a).2.2.2.2.2⟩);show compPost (B1 X'.prog X'.w) X'.A X.xe use QQ (.ref D) (D + 1) (.ok .next) s4;rw [E.1,E.2.1,c6];refine hend D s4 _ I5 ⟨m4,Z ▸ d4⟩ ?_ ?_ ?_ ?_ (qn D hD3)
   ·rw [upd_ne (Z3 (F2 D))];exact b4
   ·exact Z3 (u2 (by rw [<-hD];exact f.lt))
   ·exact C0 f.sz (by rw [hD];exact B3 D)
   ·refine ⟨λ z=>f.nofs (by rw [hD];exact B3 D) z,λ y c e=>?_,λ p B=>?_⟩
    ·obtain ⟨v,q⟩:=f.cell y c e;exact E1 (u2 (by rw [<-hD];exact q.lt))
    ·exact E1 (u2 (by rw [<-hD];exact Q0 (f.pin p B).1))
  ·refine thn (hT.item X' rfl rfl rfl E.2.2.2 i _ s3 _ H3 _ c8 (FP fr3 (by intro p B;rw [List.mem_singleton.mp B])) st3 go) λ r s4 ⟨u,hr,h4⟩=>?_;subst hr;refine thn h4 λ _ s5 ⟨v,H5,I5,r5,y5,st5,fr5⟩=>?_;have d7:=I5.pinned (FP fr5 (by intro p B;rw [List.mem_singleton.mp B])) (T.obj _ _ st5);have g5:=e8 _ s5 (cStG σ fr (T1 xs.length none)) H5 v u _ d7 r5 (step v H5 y5);rw [b9] at g5;refine thn g5 λ _ s6 ⟨σ6,H6,I6,us,hus,e6,q6⟩=>?_;subst e6;have t6:=f9 _ s6 _ H6 _ I6 q6;rw [b9] at t6;refine thn t6 λ ok s7 ⟨H7,I7,q7⟩=>?_;have c1 :∀{H8:Hp} {F:t0} {ys':List V} {its':List Value} {pl:List (Addr×Obj)},Inv X' (pl++pinsAt fp s5.heap) (cStG σ fr us) H8 F->F.heap.PlainList D its'.toArray->Vals ys' its'->H8 D=none->(∃m',m' < n/\W (i + 1) m' ys' H8)->
     ∃m,m < n/\∃i ys its H',Inv X' [] (cStG σ fr (T1 xs.length none)) H' F/\tn i F.heap/\(∀b∈fp,H' b=none)/\F.heap.PlainList D its.toArray/\Vals ys its/\H' D=none/\W i m ys H':=λ {H8 F ys' its' pl} R b5 rv8 b0 ⟨m',hm,w8⟩=>by
    refine ⟨m',hm,i + 1,ys',its',H8,(R.pins_of (pins':=[]) (λ p B=>absurd B A0)).weak (by unfold cStG;simp [hus]) ?_,T.keep _ _ _ st5 λ b a o e=>(R.pin (b,o) (J1 _ (J1 _ (z4k a e)))).1,λ b a=>?_,b5,rv8,b0,w8⟩
    ·intro j z e;unfold cStG at e⊢;by_cases hj:j < xs.length
     ·rw [K1 (by rw [F3];exact hj),M7,if_pos hj] at e;cases e
     ·have hj:xs.length<=j:=j05 hj;rw [P1 (by rw [F3];exact hj),F3] at e;rw [P1 (by rw [hus];exact hj),hus];exact e
    ·obtain ⟨o,e,d⟩:=T.obj _ _ st5 b a;exact (R.pin (b,o) (J1 _ (J1 _ (z4k a e)))).2.1
   have b6 :∀{H8:Hp} {F:t0} {σ8:St},Inv X' ([(D,{ cls:=.type "list",data:=.seq its.toArray na })]++pinsAt fp s5.heap) σ8 H8 F->F.heap.PlainList D its.toArray/\H8 D=none:=λ R=>
    have z:=R.pin (D,_) (J1 _ (i6 _ R0))
    ⟨⟨na,z.1⟩,z.2.1⟩
   cases ok with
   | false=>rw [if_neg M0] at q7⊢;exact c1 I7 (b6 I7).1 rv3 (b6 I7).2 q7
   | true=>
    rw [if_pos rfl] at q7⊢;have t7:=d9 _ s7 _ H7 _ I7 q7;rw [b9] at t7;refine thn t7 λ y F ⟨vy,H8,R,r8,q8⟩=>?_;obtain ⟨b5,b0⟩:=b6 R;refine wpAny_list_append_plain (hsz:=by have:=rv3.length;rw [L0,<-this];exact b7) b5 λ h9 d1 f1=>?_;have I9:Inv X' ([]++pinsAt fp s5.heap) (cStG σ fr us) H8 F:=R.pins_of λ p B=>(R.pin p (J1 _ (J1 _ B)))
    have d3:Inv X' ([]++pinsAt fp s5.heap) (cStG σ fr us) H8 { F with heap:=h9 }:=by
     refine I9.turned (t':=F.toks) (it:=D) (λ b o a e=>(f1.2 b a).trans e) b0 (by rw [Z];exact E1 (F2 D)) (.inr (by rw [a3,hD];exact u0 _)) (λ y' c e=>?_) λ p B=>?_
     ·rw [a4] at e;exact E1 (f0 y' c e)
     ·rw [b8] at B;exact E1 (a9 _ (zd4 B).1)
    have e9:its.toArray.push y=(its++[y]).toArray:=by simp
    rw [e9] at d1;exact c1 d3 d1 (rv3.snoc r8) b0 q8
 exact codeAny_compStart_list (loop _ rfl) (T.self _ 0 _ _ _ (T.keep _ _ _ b2 λ b a o e=>a2 b o e) (loop _ rfl))
theorem zgd {xs:List Str} {tg:Expr} {g:TG} {pos:Pos} {elt iter:Expr} {ifs:List Expr} {scope:Scope} {fr:List (Nat×Str)} {wi:TI} {tc:TT} {te:TE} (hcalm:X.calm=true) (hi:PI X tg iter wi)
  (hfr :∀p∈fr,X.N[p.1]? = some p.2/\(X.env.kindOf p.2=some .cell\/X.env.kindOf p.2=some .free))
  (hfree :∀y∈scope.names,y.2=V1->X.env.kindOf y.1=some .cell\/X.env.kindOf y.1=some .free)
  (hfs :∀p∈fr,(p.2,V1)∈scope.names/\((V7 scope X.env).names.lookup p.2=some .cell\/(V7 scope X.env).names.lookup p.2=some .free))
  (hcell :∀y∈scope.names,y.2≠NameKind.cell) (hkind:scope.kind=.function) (hnames :∀y∈scope.names,y.2=NameKind.local->scope.names.lookup y.1=some .local)
  (hg :∀cl C s₂ H₂ fp,PG (cxComp X scope cl (xs++fr.map (·.2)) C s₂ H₂ fp) tg g)
  (ht :∀cl C s₂ H₂ fp,PF (cxComp X scope cl (xs++fr.map (·.2)) C s₂ H₂ fp) ifs tc) (he :∀cl C s₂ H₂ fp,PE (cxComp X scope cl (xs++fr.map (·.2)) C s₂ H₂ fp) elt te)
  (hs :∀x,Y4 iter X.env x=Y2 x:=by intro _;rfl):PE X (.ListComp elt [⟨tg,iter,ifs,0⟩] scope pos) (tCompG wi xs.length fr g tc te):=by
 intro r s σ H Q I h;rw [eval_ListComp];refine zg0 hcalm hi hfr hfree hfs hcell hkind hnames hg ht he hs I h λ D j k f a l d n ⟨c,hc,hp⟩ q=>?_;obtain ⟨m,a⟩:=a;exact ⟨m,a,λ t i=>⟨.ref D,k,f.turned (t':=j.toks) (it:=D + 1) (λ b o c e=>(i.2 b c).trans e) l d (.inr n) hc hp,rfl,q⟩⟩
theorem zis {xs:List Str} {tg:Expr} {g:TG} {pos:Pos} {elt iter:Expr} {ifs:List Expr} {scope:Scope} {fr:List (Nat×Str)} {wi:TI} {tc:TT} {te:TE} {i:Nat} {y:Str} {py spos:Pos} (hNy:X.N.Nodup) (hiy:X.N[i]? = some y) (hy:Loc X.env.scope y) (hcalm:X.calm=true) (hi:PI X tg iter wi)
  (hfr :∀p∈fr,X.N[p.1]? = some p.2/\(X.env.kindOf p.2=some .cell\/X.env.kindOf p.2=some .free))
  (hfree :∀y∈scope.names,y.2=V1->X.env.kindOf y.1=some .cell\/X.env.kindOf y.1=some .free)
  (hfs :∀p∈fr,(p.2,V1)∈scope.names/\((V7 scope X.env).names.lookup p.2=some .cell\/(V7 scope X.env).names.lookup p.2=some .free))
  (hcell :∀y∈scope.names,y.2≠NameKind.cell) (hkind:scope.kind=.function) (hnames :∀y∈scope.names,y.2=NameKind.local->scope.names.lookup y.1=some .local)
  (hg :∀cl C s₂ H₂ fp,PG (cxComp X scope cl (xs++fr.map (·.2)) C s₂ H₂ fp) tg g)
  (ht :∀cl C s₂ H₂ fp,PF (cxComp X scope cl (xs++fr.map (·.2)) C s₂ H₂ fp) ifs tc) (he :∀cl C s₂ H₂ fp,PE (cxComp X scope cl (xs++fr.map (·.2)) C s₂ H₂ fp) elt te)
  (hs :∀x,Y4 iter X.env x=Y2 x:=by intro _;rfl) (hw:y6 (.ListComp elt [⟨tg,iter,ifs,0⟩] scope pos) (some (.Name y py)) spos.line X.env=Y2 true:=by rfl) (hf:X.fn y=true\/X.env.scope.names.lookup y=some .local:=by first|exact .inl rfl|exact .inr rfl|assumption) :
  PS X (.Assign [.Name y py] (.ListComp elt [⟨tg,iter,ifs,0⟩] scope pos) spos) (tAsg (tCompG wi xs.length fr g tc te) (gName i)):=by
 intro t s σ H D I h;rw [exec_Assign_Name_used y py _ spos hw];refine d0 (wpAny_standAt (d0 ?_));show U0 _ _ (do let _ <-comprehension (.ListComp elt [⟨tg,iter,ifs,0⟩] scope pos) scope X.env (firstIterPos [⟨tg,iter,ifs,0⟩] pos) (newList []) (firstAsync [⟨tg,iter,ifs,0⟩]) (firstIter [⟨tg,iter,ifs,0⟩] X.env) (some (assign (.Name y py) X.env));Y2 ()) _ _ _;refine d0 (zg0 hcalm hi hfr hfree hfs hcell hkind hnames hg ht he hs I h λ A k l j c M f K ⟨d,hc,hp⟩ q=>?_);obtain ⟨m,c⟩:=c;obtain ⟨o,F,B,J,r,O,w⟩:=c;have G:Inv X ((A + 1,o) :: t) σ l k:=j.pins_of λ p a=>by
  rcases List.mem_cons.mp a with rfl|a
  ·exact ⟨J,M,f,d,λ v z=>by rw [r] at z;cases z⟩
  ·exact j.pin p (J1 _ a)
 refine thn (z0h (pos:=py) hNy hiy hy hf _ k σ l (.ref A) (.ref A) D.nx G rfl q) λ _ u ⟨σ5,H5,I6,q6⟩=>?_;have n:=I6.pin (A + 1,o) (J1 _ R0);have L:Inv X t σ5 H5 u:=I6.pins_of λ p a=>I6.pin p (J1 _ (W0 _ a));refine ⟨m,⟨o,F,B,n.1,r,O,w⟩,λ P E=>?_⟩;exact G0 (G0 ⟨σ5,H5,L.turned (t':=u.toks) (it:=A + 1) (λ b o d e=>(E.2 b d).trans e) n.2.1 f (.inr K) hc hp,q6⟩)
end
end L2
set_option maxHeartbeats 400000
namespace L2
open PySem PySem.Spec PyProof.Rows
theorem z6z {t rest:TS} {D:Ends} {σ:St} {H:Hp} (R:St->Hp->Prop) (hr :∀σ1 H1,R σ1 H1->rest D σ1 H1) (h:(∀σ1 H1,R σ1 H1->rest D σ1 H1)->t { D with nx:=rest D } σ H):tSeq t rest D σ H:=h hr
theorem z0q {te:TE} {g:TG} {rest:TS} {D:Ends} {σ:St} {H:Hp} (h:te σ H λ x H1=>g x σ H1 (rest D)):tSeq (tAsg te g) rest D σ H:=h
structure Runs (J:It) (H1:Hp) (n:Nat) (Item:Nat->V->Hp->Prop):Prop where
 go :∀i,i < n->∀H,Same H1 H->J.go i H
 stop :∀H,Same H1 H->J.stop n H
 item :∀i,i < n->∀H v H',Same H1 H->J.yld i H v H'->Same H H'/\Item i v H'
theorem z0t (p:Nat->Bool) (n:Nat):(C1 (n + 1)).filter p=(C1 n).filter p++(if p n=true then [n] else []):=by rw [n8,Q6,y4];cases p n<;>rfl
inductive All2 {α β:Type} (R:α->β->Prop):List α->List β->Prop
 | nil:All2 R [] []
 | cons {a:α} {b:β} {xs:List α} {ys:List β}:R a b->All2 R xs ys->All2 R (a :: xs) (b :: ys)
theorem z40 {α β:Type} {R:α->β->Prop} :∀{xs:List α} {ys:List β} {x:α} {y:β},All2 R xs ys->R x y->All2 R (xs++[x]) (ys++[y])
 | [],_,x,y,.nil,h=>.cons h .nil
 | _ :: _,_,x,y,.cons a r,h=>.cons a (z40 r h)
theorem z01 {α β:Type} {R S:α->β->Prop} (h :∀a b,R a b->S a b) :∀{xs:List α} {ys:List β},All2 R xs ys->All2 S xs ys
 | [],_,.nil=>.nil
 | _ :: _,_,.cons a r=>.cons (h _ _ a) (z01 h r)
theorem z03 {α β:Type} {R:α->β->Prop} :∀{xs:List α} {ys:List β},All2 R xs ys->ys.length=xs.length
 | [],_,.nil=>rfl
 | _ :: _,_,.cons _ r=>congrArg (· + 1) (z03 r)
theorem z58 {α β:Type} {f:α->β} :∀{xs:List α} {ys:List β},All2 (λ x y=>y=f x) xs ys->ys=xs.map f
 | [],_,.nil=>rfl
 | _ :: _,_,.cons a r=>by rw [j1,z58 r,a]
theorem zeg {J:It} {H1:Hp} {n m:Nat} {Item:Nat->V->Hp->Prop} {fr:List (Nat×Str)} {g:TG} {tc:TT} {te:TE} {σ:St} {Q:VK} (p:Nat->Bool) (R:Nat->V->Hp->Prop) (hR :∀i y H H',Same H H'->R i y H->R i y H') (r:Runs J H1 n Item) (hn:n<=sizeLine)
  (body :∀i,i < n->∀v H,Same H1 H->Item i v H->∀(KT:VK) (KF:Hp->Prop),(p i=true->∀y H',Same H H'->R i y H'->KT y H')->(p i=false->∀H',Same H H'->KF H')->
   g v (cStG σ fr (T1 m none)) H λ σ6 H6=>∃us,us.length=m/\σ6=cStG σ fr us/\tc (cStG σ fr us) H6 λ b H2=>if b=true then te (cStG σ fr us) H2 KT else KF H2)
  (hQ :∀l H' ys,Same H1 H'->H' l=none->All2 (λ i y=>R i y H') ((C1 n).filter p) ys->Q (.ref l) (upd H' l (.lst ys))) :
  ∃W:Nat->Nat->List V->Hp->Prop,(∃m,W 0 m [] H1)/\∀i k ys H,W i k ys H->
   (J.stop i H/\ys.length<=sizeLine/\∀p,H p=none->Q (.ref p) (upd H p (.lst ys)))\/
   (J.go i H/\ys.length<=sizeLine/\∀v H',J.yld i H v H'->g v (cStG σ fr (T1 m none)) H' λ σ6 H6=>∃us,us.length=m/\σ6=cStG σ fr us/\tc (cStG σ fr us) H6 λ b H2=>if b=true then te (cStG σ fr us) H2 λ y H3=>∃m',m' < k/\W (i + 1) m' (ys++[y]) H3 else∃m',m' < k/\W (i + 1) m' ys H2):=by
 refine ⟨λ i k ys H'=>k=n - i/\i<=n/\Same H1 H'/\All2 (λ i y=>R i y H') ((C1 i).filter p) ys,⟨n,by simp,S1 _,Same.refl H1,.nil⟩,?_⟩;rintro i k ys H' ⟨rfl,hi,sm,fa⟩;have h:ys.length<=sizeLine:=by rw [z03 fa];have:=U2 p (C1 i);rw [Y1] at this;omega
 by_cases hlt:i < n
 ·refine .inr ⟨r.go i hlt H' sm,h,λ v H2 y=>?_⟩;obtain ⟨c,q⟩:=r.item i hlt H' v H2 sm y;refine body i hlt v H2 (sm.trans c) q _ _ (λ f y H3 d o=>⟨n - (i + 1),by omega,rfl,hlt,(sm.trans c).trans d,?_⟩) (λ f H3 d=>⟨n - (i + 1),by omega,rfl,hlt,(sm.trans c).trans d,?_⟩)
  ·rw [z0t,if_pos f];exact z40 (z01 (λ a b z=>hR a b _ _ (c.trans d) z) fa) o
  ·rw [z0t,if_neg (by rw [f];decide),D2];exact z01 (λ a b z=>hR a b _ _ (c.trans d) z) fa
 ·have e:i=n:=by omega
  subst e;exact .inl ⟨r.stop H' sm,h,λ l j=>hQ l H' ys sm j fa⟩
theorem zia {K:b0} {a:Addr} {xs:List V} {H1:Hp} (hq:SqL K H1 a xs):Runs (Itl K a) H1 xs.length (λ i v _=>xs[i]? = some v):=
 ⟨λ i b H s=>⟨xs,xs[i],s.seq hq,by simp [b]⟩,λ H s=>⟨xs,s.seq hq,u0 _⟩,λ i b H v c s y=>by obtain ⟨e,y⟩:=y;subst e;exact ⟨Same.refl _,y xs (s.seq hq)⟩⟩
theorem z6f {α β:Type} (p:α->Bool) (f:α->β) (d:α) :∀xs:List α,((C1 xs.length).filter λ i=>p (xs[i]?.getD d)).map (λ i=>f (xs[i]?.getD d))=(xs.filter p).map f:=by
 intro xs;have h:(C1 xs.length).map (λ i=>xs[i]?.getD d)=xs:=by
  apply X5
  ·simp
  ·intro i b a;simp only [Z9,A9,B0 a,O9]
 have e:(xs.filter p).map f=((((C1 xs.length).map (λ i=>xs[i]?.getD d))).filter p).map f:=by rw [h]
 rw [e,List.filter_map,v3];rfl
theorem z7x (ns:List Int) :∀j,j<=ns.length->preSum (λ i=>ns[i]?.getD 0) j=(ns.take j).sum
 | 0,_=>by rw [List.take_zero];rfl
 | j + 1,h=>by show preSum (λ i=>ns[i]?.getD 0) j + ns[j]?.getD 0=_;rw [z7x ns j (Nat.le_of_succ_le h),G5 h,List.sum_append,B0 h];simp
structure QE (X:Cx) (e:Expr) (t:TE):Prop where
 run:PE X e t
structure QA (X:Cx) (es:List Expr) (t:TA):Prop where
 run:PA X es t
structure QPs (X:Cx) (pos:Pos) (ks:List (Option Expr)) (vs:List Expr) (t:List (TE×TE)):Prop where
 run:PPs X pos ks vs t
structure QS (X:Cx) (st:Stmt) (t:TS):Prop where
 run:PS X st t
structure QSs (X:Cx) (sts:List Stmt) (t:TS):Prop where
 run:PSs X sts t
section
variable {X:Cx} {pos:Pos}
theorem q_of {sts:List Stmt} {t:TS} {G:TS->Prop} (q:QSs X sts t) (g:G t) :∃t,PSs X sts t/\G t:=⟨t,q.run,g⟩
theorem z4e {st:Stmt} {t:TS} (h:QS X st t):QSs X [st] t:=⟨z04 h.run⟩
theorem z0i {st:Stmt} {rest:List Stmt} {t u:TS} (h:QS X st t) (r:QSs X rest u):QSs X (st :: rest) (tSeq t u):=⟨z02 h.run r.run⟩
theorem qs_set {i:Nat} {x:Str} {e:Expr} {te:TE} {pos':Pos} (hN:X.N.Nodup) (hi:X.N[i]? = some x) (hx:Loc X.env.scope x) (he:QE X e te) (hs:y6 e (some (.Name x pos')) pos.line X.env=Y2 false:=by rfl) (hf:X.fn x=true\/X.env.scope.names.lookup x=some .local:=by first|exact .inl rfl|exact .inr rfl|assumption) :
  QS X (.Assign [.Name x pos'] e pos) (tAsg te (gName i)):=⟨ps_set hN hi hx he.run hs hf⟩
theorem zea {o i value:Expr} {td ty tv:TE} {pos':Pos} (hu:X.A.units + 1 < cLine) (ho:QE X o td) (hi:QE X i ty) (hv:QE X value tv) (hs:y6 value (some (.Subscript o i pos')) pos.line X.env=Y2 false) :
  QS X (.Assign [.Subscript o i pos'] value pos) (sDPut td ty tv):=⟨zcp hu ho.run hi.run hv.run hs⟩
theorem qs_for {tg iter:Expr} {body:List Stmt} {wi:TI} {g:TG} {tb:TS} (hp:PassesOwn (B1 X.prog X.w) X.A X.env X.xe) (hc:X.calm=true) (hi:PI X tg iter wi) (hg:PG X tg g) (hb:QSs X body tb)
  (hs :∀x,Y4 iter X.env x=Y2 x:=by intro _;rfl):QS X (.For tg iter body [] pos) (tFor wi g tb):=⟨ps_for hp hc hi hg hb.run hs⟩
theorem qe_lst {es:List Expr} {t:TA} (h:QA X es t):QE X (.List es pos) (tLst t):=⟨pe_lst h.run⟩
theorem qa_nil:QA X [] tNil:=⟨pa_nil⟩
theorem z0e {e:Expr} {es:List Expr} {te:TE} {t:TA} (ha:QE X e te) (hr:QA X es t) (hs:N1 (e :: es) X.env=(false,u3 e X.env) :: N1 es X.env:=by rfl):QA X (e :: es) (tCons te t):=⟨z00 ha.run hr.run hs⟩
theorem zkz:QPs X pos [] [] []:=⟨zj7⟩
theorem zc3 {k v:Expr} {ks:List (Option Expr)} {vs:List Expr} {tk tv:TE} {trs:List (TE×TE)} (hk:QE X k tk) (hv:QE X v tv) (hr:QPs X pos ks vs trs):QPs X pos (some k :: ks) (v :: vs) ((tk,tv) :: trs):=⟨zbz hk.run hv.run hr.run⟩
theorem zle {keys:List (Option Expr)} {values:List Expr} {trs:List (TE×TE)} (h:QPs X pos keys values trs) (hall:keys.all (·.isSome)=true) (hl:keys.length=values.length) (h0:keys≠[]) (h15:keys.length<=15):QE X (.Dict keys values pos) (tDisp trs):=⟨zjk h.run hall hl h0 h15⟩
theorem qe_ix {a b:Expr} {ta tb:TE} {r:R2} (hr:IxR X r) (ha:QE X a ta) (hb:QE X b tb) (hs:zj3 b):QE X (.Subscript a b pos) (tOp r ta tb):=⟨pe_ix hr ha.run hb.run hs⟩
end
theorem z7p {X:Cx} {K:b0} (h:X.K=K):IxR X (rIx K):=h ▸ ix_seq
theorem zio {f:List V->Hp->VK->Prop} {te:TE} {D:Ends} {σ:St} {H:Hp} (h:te σ H λ x H1=>f [x] H1 D.rt):tRet (tCB f (tCons te tNil)) D σ H:=h
theorem z0f {α β:Type} {R:α->β->Prop} :∀{xs:List α} {ys:List β} {i:Nat} {y:β},All2 R xs ys->ys[i]? = some y->∃x,xs[i]? = some x/\R x y
 | _,_,i,y,.nil,e=>by simp at e
 | _,_,0,y,.cons a _,e=>by rw [O2] at e;cases e;exact ⟨_,O2,a⟩
 | _,_,i + 1,y,.cons _ r,e=>by rw [Z1] at e;obtain ⟨x,b,c⟩:=z0f r e;exact ⟨x,by rw [Z1];exact b,c⟩
theorem zfu {α:Type} {J:It} {H1:Hp} {rs:List α} {xs:List V} {RA:Hp->α->V->Prop} {m:Nat} {fr:List (Nat×Str)} {g:TG} {tc:TT} {te:TE} {σ:St} {Q:VK} (d:α) (p:α->Bool) (f:α->V) (r:Runs J H1 xs.length (λ i v _=>xs[i]? = some v)) (hm :∀H H' a v,Same H H'->RA H a v->RA H' a v) (al:All2 (RA H1) rs xs) (hn:rs.length<=sizeLine)
  (body :∀a∈rs,∀v H,Same H1 H->RA H a v->∀(KT:VK) (KF:Hp->Prop),(p a=true->∀H',Same H H'->KT (f a) H')->(p a=false->∀H',Same H H'->KF H')->
   g v (cStG σ fr (T1 m none)) H λ σ6 H6=>∃us,us.length=m/\σ6=cStG σ fr us/\tc (cStG σ fr us) H6 λ b H2=>if b=true then te (cStG σ fr us) H2 KT else KF H2)
  (hQ :∀l H',Same H1 H'->H' l=none->Q (.ref l) (upd H' l (.lst ((rs.filter p).map f)))) :
  ∃W:Nat->Nat->List V->Hp->Prop,(∃m,W 0 m [] H1)/\∀i k ys H,W i k ys H->
   (J.stop i H/\ys.length<=sizeLine/\∀p,H p=none->Q (.ref p) (upd H p (.lst ys)))\/
   (J.go i H/\ys.length<=sizeLine/\∀v H',J.yld i H v H'->g v (cStG σ fr (T1 m none)) H' λ σ6 H6=>∃us,us.length=m/\σ6=cStG σ fr us/\tc (cStG σ fr us) H6 λ b H2=>if b=true then te (cStG σ fr us) H2 λ y H3=>∃m',m' < k/\W (i + 1) m' (ys++[y]) H3 else∃m',m' < k/\W (i + 1) m' ys H2):=by
 have o:=z03 al;refine zeg (λ i=>p (rs[i]?.getD d)) (λ i y _=>y=f (rs[i]?.getD d)) (λ _ _ _ _ _ h=>h) r (by rw [o];exact hn) (λ i A v H s x KT KF j n=>?_) λ l H' ys s t z=>?_
 ·obtain ⟨a,c,u⟩:=z0f al x;rw [c] at j n;exact body a (O0 c) v H s (hm _ _ _ _ s u) KT KF (λ w H' q=>j w _ H' q rfl) n
 ·have e:=z58 z;rw [o,z6f p f d rs] at e;rw [e];exact hQ l H' s t
theorem zdr {α:Type} {K:b0} {l:Addr} {rs:List α} {xs:List V} {RA:Hp->α->V->Prop} {tl te:TE} {tc:TT} {g:TG} {m:Nat} {fr:List (Nat×Str)} {σ:St} {H H1:Hp} {Q:VK} (d:α) (p:α->Bool) (f:α->V) (htl :∀R:VK,R (.ref l) H1->tl σ H R) (hq:SqL K H1 l xs) (hm :∀H H' a v,Same H H'->RA H a v->RA H' a v) (al:All2 (RA H1) rs xs) (hn:rs.length<=sizeLine)
  (body :∀a∈rs,∀v H,Same H1 H->RA H a v->∀(KT:VK) (KF:Hp->Prop),(p a=true->∀H',Same H H'->KT (f a) H')->(p a=false->∀H',Same H H'->KF H')->
   g v (cStG σ fr (T1 m none)) H λ σ6 H6=>∃us,us.length=m/\σ6=cStG σ fr us/\tc (cStG σ fr us) H6 λ b H2=>if b=true then te (cStG σ fr us) H2 KT else KF H2)
  (hQ :∀l H',Same H1 H'->H' l=none->Q (.ref l) (upd H' l (.lst ((rs.filter p).map f)))):tCompG (iList K tl) m fr g tc te σ H Q:=
 htl _ ⟨l,rfl,⟨xs,hq⟩,zfu d p f (zia hq) hm al hn body hQ⟩
end L2
set_option maxHeartbeats 4000000
namespace L2
open PySem PySem.Spec PyProof.Rows
section
variable {prog:Program} {w:S0} {A:X1} {E:Value->t0->Prop} {s:t0}
theorem z7q (hh:A.handled=none) (it t:Addr) (ne:t≠it) (items:Array Value):Draws prog w A it [it,t] items.size (λ i v=>items[i]? = some v) (λ i h=>h.IsTupleIter it t i/\h.IsTuple t items) where
 live:=λ i h a=>a.1.elim λ o z=>⟨o,z.1⟩
 frame:=λ i h b a k=>⟨a.1.elim λ o z=>⟨o,k it (by simp) o z.1,z.2⟩,a.2.elim λ o z=>⟨o,k t (by simp) o z.1,z.2⟩⟩
 item:=λ i s Q E c a q=>tupOn a.1 a.2 (C2 c) λ b f d=>q _ b s.toks (C2 c) ⟨f,a.2.elim λ o z=>⟨o,(d.2 t ne).trans z.1,z.2⟩⟩ d
 done:=λ s Q E a q=>tupOff hh a.1 a.2 (by simp) λ b e x y=>q b e x y
theorem zkw (a:Addr) (xs:Array Value):Meets (S9.«enumerate.__new__» ⟨[.type "enumerate",.ref a],[]⟩) (λ _ R s=>s.heap.IsTuple a xs/\R (.ok (.ret (.ref (s.heap.objs.size + 1))))
  { s with heap:=(s.heap.push { cls:=.type "tuple_iterator",data:=.fields #[.ref a,.int 0 0] }).push { cls:=.type "enumerate",data:=.fields #[.none,.bool false,.ref s.heap.objs.size,j13 0,.none,.none] } }):=
 .of_wp λ k w A R s h=>by
  obtain ⟨j,g,d,i,e⟩:=s;obtain ⟨f,h⟩:=h;have l:=sub_enumerate;have b:Heap.IsTuple (Shared.heap ⟨j,g,d,i,e⟩) a xs:=f
  wp_walk using M5 b
  intro Γ p m;show U0 (B1 k w) A.in1 (Y2 _) _ _ _;refine G0 ?_;generalize List.drop 1 ((Γ.code,p) :: Γ.below)=L;split
  ·rename_i c _ _ _ _;cases c == M6 "enumerate" with
   | true=>
    wp_walk using M5 b
    refine ⟨_,rfl,?_⟩;simpa [P3,E4] using h
   | false=>
    wp_walk using M5 b
    refine ⟨_,rfl,?_⟩;simpa [P3,E4] using h
  ·wp_walk using M5 b
   refine ⟨_,rfl,?_⟩;simpa [P3,E4] using h
theorem zk2 {a:Addr} {xs:Array Value} {Q:Value->t0->Prop} (ha:s.heap.IsTuple a xs)
  (q :∀h',IsEnum h' (s.heap.objs.size + 1) s.heap.objs.size 0 .none->h'.IsTupleIter s.heap.objs.size a 0->h'.objs.size=s.heap.objs.size + 2->(∀c o,s.heap.get? c=some o->h'.get? c=some o)->Q (.ref (s.heap.objs.size + 1)) { s with heap:=h' }) :
  U0 (B1 prog w) A (call (.type "enumerate") [.ref a]) Q E s:=by
 refine callType_new F.called_enumerate (by decide) (F.typeCall_enumerate_1 _) (F.newCall_enumerate_1 _) (λ g=>F.args_object_init_2 g _) F.entry_enumerate_new (zkw a xs) ⟨ha,?_⟩;generalize hn:s.heap.objs.size=n at q⊢;generalize h0:s.heap.push { cls:=.type "tuple_iterator",data:=.fields #[.ref a,.int 0 0] }=k0;have b:k0.objs.size=n + 1:=by rw [<-h0,P3,hn]
 have f:k0.get? n=some { cls:=.type "tuple_iterator",data:=.fields #[.ref a,.int 0 0] }:=by rw [<-h0,<-hn];exact Z0 _ rfl
 have d:(k0.push { cls:=.type "enumerate",data:=.fields #[.none,.bool false,.ref n,j13 0,.none,.none] }).get? (n + 1)=some { cls:=.type "enumerate",data:=.fields #[.none,.bool false,.ref n,j13 0,.none,.none] }:=by rw [<-b];exact Z0 _ rfl
 exact ⟨⟨_,d,rfl⟩,q _ d ⟨_,D0 _ f,rfl,rfl⟩ (by rw [P3,b]) λ c o e=>D0 _ (by rw [<-h0];exact D0 _ e)⟩
end
noncomputable def IteL (K:b0) (a:Addr):It:=
  ⟨λ i H=>∃xs x,SqL K H a xs/\xs[i]? = some x,
   λ i H v H'=>∃p,H p=none/\v=.ref p/\∀xs,SqL K H a xs->∃x,xs[i]? = some x/\H'=upd H p (.tup [.int i,x]),
   λ i H=>∃xs,SqL K H a xs/\xs.length=i⟩
theorem w_0:(0:Nat)<=sizeLine:=by decide
theorem w_1:(1:Nat)<=sizeLine:=by decide
theorem w_2:(2:Nat)<=sizeLine:=by decide
theorem w_3:(3:Nat)<=sizeLine:=by decide
theorem w_4:(4:Nat)<=sizeLine:=by decide
theorem w_5:(5:Nat)<=sizeLine:=by decide
theorem w_7:(7:Nat)<=sizeLine:=by decide
theorem w_8:(8:Nat)<=sizeLine:=by decide
theorem zey {P:Program} {w:S0} {K:b0} {elts:List Expr} {x1:Nat} {pos:Pos} {e it a:Addr} (ne:e≠it) (nae:a≠e) (nai:a≠it):Turn P w K (.Tuple elts x1 pos) (IteL K a) [e,it] e (λ n h=>(∃old,IsEnum h e it (n:Nat) old)/\h.IsListIter it a n) where
 mem:=by simp
 obj:=λ n h f c g=>by
  simp only [F1,A0,or_false] at g;rcases g with rfl|rfl
  ·obtain ⟨⟨old,z⟩,_⟩:=f;exact ⟨_,z,λ v z=>by cases (show j3f _=Data.cell v from z)⟩
  ·obtain ⟨_,o,e,_,d⟩:=f;exact ⟨o,e,λ v z=>by rw [d] at z;cases z⟩
 keep:=λ n h U f k=>by obtain ⟨⟨old,z⟩,o,e1,e2⟩:=f;exact ⟨⟨old,k e (by simp) _ z⟩,o,k it (by simp) _ e1,e2⟩
 item:=by
  intro X B F G g n a6 s σ H E I m f L;subst B F G;obtain ⟨Q,x,q,T⟩:=L;obtain ⟨i,J,j,_⟩:=I.list q;have j:s.heap.IsList a i.toArray:=j.isList;obtain ⟨u,N,ru⟩:=J.get T;have D:=Draws.list (prog:=X.prog) (w:=X.w) (A:=X.A.in1) (I.ok.hd g) it a nai i.toArray;have a4:n < i.toArray.size:=by have:=(List.getElem?_eq_some_iff.mp N).1;simpa using this
  obtain ⟨⟨old,M⟩,R⟩:=f;refine wpAny_pyNext_enum_itemD D M ⟨R,j⟩ a4 ne (by simp [ne,nae.symm]) λ y U t l a3 a2 tT hz C=>?_;have l:i[n]? = some y:=by simpa using l
  rw [N] at l;cases l;have a0:e < s.heap.objs.size:=Q0 M;have a7:it < s.heap.objs.size:=by obtain ⟨o,z,_⟩:=R;exact Q0 z
  have S:s.heap.objs.size≠e:=Z3 a0;have Z:s.heap.objs.size∉[e,it]:=by simp only [F1,A0,or_false,not_or];exact ⟨S,Z3 a7⟩
  refine ⟨_,rfl,j2h a3 λ O a1 r=>?_⟩;have k2 :∀b o,b∉[e,it]->s.heap.get? b=some o->O.get? b=some o:=λ b o p z=>by simp only [F1,A0,or_false,not_or] at p;exact (r.2 b p.1).trans (C b o p.1 p.2 z)
  have V:=(r.2 _ S).trans tT;have a5:=a2.1.elim λ o z=>(⟨o,(r.2 it ne.symm).trans z.1,z.2⟩:O.IsListIter it a (n + 1))
  have fr:H s.heap.objs.size=none:=I.hok.fresh (u0 _);refine ⟨.ref s.heap.objs.size,upd H s.heap.objs.size (.tup [.int n,x]),I.turnedLaid (t':=t + 1) k2 m (u0 _) ⟨w_2,[.int n t,u],.cons ⟨t,rfl⟩ (.cons ru .nil),⟨_,V,rfl,_,rfl⟩,_,V,rfl⟩,rfl,⟨_,fr,rfl,λ a8 Y=>⟨x,?_,rfl⟩⟩,⟨⟨_,a1⟩,a5⟩,λ c g=>?_⟩
  ·rw [I.list_inj Y q];exact T
  ·rw [upd_ne (λ (z:c=s.heap.objs.size)=>Z (z ▸ g))];exact (m c g).1
 done:=by
  intro X B F G g n a6 s σ H E I m f L;subst B F G;obtain ⟨Q,q,rfl⟩:=L;obtain ⟨i,J,j,_⟩:=I.list q;have j:s.heap.IsList a i.toArray:=j.isList;have D:=Draws.list (prog:=X.prog) (w:=X.w) (A:=X.A.in1) (I.ok.hd g) it a nai i.toArray;have W:=WalksT.enumerateD D e ne (by simp [ne,nae.symm]) (by simp);have la:i.toArray.size=Q.length:=by simpa using J.length.symm
  exact W.done s _ E (by rw [la];exact ⟨f.1,f.2,j⟩) λ U tk C=>⟨rfl,I.turnedL (t':=tk) (λ c o g e=>C c o g e) m⟩
 self:=λ _ _ _ _ _ f h=>f.1.elim λ old z=>U7 z h
noncomputable def ieL (K:b0) (ta:TA):TI:=λ σ H R=>ta σ H λ vs H1=>∃a xs,vs=[.ref a]/\SqL K H1 a xs/\R (IteL K a) H1
theorem z8i {X:Cx} {elts:List Expr} {x1:Nat} {tpos:Pos} {e:Expr} {ta:TA} {p pos:Pos} (hg:Gl X "enumerate") (hm:X.mg "enumerate" = none) (ha:PA X [e] ta) (hs:N1 [e] X.env=[(false,u3 e X.env)]:=by rfl) :
  PI X (.Tuple elts x1 tpos) (.Call (.Name "enumerate" p) [e] [] pos) (ieL X.K ta):=by
 intro m s σ H R I h;refine Call_ (ld_blt I hg hm boot_enumerate (K3 (thn (ha pos m s σ H _ I h) λ x b ⟨vs,H1,I1,r1,q1⟩=>?_) (by rw [hs];rfl) rfl));obtain ⟨a,w,k,v,q⟩:=q1;subst k;obtain ⟨u,rfl,n⟩:=vals1 r1;cases (show u=A1 a from n);obtain ⟨r,z,d,_⟩:=I1.list v;have d:b.heap.IsList a r.toArray:=d.isList;have f:a < b.heap.objs.size:=by obtain ⟨o,e,_⟩:=id d;exact Q0 e
 refine call_enumerate_list d λ y j l _ t=>?_;refine U7 j ?_;refine ⟨_,_,_,_,H1,rfl,I1.kept (t':=b.toks) t,zey (Z3 (F2 _)) (E1 (u2 f)) (E1 f),⟨⟨_,j⟩,l⟩,λ c i=>?_,q⟩;have g:b.heap.objs.size<=c:=by
  simp only [F1,A0,or_false] at i;rcases i with rfl|rfl
  ·exact Nat.le_add_right _ _
  ·exact u0 _
 exact I1.fpOk g (I1.hok.fresh g)
theorem z94 {K:b0} {a:Addr} {xs:List V} {g:TG} {tb:TS} {D:Ends} {σ:St} {H:Hp} (Pv:Nat->St->Hp->Prop) (h0:Pv 0 σ H) (hl :∀i σ H,Pv i σ H->SqL K H a xs)
  (hs :∀i x σ H p,xs[i]? = some x->Pv i σ H->H p=none->g (.ref p) σ (upd H p (.tup [.int i,x])) λ σ2 H2=>tb { D with nx:=Pv (i + 1),ct:=Pv (i + 1),bk:=D.nx } σ2 H2) (hd :∀σ H,Pv xs.length σ H->D.nx σ H) :
  ∃W:Nat->Nat->St->Hp->Prop,(∃m,W 0 m σ H)/\∀i m σ H,W i m σ H->
   ((IteL K a).stop i H/\D.nx σ H)\/((IteL K a).go i H/\∃N:St->Hp->Prop,(∀σ' H',N σ' H'->∃m',m' < m/\W (i + 1) m' σ' H')/\∀x H',(IteL K a).yld i H x H'->g x σ H' λ σ2 H2=>tb { D with nx:=N,ct:=N,bk:=D.nx } σ2 H2):=by
 refine ⟨λ i m σ H=>m=xs.length - i/\i<=xs.length/\Pv i σ H,⟨xs.length,by simp,S1 _,h0⟩,?_⟩;rintro i m σ H ⟨rfl,hi,p⟩;have b:=hl i σ H p;by_cases hlt:i < xs.length
 ·refine .inr ⟨⟨xs,xs[i],b,by simp [hlt]⟩,Pv (i + 1),λ σ' H' f=>⟨xs.length - (i + 1),by omega,rfl,hlt,f⟩,λ v H' y=>?_⟩;obtain ⟨t,h,rfl,c⟩:=y;obtain ⟨j,d,rfl⟩:=c xs b;exact hs i j σ H t d p h
 ·have e:i=xs.length:=by omega
  subst e;exact .inl ⟨⟨xs,b,rfl⟩,hd σ H p⟩
noncomputable def IteT (K:b0) (a:Addr):It:=
  ⟨λ i H=>∃xs x,SqT K H a xs/\xs[i]? = some x,
   λ i H v H'=>∃p,H p=none/\v=.ref p/\∀xs,SqT K H a xs->∃x,xs[i]? = some x/\H'=upd H p (.tup [.int i,x]),
   λ i H=>∃xs,SqT K H a xs/\xs.length=i⟩
theorem ze1 {P:Program} {w:S0} {K:b0} {elts:List Expr} {x1:Nat} {pos:Pos} {e it a:Addr} (ne:e≠it) (nae:a≠e) (nai:a≠it):Turn P w K (.Tuple elts x1 pos) (IteT K a) [e,it] e (λ n h=>(∃old,IsEnum h e it (n:Nat) old)/\h.IsTupleIter it a n) where
 mem:=by simp
 obj:=λ n h f c g=>by
  simp only [F1,A0,or_false] at g;rcases g with rfl|rfl
  ·obtain ⟨⟨old,z⟩,_⟩:=f;exact ⟨_,z,λ v z=>by cases (show j3f _=Data.cell v from z)⟩
  ·obtain ⟨_,o,e,_,d⟩:=f;exact ⟨o,e,λ v z=>by rw [d] at z;cases z⟩
 keep:=λ n h U f k=>by obtain ⟨⟨old,z⟩,o,e1,e2⟩:=f;exact ⟨⟨old,k e (by simp) _ z⟩,o,k it (by simp) _ e1,e2⟩
 item:=by
  intro X B F G g n a6 s σ H E I m f L;subst B F G;obtain ⟨Q,x,q,T⟩:=L;obtain ⟨i,J,j,_⟩:=I.tuple q;have j:s.heap.IsTuple a i.toArray:=j;obtain ⟨u,N,ru⟩:=J.get T;have D:=z7q (prog:=X.prog) (w:=X.w) (A:=X.A.in1) (I.ok.hd g) it a nai i.toArray;have a4:n < i.toArray.size:=by have:=(List.getElem?_eq_some_iff.mp N).1;simpa using this
  obtain ⟨⟨old,M⟩,R⟩:=f;refine wpAny_pyNext_enum_itemD D M ⟨R,j⟩ a4 ne (by simp [ne,nae.symm]) λ y U t l a3 a2 tT hz C=>?_;have l:i[n]? = some y:=by simpa using l
  rw [N] at l;cases l;have a0:e < s.heap.objs.size:=Q0 M;have a7:it < s.heap.objs.size:=by obtain ⟨o,z,_⟩:=R;exact Q0 z
  have S:s.heap.objs.size≠e:=Z3 a0;have Z:s.heap.objs.size∉[e,it]:=by simp only [F1,A0,or_false,not_or];exact ⟨S,Z3 a7⟩
  refine ⟨_,rfl,j2h a3 λ O a1 r=>?_⟩;have k2 :∀b o,b∉[e,it]->s.heap.get? b=some o->O.get? b=some o:=λ b o p z=>by simp only [F1,A0,or_false,not_or] at p;exact (r.2 b p.1).trans (C b o p.1 p.2 z)
  have V:=(r.2 _ S).trans tT;have a5:=a2.1.elim λ o z=>(⟨o,(r.2 it ne.symm).trans z.1,z.2⟩:O.IsTupleIter it a (n + 1))
  have fr:H s.heap.objs.size=none:=I.hok.fresh (u0 _);refine ⟨.ref s.heap.objs.size,upd H s.heap.objs.size (.tup [.int n,x]),I.turnedLaid (t':=t + 1) k2 m (u0 _) ⟨w_2,[.int n t,u],.cons ⟨t,rfl⟩ (.cons ru .nil),⟨_,V,rfl,_,rfl⟩,_,V,rfl⟩,rfl,⟨_,fr,rfl,λ a8 Y=>⟨x,?_,rfl⟩⟩,⟨⟨_,a1⟩,a5⟩,λ c g=>?_⟩
  ·rw [I.tuple_inj Y q];exact T
  ·rw [upd_ne (λ (z:c=s.heap.objs.size)=>Z (z ▸ g))];exact (m c g).1
 done:=by
  intro X B F G g n a6 s σ H E I m f L;subst B F G;obtain ⟨Q,q,rfl⟩:=L;obtain ⟨i,J,j,_⟩:=I.tuple q;have j:s.heap.IsTuple a i.toArray:=j;have D:=z7q (prog:=X.prog) (w:=X.w) (A:=X.A.in1) (I.ok.hd g) it a nai i.toArray;have W:=WalksT.enumerateD D e ne (by simp [ne,nae.symm]) (by simp);have la:i.toArray.size=Q.length:=by simpa using J.length.symm
  exact W.done s _ E (by rw [la];exact ⟨f.1,f.2,j⟩) λ U tk C=>⟨rfl,I.turnedL (t':=tk) (λ c o g e=>C c o g e) m⟩
 self:=λ _ _ _ _ _ f h=>f.1.elim λ old z=>U7 z h
noncomputable def ieT (K:b0) (ta:TA):TI:=λ σ H R=>ta σ H λ vs H1=>∃a xs,vs=[.ref a]/\SqT K H1 a xs/\R (IteT K a) H1
theorem zko {X:Cx} {elts:List Expr} {x1:Nat} {tpos:Pos} {e:Expr} {ta:TA} {p pos:Pos} (hg:Gl X "enumerate") (hm:X.mg "enumerate" = none) (ha:PA X [e] ta) (hs:N1 [e] X.env=[(false,u3 e X.env)]:=by rfl) :
  PI X (.Tuple elts x1 tpos) (.Call (.Name "enumerate" p) [e] [] pos) (ieT X.K ta):=by
 intro m s σ H R I h;refine Call_ (ld_blt I hg hm boot_enumerate (K3 (thn (ha pos m s σ H _ I h) λ x b ⟨vs,H1,I1,r1,q1⟩=>?_) (by rw [hs];rfl) rfl));obtain ⟨a,w,k,v,q⟩:=q1;subst k;obtain ⟨u,rfl,n⟩:=vals1 r1;cases (show u=A1 a from n);obtain ⟨r,z,d,_⟩:=I1.tuple v;have d:b.heap.IsTuple a r.toArray:=d;have f:a < b.heap.objs.size:=by obtain ⟨o,e,_⟩:=id d;exact Q0 e
 refine zk2 d λ y j l _ t=>?_;refine U7 j ?_;refine ⟨_,_,_,_,H1,rfl,I1.kept (t':=b.toks) t,ze1 (Z3 (F2 _)) (E1 (u2 f)) (E1 f),⟨⟨_,j⟩,l⟩,λ c i=>?_,q⟩;have g:b.heap.objs.size<=c:=by
  simp only [F1,A0,or_false] at i;rcases i with rfl|rfl
  ·exact Nat.le_add_right _ _
  ·exact u0 _
 exact I1.fpOk g (I1.hok.fresh g)
theorem zhl {K:b0} {a:Addr} {xs:List V} {g:TG} {tb:TS} {D:Ends} {σ:St} {H:Hp} (Pv:Nat->St->Hp->Prop) (h0:Pv 0 σ H) (hl :∀i σ H,Pv i σ H->SqT K H a xs)
  (hs :∀i x σ H p,xs[i]? = some x->Pv i σ H->H p=none->g (.ref p) σ (upd H p (.tup [.int i,x])) λ σ2 H2=>tb { D with nx:=Pv (i + 1),ct:=Pv (i + 1),bk:=D.nx } σ2 H2) (hd :∀σ H,Pv xs.length σ H->D.nx σ H) :
  ∃W:Nat->Nat->St->Hp->Prop,(∃m,W 0 m σ H)/\∀i m σ H,W i m σ H->
   ((IteT K a).stop i H/\D.nx σ H)\/((IteT K a).go i H/\∃N:St->Hp->Prop,(∀σ' H',N σ' H'->∃m',m' < m/\W (i + 1) m' σ' H')/\∀x H',(IteT K a).yld i H x H'->g x σ H' λ σ2 H2=>tb { D with nx:=N,ct:=N,bk:=D.nx } σ2 H2):=by
 refine ⟨λ i m σ H=>m=xs.length - i/\i<=xs.length/\Pv i σ H,⟨xs.length,by simp,S1 _,h0⟩,?_⟩;rintro i m σ H ⟨rfl,hi,p⟩;have b:=hl i σ H p;by_cases hlt:i < xs.length
 ·refine .inr ⟨⟨xs,xs[i],b,by simp [hlt]⟩,Pv (i + 1),λ σ' H' f=>⟨xs.length - (i + 1),by omega,rfl,hlt,f⟩,λ v H' y=>?_⟩;obtain ⟨t,h,rfl,c⟩:=y;obtain ⟨j,d,rfl⟩:=c xs b;exact hs i j σ H t d p h
 ·have e:i=xs.length:=by omega
  subst e;exact .inl ⟨⟨xs,b,rfl⟩,hd σ H p⟩
end L2
set_option maxHeartbeats 400000
namespace L2
open PySem PySem.Spec PyProof.Rows
section
variable {X:Cx}
theorem zgx (hc:X.calm=true):CallR X (.builtin "sum") (λ xs H Q=>∃(p:Addr) (ns:List Int),xs=[.ref p]/\SqL X.K H p (ns.map V.int)/\Q (.int ns.sum) H):=by
 intro F s σ H xs E Q I r h;obtain ⟨p,ns,rfl,D,q⟩:=h;obtain ⟨u,rfl,y⟩:=vals1 r;cases y;obtain ⟨a,k,c,G⟩:=I.list D;have C:p≠s.heap.objs.size:=by obtain ⟨o,e,_⟩:=c.isList;exact E1 (Q0 e)
 have j:a.length=ns.length:=by have:=k.length;rw [F0] at this;exact this.symm
 refine call_sum_walkAnyS (j0a c.isList ?_);refine ⟨s.heap.objs.size,_,_,_,_,_,_,λ i=>ns[i]?.getD 0,rfl,(Walks.list (show X.A.in1.handled=none from I.ok.hd hc) s.heap.objs.size p C a.toArray).toS,⟨⟨_,Z0 _ rfl,rfl,rfl⟩,c.isList.at λ o e=>D0 _ e⟩,?_,?_,?_⟩
 ·intro b d;simp only [F1,A0,or_false] at d;rcases d with rfl|rfl
  ·rw [P3];exact F2 _
  ·obtain ⟨o,e,_⟩:=c.isList;exact Q0 (D0 _ e)
 ·intro i v f;have f:a[i]? = some v:=by simpa using f
  obtain ⟨w,e⟩:=List.getElem?_eq_some_iff.mp f;have m:i < ns.length:=by rw [<-j];exact w
  obtain ⟨u,n,g⟩:=k.get (i:=i) (x:=.int ns[i]) (by simp [m]);rw [f] at n;cases n;obtain ⟨t,g⟩:=g;exact ⟨t,by show v=F7 (ns[i]?.getD 0) t;rw [B0 m];exact g⟩
 ·intro B t' l;have e:preSum (λ i=>ns[i]?.getD 0) a.toArray.size=ns.sum:=by rw [L0,j,z7x ns _ (u0 _),G3]
  rw [e,l.eq_with];refine ⟨.int _,H,I.kept (t':=B.toks) λ b o z=>l.heap b o ?_ (D0 _ z),⟨_,rfl⟩,q⟩;intro d;rw [List.mem_singleton.mp d] at z;exact absurd (Q0 z) (O3 _)
end
mutual
noncomputable def IsPd (K:b0) (H:Hp):PyData->V->Prop
 | .none,v=>v=.non
 | .bool b,v=>v=.bl b
 | .int i,v=>v=.int i
 | .str z,v=>v=.str z
 | .list ds,v=>∃a xs,v=.ref a/\SqL K H a xs/\IsPds K H ds xs
 | .tuple ds,v=>∃a xs,v=.ref a/\SqT K H a xs/\IsPds K H ds xs
 | .dict _,_=>False
noncomputable def IsPds (K:b0) (H:Hp):List PyData->List V->Prop
 | [],xs=>xs=[]
 | d :: ds,xs=>∃x r,xs=x :: r/\IsPd K H d x/\IsPds K H ds r
end
section
variable {X:Cx} {pins:List (Addr×Obj)} {σ:St} {H:Hp} {s:t0}
mutual
theorem z6a (I:Inv X pins σ H s) :∀(d:PyData) (v:V) (u:Value),IsPd X.K H d v->RelV v u->∃as,Reads s.heap u d as
 | .none,v,u,h,r=>by cases (show v=.non from h);cases (show u=.none from r);exact ⟨_,.none⟩
 | .bool b,v,u,h,r=>by cases (show v=.bl b from h);cases (show u=.bool b from r);exact ⟨_,.bool b⟩
 | .int i,v,u,h,r=>by cases (show v=.int i from h);obtain ⟨t,rfl⟩:=r;exact ⟨_,.int i t⟩
 | .str z,v,u,h,r=>by cases (show v=.str z from h);obtain ⟨t,rfl⟩:=r;exact ⟨_,.str z t⟩
 | .list ds,v,u,h,r=>by obtain ⟨a,p,rfl,e,c⟩:=h;cases (show u=.ref a from r);obtain ⟨k,j,f,_⟩:=I.list e;obtain ⟨o,l,q,n,g⟩:=f.isList;obtain ⟨as,m⟩:=z8m I ds p k c j;exact ⟨_,.list l q g m⟩
 | .tuple ds,v,u,h,r=>by obtain ⟨a,p,rfl,e,c⟩:=h;cases (show u=.ref a from r);obtain ⟨k,j,f,_⟩:=I.tuple e;obtain ⟨o,l,q,n,g⟩:=f;obtain ⟨as,m⟩:=z8m I ds p k c j;exact ⟨_,.tuple l q g m⟩
 | .dict _,v,u,h,r=>h.elim
theorem z8m (I:Inv X pins σ H s) :∀(ds:List PyData) (xs:List V) (us:List Value),IsPds X.K H ds xs->Vals xs us->∃as,O6 s.heap us ds as
 | [],xs,us,h,r=>by cases (show xs=[] from h);cases r;exact ⟨_,.nil⟩
 | d :: ds,xs,us,h,r=>by
  obtain ⟨x,t,rfl,a,b⟩:=h;cases r with
  | cons r1 r2=>obtain ⟨as,c⟩:=z6a I d x _ a r1;obtain ⟨bs,e⟩:=z8m I ds t _ b r2;exact ⟨_,.cons c e⟩
end
end
mutual
noncomputable def plainP:PyData->Bool
 | .none=>true
 | .bool _=>false
 | .int _=>true
 | .str z=>(PyData.str z).canLay0
 | .list ds=>z0z ds
 | .tuple ds=>z0z ds
 | .dict _=>false
noncomputable def z0z:List PyData->Bool
 | []=>true
 | d :: ds=>plainP d && z0z ds
end
mutual
theorem z8h :∀d:PyData,plainP d=true->d.canLay0=true
 | .none,_=>rfl
 | .bool _,h=>by cases h
 | .int _,_=>rfl
 | .str _,h=>h
 | .list ds,h=>z6k ds h
 | .tuple ds,h=>z6k ds h
 | .dict _,h=>by cases h
theorem z6k :∀ds:List PyData,z0z ds=true->W6 ds=true
 | [],_=>rfl
 | d :: ds,h=>by have h:(plainP d && z0z ds)=true:=h;rw [j2] at h;show (d.canLay0 && W6 ds)=true;rw [z8h d h.1,z6k ds h.2];rfl
end
mutual
theorem ziq :∀d e:PyData,plainP d=true->plainP e=true->(d.eqv e=true↔d=e)
 | .none,e,_,he=>by
  cases e with
  | none=>exact ⟨λ _=>rfl,λ _=>rfl⟩
  | bool b=>cases he
  | dict _=>cases he
  | _=>exact ⟨λ z=>(by cases z),λ z=>(by cases z)⟩
 | .bool _,e,hd,_=>by cases hd
 | .int i,e,_,he=>by
  cases e with
  | int j=>exact ⟨λ z=>congrArg _ (eq_of_beq (show (i == j)=true from z)),λ z=>by cases z;exact beq_self_eq_true i⟩
  | bool b=>cases he
  | dict _=>cases he
  | _=>exact ⟨λ z=>(by cases z),λ z=>(by cases z)⟩
 | .str i,e,_,he=>by
  cases e with
  | str j=>exact ⟨λ z=>congrArg _ (eq_of_beq (show (i == j)=true from z)),λ z=>by cases z;exact beq_self_eq_true i⟩
  | bool b=>cases he
  | dict _=>cases he
  | _=>exact ⟨λ z=>(by cases z),λ z=>(by cases z)⟩
 | .list ds,e,hd,he=>by
  cases e with
  | list es=>exact ⟨λ z=>congrArg _ ((z65 ds es hd he).mp z),λ z=>(z65 ds es hd he).mpr (by cases z;rfl)⟩
  | bool b=>cases he
  | dict _=>cases he
  | _=>exact ⟨λ z=>(by cases z),λ z=>(by cases z)⟩
 | .tuple ds,e,hd,he=>by
  cases e with
  | tuple es=>exact ⟨λ z=>congrArg _ ((z65 ds es hd he).mp z),λ z=>(z65 ds es hd he).mpr (by cases z;rfl)⟩
  | bool b=>cases he
  | dict _=>cases he
  | _=>exact ⟨λ z=>(by cases z),λ z=>(by cases z)⟩
 | .dict _,e,hd,_=>by cases hd
theorem z65 :∀ds es:List PyData,z0z ds=true->z0z es=true->(PyData.eqvAll ds es=true↔ds=es)
 | [],[],_,_=>⟨λ _=>rfl,λ _=>rfl⟩
 | [],e :: es,_,_=>⟨λ z=>(by cases z),λ z=>(by cases z)⟩
 | d :: ds,[],_,_=>⟨λ z=>(by cases z),λ z=>(by cases z)⟩
 | d :: ds,e :: es,a,b=>by have a:(plainP d && z0z ds)=true:=a;have b:(plainP e && z0z es)=true:=b;rw [j2] at a b;show (d.eqv e && PyData.eqvAll ds es)=true↔_;rw [j2,ziq d e a.1 b.1,z65 ds es a.2 b.2];exact ⟨λ z=>by rw [z.1,z.2],λ z=>by cases z;exact ⟨rfl,rfl⟩⟩
end
theorem zd2 {d e:PyData} (hd:plainP d=true) (he:plainP e=true) {p:Prop} [Decidable p] (h:d=e↔p):d.eqv e=decide p:=by rw [Bool.eq_iff_iff,decide_eq_true_eq,ziq d e hd he,h]
section
variable {X:Cx}
noncomputable def rEqP (K:b0):R2:=λ x y H Q=>∃d e,IsPd K H d x/\IsPd K H e y/\plainP d=true/\plainP e=true/\d.depth<=60/\Q (.bl (d.eqv e)) H
theorem room60 {A:X1} {k m n:Nat} (hr:Room k A) (h:m<=60):A.units + min m n < cLine:=O1 (Nat.add_le_add_left (C0 (z8 _ _) (C0 h (by decide:60<=64))) _) hr.units
theorem op_eqP {k:Nat} (hr:Room k X.A):OpR X (B2 .Eq) (rEqP X.K):=by intro n s σ H x y v u Q I a l h;obtain ⟨d,e,f,b,g,i,c,q⟩:=h;obtain ⟨o,j⟩:=z6a I d x v f a;obtain ⟨bs,m⟩:=z6a I e y u b l;exact SeqAt.compareEq_reads j m (z8h _ g) (z8h _ i) (room60 hr c) ⟨.bl _,H,I,rfl,q⟩
end
end L2
set_option maxHeartbeats 1000000
namespace L2
open PySem PySem.Spec PyProof.Rows
end L2
set_option maxHeartbeats 400000
namespace L2
open PySem PySem.Spec PyProof.Rows
structure RunsR (S:Hp->Hp->Prop) (J:It) (H1:Hp) (n:Nat) (Item:Nat->V->Hp->Prop):Prop where
 go :∀i,i < n->∀H,S H1 H->J.go i H
 stop :∀H,S H1 H->J.stop n H
 item :∀i,i < n->∀H v H',S H1 H->J.yld i H v H'->S H H'/\Item i v H'
theorem z2i {S:Hp->Hp->Prop} {J:It} {H1:Hp} {n m:Nat} {Item:Nat->V->Hp->Prop} {fr:List (Nat×Str)} {g:TG} {tc:TT} {te:TE} {σ:St} {Q:VK} (s0:S H1 H1) (st :∀a b c,S a b->S b c->S a c) (p:Nat->Bool) (R:Nat->V->Hp->Prop) (hR :∀i y H H',S H H'->R i y H->R i y H') (r:RunsR S J H1 n Item) (hn:n<=sizeLine)
  (body :∀i,i < n->∀v H,S H1 H->Item i v H->∀(KT:VK) (KF:Hp->Prop),(p i=true->∀y H',S H H'->R i y H'->KT y H')->(p i=false->∀H',S H H'->KF H')->
   g v (cStG σ fr (T1 m none)) H λ σ6 H6=>∃us,us.length=m/\σ6=cStG σ fr us/\tc (cStG σ fr us) H6 λ b H2=>if b=true then te (cStG σ fr us) H2 KT else KF H2)
  (hQ :∀l H' ys,S H1 H'->H' l=none->All2 (λ i y=>R i y H') ((C1 n).filter p) ys->Q (.ref l) (upd H' l (.lst ys))) :
  ∃W:Nat->Nat->List V->Hp->Prop,(∃m,W 0 m [] H1)/\∀i k ys H,W i k ys H->
   (J.stop i H/\ys.length<=sizeLine/\∀p,H p=none->Q (.ref p) (upd H p (.lst ys)))\/
   (J.go i H/\ys.length<=sizeLine/\∀v H',J.yld i H v H'->g v (cStG σ fr (T1 m none)) H' λ σ6 H6=>∃us,us.length=m/\σ6=cStG σ fr us/\tc (cStG σ fr us) H6 λ b H2=>if b=true then te (cStG σ fr us) H2 λ y H3=>∃m',m' < k/\W (i + 1) m' (ys++[y]) H3 else∃m',m' < k/\W (i + 1) m' ys H2):=by
 refine ⟨λ i k ys H'=>k=n - i/\i<=n/\S H1 H'/\All2 (λ i y=>R i y H') ((C1 i).filter p) ys,⟨n,by simp,S1 _,s0,.nil⟩,?_⟩;rintro i k ys H' ⟨rfl,hi,sm,fa⟩;have j:ys.length<=sizeLine:=by rw [z03 fa];have:=U2 p (C1 i);rw [Y1] at this;omega
 by_cases hlt:i < n
 ·refine .inr ⟨r.go i hlt H' sm,j,λ v H2 y=>?_⟩;obtain ⟨d,s⟩:=r.item i hlt H' v H2 sm y;refine body i hlt v H2 (st _ _ _ sm d) s _ _ (λ h y H3 f q=>⟨n - (i + 1),by omega,rfl,hlt,st _ _ _ (st _ _ _ sm d) f,?_⟩) (λ h H3 f=>⟨n - (i + 1),by omega,rfl,hlt,st _ _ _ (st _ _ _ sm d) f,?_⟩)
  ·rw [z0t,if_pos h];exact z40 (z01 (λ a b z=>hR a b _ _ (st _ _ _ d f) z) fa) q
  ·rw [z0t,if_neg (by rw [h];decide),D2];exact z01 (λ a b z=>hR a b _ _ (st _ _ _ d f) z) fa
 ·have e:i=n:=by omega
  subst e;exact .inl ⟨r.stop H' sm,j,λ l o=>hQ l H' ys sm o fa⟩
theorem z61 {S:Hp->Hp->Prop} {K:b0} {a:Addr} {xs:List V} {H1:Hp} (hs :∀H,S H1 H->S H H) (hq :∀H,S H1 H->SqL K H a xs):RunsR S (Itl K a) H1 xs.length (λ i v _=>xs[i]? = some v):=
 ⟨λ i b H s=>⟨xs,xs[i],hq H s,by simp [b]⟩,λ H s=>⟨xs,hq H s,u0 _⟩,λ i b H v c s y=>by obtain ⟨e,y⟩:=y;subst e;exact ⟨hs _ s,y xs (hq _ s)⟩⟩
theorem zct {S:Hp->Hp->Prop} {K:b0} {a:Addr} {xs:List V} {H1:Hp} (hs :∀H,S H1 H->S H H) (hq :∀H,S H1 H->SqT K H a xs):RunsR S (Itt K a) H1 xs.length (λ i v _=>xs[i]? = some v):=
 ⟨λ i b H s=>⟨xs,xs[i],hq H s,by simp [b]⟩,λ H s=>⟨xs,hq H s,u0 _⟩,λ i b H v c s y=>by obtain ⟨e,y⟩:=y;subst e;exact ⟨hs _ s,y xs (hq _ s)⟩⟩
theorem zdi {S:Hp->Hp->Prop} {K:b0} {a:Addr} {xs:List V} {tl te:TE} {tc:TT} {g:TG} {m:Nat} {fr:List (Nat×Str)} {σ:St} {H H1:Hp} {Q:VK} (R:V->V->Hp->Prop) (s0:S H1 H1) (st :∀a b c,S a b->S b c->S a c) (hs :∀H,S H1 H->S H H) (hR :∀x y H H',S H H'->R x y H->R x y H')
  (htl :∀R:VK,R (.ref a) H1->tl σ H R) (hq :∀H,S H1 H->SqL K H a xs) (hn:xs.length<=sizeLine)
  (body :∀v∈xs,∀H,S H1 H->∀KT:VK,(∀y H',S H H'->R v y H'->KT y H')->∀KF:Hp->Prop,
   g v (cStG σ fr (T1 m none)) H λ σ6 H6=>∃us,us.length=m/\σ6=cStG σ fr us/\tc (cStG σ fr us) H6 λ b H2=>if b=true then te (cStG σ fr us) H2 KT else KF H2)
  (hQ :∀l H' ys,S H1 H'->H' l=none->All2 (λ x y=>R x y H') xs ys->Q (.ref l) (upd H' l (.lst ys))):tCompG (iList K tl) m fr g tc te σ H Q:=by
 refine htl _ ⟨a,rfl,⟨xs,hq _ s0⟩,z2i s0 st (λ _=>true) (λ i y H=>R (xs[i]?.getD .non) y H) (λ i y H H' s z=>hR _ _ _ _ s z) (z61 hs hq) hn (λ i u v H s k KT KF f j=>?_) λ l H' ys s p n=>hQ l H' ys s p ?_⟩
 ·refine body v (O0 k) H s KT (λ y H' o t=>f rfl y H' o ?_) KF;rw [k];exact t
 ·rw [List.filter_eq_self.mpr (λ _ _=>rfl)] at n;have q :∀(d:List Nat) (ys:List V),All2 (λ i y=>R (xs[i]?.getD .non) y H') d ys->All2 (λ x y=>R x y H') (d.map λ i=>xs[i]?.getD .non) ys:=by
   intro d;induction d with
   | nil=>intro ys h;cases h;exact .nil
   | cons i d ih=>intro ys h;cases h with|cons a r=>exact .cons a (ih _ r)
  have h:=q _ _ n;have e:(C1 xs.length).map (λ i=>xs[i]?.getD V.non)=xs:=by
   apply X5
   ·simp
   ·intro i f j;simp only [Z9,A9,B0 j,O9]
  rwa [e] at h
theorem zhq {S:Hp->Hp->Prop} {n:Nat} {H1:Hp} (hs :∀H,S H1 H->S H H):RunsR S (Itr 0 n) H1 n (λ i v _=>v=.int (i:Nat)):=
 ⟨λ i a H s=>a,λ H s=>u0 _,λ i a H v b s y=>by obtain ⟨e,y⟩:=y;subst e;exact ⟨hs _ s,by rw [y,P6]⟩⟩
theorem zfe {R:V->V->Prop} {xs ys:List V} (fa:All2 (λ (i:Nat) y=>R (xs[i]?.getD .non) y) (C1 xs.length) ys):All2 R xs ys:=by
 have d :∀(b:List Nat) (ys:List V),All2 (λ i y=>R (xs[i]?.getD .non) y) b ys->All2 R (b.map λ i=>xs[i]?.getD .non) ys:=by
  intro b;induction b with
  | nil=>intro ys h;cases h;exact .nil
  | cons i b ih=>intro ys h;cases h with|cons a r=>exact .cons a (ih _ r)
 have h:=d _ _ fa;have e:(C1 xs.length).map (λ i=>xs[i]?.getD V.non)=xs:=by
  apply X5
  ·simp
  ·intro i f c;simp only [Z9,A9,B0 c,O9]
 rwa [e] at h
theorem z9z {S:Hp->Hp->Prop} {K:b0} {a:Addr} {xs:List V} {tl te:TE} {tc:TT} {g:TG} {m:Nat} {fr:List (Nat×Str)} {σ:St} {H H1:Hp} {Q:VK} (R:V->V->Hp->Prop) (s0:S H1 H1) (st :∀a b c,S a b->S b c->S a c) (hs :∀H,S H1 H->S H H) (hR :∀x y H H',S H H'->R x y H->R x y H')
  (htl :∀R:VK,R (.ref a) H1->tl σ H R) (hq :∀H,S H1 H->SqT K H a xs) (hn:xs.length<=sizeLine)
  (body :∀v∈xs,∀H,S H1 H->∀KT:VK,(∀y H',S H H'->R v y H'->KT y H')->∀KF:Hp->Prop,
   g v (cStG σ fr (T1 m none)) H λ σ6 H6=>∃us,us.length=m/\σ6=cStG σ fr us/\tc (cStG σ fr us) H6 λ b H2=>if b=true then te (cStG σ fr us) H2 KT else KF H2)
  (hQ :∀l H' ys,S H1 H'->H' l=none->All2 (λ x y=>R x y H') xs ys->Q (.ref l) (upd H' l (.lst ys))):tCompG (iTup K tl) m fr g tc te σ H Q:=by
 refine htl _ ⟨a,rfl,⟨xs,hq _ s0⟩,z2i s0 st (λ _=>true) (λ i y H=>R (xs[i]?.getD .non) y H) (λ i y H H' s z=>hR _ _ _ _ s z) (zct hs hq) hn (λ i n v H s d KT KF j o=>?_) λ l H' ys s h e=>hQ l H' ys s h ?_⟩
 ·refine body v (O0 d) H s KT (λ y H' f k=>j rfl y H' f ?_) KF;rw [d];exact k
 ·rw [List.filter_eq_self.mpr (λ _ _=>rfl)] at e;exact zfe (R:=λ x y=>R x y H') e
end L2
set_option maxHeartbeats 1000000
namespace L2
open PySem PySem.Spec PyProof.Rows
section
variable {prog:Program} {w:S0} {A:X1} {E:Value->t0->Prop} {s:t0}
theorem stops {h1:Heap} {Q:Option Value->t0->Prop} (hh:A.handled=none) (q :∀h',(∀b o,h1.get? b=some o->h'.get? b=some o)->Q none { s with heap:=h' }) :
  U0 (B1 prog w) A.in1 (do raiseNew (<-newExc (.type "StopIteration") [])) (λ (fin:G7) s'=>∃v,fin=.done (.ret v)/\U0 (B1 prog w) A (Y2 (some v)) Q E s')
   (λ e s'=>U0 (B1 prog w) A (do if <-isInstance e (.type "StopIteration") then Y2 none else throw e) Q E s') { s with heap:=h1 }:=by
 refine d0 ?_;simp only [newExc,newTuple];refine d0 (V2 (d0 (m:=F9 _ _) (wpAny_of_eq (a:=P2) (by first|rfl|(simp only [F9];rfl)) (V2 ?_ (by size_fits)))) (by size_fits));simp only [raiseNew];refine d0 (wpAny_handled ?_);rw [show A.in1.handled=none from hh];refine d0 (G0 (wpAny_throw ?_));refine d0 (C8 (T:="StopIteration") (b:=true) ⟨_,Z0 _ rfl,rfl⟩ isSubtype_stop ?_);exact G0 (q _ λ b o e=>D0 _ (D0 _ e))
end
end L2
set_option maxHeartbeats 400000
namespace HT
open PySem PySem.Spec PyProof.Rows L2
variable {prog:Program} {w:S0} {A:X1} {E:Value->t0->Prop} {s:t0}
theorem getItem_tuple_all {t sl:Addr} {items:Array Value} {vl vu:Value} {lo hi:Option Int} {Q:Value->t0->Prop} (ht:IsTup s.heap t items) (hs:s.heap.IsSliceOf sl vl vu .none) (pl:Q8 vl lo) (pu:Q8 vu hi)
  (h0:sIx items.size 0 lo=0) (h1:sIx items.size items.size hi=items.size) (h:Q (.ref t) s):U0 (B1 prog w) A (W7 (.ref t) (.ref sl)) Q E s:=by
 obtain ⟨a,c,e,f⟩:=id hs;have b:s.TypeIs (.ref sl) "slice":=⟨a,c,e⟩
 unfold W7;try with_reducible refine S3 ?_
 first|refine d0 (G0 ?_)|skip
 refine d0 (wpAny_sequenceKey ht.typeIs (by decide) (d0 (M3 (name:=N6 "__getitem__") ht.typeIs Q3 (S2 Q3 ht.typeIs entry_tuple_getitem ?_ (args_tuple_getitem _ _)))));refine (show U0 _ _ (j9 (.ref t) >>= _) _ _ s from d0 (tupleItemsOf_ ht (d0 (b7 b ?_))));rw [if_pos (by decide)];refine d0 (z2s hs pl pu ?_);have d:(((sIx items.size 0 lo:Nat):Int) == 0 && (1:Int) == 1 && (sIx items.size items.size hi - sIx items.size 0 lo) == items.size)=true:=by rw [h0,h1];simp
 refine (show U0 _ _ (if (((sIx items.size 0 lo:Nat):Int) == 0 && (1:Int) == 1 && (sIx items.size items.size hi - sIx items.size 0 lo) == items.size)=true then _ else _) _ _ s from ?_);rw [if_pos d];refine d0 (show U0 _ _ (typeOf (.ref t) >>= _) _ _ s from d0 (b7 ht.typeIs (G0 ?_)));rw [if_pos (by decide)];first
  | exact d0 (j04 (G0 ⟨_,rfl,G0 h⟩))
  | exact d0 (j04 (G0 (G0 ⟨_,rfl,G0 h⟩)))
  | (trace_state;exact d0 (j04 (G0 ⟨_,rfl,h⟩)))
end HT
namespace L2
open PySem PySem.Spec PyProof.Rows
section
variable {X:Cx}
def rSlW (K:b0):V->Option Int->Option Int->Hp->VK->Prop:=λ x lo hi H Q=>∃a xs,x=.ref a/\SqT K H a xs/\(HT.sIx xs.length 0 lo=0/\HT.sIx xs.length xs.length hi=xs.length)/\Q (.ref a) H
theorem zl4:SlR X (rSlW X.K):=by intro t s σ H x v w u o n p Q I d l k e h;obtain ⟨a,g,rfl,j,⟨i,m⟩,q⟩:=h;cases d;obtain ⟨f,r,b,y⟩:=I.tuple j;have c:f.toArray.size=g.length:=(L0 ..).trans r.length.symm;refine ⟨"tuple",_,PyProof.Rows.slot_tuple_getitem.lookup,b.typeIs,HT.getItem_tuple_all b l k e (by rw [c];exact i) (by rw [c];exact m) ⟨.ref a,H,I,rfl,q⟩⟩
theorem slSeqW:SlR X (λ x lo hi H Q=>(rSlL X.K x lo hi H Q\/rSlT X.K x lo hi H Q\/rSlS x lo hi H Q)\/rSlW X.K x lo hi H Q):=slSeq.or zl4
end
theorem zln {names:List (Str×i5)} {ns:List Str} {Q:Str×i5->Prop} (h:(names.all λ y=>y.2 != V1 || ns.contains y.1)=true) (q :∀n,n∈ns->∀k,Q (n,k)) :∀y∈names,y.2=V1->Q y:=λ y c e=>by
 have z:=List.all_eq_true.mp h y c;rw [e] at z;have z:ns.contains y.1=true:=by simpa using z
 obtain ⟨a,b⟩:=y;exact q a (by simpa using z) b
theorem zf2 {S:Hp->Hp->Prop} {ta:TA} {te:TE} {tc:TT} {g:TG} {m n:Nat} {fr:List (Nat×Str)} {σ:St} {H H1:Hp} {Q:VK} (p:Nat->Bool) (R:Nat->V->Hp->Prop) (s0:S H1 H1) (st :∀a b c,S a b->S b c->S a c) (hs :∀H,S H1 H->S H H) (hR :∀i y H H',S H H'->R i y H->R i y H')
  (hta :∀T:List V->Hp->Prop,T [.int (n:Nat)] H1->ta σ H T) (hn:n<=sizeLine)
  (body :∀i,i < n->∀H,S H1 H->∀(KT:VK) (KF:Hp->Prop),(p i=true->∀y H',S H H'->R i y H'->KT y H')->(p i=false->∀H',S H H'->KF H')->
   g (.int (i:Nat)) (cStG σ fr (T1 m none)) H λ σ6 H6=>∃us,us.length=m/\σ6=cStG σ fr us/\tc (cStG σ fr us) H6 λ b H2=>if b=true then te (cStG σ fr us) H2 KT else KF H2)
  (hQ :∀l H' ys,S H1 H'->H' l=none->All2 (λ i y=>R i y H') ((C1 n).filter p) ys->Q (.ref l) (upd H' l (.lst ys))):tCompG (iRng1 ta) m fr g tc te σ H Q:=by
 have b:(n:Int) < 2 ^ 62:=Int.lt_of_le_of_lt (Int.ofNat_le.mpr hn) (by decide);refine hta _ ⟨n,rfl,by omega,b,?_⟩;exact z2i s0 st p R hR (zhq hs) hn (λ i e v H s h KT KF d f=>by subst h;exact body i e H s KT KF d f) hQ
theorem qs_ret {X:Cx} {pos:Pos} {e:Expr} {te:TE} (h:QE X e te):QS X (.Return (some e) pos) (tRet te):=⟨ps_ret h.run⟩
section
variable {prog:Program} {w:S0} {A:X1} {E:Value->t0->Prop} {s:t0}
theorem zeh :∀{vs:List Value} {ss:List Str},j2c vs ss->vs.length=ss.length
 | _,_,.nil=>rfl
 | _,_,.cons y t h=>by rw [P0,P0,zeh h]
theorem zg2 :∀{vs:List Value} {ss:List Str},j2c vs ss->∀v∈vs,∃a,strKind.keyOf v=some a
 | _,_,.nil,v,h=>absurd h A0
 | _,_,.cons y t h,v,hv=>by
  rcases List.mem_cons.mp hv with rfl|hv
  ·exact ⟨_,rfl⟩
  ·exact zg2 h v hv
theorem z98 :∀{vs:List Value} {ss:List Str},j2c vs ss->Vals (ss.map V.str) vs
 | _,_,.nil=>.nil
 | _,_,.cons n t h=>.cons ⟨t,rfl⟩ (z98 h)
theorem z9f :∀{ss:List Str} {us:List Value},us.length=ss.length->(∀(j:Nat) (u:Value),us[j]? = some u->∃(i:Str) (t:Tok),ss[j]? = some i/\u=T5 i t)->j2c us ss
 | [],us,hl,_=>by have z:us=[]:=List.eq_nil_of_length_eq_zero hl;subst z;exact .nil
 | n :: ss,us,hl,h=>by
  cases us with
  | nil=>cases hl
  | cons u us=>obtain ⟨i,t,e,rfl⟩:=h 0 u rfl;have e:n=i:=Q1 e;subst e;exact .cons n t (z9f (Nat.succ.inj hl) λ j v e=>h (j + 1) v (by simpa using e))
theorem zi8 {v:Value} {Q:Value->t0->Prop} {ss:List Str} (hn:ss.length < 64)
  (hc :∀R:List Value->t0->Prop,(∀h' tk vs,(∀b o,s.heap.get? b=some o->h'.get? b=some o)->j2c vs ss->R vs { s with heap:=h',toks:=tk })->U0 (B1 prog w) A.in1 (collect v) R E s)
  (h :∀(h1 h':Heap) (tk:Nat) (out:Array Value) (ss':List Str) (e:Nat),(∀b o,s.heap.get? b=some o->h1.get? b=some o)->(∀b o,h1.get? b=some o->h'.get? b=some o)->h'.get? h1.objs.size=some { cls:=.type "list",data:=.seq out e }->j2c out.toList ss'->ss'.Perm ss->sortedS ss'=true->Q (.ref h1.objs.size) { s with heap:=h',toks:=tk }) :
  U0 (B1 prog w) A (call (.builtin "sorted") [v]) Q E s:=by
 refine Y6 kind_sorted plain_sorted entry_sorted (args_sorted1 _) ?_;unfold S9.«sorted»;refine d0 (m:=checkCount "sorted" 1 1 _) (G0 (d0 (hc _ λ h1 tk vs j a=>?_)));have d:vs.length < 64:=by rw [zeh a];exact hn
 refine d0 (X9 ?_ (C0 (A3 d) (by decide)));have c:(h1.push (S6 "list" vs.toArray 0)).get? h1.objs.size=some (S6 "list" vs.toArray 0):=Z0 _ rfl;have y:KeysOf strKind (pairsOf vs):=λ p q=>by
  have:p.1∈vs:=by have:=(o8 (show (p.1,p.2)∈vs.zip vs by simpa [pairsOf] using q)).1;exact this
  exact zg2 a _ this
 refine d0 (S3 (S2 j2j ⟨_,c,rfl⟩ j25 (list_sort_treeK strKind_oneLt c y (λ B z r e=>by subst e;exact keyKind_strs a) d λ k n l=>⟨_,rfl,?_⟩) (j32 _)));obtain ⟨ss',t,u,i⟩:=sorted_out_str a n l;obtain ⟨e,g⟩:=sortedHeap_at (out:=j22 (λ x=>x.snd) (arrOf k)) c;refine G0 ⟨_,rfl,h h1 _ tk _ ss' e j (λ b o f=>?_) g t u i⟩;have lt:=Q0 f;refine (sortedHeap_old (E1 lt) ?_).trans (D0 _ f);rw [size_push'];exact u2 lt
end
section
variable {X:Cx}
theorem z9y (hcalm:X.calm=true):CallR X (.builtin "sorted") (λ xs H Q=>∃a kvs ss,xs=[.ref a]/\H a=some (.dK kvs)/\kvs.map (·.1)=ss.map Sum.inr/\ss.length < 64/\∀(l:Addr) (ss':List Str),H l=none->ss'.Perm ss->sortedS ss'=true->Q (.ref l) (upd H l (.lst (ss'.map V.str)))):=by
 intro M s σ H xs us Q I r h;obtain ⟨a,kvs,ss,rfl,L,U,n,q⟩:=h;obtain ⟨u,rfl,D⟩:=vals1 r;cases D;obtain ⟨T,J,d,f,K⟩:=dk_of I.hok L;obtain ⟨Y,E⟩:=K.dictAt;refine zi8 n (λ R S=>?_) λ w v c F ss' e G O g i p r=>?_
 ·have keys:d.map (·.1)=ss.map Sum.inr:=f.keys.symm.trans U;have C:d.length=ss.length:=by have:=congrArg m6 keys;simpa using this
  refine j2d (PySem.W.kdl_dict J) (show X.A.in1.handled=none from I.ok.hd hcalm) E (by rw [<-f.length];exact T) λ v c Z k B=>S v c _ k (z9f (by rw [J2,B.1,C]) λ j u e=>?_);obtain ⟨y,x,P,N⟩:=B.2 j u (by rw [<-S5];exact e);have b:(d.map (·.1))[j]? = some y:=by rw [V0,P];rfl
  rw [keys,V0] at b;cases en:ss[j]? with
  | none=>rw [en] at b;cases b
  | some i=>
   rw [en] at b;have b:Sum.inr i=y:=Q1 b;subst b;rcases z0n (show keyIs (.inr i) u=true from N) with ⟨_,_,z,_⟩|⟨i',t,z,rfl⟩
   ·cases z
   ·cases z;exact ⟨i,t,rfl,rfl⟩
 ·have m:Inv X M σ H { s with heap:=w }:=I.kept (t':=s.toks) G;refine ⟨.ref w.objs.size,_,m.laid (t':=c) (o:=.lst (ss'.map V.str)) O (u0 _) ⟨?_,F.toList,e,z98 i,by simpa using g⟩,rfl,q _ ss' (m.hok.fresh (u0 _)) p r⟩;rw [F0,p.length_eq];exact C0 (A3 n) (by decide)
end
def rIndex:V->List V->Hp->VK->Prop:=λ x vs H Q=>∃(l:Addr) (ss:List Str) (z:Str) (j:Nat),x=.ref l/\vs=[.str z]/\H l=some (.lst (ss.map V.str))/\ss.length<=1000/\ss[j]? = some z/\(∀m,m < j->ss[m]?≠some z)/\Q (.int (j:Nat)) H
section
variable {X:Cx}
theorem zld {ss:List Str} :∀{us:List Value},Vals (ss.map V.str) us->∀(j:Nat) (u:Value),us[j]? = some u->∃y t,ss[j]? = some y/\u=T5 y t:=by
 induction ss with
 | nil=>intro us r j u e;rw [D4] at r;cases r;simp at e
 | cons n ss ih=>
  intro us r j u e;rw [j1] at r;cases r with
  | cons r1 r2=>
   obtain ⟨t,rfl⟩:=r1;cases j with
   | zero=>rw [O2] at e;cases e;exact ⟨n,t,rfl,rfl⟩
   | succ j=>rw [Z1] at e;exact ih r2 j u e
theorem zku:MtM X "list.index" rIndex:=by
 intro O s σ H x N v M Q I w A h;obtain ⟨l,C,z,j,rfl,rfl,G,J,i,g,q⟩:=h;cases w;obtain ⟨u,rfl,E⟩:=A.one;obtain ⟨t,rfl⟩:=E;obtain ⟨L,c,n,r,K,e⟩:=I.lstM G;have lt:j < c.length:=by rw [<-r.length,F0];exact (List.getElem?_eq_some_iff.mp i).1
 let ev:Value->Bool:=λ y=>match y with | .str a _=>a == z|_=>false
 have at_ :∀m (g:m < c.toArray.size),∃y d,C[m]? = some y/\c.toArray[m]=T5 y d:=λ m g=>zld r m _ ((B0 (show m < c.length by simpa using g)).trans (by simp));refine j31 F.slot_list_index ⟨_,e,rfl⟩ F.entry_list_index (F.args_list_index_2 _ _) (SeqAt.list_indexAt l c.toArray n none #[] (.str z t) ev j (by simpa using lt) ?_ ?_ ?_) ⟨e,λ y p=>?_,?_⟩
 ·have:=(List.getElem?_eq_some_iff.mp i).1;have:(j:Int) < 1000:=by omega
  exact Int.lt_trans this (by decide)
 ·obtain ⟨y,d,f,b⟩:=at_ j (by simpa using lt);rw [b];rw [i] at f;cases f;exact beq_self_eq_true z
 ·intro m k D;obtain ⟨y,d,f,b⟩:=at_ m k;rw [b];refine beq_eq_false_iff_ne.mpr λ e=>g m D ?_;rw [f,e]
 ·obtain ⟨m,k,o⟩:=Array.mem_iff_getElem.mp p;obtain ⟨B,d,f,b⟩:=at_ m k;rw [b] at o;subst o;exact j1c B d z t
 ·exact ⟨.int (j:Nat),H,I.tok _,⟨_,rfl⟩,q⟩
theorem zg1 {o e:Expr} {es:List Expr} {to:TE} {t:TA} {apos cpos:Pos} (ho:PE X o to) (ha:PA X (e :: es) t)
  (hbase:T3 o "index" X.env (u3 o X.env)=u3 o X.env:=by rfl)
  (hfew:((A4 cpos (N1 (e :: es) X.env)).all (λ x=>!x.1) && (G9 cpos (K6 [] X.env)).all (λ x=>x.1.isSome) && decide ((e :: es).length + ([]:List c6).length + (if ([]:List c6).isEmpty then 0 else 1) < 30))=true:=by rfl)
  (hline:(apos.endLine == cpos.line)=true:=by rfl) (hs:N1 (e :: es) X.env=(false,u3 e X.env) :: N1 es X.env:=by rfl) (hplain:(A4 cpos (N1 es X.env)).any (·.1)=false:=by rfl) :
  PE X (.Call (.Attribute o "index" apos) (e :: es) [] cpos) (tBM X.K "list" rIndex to t):=pe_bm j5 PySem.F.slot_list_index PySem.F.type_list_index zku ho ha hbase hfew hline hs hplain
end
noncomputable def pickV (xs:List V) (lo hi st:Option Int):List V:=(sliceRange (N2 lo hi st xs.length).1 (N2 lo hi st xs.length).2.1 (N2 lo hi st xs.length).2.2).filterMap λ i=>xs[i]?
theorem zim {xs:List V} {lo hi st:Option Int} {y:V} (h:y∈pickV xs lo hi st):y∈xs:=by obtain ⟨i,_,e⟩:=List.mem_filterMap.mp h;exact O0 e
theorem zcv {xs:List V} {us:List Value} (r:Vals xs us) :∀is:List Nat,Vals (is.filterMap λ i=>xs[i]?) (is.filterMap λ i=>us[i]?)
 | []=>.nil
 | i :: is=>by
  have a:=zcv r is;have b:=r.length;cases e:xs[i]? with
  | none=>have d:us[i]? = none:=R3 (by rw [<-b];exact List.getElem?_eq_none_iff.mp e);rw [j1j e,j1j d];exact a
  | some x=>obtain ⟨u,f,c⟩:=r.get e;rw [j1i e,j1i f];exact .cons c a
theorem zhi {xs:List V} {lo hi:Option Int} {k:Int} (hk:0 < k):(pickV xs lo hi (some k)).length<=xs.length:=by
 refine C0 (z7 _ _) ?_;have d:(N2 lo hi (some k) xs.length).2.2=k:=rfl;have c:0<=(N2 lo hi (some k) xs.length).1:=by
  cases lo with
  | none=>show 0<=(if k > 0 then (0:Int) else _);rw [if_pos hk];exact j08 _
  | some i=>show 0<=(if k > 0 then max (0:Int) _ else _);rw [if_pos hk];exact Int.le_max_left _ _
 have e:(N2 lo hi (some k) xs.length).2.1<=(xs.length:Int):=by
  cases hi with
  | none=>show (if k > 0 then (xs.length:Int) else _)<=_;rw [if_pos hk];exact j08 _
  | some i=>show (if k > 0 then max (0:Int) (min _ (xs.length:Int)) else _)<=_;rw [if_pos hk];omega
 rw [d];generalize (N2 lo hi (some k) xs.length).1=a at c⊢;generalize (N2 lo hi (some k) xs.length).2.1=b at e⊢;unfold sliceRange;rw [F0,Y1,if_pos hk];by_cases z:a < b
 ·rw [if_pos z];have:(b - a + k - 1) / k < b - a + 1:=by
   apply Int.ediv_lt_of_lt_mul hk;have:(b - a + 1) * k=(b - a) * k + k:=by rw [Int.add_mul,Int.one_mul]
   have f:b - a<=(b - a) * k:=by have:=Int.mul_le_mul_of_nonneg_left (show (1:Int)<=k by omega) (show 0<=b - a by omega);omega
   omega
  omega
 ·rw [if_neg z];exact S1 _
noncomputable def tSl3 (K:b0) (te:TE) (tl th ts:TO):TE:=λ σ H Q=>te σ H λ x H1=>tl σ H1 λ l H2=>th σ H2 λ u H3=>ts σ H3 λ k H4=>∃a xs,x=.ref a/\SqL K H4 a xs/\k≠some 0/\(pickV xs l u k).length<=sizeLine/\∀p,H4 p=none->Q (.ref p) (upd H4 p (.lst (pickV xs l u k)))
theorem zh5 {X:Cx} {e:Expr} {te:TE} {lo hi:Option Expr} {st:Expr} {tl th ts:TO} {pos p2:Pos} (he:PE X e te) (hl:PO X lo tl) (hu:PO X hi th) (hs:PO X (some st) ts):PE X (.Subscript e (.Slice lo hi (some st) p2) pos) (tSl3 X.K te tl th ts):=by
 intro d s σ H Q I h;refine j35 (thn (he d s σ H _ I h) λ v C ⟨x,H1,I1,r1,q1⟩=>?_);refine wpAny_Slice (thn (hl d C σ H1 _ I1 q1) λ p B ⟨l,H2,I2,pl,q2⟩=>thn (hu d B σ H2 _ I2 q2) λ n y ⟨u,H3,I3,pu,q3⟩=>thn (hs d y σ H3 _ I3 q3) λ m c ⟨k,H4,I4,pk,a,xs,ex,hx,k0,hz,q⟩=>?_);subst ex;cases r1;have f:Inv X d σ H4 { c with heap:=c.heap.push { cls:=.type "slice",data:=.fields #[p,n,m] } }:=I4.kept (t':=c.toks) λ b z q=>D0 _ q;obtain ⟨j,r,g,E⟩:=f.list hx;have D:=r.length;refine (show U0 (B1 X.prog X.w) X.A (Y9 e (.Slice lo hi (some st) p2) (.ref a) (.ref c.heap.objs.size)) (EP X d σ Q) X.xe { c with heap:=c.heap.push { cls:=.type "slice",data:=.fields #[p,n,m] } } from ?_);refine j2i (ops:=[.ref a,.ref c.heap.objs.size]) g.isList.typeIs slot_list_getitem.lookup ?_ (by with_unfolding_all rfl);refine wpAny_getItem_list_slice g.isList (j09 ..) pl pu pk k0 ?_ (by rw [L0];omega);have t:slicePick j.toArray l u k=((sliceRange (N2 l u k xs.length).1 (N2 l u k xs.length).2.1 (N2 l u k xs.length).2.2).filterMap λ i=>j[i]?).toArray:=by unfold slicePick;rw [L0,<-D];simp only [j37]
 rw [t];exact ⟨.ref _,_,f.laid (t':=c.toks) (o:=.lst (pickV xs l u k)) (λ b z q=>D0 _ q) (u0 _) ⟨hz,_,0,zcv r _,Z0 _ rfl⟩,rfl,q _ (f.hok.fresh (u0 _))⟩
noncomputable def rCatA (K:b0):R2:=λ x y H Q=>∃a b xs ys,x=.ref a/\y=.ref b/\SqT K H a xs/\SqT K H b ys/\xs.length + ys.length<=sizeLine/\∀p H',Same H H'->SqT K H' p (xs++ys)->Q (.ref p) H'
theorem zcy {X:Cx}:OpR X (F4 .Add) (rCatA X.K):=by
 intro g s σ H x y v u Q I f i h;obtain ⟨a,b,c,j,rfl,rfl,d,e,k,q⟩:=h;by_cases hy:j=[]
 ·subst hy;cases c with
  | nil=>exact zej g s σ H _ _ v u Q I f i ⟨a,b,[],rfl,rfl,d,e,q b H (Same.refl H) e⟩
  | cons x c=>exact za8 g s σ H _ _ v u Q I f i ⟨a,b,x :: c,[],rfl,rfl,d,e,by simp,k,λ _=>q a H (Same.refl H) (by rw [D2];exact d),λ z=>absurd rfl z⟩
 ·exact op_catS g s σ H _ _ v u Q I f i ⟨a,b,c,j,rfl,rfl,d,e,hy,k,q⟩
theorem qs_if {X:Cx} {pos:Pos} {c:Expr} {a b:List Stmt} {t:TT} {ta tb:TS} (hc:PT X c t) (ha:QSs X a ta) (hb:QSs X b tb):QS X (.If c a b pos) (tIfS t ta tb):=⟨ps_if hc ha.run hb.run⟩
theorem zjj :∀{ys:List V},(∀y∈ys,∃i:Int,y=.int i)->∃ms:List Int,ys=ms.map V.int
 | [],_=>⟨[],rfl⟩
 | y :: ys,h=>by obtain ⟨i,rfl⟩:=h y R0;obtain ⟨ms,rfl⟩:=zjj λ z a=>h z (W0 _ a);exact ⟨i :: ms,rfl⟩
theorem zkn {f:List V->Hp->VK->Prop} {te tb:TE} {r:R2} {σ:St} {H:Hp} {Q:Bool->Hp->Prop} (h:te σ H λ x H1=>f [x] H1 λ y H2=>tb σ H2 λ z H3=>r y z H3 λ b H4=>∃k,b=.bl k/\Q k H4):tTest (tOp r (tCB f (tCons te tNil)) tb) σ H Q:=h
theorem z3s {c:TT} {a b:TS} {D:Ends} {σ:St} {H:Hp} (h:c σ H λ k H1=>if k=true then a D σ H1 else b D σ H1):tIfS c a b D σ H:=h
theorem zdp {K:b0} {a:Addr} {xs:List V} {H1:Hp} (hq:SqL K H1 a xs):RunsR Same (IteL K a) H1 xs.length (λ i v H=>∃x p,xs[i]? = some x/\v=.ref p/\H p=some (.tup [.int (i:Nat),x])):=by refine ⟨λ i b H s=>⟨xs,xs[i],s.seq hq,by simp [b]⟩,λ H s=>⟨xs,s.seq hq,rfl⟩,λ i b H v e s y=>?_⟩;obtain ⟨p,c,rfl,f⟩:=y;obtain ⟨x,d,rfl⟩:=f xs (s.seq hq);exact ⟨Same.upd c,x,p,d,rfl,upd_same⟩
end L2
set_option maxHeartbeats 1000000
namespace L2
open PySem PySem.Spec PyProof.Rows
theorem zbc {K:b0} {a:Addr} {xs:List V} {tl te:TE} {tc:TT} {g:TG} {m:Nat} {fr:List (Nat×Str)} {σ:L2.St} {H H1:Hp} {Q:VK} (p:Nat->Bool) (R:Nat->V->Hp->Prop) (hR :∀i y H H',Same H H'->R i y H->R i y H') (htl :∀R:VK,R (.ref a) H1->tl σ H R) (hq:SqL K H1 a xs) (hn:xs.length<=sizeLine)
  (body :∀i,i < xs.length->∀v H,Same H1 H->xs[i]? = some v->∀(KT:VK) (KF:Hp->Prop),(p i=true->∀y H',Same H H'->R i y H'->KT y H')->(p i=false->∀H',Same H H'->KF H')->
   g v (cStG σ fr (T1 m none)) H λ σ6 H6=>∃us,us.length=m/\σ6=cStG σ fr us/\tc (cStG σ fr us) H6 λ b H2=>if b=true then te (cStG σ fr us) H2 KT else KF H2)
  (hQ :∀l H' ys,Same H1 H'->H' l=none->All2 (λ i y=>R i y H') ((C1 xs.length).filter p) ys->Q (.ref l) (upd H' l (.lst ys))):tCompG (iList K tl) m fr g tc te σ H Q:=
 htl _ ⟨a,rfl,⟨xs,hq⟩,z2i (Same.refl _) (λ _ _ _ a b=>a.trans b) p R hR (z61 (S:=Same) (λ _ _=>Same.refl _) λ H s=>s.seq hq) hn body hQ⟩
theorem zij {K:b0} {a:Addr} {xs:List V} {ta:TA} {te:TE} {tc:TT} {g:TG} {m:Nat} {fr:List (Nat×Str)} {σ:L2.St} {H H1:Hp} {Q:VK} (p:Nat->Bool) (R:Nat->V->Hp->Prop) (hR :∀i y H H',Same H H'->R i y H->R i y H') (hta :∀T:List V->Hp->Prop,T [.ref a] H1->ta σ H T) (hq:SqL K H1 a xs) (hn:xs.length<=sizeLine)
  (body :∀i,i < xs.length->∀v H,Same H1 H->(∃x p,xs[i]? = some x/\v=.ref p/\H p=some (.tup [.int (i:Nat),x]))->∀(KT:VK) (KF:Hp->Prop),(p i=true->∀y H',Same H H'->R i y H'->KT y H')->(p i=false->∀H',Same H H'->KF H')->
   g v (cStG σ fr (T1 m none)) H λ σ6 H6=>∃us,us.length=m/\σ6=cStG σ fr us/\tc (cStG σ fr us) H6 λ b H2=>if b=true then te (cStG σ fr us) H2 KT else KF H2)
  (hQ :∀l H' ys,Same H1 H'->H' l=none->All2 (λ i y=>R i y H') ((C1 xs.length).filter p) ys->Q (.ref l) (upd H' l (.lst ys))):tCompG (ieL K ta) m fr g tc te σ H Q:=
 hta _ ⟨a,xs,rfl,hq,z2i (Same.refl _) (λ _ _ _ a b=>a.trans b) p R hR (zdp hq) hn body hQ⟩
theorem zjt {K:b0} {tl te:TE} {tc:TT} {g:TG} {m:Nat} {fr:List (Nat×Str)} {σ:L2.St} {H:Hp} {Q:VK} (Pr:Addr->List V->Hp->Prop) (htl :∀R:VK,(∀a xs H1,Pr a xs H1->R (.ref a) H1)->tl σ H R) (hq :∀a xs H1,Pr a xs H1->SqL K H1 a xs/\xs.length<=sizeLine)
  (p:Nat->Bool) (R:Nat->V->Hp->Prop) (hR :∀i y H H',Same H H'->R i y H->R i y H')
  (body :∀a xs H1,Pr a xs H1->∀i,i < xs.length->∀v H,Same H1 H->xs[i]? = some v->∀(KT:VK) (KF:Hp->Prop),(p i=true->∀y H',Same H H'->R i y H'->KT y H')->(p i=false->∀H',Same H H'->KF H')->
   g v (cStG σ fr (T1 m none)) H λ σ6 H6=>∃us,us.length=m/\σ6=cStG σ fr us/\tc (cStG σ fr us) H6 λ b H2=>if b=true then te (cStG σ fr us) H2 KT else KF H2)
  (hQ :∀a xs H1,Pr a xs H1->∀l H' ys,Same H1 H'->H' l=none->All2 (λ i y=>R i y H') ((C1 xs.length).filter p) ys->Q (.ref l) (upd H' l (.lst ys))):tCompG (iList K tl) m fr g tc te σ H Q:=
 htl _ λ a xs H1 c=>⟨a,rfl,⟨xs,(hq a xs H1 c).1⟩,z2i (Same.refl _) (λ _ _ _ a b=>a.trans b) p R hR (z61 (S:=Same) (λ _ _=>Same.refl _) λ H s=>s.seq (hq a xs H1 c).1) (hq a xs H1 c).2 (body a xs H1 c) (hQ a xs H1 c)⟩
theorem z3j {K:b0} {a:Addr} {xs:List V} {tl te:TE} {tc:TT} {g:TG} {m:Nat} {fr:List (Nat×Str)} {σ:L2.St} {H H1:Hp} {Q:VK} (p:Nat->Bool) (R:Nat->V->Hp->Prop) (hR :∀i y H H',Same H H'->R i y H->R i y H') (htl :∀R:VK,R (.ref a) H1->tl σ H R) (hq:SqT K H1 a xs) (hn:xs.length<=sizeLine)
  (body :∀i,i < xs.length->∀v H,Same H1 H->xs[i]? = some v->∀(KT:VK) (KF:Hp->Prop),(p i=true->∀y H',Same H H'->R i y H'->KT y H')->(p i=false->∀H',Same H H'->KF H')->
   g v (cStG σ fr (T1 m none)) H λ σ6 H6=>∃us,us.length=m/\σ6=cStG σ fr us/\tc (cStG σ fr us) H6 λ b H2=>if b=true then te (cStG σ fr us) H2 KT else KF H2)
  (hQ :∀l H' ys,Same H1 H'->H' l=none->All2 (λ i y=>R i y H') ((C1 xs.length).filter p) ys->Q (.ref l) (upd H' l (.lst ys))):tCompG (iTup K tl) m fr g tc te σ H Q:=
 htl _ ⟨a,rfl,⟨xs,hq⟩,z2i (Same.refl _) (λ _ _ _ a b=>a.trans b) p R hR (zct (S:=Same) (λ _ _=>Same.refl _) λ H s=>s.seqT hq) hn body hQ⟩
theorem e_cb1 {f:List V->Hp->VK->Prop} {te:TE} {σ:L2.St} {H:Hp} {Q:VK} (h:te σ H λ x H1=>f [x] H1 Q):tCB f (tCons te tNil) σ H Q:=h
theorem t_or {t u:TT} {σ:L2.St} {H:Hp} {Q:Bool->Hp->Prop} (h:t σ H λ c H1=>if c=true then Q true H1 else u σ H1 Q):tOr t u σ H Q:=h
theorem sq_if {c:TT} {a b rest:TS} {D:Ends} {σ:L2.St} {H:Hp} (h:c σ H λ k H1=>if k=true then a { D with nx:=rest D } σ H1 else b { D with nx:=rest D } σ H1):tSeq (tIfS c a b) rest D σ H:=h
theorem sq_ret {te:TE} {D:Ends} {σ:L2.St} {H:Hp} (h:te σ H D.rt):tRet te D σ H:=h
noncomputable def kasRun {α:Type} (c:Nat->Nat->Bool) (n:Nat):C5 α->Option α
 | .ret a=>some a
 | .ask i j k=>if i < n/\j < n/\i≠j then kasRun c n (k (c i j)) else none
theorem zd1 {α:Type} {c:Nat->Nat->Bool} {n:Nat} {cmp:Nat->Nat->(Bool->t0->Prop)->t0->Prop} {s:t0} {Q:α->t0->Prop} (hc :∀i j C,i < n->j < n->i≠j->C (c i j) s->cmp i j C s) :∀(t:C5 α) (a:α),kasRun c n t=some a->Q a s->t.kasWp cmp Q s
 | .ret b,a,h,q=>by cases h;exact q
 | .ask i j k,a,h,q=>by
  unfold kasRun at h;by_cases z:i < n/\j < n/\i≠j
  ·rw [if_pos z] at h;exact hc i j _ z.1 z.2.1 z.2.2 (zd1 hc (k (c i j)) a h q)
  ·rw [if_neg z] at h;cases h
end L2
set_option maxHeartbeats 400000
namespace L2
open PySem PySem.Spec PyProof.Rows
end L2
set_option maxHeartbeats 1000000
namespace L2
open PySem PySem.Spec PyProof.Rows
theorem zbs {te:TE} {σ:L2.St} {H:Hp} {Q:List V->Hp->Prop} (h:te σ H λ y H1=>Q [y] H1):tCons te tNil σ H Q:=h
structure ZLAt (h:Heap) (z T U i j a b:Addr) (n:Nat) (f:Value):Prop where
 z:IsZip h z T U f
 t:IsPair h T (.ref i) (.ref j)
 u :∃p q,IsPair h U p q
 i:h.IsListIter i a n
 j:h.IsListIter j b n
noncomputable def jl (c:Nat):List (List Nat)->List Nat
 | []=>[]
 | [a]=>a
 | a :: b :: r=>a++c :: jl c (b :: r)
end L2
namespace L2
open PySem PySem.Spec PyProof.Rows PySem.NumText
end L2
namespace L2
open PySem PySem.Spec PyProof.Rows
end L2
open PySem PySem.W PyProof.Rows
set_option maxHeartbeats 4000000
namespace TJ
section
variable (p:Program) (w:S0) (n₀:Nat) (ann:Option Value) (code:Code) (q:Pos)
theorem zhg {n m:Nat} :∀{s s' s'':t0} {t t' t'':j34},segGo X2 p w n₀ ann 1 n s t=some (s',t')->segGo X2 p w n₀ ann 1 m s' t'=some (s'',t'')->
  segGo X2 p w n₀ ann 1 (n + m) s t=some (s'',t''):=by
 induction n with
 | zero=>
  intro s s' s'' t t' t'' h k;obtain ⟨rfl,rfl⟩:s=s'/\t=t':=by simpa [segGo] using h
  rw [m8];exact k
 | succ n ih=>
  intro s s' s'' t t' t'' h k;rw [show n + 1 + m=n + m + 1 by omega];unfold segGo at h⊢;cases he:endAt 1 t with
  | some f=>rw [he] at h;cases h
  | none=>
   rw [he] at h;cases hk:stepOk n₀ ann t with
   | false=>rw [hk] at h;cases h
   | true=>
    rw [hk] at h;cases hs:step (denote X2) p w s t with
    | halt o s₂=>rw [hs] at h;cases h
    | go s₂ t₂=>rw [hs] at h;exact ih h k
def Steps (c:Nat) (s:t0) (t:j34) (s':t0) (t':j34):Prop:=∃n,n<=c/\segGo X2 p w n₀ ann 1 n s t=some (s',t')
def Goes {α:Type} (c:Nat) (x:Sem α) (s:t0) (pos:Pos) (a:α) (s':t0) (pos':Pos):Prop:=
 ∀(K:α->Sem Fin) (H:Value->Sem Fin) (gd:Bool->Bool) (lv:List Value->List Value),
  Steps p w n₀ ann c s ⟨x.wrap K H gd lv,code,pos,[topFrame q]⟩ s' ⟨K a,code,pos',[topFrame q]⟩
end
section
variable {p:Program} {w:S0} {n₀:Nat} {ann:Option Value} {code:Code} {q:Pos}
theorem Steps.trans {c d:Nat} {s s' s'':t0} {t t' t'':j34} (h:Steps p w n₀ ann c s t s' t') (k:Steps p w n₀ ann d s' t' s'' t''):Steps p w n₀ ann (c + d) s t s'' t'':=by obtain ⟨n,b,h⟩:=h;obtain ⟨m,a,k⟩:=k;exact ⟨n + m,by omega,zhg p w n₀ ann h k⟩
theorem Steps.refl {s:t0} {t:j34}:Steps p w n₀ ann 0 s t s t:=⟨0,u0 _,rfl⟩
theorem Steps.le {c d:Nat} {s s':t0} {t t':j34} (h:Steps p w n₀ ann c s t s' t') (l:c<=d):Steps p w n₀ ann d s t s' t':=let ⟨n,a,b⟩:=h;⟨n,C0 a l,b⟩
theorem Steps.one {s s':t0} {t t':j34} (he:endAt 1 t=none) (hk:stepOk n₀ ann t=true) (hs:step (denote X2) p w s t=.go s' t'):Steps p w n₀ ann 1 s t s' t':=by refine ⟨1,u0 _,?_⟩;unfold segGo;rw [he,hk,hs];rfl
variable {α β:Type} {s s' s'':t0} {pos pos' pos'':Pos} {a:α} {b:β} {c d:Nat}
theorem Goes.pure:Goes p w n₀ ann code q 0 (j27 a:Sem α) s pos a s pos:=λ _ _ _ _=>.refl
theorem Goes.le {x:Sem α} (h:Goes p w n₀ ann code q c x s pos a s' pos') (l:c<=d):Goes p w n₀ ann code q d x s pos a s' pos':=λ K H e b=>(h K H e b).le l
theorem Goes.bind {x:Sem α} {f:α->Sem β} (h:Goes p w n₀ ann code q c x s pos a s' pos') (k:Goes p w n₀ ann code q d (f a) s' pos' b s'' pos''):Goes p w n₀ ann code q (c + d) (x >>= f) s pos b s'' pos'':=by
 intro K H i g;have e:(x >>= f).wrap K H i g=x.wrap (λ a=>(f a).wrap K H i g) H i g:=by rw [Sem.bind_eq_wrap',Sem.wrap_wrap];rfl
 rw [e];exact (h _ H i g).trans (k K H i g)
theorem Goes.keep {x:Sem α} {vs:List Value} (h:Goes p w n₀ ann code q c x s pos a s' pos'):Goes p w n₀ ann code q c (x.keep vs) s pos a s' pos':=by intro K H d b;rw [Sem.keep_eq_wrap,Sem.wrap_wrap];exact h K H _ _
theorem Goes.holding {x:Sem α} {vs:List Value} (h:Goes p w n₀ ann code q c x s pos a s' pos'):Goes p w n₀ ann code q c (j0c vs x) s pos a s' pos':=by rw [holding_eq_keep];exact h.keep
theorem Goes.rule {tag:String}:Goes p w n₀ ann code q 1 (PySem.rule tag) s pos () s pos:=λ _ _ _ _=>.one rfl rfl rfl
theorem Goes.at' {pos₁:Pos}:Goes p w n₀ ann code q 1 (j2b pos₁) s pos () s pos₁:=λ _ _ _ _=>.one rfl rfl rfl
theorem Goes.loadPart {A:Addr} {o:Obj} {part:Option Value} (ho:s.heap.get? A=some o):Goes p w n₀ ann code q 1 (loadPart A part) s pos o s pos:=λ K H e d=>.one rfl rfl (by obtain ⟨heap,b,f,a,c⟩:=s;show (match heap.get? A with|some o=>Step.go _ _|none=>_)=_;have ho:heap.get? A=some o:=ho;rw [ho];rfl)
theorem Goes.updatePart {A:Addr} {o:Obj} {f:Obj->Obj} {part:Option Value} (ho:s.heap.get? A=some o) (hn:Nat.ble n₀ A=true):Goes p w n₀ ann code q 1 (updatePart A part f) s pos () { s with heap:=s.heap.update A f } pos:=λ K H e d=>
 .one rfl (by
  show (_ && (Nat.ble n₀ A || _ || _ || _))=true;rw [hn];rfl) (by
  obtain ⟨heap,b,g,a,c⟩:=s;have ho:heap.get? A=some o:=ho;show (if (heap.get? A).isSome=true then Step.go _ _ else _)=_;rw [ho];rfl)
theorem Goes.leaf {x:Sem α} {sT sT':SharedT} (n:Nat) (h :∀K H gd lv,segGoT X2 p w n₀ ann 1 n sT ⟨x.wrap K H gd lv,code,pos,[topFrame q]⟩=some (sT',⟨K a,code,pos',[topFrame q]⟩)) :
  Goes p w n₀ ann code q n x sT.abs pos a sT'.abs pos':=λ K H gd lv=>⟨n,u0 _,segGo_of (h K H gd lv)⟩
end
end TJ
open PySem PySem.W PyProof.Rows
namespace TJ
section
variable {p:Program} {w:S0} {n₀:Nat} {ann:Option Value} {code:Code} {q:Pos} {s:t0} {pos:Pos}
theorem Goes.forIn {γ β:Type} {c:Nat} {f:γ->β->Sem (ForInStep β)} {b:β} :∀{l:List γ},(∀x∈l,Goes p w n₀ ann code q c (f x b) s pos (.yield b) s pos)->Goes p w n₀ ann code q (l.length * c) (ForIn.forIn l b f) s pos b s pos
 | [],_=>by rw [V4];exact Goes.pure.le (S1 _)
 | x :: l,h=>by rw [o5];have k:=Goes.forIn (l:=l) λ y a=>h y (W0 _ a);have e:=Goes.bind (f:=λ r=>match r with | .done b=>(j27 b:Sem β) | .yield b=>ForIn.forIn l b f) (h x R0) k;exact e.le (by rw [P0,Nat.add_mul];omega)
theorem Goes.entries {d:Addr} {o:Obj} {es:Array DictEntry} {ep:Nat} {part:Option Value} (ho:s.heap.get? d=some o) (hd:o.data=.dict es ep):Goes p w n₀ ann code q 1 (dictEntries d part) s pos es s pos:=by unfold dictEntries;refine (Goes.bind (d:=0) (Goes.loadPart ho) ?_);rw [hd];exact Goes.pure
theorem Goes.epoch {d:Addr} {o:Obj} {es:Array DictEntry} {ep:Nat} {part:Option Value} (ho:s.heap.get? d=some o) (hd:o.data=.dict es ep):Goes p w n₀ ann code q 1 (dictEpoch d part) s pos ep s pos:=by unfold dictEpoch;refine (Goes.bind (d:=0) (Goes.loadPart ho) ?_);rw [hd];exact Goes.pure
theorem Goes.mayTell {a:Addr} {stored:List Value} {cq:Nat} (hq:Goes p w n₀ ann code q cq (i4 8 (.ref a)) s pos true s pos) (hs :∀v∈stored,Goes p w n₀ ann code q cq (i4 8 v) s pos true s pos) :
  Goes p w n₀ ann code q (cq + stored.length * cq) (tableMayTell (.ref a) stored) s pos false s pos:=by
 unfold tableMayTell;split
 ·exact Goes.pure.le (S1 _)
 ·refine Goes.bind hq ?_;simp only [C7,J3,if_false];refine (Goes.bind (a:=(none,())) (d:=0) (Goes.forIn λ v b=>?_) ?_).le (u0 _)
  ·refine (Goes.bind (d:=0) (hs v b) ?_).le (u0 _);simp only [C7,J3,if_false];exact Goes.pure
  ·exact Goes.pure
theorem Goes.find_none {d a:Addr} {o:Obj} {es:Array DictEntry} {ep:Nat} {h:Int} {cq ce:Nat} (ho:s.heap.get? d=some o) (hd:o.data=.dict es ep)
  (hq:Goes p w n₀ ann code q cq (i4 8 (.ref a)) s pos true s pos)
  (hk :∀e∈es.toList,∃b,e.key=.ref b/\b≠a/\Goes p w n₀ ann code q cq (i4 8 (.ref b)) s pos true s pos/\Goes p w n₀ ann code q ce (eqBool (.ref b) (.ref a)) s pos false s pos) :
  Goes p w n₀ ann code q (2 + cq + es.size * (cq + ce + 10)) (dictFind d (.ref a) h) s pos none s pos:=by
 have n :∀(i:Nat) (e:DictEntry),es[i]? = some e->e∈es.toList:=λ i e y=>Array.mem_toList_iff.mpr (Array.mem_of_getElem? y);have r:¬ (es.any λ e=>e.key == A1 a && e.hash != h)=true:=by rw [<-Array.any_toList,N7];rintro ⟨e,hin,hc⟩;obtain ⟨b,f,g,_⟩:=hk e hin;simp only [f,j2,beq_iff_eq,Value.ref.injEq] at hc;exact g hc.1
 have m :∀v∈(Y5 es.size (λ i=>es[i]?.map (·.hash)) h).filterMap (λ i=>es[i]?.map (·.key)),∃b,v=.ref b/\b≠a/\Goes p w n₀ ann code q cq (i4 8 v) s pos true s pos:=by
  intro v k;obtain ⟨i,_,j⟩:=List.mem_filterMap.mp k;cases hei:es[i]? with
  | none=>rw [hei] at j;cases j
  | some e=>
   rw [hei] at j;obtain rfl:e.key=v:=by simpa using j
   obtain ⟨b,f,g,t,_⟩:=hk e (n i e hei);exact ⟨b,f,g,f ▸ t⟩
 have l:(Y5 es.size (λ i=>es[i]?.map (·.hash)) h).length<=es.size:=by unfold Y5;exact C0 (U2 _ _) (by rw [Y1];exact u0 _)
 have u:((Y5 es.size (λ i=>es[i]?.map (·.hash)) h).filterMap (λ i=>es[i]?.map (·.key))).length<=es.size:=C0 (z7 _ _) l;unfold dictFind;refine Goes.holding ?_;refine (Goes.bind (d:=1 + cq + es.size * (cq + ce + 10)) (Goes.entries ho hd) ?_).le (by omega);dsimp only;rw [if_neg (show ¬ ((A1 a :: (Y5 es.size (λ i=>es[i]?.map (·.hash)) h).filterMap (λ i=>es[i]?.map (·.key))).all carriedByValue)=true by simp [carriedByValue])];rw [if_neg r];have B:¬ (((Y5 es.size (λ i=>es[i]?.map (·.hash)) h).filterMap (λ i=>es[i]?.map (·.key))) == [A1 a])=true:=by intro e;have e:=eq_of_beq e;obtain ⟨b,f,g,_⟩:=m (.ref a) (by rw [e];exact List.mem_singleton.mpr rfl);exact g (by injection f with f;exact f.symm)
 rw [if_neg B];refine (Goes.bind (d:=1 + es.size * (ce + 10)) (Goes.mayTell hq λ v k=>(let ⟨_,_,_,z⟩:=m v k;z)) ?_).le ?_
 ·rw [if_neg (by simp)];refine (Goes.bind (a:=(none,none)) (d:=0) (Goes.forIn (c:=ce + 10) λ i j=>?_) ?_).le ?_
  ·cases hei:es[i]? with
   | none=>exact Goes.pure.le (S1 _)
   | some e=>
    dsimp only;split
    ·obtain ⟨b,f,g,_,A⟩:=hk e (n i e hei);rw [f];refine (Goes.bind (d:=ce + 2) (Goes.epoch ho hd) (Goes.bind (d:=2) A (Goes.bind (d:=1) (Goes.epoch ho hd) ?_))).le (by omega);rw [if_neg (by simp)];rw [if_neg (by simp)];refine Goes.bind (d:=0) Goes.rule ?_;rw [if_neg (by simp)];exact Goes.pure
    ·exact Goes.pure.le (S1 _)
  ·exact Goes.pure
  ·have:=r6 (ce + 10) l;omega
 ·have:=r6 cq u;have x:es.size * (cq + ce + 10)=es.size * cq + es.size * (ce + 10):=by rw [<-Nat.mul_add,j29]
  rw [x];omega
end
end TJ
open PySem PySem.W PyProof.Rows
namespace TJ
noncomputable abbrev dObj (es:Array DictEntry) (ep:Nat):Obj:={ cls:=.type "dict",data:=.dict es ep }
noncomputable abbrev KV3:=Addr×Value×Int
noncomputable def ent (x:KV3):DictEntry:=⟨x.2.2,.ref x.1,x.2.1⟩
noncomputable def unh (a:Addr):Sem Value:=do rule "hash.unhashable";raiseError "TypeError" s!"unhashable type: '{← typeNameOf (.ref a)}'"
noncomputable def zci (d:Addr) (vs:List (Value×Value)):Sem PUnit:=E9 vs d9 λ (x:Value×Value) (_:PUnit)=>(do dictSet d x.1 x.2;Y2 (E2 d9):Sem (ForInStep PUnit))
section
variable {p:Program} {w:S0} {n₀:Nat} {ann:Option Value} {code:Code} {q:Pos} {pos:Pos} {F:Obj->Nat->SharedT} {d:Addr}
structure Fam (n₀:Nat) (d:Addr) (F:Obj->Nat->SharedT):Prop where
 le:Nat.ble n₀ d=true
 get :∀es ep tk,(F (dObj es ep) tk).abs.heap.get? d=some (dObj es ep)
 upd :∀es ep tk (e:DictEntry),({ (F (dObj es ep) tk).abs with heap:=(F (dObj es ep) tk).abs.heap.update d (u8 (·.push e)) }:t0)=(F (dObj (es.push e) (ep + 1)) tk).abs
theorem Goes.updKeys (Z:Fam n₀ d F) {es:Array DictEntry} {ep tk:Nat} {e:DictEntry} {part:Option Value} (hsz:es.size < sizeLine) :
  Goes p w n₀ ann code q 3 (updateDictKeys d (·.push e) part) (F (dObj es ep) tk).abs pos () (F (dObj (es.push e) (ep + 1)) tk).abs pos:=by
 unfold updateDictKeys;refine (Goes.bind (d:=2) (Goes.loadPart (Z.get es ep tk)) ?_);dsimp only;have u:=Goes.updatePart (p:=p) (w:=w) (ann:=ann) (code:=code) (q:=q) (pos:=pos) (part:=part) (f:=u8 (·.push e)) (Z.get es ep tk) Z.le;rw [Z.upd es ep tk e] at u;refine Goes.bind (d:=1) u ?_;unfold lookBehind;refine Goes.bind (d:=0) (Goes.loadPart (Z.get _ _ tk)) ?_;have a:(dObj (es.push e) (ep + 1)).data.pastItsLine=none:=by unfold Data.pastItsLine;dsimp only;rw [if_neg (by rw [Array.size_push];omega)]
 rw [a];exact Goes.pure
theorem Goes.set (Z:Fam n₀ d F) {a:Addr} {v:Value} {es:Array DictEntry} {ep tk k cp cq ce:Nat} {hsh:Int} (hsz:es.size < sizeLine)
  (hpy:Goes p w n₀ ann code q cp (pyHash (.ref a)) (F (dObj es ep) tk).abs pos hsh (F (dObj es ep) (tk + k)).abs pos)
  (hq:Goes p w n₀ ann code q cq (i4 8 (.ref a)) (F (dObj es ep) (tk + k)).abs pos true (F (dObj es ep) (tk + k)).abs pos)
  (hk :∀e∈es.toList,∃b,e.key=.ref b/\b≠a/\Goes p w n₀ ann code q cq (i4 8 (.ref b)) (F (dObj es ep) (tk + k)).abs pos true (F (dObj es ep) (tk + k)).abs pos/\
   Goes p w n₀ ann code q ce (eqBool (.ref b) (.ref a)) (F (dObj es ep) (tk + k)).abs pos false (F (dObj es ep) (tk + k)).abs pos) :
  Goes p w n₀ ann code q (cp + (2 + cq + es.size * (cq + ce + 10)) + 4) (dictSet d (.ref a) v) (F (dObj es ep) tk).abs pos () (F (dObj (es.push ⟨hsh,.ref a,v⟩) (ep + 1)) (tk + k)).abs pos:=by
 unfold dictSet;refine Goes.holding ?_;refine (Goes.bind (d:=(2 + cq + es.size * (cq + ce + 10)) + 4) hpy ?_).le (by omega);unfold dictSetHashed;refine Goes.holding ?_;refine Goes.bind (d:=4) (Goes.find_none (h:=hsh) (Z.get es ep (tk + k)) rfl hq hk) ?_;exact Goes.bind (d:=3) Goes.rule (Goes.updKeys Z hsz)
theorem zm0 {γ β:Type} {f:γ->β->Sem (ForInStep β)} {x:γ} {xs:List γ} {b b' b'':β} {c c':Nat} {s s' s'':t0} (h:Goes p w n₀ ann code q c (f x b) s pos (.yield b') s' pos) (k:Goes p w n₀ ann code q c' (E9 xs b' f) s' pos b'' s'' pos) :
  Goes p w n₀ ann code q (c + c') (E9 (x :: xs) b f) s pos b'' s'' pos:=by
 rw [o5];exact Goes.bind (f:=λ r=>match r with | .done b=>(j27 b:Sem β) | .yield b=>E9 xs b f) h k
theorem Goes.loop (Z:Fam n₀ d F) {cp cq ce N:Nat} (all:List KV3) (hN:all.length<=N) (hN':N < sizeLine) (hnd:(all.map (·.1)).Nodup)
  (hQ :∀x∈all,∀oD tk,Goes p w n₀ ann code q cq (i4 8 (.ref x.1)) (F oD tk).abs pos true (F oD tk).abs pos)
  (hE:all.Pairwise λ x y=>∀oD tk,Goes p w n₀ ann code q ce (eqBool (.ref x.1) (.ref y.1)) (F oD tk).abs pos false (F oD tk).abs pos)
  (hH :∀x∈all,∀oD tk,Goes p w n₀ ann code q cp (pyHash (.ref x.1)) (F oD tk).abs pos x.2.2 (F oD (tk + 3)).abs pos) :
  ∀(todo done:List KV3) (tk:Nat),all=done++todo->
   Goes p w n₀ ann code q (todo.length * (cp + (2 + cq + N * (cq + ce + 10)) + 4)) (zci d (todo.map λ x=>(A1 x.1,x.2.1)))
    (F (dObj (done.map ent).toArray done.length) tk).abs pos () (F (dObj (all.map ent).toArray all.length) (tk + 3 * todo.length)).abs pos:=by
 intro todo;induction todo with
 | nil=>intro done tk e;rw [D2] at e;subst e;unfold zci;rw [D4,V4];exact Goes.pure.le (S1 _)
 | cons x todo ih=>
  intro done tk e;have g:x∈all:=by rw [e];exact J1 _ R0
  have f:=ih (done++[x]) (tk + 3) (by rw [e,o7];rfl);unfold zci at f⊢;rw [j1];have h:(done.map ent).toArray.size<=N:=by rw [L0,F0];rw [e,K0] at hN;omega
  have c:=Goes.set (p:=p) (w:=w) (ann:=ann) (code:=code) (q:=q) (pos:=pos) (v:=x.2.1) (ep:=done.length) Z (O1 h hN') (hH x g _ tk) (hQ x g _ _) (es:=(done.map ent).toArray) (ce:=ce) (by
   intro s l;obtain ⟨y,a,rfl⟩:=List.mem_map.mp l;have r:y∈all:=by rw [e];exact i6 _ a
   have m:y.1≠x.1:=by rw [e,u1,j1] at hnd;intro q;exact (List.nodup_append.mp hnd).2.2 y.1 (List.mem_map.mpr ⟨y,a,rfl⟩) x.1 R0 q
   rw [e] at hE;exact ⟨y.1,rfl,m,hQ y r _ _,(List.pairwise_append.mp hE).2.2 y a x R0 _ _⟩)
  have o:((done.map ent).toArray.push ⟨x.2.2,.ref x.1,x.2.1⟩)=((done++[x]).map ent).toArray:=by rw [List.push_toArray,u1];rfl
  have i:done.length + 1=(done++[x]).length:=by rw [K0];rfl
  rw [o,i] at c;have j:tk + 3 * (x :: todo).length=(tk + 3) + 3 * todo.length:=by rw [P0];omega
  rw [j];have k:Goes p w n₀ ann code q (_ + 0) (do dictSet d (A1 x.1,x.2.1).1 (A1 x.1,x.2.1).2;j27 (E2 d9):Sem (ForInStep PUnit)) _ pos (E2 d9) _ pos:=Goes.bind c Goes.pure;have n:=zm0 (b:=d9) (xs:=todo.map λ x=>(A1 x.1,x.2.1)) k f;refine n.le ?_;rw [P0,Nat.add_mul];have:=r6 (cq + ce + 10) h;omega
noncomputable def zb2 (acc:Nat):Int:=if acc == 2 ^ 64 - 1 then 1546275796 else if acc < 2 ^ 63 then acc else (acc:Int) - (2 ^ 64:Nat)
theorem z95 (acc:Nat) (h:acc < 2 ^ 64):-(2:Int) ^ 63<=zb2 acc/\zb2 acc < 2 ^ 63:=by
 unfold zb2;split
 ·constructor<;>decide
 ·split
  ·constructor<;>omega
  ·constructor<;>omega
theorem z7c (hs:List Int):-(2:Int) ^ 63<=o0 hs/\o0 hs < 2 ^ 63:=
 z95 _ (Nat.mod_lt _ (by decide))
theorem Goes.pyHashT {a:Addr} {s s':t0} {hs:List Int} {tok:Tok} (h1:Goes p w n₀ ann code q 1 (cRoomFor "hash" [.ref a]) s pos () s pos)
  (h2:Goes p w n₀ ann code q 1 (specialOf (.ref a) "__hash__") s pos (some (.builtin "tuple.__hash__")) s pos)
  (h3:Goes p w n₀ ann code q 22 (L6 (.ref a) "__hash__" (unh a)) s pos (some (.int (o0 hs) tok)) s' pos) :
  Goes p w n₀ ann code q 25 (pyHash (.ref a)) s pos (G1 (o0 hs)) s' pos:=by
 have e:pyHash (.ref a)=pyHashByItsType (.ref a):=rfl;rw [e];unfold pyHashByItsType;refine Goes.bind (d:=24) h1 ?_;refine Goes.bind (d:=23) h2 ?_;rw [if_neg (by rw [beq_builtin_none];exact M0)];refine Goes.bind (d:=22) h2 ?_;show Goes p w n₀ ann code q 22 (L6 (.ref a) "__hash__" (unh a) >>= _) s pos _ s' pos;refine Goes.bind (d:=0) h3 ?_;have r:(decide (-(2:Int) ^ 63<=o0 hs) && decide (o0 hs < 2 ^ 63))=true:=by have r:=z7c hs;rw [decide_eq_true r.1,decide_eq_true r.2];rfl
 show Goes p w n₀ ann code q 0 (if (decide (-(2:Int) ^ 63<=o0 hs) && decide (o0 hs < 2 ^ 63))=true then _ else _) s' pos _ s' pos;have b:G1 (o0 hs)=(if (o0 hs == -1)=true then -2 else o0 hs):=by unfold G1;rw [if_pos r]
 rw [if_pos r,b];exact Goes.pure
theorem Goes.subDict {pairs:List (Sem Value×Sem Value)} {s s₁ s':t0} {vs:List (Value×Value)} {c c':Nat} {d:Addr} (hlen:pairs.length<=15) (hd:s.heap.objs.size=d)
  (h1:Goes p w n₀ ann code q c (evalPairs pairs) { s with heap:=s.heap.push { cls:=.type "dict",data:=.dict #[] } } pos vs s₁ pos)
  (h2:Goes p w n₀ ann code q c' (zci d vs) s₁ pos () s' pos):Goes p w n₀ ann code q (1 + (c + c')) (subDict pairs) s pos d s' pos:=by
 subst hd;unfold PySem.subDict;refine Goes.bind (a:=s.heap.objs.size) (λ _ _ _ _=>.one rfl rfl rfl) ?_;refine (Goes.bind (d:=0) (a:=()) (Goes.holding ?_) Goes.pure);rw [if_pos hlen];refine Goes.bind h1 ?_;exact Goes.holding (Goes.bind (d:=0) h2 Goes.pure)
theorem Goes.execs1 {st:Stmt} {env:Env} {s s':t0} {pos':Pos} {c:Nat} (h:Goes p w n₀ ann code q c (exec st env) s pos .next s' pos'):Goes p w n₀ ann code q c (execs [st] env) s pos .next s' pos':=by rw [execs_cons];exact Goes.bind (d:=0) h Goes.pure
theorem Goes.seg {l:List Stmt} {env:Env} {s s':t0} {pos':Pos} {c:Nat} (h:Goes p w n₀ ann code q c (execs l env) s pos .next s' pos') :∃n,n<=c + 1/\segRun X2 p w n₀ ann 1 n s (piecesOf l env code pos [topFrame q])=some (.next,s',code,pos'):=by obtain ⟨n,a,h⟩:=h doneF deadEnd id id;exact ⟨n + 1,by omega,seg_go h rfl⟩
end
theorem zkt {p q:Program} {loose:List Str} {Xt:t0->Bool} {α:Type} {Yf:t0->α} {Ya:S0->α} {N:Nat} {H₀:N0->Heap} {gs₀:Array GenState} {d₀:Drawn} {k₀ m₀:Nat} {ann:Option Value} {S:S0->K2->t0}
  (opens :∀w:S0,(fencedOpening X2 p w N).map (λ s=>(s.heap,s.gens,s.drawn,s.toks))=some (H₀ w.params,gs₀,d₀,k₀))
  (sizes :∀w:S0,(((H₀ w.params).isNs W2 && gs₀.size == 0),(H₀ w.params).objs.size,(H₀ w.params).nsMap W2 "__annotations__")=(true,m₀,ann))
  (runs :∀(w:S0) (os:K2),∃M,M<=N/\topRun X2 p w m₀ ann M ⟨H₀ w.params,gs₀,d₀,k₀,os⟩ (topStub p)=some (S w os))
  (looks1 :∀(w:S0) (os:K2),(staticsOk (U6 p.main.body) (H₀ w.params) (S w os).heap && namesBound p (S w os).heap && gensDone (S w os) && laidKept (H₀ w.params) (S w os).heap)=true)
  (looks2 :∀(w:S0) (os:K2),openSeen q loose (U6 p.main.body) Xt true (S w os)=openGood q loose) (looks3 :∀(w:S0) (os:K2),Yf (S w os)=Ya w):LeftO p q loose Xt Yf Ya N:=by
 intro w;obtain ⟨⟨h,f,i,k,os⟩,e,a⟩:=Option.map_eq_some_iff.mp (opens w);simp only [Prod.mk.injEq] at a;obtain ⟨rfl,rfl,rfl,rfl⟩:=a;have z:=sizes w;simp only [Prod.mk.injEq] at z;obtain ⟨g,d,b⟩:=z;obtain ⟨M,c,r⟩:=runs w os;have r:=topRun_mono (N - M) _ _ _ _ r;rw [Nat.add_sub_cancel' c] at r;have t:topFrom X2 p w N ⟨H₀ w.params,f,i,k,os⟩=some (S w os):=by unfold topFrom;dsimp only;rw [g,d,b,r];show (match (staticsOk (U6 p.main.body) (H₀ w.params) (S w os).heap && namesBound p (S w os).heap && gensDone (S w os) && laidKept (H₀ w.params) (S w os).heap) with|true=>some (S w os)|false=>none)=_;rw [looks1 w os]
 unfold openEnds;rw [e];show (topFrom X2 p w N _).map _=_;rw [t];show some (_,_)=some (_,_);rw [looks2 w os,looks3 w os]
theorem zgm {p:Program} {w:S0} {n₀:Nat} {ann:Option Value} {env:Env} {q:Pos} {c N:Nat} {s s' r:t0} {l rest:List Stmt} {b:Code} {pos pos':Pos} (h:Goes p w n₀ ann b q c (execs l env) s pos .next s' pos')
  (k:topRun X2 p w n₀ ann N s' (restOf rest env b pos' [topFrame q])=some r) :∃M,M<=c + 1 + N/\topRun X2 p w n₀ ann M s (restOf (l++rest) env b pos [topFrame q])=some r:=by
 obtain ⟨n,a,g⟩:=Goes.seg h;exact ⟨n + N,by omega,piece_app g k⟩
end TJ
open PySem PySem.Spec PyProof.Rows
namespace L2
noncomputable abbrev fnX (x q:Str) (s:Stmt) (m:Str) (k c:Nat):FuncData:=B5 x q (z9w s) (z6g s) (z06 s) .none .none .none (.str m k) none (.ref c) .none
noncomputable abbrev fY (x q:Str) (s:Stmt):=fnX x q s "law_talejudge_k70_whole_beginnings_alike" 760
noncomputable abbrev fO (x q:Str) (s:Stmt) (m:Str) (k c:Nat):Obj:=⟨.type "function",none,.func (fnX x q s m k c),#[]⟩
noncomputable abbrev fL (x q:Str) (s:Stmt):=fO x q s "law_talejudge_k70_whole_beginnings_alike" 760
noncomputable abbrev cO (x q:Str) (i l n a j:Nat):Obj:=
 ⟨.type "code",none,.fields #[.str x i,.str q (i + 1),.str "/claim/cut.py" (i + 2),.int l 0,.int n 0,.int 0 0,.int 0 0,.int 3 0,.ref a,.bool true,.int 181 0,.ref (a + 1),.none,.ref (a + 2),.ref (a + 3),.ref (a + 4),.int j 0,.int l 0,.str "/claim/cut.py" (j + 1)],#[]⟩
noncomputable abbrev cP (x q:Str) (i l n a j:Nat):Obj:=
 ⟨.type "code",none,.fields #[.str x i,.str q (i + 1),.str "/claim/cut.py" (i + 2),.int l 0,.int n 0,.int 0 0,.int 0 0,.int 3 0,.ref a,.bool true,.int 181 0,.ref (a + 1),.none,.none,.none,.ref (a + 2),.int j 0,.int l 0,.str "/claim/cut.py" (j + 1)],#[]⟩
noncomputable abbrev kR (P:N0) (x:Str) (i a:Nat):DictEntry:=⟨c0 P x,.str x i,.ref a⟩
section
variable {P:Program} {w:S0} {K:b0} {mg:Str->Option Value} {base:Heap} {x q:Str} {st:Stmt} {f:Addr} {fd:FuncData} {k:Nat} {ps:List Str} {sp:Sp}
theorem z0c {m:Str} {i c:Nat} (l:K.lookup f=some (fO x q st m i c):=by kernel_rfl) (hc:j8 K (.ref c) q=true:=by kernel_rfl) (hk:j3 K (.ref f)=true:=by kernel_rfl):Fun K x q st f (fnX x q st m i c):=fun_mk l hc hk
theorem cal_mk (T:TX K mg) (F:Fun K x q st f fd) (g:o6 K W2 x=some (some (.ref f))) (b:Binds K fd ps []) (G:FnOk P w K mg base CX0 k f fd ps sp):Cal P w K mg base x ps k sp:=⟨⟨f,fd,G,T.of g,F.kp,b⟩⟩
end
section
variable {p:List Value->Prop}
theorem us1 (h :∀a,p [a]) :∀us:List Value,us.length=1->p us | [a],_=>h a
theorem us2 (h :∀a b,p [a,b]) :∀us:List Value,us.length=2->p us | [a,b],_=>h a b
theorem us3 (h :∀a b c,p [a,b,c]) :∀us:List Value,us.length=3->p us | [a,b,c],_=>h a b c
theorem us4 (h :∀a b c d,p [a,b,c,d]) :∀us:List Value,us.length=4->p us | [a,b,c,d],_=>h a b c d
theorem us6 (h :∀a b c d e f,p [a,b,c,d,e,f]) :∀us:List Value,us.length=6->p us | [a,b,c,d,e,f],_=>h a b c d e f
end
end L2
set_option maxHeartbeats 1000000
namespace L2
open PySem PySem.Spec PyProof.Rows
section
variable {X:Cx}
noncomputable def rEqL0 (K:b0):R2:=λ x y H Q=>∃a b xs,x=.ref a/\y=.ref b/\SqL K H a xs/\SqL K H b []/\Q (.bl (decide (xs=[]))) H
theorem zj0 {k:Nat} (hr:Room k X.A):OpR X (B2 .Eq) (rEqL0 X.K):=by
 intro B s σ H x y v u Q I i r h;obtain ⟨a,b,l,rfl,rfl,m,o,q⟩:=h;cases i;cases r;obtain ⟨D,g,d,_⟩:=I.list m;obtain ⟨C,t,f,_⟩:=I.list o;cases t;have c:X.A.units < cLine:=Nat.lt_of_succ_lt (hu_of hr);have p:=g.length;cases l with
 | nil=>cases g;exact SeqAt.RcAt.lists (e:=λ _=>true) d.isList f.isList rfl c (λ j n _=>absurd n (z5 _)) X.prog X.w _ _ ⟨.bl _,H,I,rfl,q⟩
 | cons z zs=>refine SeqAt.RcAt.lists_lengths d.isList f.isList ?_ c X.prog X.w _ _ ⟨.bl _,H,I,rfl,q⟩;rw [L0,<-p];rfl
end
mutual
noncomputable def keyD:PyData->Bool
 | .int _=>true
 | .str _=>false
 | .tuple xs=>keyDs xs
 | .none=>false
 | .bool _=>false
 | .list _=>false
 | .dict _=>false
noncomputable def keyDs:List PyData->Bool
 | []=>true
 | x :: xs=>keyD x && keyDs xs
end
mutual
noncomputable def hashD:PyData->Int
 | .int i=>hashInt i
 | .str _=>0
 | .tuple xs=>G1 (o0 (hashDs xs))
 | .none=>0
 | .bool _=>0
 | .list _=>0
 | .dict _=>0
noncomputable def hashDs:List PyData->List Int
 | []=>[]
 | x :: xs=>hashD x :: hashDs xs
end
mutual
noncomputable def drawD:PyData->Nat
 | .tuple xs=>drawDs xs + 1
 | .int _=>1
 | .str _=>1
 | .none=>1
 | .bool _=>1
 | .list _=>1
 | .dict _=>1
noncomputable def drawDs:List PyData->Nat
 | []=>0
 | x :: xs=>drawD x + drawDs xs
end
mutual
theorem z8y {h h':Heap} (k :∀b o vs n,h.get? b=some o->o.cls=.type "tuple"->o.data=.seq vs n->h'.get? b=some o) :∀(d:PyData) (v:Value) (as:List Addr),keyD d=true->Reads h v d as->Reads h' v d as
 | .int i,v,as,_,r=>by cases r;exact .int _ _
 | .str _,_,_,hk,_=>by cases hk
 | .tuple xs,v,as,hk,r=>by
  cases r with
  | tuple e c d r=>exact .tuple (k _ _ _ _ e c d) c d (zd0 k xs _ _ hk r)
 | .none,_,_,hk,_=>by cases hk
 | .bool _,_,_,hk,_=>by cases hk
 | .list _,_,_,hk,_=>by cases hk
 | .dict _,_,_,hk,_=>by cases hk
theorem zd0 {h h':Heap} (k :∀b o vs n,h.get? b=some o->o.cls=.type "tuple"->o.data=.seq vs n->h'.get? b=some o) :∀(ds:List PyData) (vs:List Value) (as:List Addr),keyDs ds=true->O6 h vs ds as->O6 h' vs ds as
 | [],_,_,_,r=>by cases r;exact .nil
 | d :: ds,_,_,c,r=>by
  have c:=Bool.and_eq_true_iff.mp (show (keyD d && keyDs ds)=true from c);cases r with
  | cons a r=>exact .cons (z8y k d _ _ c.1 a) (zd0 k ds _ _ c.2 r)
end
mutual
theorem z2d :∀d:PyData,keyD d=true->plainP d=true
 | .int _,_=>rfl
 | .str _,hk=>by cases hk
 | .tuple xs,h=>zap xs h
 | .none,hk=>by cases hk
 | .bool _,hk=>by cases hk
 | .list _,hk=>by cases hk
 | .dict _,hk=>by cases hk
theorem zap :∀ds:List PyData,keyDs ds=true->z0z ds=true
 | [],_=>rfl
 | d :: ds,a=>by have a:=Bool.and_eq_true_iff.mp (show (keyD d && keyDs ds)=true from a);show (plainP d && z0z ds)=true;rw [z2d d a.1,zap ds a.2];rfl
end
mutual
theorem z5q :∀d:PyData,keyD d=true->d.canLay0=true
 | .int _,_=>rfl
 | .str _,hk=>by cases hk
 | .tuple xs,h=>zfn xs h
 | .none,hk=>by cases hk
 | .bool _,hk=>by cases hk
 | .list _,hk=>by cases hk
 | .dict _,hk=>by cases hk
theorem zfn :∀ds:List PyData,keyDs ds=true->W6 ds=true
 | [],_=>rfl
 | d :: ds,a=>by have a:=Bool.and_eq_true_iff.mp (show (keyD d && keyDs ds)=true from a);show (d.canLay0 && W6 ds)=true;rw [z5q d a.1,zfn ds a.2];rfl
end
section
variable {prog:Program} {w:S0} {E:Value->t0->Prop}
mutual
theorem zgl :∀(d:PyData) (v:Value) (as:List Addr) (A:X1) (s:t0) (Q:Int->t0->Prop),keyD d=true->Reads s.heap v d as->A.units + d.depth < cLine->Q (hashD d) { s with toks:=s.toks + drawD d }->U0 (B1 prog w) A (pyHash v) Q E s
 | .int i,v,as,A,s,Q,_,r,_,q=>by cases r;exact wpAny_pyHash_int q
 | .str _,_,_,_,_,_,hk,_,_,_=>by cases hk
 | .tuple xs,v,as,A,s,Q,hk,r,b,q=>by
  cases r with
  | @tuple a o vs n _ _ e c d r=>
   have b:A.units + (U1 xs + 1) < cLine:=b;have ty:s.TypeIs (.ref a) "tuple":=⟨o,e,c⟩
   refine W.pyHash_slot (v:=.ref a) ty F.slot_tuple_hash F.entry_tuple_hash (F.args_tuple_hash_1 _) rfl (.inr (by omega)) ?_;refine d0 (G0 ?_);refine d0 (j03 e d ?_);refine d0 ?_;rw [<-Array.forIn_toList];refine z9b xs vs.toList _ #[] A.in1 s _ hk r (show A.units + 1 + U1 xs < cLine by omega) ?_;refine d0 (wpAny_mkInt (G0 ⟨_,_,rfl,?_⟩));simpa [hashD,drawD,j29] using q
 | .none,_,_,_,_,_,hk,_,_,_=>by cases hk
 | .bool _,_,_,_,_,_,hk,_,_,_=>by cases hk
 | .list _,_,_,_,_,_,hk,_,_,_=>by cases hk
 | .dict _,_,_,_,_,_,hk,_,_,_=>by cases hk
theorem z9b :∀(ds:List PyData) (vs:List Value) (as:List Addr) (hs:Array Int) (A:X1) (s:t0) (Q:Array Int->t0->Prop),keyDs ds=true->O6 s.heap vs ds as->A.units + U1 ds < cLine->Q (hs++(hashDs ds).toArray) { s with toks:=s.toks + drawDs ds }->
  U0 (B1 prog w) A (E9 vs hs λ x hs=>do let h <-pyHash x;Y2 (E2 (hs.push h))) Q E s
 | [],_,_,hs,A,s,Q,_,r,_,q=>by cases r;rw [V4];exact G0 (by simpa [hashDs,drawDs] using q)
 | d :: ds,_,_,hs,A,s,Q,b,r,c,q=>by
  have b:=Bool.and_eq_true_iff.mp (show (keyD d && keyDs ds)=true from b);have c:A.units + max d.depth (U1 ds) < cLine:=c;cases r with
  | @cons v vs _ _ as bs a r=>rw [o5];refine d0 (d0 (zgl d v as A s _ b.1 a (by omega) (G0 ?_)));refine z9b ds vs bs (hs.push (hashD d)) A { s with toks:=s.toks + drawD d } Q b.2 r (by omega) ?_;simpa [hashDs,drawDs,j29] using q
end
theorem zem {a:Addr} {n:Nat} {o:Obj} {vs:Array Value} {m:Nat} {A:X1} {s:t0} {Q:Bool->t0->Prop} (e:s.heap.get? a=some o) (c:o.cls=.type "tuple") (d:o.data=.seq vs m)
  (h:U0 (B1 prog w) A (E9 vs.toList ((none:Option Bool),()) λ y _=>do
    let b <-i4 n y
    if (!b)=true then Y2 (S7 (some false,())) else Y2 (E2 (none,())))
   (λ r s'=>r.1=none/\Q true s') E s):U0 (B1 prog w) A (i4 (n + 1) (.ref a)) Q E s:=by
 rw [eqIsQuiet.eq_2];have ty:s.TypeIs (.ref a) "tuple":=⟨o,e,c⟩
 refine d0 (j23 (r:=some (.builtin "tuple.__eq__")) ty (by rfl) ?_);refine d0 (C8 (T:="tuple") ty isSubtype_tuple_tuple ?_);simp only [C7,J3,if_false];refine d0 (j2g e d (d0 ?_));show U0 _ _ (E9 vs _ _) _ _ _;rw [<-Array.forIn_toList];refine d3 h (λ r s' h=>?_) (λ _ _ h=>h);obtain ⟨f,j⟩:=r;obtain ⟨g,i⟩:=h;cases (show f=none from g);exact G0 i
mutual
theorem zcu :∀(d:PyData) (v:Value) (as:List Addr) (n:Nat) (A:X1) (s:t0) (Q:Bool->t0->Prop),keyD d=true->Reads s.heap v d as->d.depth<=n->Q true s->U0 (B1 prog w) A (i4 n v) Q E s
 | .int i,v,as,n,A,s,Q,_,r,_,q=>by cases r;rw [eqIsQuiet.eq_3];exact G0 q;intro a h;cases h
 | .str _,_,_,_,_,_,_,hk,_,_,_=>by cases hk
 | .tuple xs,v,as,n,A,s,Q,hk,r,b,q=>by
  cases r with
  | @tuple a o vs m _ _ e c d r=>
   have b:U1 xs + 1<=n:=b;obtain ⟨n,rfl⟩ :∃k,n=k + 1:=⟨n - 1,by omega⟩
   exact zem e c d (z9l xs vs.toList _ n A s _ hk r (by omega) ⟨rfl,q⟩)
 | .none,_,_,_,_,_,_,hk,_,_,_=>by cases hk
 | .bool _,_,_,_,_,_,_,hk,_,_,_=>by cases hk
 | .list _,_,_,_,_,_,_,hk,_,_,_=>by cases hk
 | .dict _,_,_,_,_,_,_,hk,_,_,_=>by cases hk
theorem z9l :∀(ds:List PyData) (vs:List Value) (as:List Addr) (n:Nat) (A:X1) (s:t0) (Q:Option Bool×Unit->t0->Prop),keyDs ds=true->O6 s.heap vs ds as->U1 ds<=n->Q (none,()) s->
  U0 (B1 prog w) A (E9 vs ((none:Option Bool),()) λ y _=>do
    let b <-i4 n y
    if (!b)=true then Y2 (S7 (some false,())) else Y2 (E2 (none,()))) Q E s
 | [],_,_,n,A,s,Q,_,r,_,q=>by cases r;rw [V4];exact G0 q
 | d :: ds,_,_,n,A,s,Q,c,r,e,q=>by
  have c:=Bool.and_eq_true_iff.mp (show (keyD d && keyDs ds)=true from c);have e:max d.depth (U1 ds)<=n:=e;cases r with
  | @cons v vs _ _ as bs a r=>rw [o5];refine d0 (d0 (zcu d v as n A s _ c.1 a (by omega) ?_));exact G0 (z9l ds vs bs n A s Q c.2 r (by omega) q)
end
end
open Classical in
noncomputable instance:DecidableEq PyData:=λ a b=>Classical.propDecidable (a=b)
noncomputable def z8s (prog:Program) (w:S0):HeapKind prog w PyData where
 is h d a:=keyD d=true/\d.depth<=7/\∃as,Reads h (.ref a) d as
 hash:=hashD
 draws:=drawD
 room A:=A.units + 8 < cLine
 inj:=λ {h a x y} hx hy=>by obtain ⟨kx,_,as,rx⟩:=hx;obtain ⟨_,_,bs,ry⟩:=hy;exact SeqAt.Reads.unique x y _ as bs (z5q x kx) rx ry
 keeps:=λ {h h' k a d o es ep} hk e hd sb=>by
  obtain ⟨k1,k2,as,r⟩:=hk;refine ⟨k1,k2,as,z8y (λ b o' vs n eb _ eo=>?_) k _ as k1 r⟩;have nb:b≠d:=λ z=>by rw [z,e] at eb;cases eb;rw [hd] at eo;cases eo
  rw [sb.2 b nb];exact eb
 pyHash:=λ {A E s k a Q} hr hk q=>by obtain ⟨k1,k2,as,r⟩:=hk;exact zgl k _ as A s Q k1 r (by omega) q
 eqBool:=λ {A E s x y a b Q} hr hx hy q=>by obtain ⟨x1,x2,as,rx⟩:=hx;obtain ⟨y1,y2,bs,ry⟩:=hy;refine U9 x y A s _ _ as bs rx ry (z5q x x1) (z5q y y1) (by have:=z8 x.depth y.depth;omega) prog w E Q ?_;rw [zd2 (p:=x=y) (z2d x x1) (z2d y y1) Iff.rfl];exact q
 quiet:=λ {A E s k a Q} hk q=>by obtain ⟨k1,k2,as,r⟩:=hk;exact zcu k _ as 8 A s Q k1 r (by omega) q
section
variable {prog:Program} {w:S0} {A:X1} {E:Value->t0->Prop} {s:t0}
def DcAt (h:Heap) (d:Addr) (es:Array DictEntry) (ep:Nat):Prop:=∃o,h.get? d=some o/\o.ExactDict/\o.data=.dict es ep
theorem zli {d:Addr} {es:Array DictEntry} {ep:Nat} {Q:Value->t0->Prop} (hd:(d == i3)=false) (h:DcAt s.heap d es ep)
  (q:Q (.ref s.heap.objs.size) { s with heap:=s.heap.push { cls:=.type "dict_keyiterator",data:=.fields #[.ref d,.int 0 0,.int es.size 0,.int ep 0] } }):U0 (B1 prog w) A (pyIter (.ref d)) Q E s:=by
 obtain ⟨o,a,⟨g,k,j⟩,f⟩:=h;have b:s.TypeIs (.ref d) "dict":=⟨o,a,g⟩
 refine wpAny_pyIter_slot b F.slot_dict_iter (S2 F.slot_dict_iter b F.entry_dict_iter ?_ (F.args_dict_iter_1 _));unfold S9.«dict.__iter__»;refine d0 (show U0 _ _ (F6 "__iter__" ⟨[.ref d],[]⟩ >>= _) _ _ _ from d0 ?_);have i:U0 (B1 prog w) A.in1 (F6 "__iter__" ⟨[.ref d],[]⟩) (λ _ c=>c=s) E s:=by unfold F6;rw [if_pos (by decide +kernel)];refine d0 (b7 b ?_);rw [if_neg (by decide)];exact G0 rfl
 refine d3 i (λ _ c e=>?_) λ _ _ z=>z;subst e;refine (show U0 _ _ (Y2 (A1 d)) _ _ _ from G0 ?_);refine (show U0 _ _ (Y2 d >>= _) _ _ _ from d0 (G0 ?_));refine d0 ?_;unfold Builtin.Dict.showsAll;rw [if_neg (by rw [hd];decide)];refine G0 (d0 (j0b a f (d0 (j24 a f ?_))));refine d0 (V2 ?_ (by size_fits));refine G0 ⟨_,rfl,"dict_keyiterator",_,⟨_,Z0 _ rfl,rfl⟩,F.slot_dict_keyiterator_next.lookup,q⟩
theorem zlf {it d:Addr} {es:Array DictEntry} {ep i:Nat} {e:DictEntry} {Q:Option Value->t0->Prop} (hi:s.heap.IsKeyIter it d i es.size ep) (h:DcAt s.heap d es ep) (he:es[i]? = some e)
  (q :∀h',h'.IsKeyIter it d (i + 1) es.size ep->L5 it s.heap h'->Q (some e.key) { s with heap:=h' }):U0 (B1 prog w) A (j30 (.ref it)) Q E s:=by
 have a:=hi.typeIs;obtain ⟨x,j,r,g⟩:=hi;obtain ⟨o,l,B,k⟩:=h;obtain ⟨t,C,p,z⟩:=x;cases (show t=_ from r);cases (show p=_ from g);unfold j30;refine d0 (wpAny_attempt (M3 (name:=N6 "__next__") a M4 (S2 M4 a j12 ?_ (j0f _))));unfold S9.«dict_keyiterator.__next__»;refine (show U0 _ _ (K8 "__next__" ⟨[.ref it],[]⟩ >>= _) _ _ _ from d0 ?_);refine (show U0 _ _ (Y2 (A1 it)) _ _ _ from G0 ?_);refine d0 ?_;refine (show U0 _ _ ((U8 (.ref it) >>= _) >>= _) _ _ _ from d0 (d0 (K4 a (G0 ?_))));have n:(if a8 "dict_keyiterator" = true then 2 else 0)=0:=if_neg (by decide +kernel);rw [n];refine d0 (wpAny_fieldsOf j g ?_);show U0 _ _ (if (A1 d == P2)=true then _ else _) _ _ _;rw [if_neg (by simp)];refine (show U0 _ _ (Y2 d >>= _) _ _ _ from d0 (G0 ?_));refine d0 (j0b l k ?_);rw [if_neg (by simp)];refine (show U0 _ _ (Y2 d >>= _) _ _ _ from d0 (G0 ?_));refine d0 (j24 l k ?_);rw [if_neg (by simp)];refine G0 ?_;dsimp only;rw [if_neg (by omega),Q5,he];dsimp only;refine d0 (show U0 _ _ (U8 (.ref it) >>= _) _ _ _ from d0 (K4 a (G0 ?_)));rw [n];refine d0 (wpAny_isOneOf_keyiter a ?_);refine d0 (C9 j g (by simp) ?_);have m:(s.heap.update it (j28 (·.setIfInBounds 1 (j13 ((i:Int) + 1))))).IsKeyIter it d (i + 1) es.size ep:=by refine ⟨_,A8 _ j rfl,rfl,?_⟩;simp [j28,j13]
 have key :∀b:Bool,b=false->U0 (B1 prog w) A.in1 (j0c [e.key,e.val] (do
   let c <-B8 (.ref it) ["dict_keyiterator","dict_reversekeyiterator"]
   if c=true then Y2 e.key else do
    let c <-B8 (.ref it) ["dict_valueiterator","dict_reversevalueiterator"]
    if c=true then Y2 e.val else Builtin.Dict_items.pairFromOwner (.ref it) 6 e.key e.val) >>= λ v=>ret v)
   (λ u f=>∃v,u=Fin.done (Flow.ret v)/\U0 (B1 prog w) A (Y2 (some v)) Q E f)
   (λ e f=>U0 (B1 prog w) A (do if <-isInstance e (.type "StopIteration") then Y2 none else throw e) Q E f)
   { s with heap:=s.heap.update it (j28 (·.setIfInBounds 1 (j13 (if b=true then (i:Int) - 1 else (i:Int) + 1)))) }:=λ b y=>by
  subst y;refine d0 (S3 (d0 (wpAny_isOneOf_keyiter m.typeIs ?_)));rw [if_pos (by decide +kernel)];exact G0 (G0 ⟨_,rfl,G0 (q _ m (L4 ..))⟩)
 exact key _ (by decide +kernel)
theorem ki_end {it d:Addr} {es:Array DictEntry} {ep i:Nat} {Q:Option Value->t0->Prop} (hh:A.handled=none) (hi:s.heap.IsKeyIter it d i es.size ep) (h:DcAt s.heap d es ep) (he:es[i]? = none)
  (q :∀h',Heap.ExtBut it s.heap h'->Q none { s with heap:=h' }):U0 (B1 prog w) A (j30 (.ref it)) Q E s:=by
 have a:=hi.typeIs;obtain ⟨r,j,n,c⟩:=hi;obtain ⟨o,f,p,g⟩:=h;unfold j30;refine d0 (wpAny_attempt (M3 (name:=N6 "__next__") a M4 (S2 M4 a j12 ?_ (j0f _))));unfold S9.«dict_keyiterator.__next__»;refine (show U0 _ _ (K8 "__next__" ⟨[.ref it],[]⟩ >>= _) _ _ _ from d0 ?_);refine (show U0 _ _ (Y2 (A1 it)) _ _ _ from G0 ?_);refine d0 ?_;refine (show U0 _ _ ((U8 (.ref it) >>= _) >>= _) _ _ _ from d0 (d0 (K4 a (G0 ?_))));have l:(if a8 "dict_keyiterator" = true then 2 else 0)=0:=if_neg (by decide +kernel);rw [l];refine d0 (wpAny_fieldsOf j c ?_);show U0 _ _ (if (A1 d == P2)=true then _ else _) _ _ _;rw [if_neg (by simp)];refine (show U0 _ _ (Y2 d >>= _) _ _ _ from d0 (G0 ?_));refine d0 (j0b f g ?_);rw [if_neg (by simp)];refine (show U0 _ _ (Y2 d >>= _) _ _ _ from d0 (G0 ?_));refine d0 (j24 f g ?_);rw [if_neg (by simp)];refine G0 ?_;dsimp only;rw [if_neg (by omega),Q5,he];dsimp only;refine d0 (show U0 _ _ (U8 (.ref it) >>= _) _ _ _ from d0 (K4 a (G0 ?_)));rw [l];refine d0 (C9 j c (by simp) ?_);refine stops hh λ h' k=>q h' ?_;exact λ b o m e=>k b o (((L4 ..).2 b m).trans e)
theorem zjx {A:X1} (hh:A.handled=none) (I d:Addr) (nd:d≠I) (es:Array DictEntry) (ep:Nat):Walks prog w A I [I,d] [I] es.size (λ i v=>∃e,es[i]? = some e/\v=e.key) (λ i h=>h.IsKeyIter I d i es.size ep/\DcAt h d es ep) where
 sub:=λ b n=>by rw [List.mem_singleton.mp n];exact R0
 frame:=λ i h a ⟨h1,o,h2,f⟩ k=>⟨h1.at (k I R0),o,k d (by simp) o h2,f⟩
 item:=λ i s Q E j ⟨h1,h2⟩ q=>by
  refine zlf h1 h2 (C2 j) λ a g l=>q _ a _ ⟨_,C2 j,rfl⟩ ⟨g,?_⟩ λ b o c e=>?_
  ·obtain ⟨o,f,m⟩:=h2;exact ⟨o,(l.2 d nd).trans f,m⟩
  ·exact (l.2 b (λ z=>c (by rw [z];exact List.mem_singleton.mpr rfl))).trans e
 done:=λ s Q E ⟨h1,h2⟩ q=>ki_end hh h1 h2 (Array.getElem?_eq_none (u0 _)) λ a k=>q a _ λ b o c e=>k b o (λ z=>c (by rw [z];exact List.mem_singleton.mpr rfl)) e
 self:=λ i s Q E ⟨h1,_⟩ q=>wpAny_pyIter_keyiter h1 q
theorem zm2 {r:Addr} {Q:Bool->t0->Prop} (hT:s.TypeIs (.ref r) "dict") (h:Q false s):U0 (B1 prog w) A (o9 (.ref r)) Q E s:=by unfold o9;refine d0 (j23 hT PySem.F.slot_dict_len.lookup ?_);generalize hid:("dict.__len__" : String)=id0;wp_delta;rw [show splitId id0=some ("dict","__len__") from by subst hid;decide +kernel];subst hid;refine d0 (C8 (T:="dict") (b:=true) hT (by rfl) ?_);refine wpAny_ite_split (λ a=>absurd a (by decide)) (λ _=>wpAny_ite_split (λ _=>?_) (λ a=>absurd (by decide +kernel) a));exact d0 (b7 hT (G0 h))
theorem kdl_dc {d:Addr} {es:Array DictEntry} {ep:Nat} (hd:(d == i3)=false):W.KdlSrc prog w "dict" d d es.size (λ i v=>∃e,es[i]? = some e/\v=e.key) (λ h=>DcAt h d es ep) where
 type:=λ s ⟨o,a,b,_⟩=>⟨o,a,b.1⟩
 there:=λ h ⟨o,a,_⟩=>⟨Q0 a,Q0 a⟩
 keep:=λ h c ⟨o,a,b⟩ k=>⟨o,k d (.inl rfl) o a,b⟩
 notList:=by decide
 notTuple:=by decide
 hint:=λ A E s Q ⟨o,a,b,_⟩ q=>zm2 ⟨o,a,b.1⟩ q
 iter:=λ A s f h=>by
  refine ⟨{ cls:=.type "dict_keyiterator",data:=.fields #[.ref d,.int 0 0,.int es.size 0,.int ep 0] },λ i c=>c.IsKeyIter s.heap.objs.size d i es.size ep/\DcAt c d es ep,λ E Q q=>zli hd h q,zjx f _ d ?_ es ep,⟨_,Z0 _ rfl,rfl,rfl⟩,?_⟩
  ·obtain ⟨o,a,_⟩:=h;exact E1 (Q0 a)
  ·obtain ⟨o,a,b⟩:=h;exact ⟨o,D0 _ a,b⟩
end
noncomputable def KasOk {α:Type} (n:Nat):C5 α->(α->Prop)->Prop
 | .ret a,Q=>Q a
 | .ask i j k,Q=>i < n/\j < n/\i≠j/\∀b,KasOk n (k b) Q
theorem KasOk.run {α:Type} {n:Nat} {Q:α->Prop} (c:Nat->Nat->Bool) :∀{t:C5 α},KasOk n t Q->∃a,kasRun c n t=some a/\Q a
 | .ret a,h=>⟨a,rfl,h⟩
 | .ask i j k,⟨h1,h2,h3,h4⟩=>by unfold kasRun;rw [if_pos ⟨h1,h2,h3⟩];exact (h4 (c i j)).run c
theorem KasOk.mono {α:Type} {n:Nat} {Q R:α->Prop} (f :∀a,Q a->R a) :∀{t:C5 α},KasOk n t Q->KasOk n t R
 | .ret a,h=>f a h
 | .ask i j k,⟨h1,h2,h3,h4⟩=>⟨h1,h2,h3,λ b=>(h4 b).mono f⟩
theorem KasOk.bind {α β:Type} {n:Nat} {Q:β->Prop} {f:α->C5 β} :∀{t:C5 α},KasOk n t (λ a=>KasOk n (f a) Q)->KasOk n (t.bind f) Q
 | .ret a,h=>by rw [PySem.W.KasT.bind.eq_def];exact h
 | .ask i j k,⟨h1,h2,h3,h4⟩=>by rw [PySem.W.KasT.bind.eq_def];exact ⟨h1,h2,h3,λ b=>KasOk.bind (h4 b)⟩
def PmA (n:Nat) (p:Array Nat):Prop:=p.toList.Perm (C1 n)
theorem ziz {n i j:Nat} {p:Array Nat} (h:PmA n p):PmA n (p.swapIfInBounds i j):=by
 rw [Array.swapIfInBounds_def];split
 ·split
  ·exact (Array.perm_iff_toList_perm.mp (Array.swap_perm _ _)).trans h
  ·exact h
 ·exact h
theorem zeu {n:Nat} {f:Array Nat->Nat->Array Nat} (hf :∀p k,PmA n p->PmA n (f p k)) :∀(l:List Nat) (p:Array Nat),PmA n p->PmA n (l.foldl f p)
 | [],p,h=>h
 | k :: l,p,h=>zeu hf l (f p k) (hf p k h)
theorem rev_pm {n i j:Nat} {p:Array Nat} (h:PmA n p):PmA n (W9 p i j):=by unfold W9;rw [mirror.eq_def];exact zeu (λ _ _ h=>ziz h) _ _ h
theorem zgy {n i j:Nat} {p:Array Nat} (h:PmA n p):PmA n (bubble p i j):=by rw [bubble.eq_def];exact zeu (λ _ _ h=>ziz h) _ _ h
theorem PmA.size {n:Nat} {p:Array Nat} (h:PmA n p):p.size=n:=by
 have:=h.length_eq
 rwa [Y1,J2] at this
theorem PmA.at {n i:Nat} {p:Array Nat} (h:PmA n p) (hi:i < n):p.getD i 0 < n:=by
 have a:i < p.size:=by rw [h.size];exact hi
 rw [E6,C2 a];exact List.mem_range.mp (h.mem_iff.mp (Array.getElem_mem_toList a))
theorem PmA.ne {n i j:Nat} {p:Array Nat} (h:PmA n p) (hi:i < n) (hj:j < n) (e:i≠j):p.getD i 0≠p.getD j 0:=by
 have b:i < p.size:=by rw [h.size];exact hi
 have a:j < p.size:=by rw [h.size];exact hj
 have c:p.toList.Nodup:=h.nodup_iff.mpr List.nodup_range;rw [E6,C2 b,E6,C2 a];intro z;have z:p[i]=p[j]:=z;exact e ((j00 (h₀:=by simpa using b) (h₁:=by simpa using a) c).mp (by simpa using z))
theorem asc_ok {n:Nat} {p:Array Nat} (h:PmA n p) :∀(f i:Nat),1<=i->i + f<=n->KasOk n (PySem.W.kas_asc p f i) (λ m=>i<=m/\m<=i + f)
 | 0,i,_,_=>by rw [PySem.W.kas_asc.eq_def];exact ⟨u0 _,u0 _⟩
 | f + 1,i,h1,h2=>by
  rw [PySem.W.kas_asc.eq_def];refine ⟨h.at (by omega),h.at (by omega),h.ne (by omega) (by omega) (by omega),λ b=>?_⟩;cases b with
  | true=>exact ⟨u0 _,by omega⟩
  | false=>exact (asc_ok h f (i + 1) (by omega) (by omega)).mono λ m a=>⟨by omega,by omega⟩
theorem zjn {n m:Nat} {p:Array Nat} (h:PmA n p) (h1:1<=m) (h2:m<=n):KasOk n (PySem.W.kas_tail3 m n p) (λ r=>1<=r.1/\r.1<=n/\PmA n r.2):=by rw [PySem.W.kas_tail3.eq_def];exact KasOk.bind ((asc_ok (rev_pm h) (n - m) m h1 (by omega)).mono λ k a=>⟨by omega,by omega,rev_pm h⟩)
theorem zcb {n:Nat} :∀(f:Nat) (p:Array Nat) (i q:Nat),PmA n p->1<=i->i + f<=n->KasOk n (K9 f p i q) (λ r=>PmA n r.1/\1<=r.2.1/\r.2.1<=n)
 | 0,p,i,q,h,h1,h2=>by rw [PySem.W.kas_desc.eq_def];exact ⟨h,h1,show i<=n by omega⟩
 | f + 1,p,i,q,h,h1,h2=>by
  rw [PySem.W.kas_desc.eq_def];refine ⟨h.at (by omega),h.at (by omega),h.ne (by omega) (by omega) (by omega),λ b=>?_⟩;cases b with
  | true=>
   show KasOk n (if q > 0 then K9 f (W9 p (i - (q + 1)) i) (i + 1) 0 else K9 f p (i + 1) 0) _;by_cases z:q > 0
   ·rw [if_pos z];exact zcb f _ _ _ (rev_pm h) (by omega) (by omega)
   ·rw [if_neg z];exact zcb f _ _ _ h (by omega) (by omega)
  | false=>
   refine ⟨h.at (by omega),h.at (by omega),h.ne (by omega) (by omega) (by omega),λ b=>?_⟩;cases b with
   | true=>exact ⟨h,h1,show i<=n by omega⟩
   | false=>exact zcb f _ _ _ h (by omega) (by omega)
theorem z7r {n m:Nat} {p:Array Nat} (h:PmA n p) (h2:m + 1<=n):KasOk n (PySem.W.kas_descPart m n p) (λ r=>1<=r.1/\r.1<=n/\PmA n r.2):=by
 rw [PySem.W.kas_descPart.eq_def];refine KasOk.bind ((zcb (n - (m + 1)) p (m + 1) 0 h (by omega) (by omega)).mono λ r a=>?_);show KasOk n (if r.2.2 > 0 then _ else _) _;by_cases z:r.2.2 > 0
 ·rw [if_pos z];exact zjn (rev_pm a.1) a.2.1 a.2.2
 ·rw [if_neg z];exact zjn a.1 a.2.1 a.2.2
theorem zjo {n:Nat} {p:Array Nat} (h:PmA n p) (h2:2<=n):KasOk n (PySem.W.kas_count n p) (λ r=>1<=r.1/\r.1<=n/\PmA n r.2):=by
 rw [PySem.W.kas_count.eq_def];refine KasOk.bind ((asc_ok h (n - 1) 1 (u0 _) (by omega)).mono λ m a=>?_);show KasOk n (if (m == n)=true then _ else _) _;by_cases z:(m == n)=true
 ·rw [if_pos z];exact ⟨a.1,by omega,h⟩
 ·rw [if_neg z];have c:m≠n:=λ e=>z (by rw [e];exact beq_self_eq_true _);show KasOk n (if m > 1 then _ else _) _;by_cases y:m > 1
  ·rw [if_pos y];refine ⟨h.at (by omega),h.at (by omega),h.ne (by omega) (by omega) (by omega),λ b=>?_⟩;cases b with
   | true=>exact ⟨a.1,by omega,h⟩
   | false=>exact z7r (rev_pm h) (by omega)
  ·rw [if_neg y];exact z7r h (by omega)
theorem zba {n k:Nat} {p:Array Nat} (h:PmA n p) (hk:k < n) :∀(f l r:Nat),r<=k->KasOk n (PySem.W.kas_place p k f l r) (λ _=>True)
 | 0,l,r,_=>by rw [PySem.W.kas_place.eq_def];exact trivial
 | f + 1,l,r,hr=>by
  rw [PySem.W.kas_place.eq_def];show KasOk n (if l ≥ r then _ else _) _;by_cases z:l ≥ r
  ·rw [if_pos z];exact trivial
  ·rw [if_neg z];refine ⟨h.at hk,h.at (by omega),h.ne hk (by omega) (by omega),λ b=>?_⟩;cases b with
   | true=>exact zba h hk f l _ (by omega)
   | false=>exact zba h hk f _ r hr
theorem bin_ok {n:Nat} :∀(f:Nat) (p:Array Nat) (k:Nat),PmA n p->k + f<=n->KasOk n (PySem.W.kas_bin f p k) (PmA n)
 | 0,p,k,h,_=>by rw [PySem.W.kas_bin.eq_def];exact h
 | f + 1,p,k,h,hk=>by rw [PySem.W.kas_bin.eq_def];exact KasOk.bind ((zba h (by omega) k 0 k (u0 _)).mono λ l _=>bin_ok f _ (k + 1) (zgy h) (by omega))
theorem zj5 {n:Nat} (h2:2<=n):KasOk n (O5 n) (PmA n):=by
 unfold O5;have b:PmA n (C1 n).toArray:=List.Perm.refl _;refine KasOk.bind ((zjo b h2).mono λ r a=>?_);show KasOk n (if r.1 < n then _ else _) _;by_cases z:r.1 < n
 ·rw [if_pos z];exact bin_ok _ _ _ a.2.2 (by have:=a.1;omega)
 ·rw [if_neg z];exact a.2.2
mutual
noncomputable def ltD:PyData->PyData->Option Bool
 | .int i,e=>match e with
  | .int j=>some (decide (i < j))
  | _=>none
 | .tuple xs,e=>match e with
  | .tuple ys=>ltDs xs ys
  | _=>none
 | .none,_=>none
 | .bool _,_=>none
 | .str _,_=>none
 | .list _,_=>none
 | .dict _,_=>none
noncomputable def ltDs:List PyData->List PyData->Option Bool
 | [],ys=>some (decide (0 < ys.length))
 | x :: xs,ys=>match ys with
  | []=>some false
  | y :: ys=>if x=y then ltDs xs ys else ltD x y
end
theorem z1o {h:Heap} :∀{vs:List Value} {ds:List PyData} {as:List Addr},O6 h vs ds as->vs.length=ds.length
 | _,_,_,.nil=>rfl
 | _,_,_,.cons _ r=>by rw [P0,P0,z1o r]
section
variable {prog:Program} {w:S0} {E:Value->t0->Prop}
theorem int_lt {i j:Int} {a b:Tok} {A:X1} {s:t0} {R:Value->t0->Prop} (q:R (.bool (decide (i < j))) s):U0 (B1 prog w) A (D9 .Lt (.int i a) (.int j b)) R E s:=(show U0 _ _ (B2 .Lt _ _) _ _ _ from lt_int q)
theorem tup_lt {p p2:Addr} {o o2:Obj} {xs ys:Array Value} {n n2:Nat} {A:X1} {s:t0} {Q:Value->t0->Prop} (ho:s.heap.get? p=some o) (hc:o.cls=.type "tuple") (hd:o.data=.seq xs n) (ho2:s.heap.get? p2=some o2) (hc2:o2.cls=.type "tuple") (hd2:o2.data=.seq ys n2) (hu:A.units + 1 < cLine)
  (h:U0 (B1 prog w) A.in1 (E9 (xs.toList.zip ys.toList) ((none:Option G7),()) λ x _=>do
    let b <-eqBool x.fst x.snd
    if (!b)=true then do
     rule "tuple.compare.by-the-first-pair-that-differs"
     let r <-D9 CmpOp.Lt x.fst x.snd
     let r <-ret r
     Y2 (S7 (some r,()))
    else Y2 (E2 (none,()))) (λ r s'=>∃b,(r.1=some (Fin.done (Flow.ret (.bool b)))\/r.1=none/\b=decide (xs.size < ys.size))/\Q (.bool b) s') E s):U0 (B1 prog w) A (D9 .Lt (.ref p) (.ref p2)) Q E s:=by
 refine wpAny_richCompare_same_room (op:=.Lt) (T:="tuple") ⟨o,ho,hc⟩ ⟨o2,ho2,hc2⟩ F.slot_tuple_lt (S2 F.slot_tuple_lt ⟨o,ho,hc⟩ F.entry_tuple_lt ?_ (F.args_tuple_lt_2 _ _)) (by omega);refine (show U0 _ _ (isInstance (.ref p2) (.type "tuple") >>= _) _ _ s from d0 (C8 (T:="tuple") ⟨o2,ho2,hc2⟩ isSubtype_tuple_tuple ?_));simp only [C7,J3,if_false];refine d0 (j03 ho hd (d0 (j03 ho2 hd2 (d0 ?_))));refine d3 h (λ r s' c=>?_) λ _ _ z=>z;obtain ⟨r,⟨⟩⟩:=r;obtain ⟨b,a,q⟩:=c;rcases a with a|⟨a,rfl⟩
 ·cases (show r=_ from a);exact G0 ⟨_,rfl,(λ z=>nomatch z),q⟩
 ·cases (show r=_ from a);exact G0 ⟨_,rfl,(λ z=>nomatch z),q⟩
mutual
theorem lt_key :∀(d e:PyData) (v z:Value) (as bs:List Addr) (b:Bool) (A:X1) (s:t0) (Q:Value->t0->Prop),keyD d=true->keyD e=true->Reads s.heap v d as->Reads s.heap z e bs->ltD d e=some b->A.units + d.depth + 1 < cLine->Q (.bool b) s->U0 (B1 prog w) A (D9 .Lt v z) Q E s
 | .int i,e,v,z,as,bs,b,A,s,Q,_,_,r,r2,h,_,q=>by
  cases e with
  | int j=>cases r;cases r2;cases (show some (decide (i < j))=some b from h);exact int_lt q
  | _=>cases (show (none:Option Bool)=some b from h)
 | .tuple xs,e,v,z,as,bs,b,A,s,Q,hd,he,r,r2,h,c,q=>by
  cases e with
  | tuple ys=>
   cases r with
   | @tuple a o vs n _ _ h1 h2 h3 h4=>
    cases r2 with
    | @tuple a' o' vs' n' _ _ g1 g2 g3 g4=>have c:A.units + (U1 xs + 1) + 1 < cLine:=c;refine tup_lt h1 h2 h3 g1 g2 g3 (by omega) ?_;have k:=z1o h4;have g:=z1o g4;refine zji xs ys vs.toList vs'.toList _ _ b A.in1 s _ hd he h4 g4 h (show A.units + 1 + U1 xs + 1 < cLine by omega) (λ r f=>⟨b,f.imp id (λ z=>⟨z.1,?_⟩),q⟩);rw [z.2,<-k,<-g,J2,J2]
  | _=>cases (show (none:Option Bool)=some b from h)
 | .none,_,_,_,_,_,_,_,_,_,hk,_,_,_,_,_,_=>by cases hk
 | .bool _,_,_,_,_,_,_,_,_,_,hk,_,_,_,_,_,_=>by cases hk
 | .str _,_,_,_,_,_,_,_,_,_,hk,_,_,_,_,_,_=>by cases hk
 | .list _,_,_,_,_,_,_,_,_,_,hk,_,_,_,_,_,_=>by cases hk
 | .dict _,_,_,_,_,_,_,_,_,_,hk,_,_,_,_,_,_=>by cases hk
theorem zji :∀(ds es:List PyData) (vs us:List Value) (as bs:List Addr) (b:Bool) (A:X1) (s:t0) (R:Option G7×Unit->t0->Prop),keyDs ds=true->keyDs es=true->O6 s.heap vs ds as->O6 s.heap us es bs->ltDs ds es=some b->A.units + U1 ds + 1 < cLine->
  (∀r,(r=some (Fin.done (Flow.ret (.bool b)))\/r=none/\b=decide (ds.length < es.length))->R (r,()) s)->
  U0 (B1 prog w) A (E9 (vs.zip us) ((none:Option G7),()) λ x _=>do
    let b <-eqBool x.fst x.snd
    if (!b)=true then do
     rule "tuple.compare.by-the-first-pair-that-differs"
     let r <-D9 CmpOp.Lt x.fst x.snd
     let r <-ret r
     Y2 (S7 (some r,()))
    else Y2 (E2 (none,()))) R E s
 | [],es,vs,us,as,bs,b,A,s,R,_,_,r,_,h,_,q=>by cases r;rw [List.zip_nil_left,V4];cases (show some (decide (0 < es.length))=some b from h);exact G0 (q none (.inr ⟨rfl,rfl⟩))
 | d :: ds,es,vs,us,as,bs,b,A,s,R,c,a,r,r2,h,f,q=>by
  cases es with
  | nil=>cases r2;rw [List.zip_nil_right,V4];cases (show some false=some b from h);exact G0 (q none (.inr ⟨rfl,rfl⟩))
  | cons e es=>
   have c:=Bool.and_eq_true_iff.mp (show (keyD d && keyDs ds)=true from c);have a:=Bool.and_eq_true_iff.mp (show (keyD e && keyDs es)=true from a);have f:A.units + max d.depth (U1 ds) + 1 < cLine:=f;cases r with
   | @cons v vs _ _ as as' a1 a2=>
    cases r2 with
    | @cons u us _ _ bs bs' b1 b2=>
     have h:(if d=e then ltDs ds es else ltD d e)=some b:=h;rw [z9,o5];refine d0 (d0 (U9 d e A s v u as bs a1 b1 (z5q d c.1) (z5q e a.1) (by have:=z8 d.depth e.depth;omega) prog w E _ ?_));rw [zd2 (p:=d=e) (z2d d c.1) (z2d e a.1) Iff.rfl];by_cases z:d=e
     ·rw [if_pos z] at h;rw [decide_eq_true z];simp only [C7,J3,if_false];refine G0 (zji ds es vs us as' bs' b A s R c.2 a.2 a2 b2 h (by omega) λ r g=>q r (g.imp id λ y=>⟨y.1,y.2.trans (by simp)⟩))
     ·rw [if_neg z] at h;rw [decide_eq_false z];simp only [Bool.not_false,if_true];exact d0 (j04 (d0 (lt_key d e v u as bs b A s _ c.1 a.1 a1 b1 h (by omega) (d0 (G0 (G0 (G0 (q _ (.inl rfl)))))))))
end
end
noncomputable def nsE (k:PyData×Addr):DictEntry:={ hash:=hashD k.1,key:=.ref k.2,val:=.bool true }
noncomputable def NsO (a:Addr) (ks:List (PyData×Addr)):HO:=.ext λ h=>(a == i3)=false/\ks.length<=sizeLine/\(ks.map (·.1)).Nodup/\∃ep,DcAt h a (ks.map nsE).toArray ep
def NsAt (K:b0) (H:Hp) (a:Addr) (ks:List (PyData×Addr)):Prop:=Rd H a (NsO a ks)/\∀k∈ks,keyD k.1=true/\k.1.depth<=7/\IsPd K H k.1 (.ref k.2)
noncomputable def putN (ks:List (PyData×Addr)) (d:PyData) (b:Addr):List (PyData×Addr):=if d∈ks.map (·.1) then ks else ks++[(d,b)]
section
variable {X:Cx} {pins:List (Addr×Obj)} {σ:St} {H:Hp} {s:t0} {a b:Addr} {ks:List (PyData×Addr)} {d:PyData} {A:X1} {E:Value->t0->Prop}
theorem ns_is (I:Inv X pins σ H s) (hk:keyD d=true) (hd:d.depth<=7) (h:IsPd X.K H d (.ref b)):(z8s X.prog X.w).is s.heap d b:=by obtain ⟨a,r⟩:=z6a I d (.ref b) (.ref b) h rfl;exact ⟨hk,hd,a,r⟩
theorem zfc (I:Inv X pins σ H s) (h:NsAt X.K H a ks):(a == i3)=false/\ks.length<=sizeLine/\(ks.map (·.1)).Nodup/\(∃ep,DcAt s.heap a (ks.map nsE).toArray ep)/\s.heap.DictOfH (z8s X.prog X.w) a (ks.map λ k=>(k.1,k.2,C4 true)):=by
 obtain ⟨e,j⟩:=h;obtain ⟨⟨i,n,b,ep,c⟩,_⟩:=(show ObjOk X.prog X.w H s.heap a (NsO a ks) from e.ok I.hok)
 refine ⟨i,n,b,⟨ep,c⟩,?_⟩;obtain ⟨o,m,p,g⟩:=c;refine ⟨o,_,ep,m,p,g,?_,λ x l=>?_,?_⟩
 ·rw [v3];rfl
 ·obtain ⟨k,r,rfl⟩:=List.mem_map.mp l;obtain ⟨f,d,q⟩:=j k r;exact ns_is I f d q
 ·rw [v3];exact b
theorem at_ns:(E8 (ks.map λ k=>(k.1,k.2,C4 true)) d).isSome=decide (d∈ks.map (·.1)):=by
 unfold E8;rw [X6,Bool.eq_iff_iff,List.find?_isSome,decide_eq_true_iff];constructor
 ·rintro ⟨x,hx,e⟩;obtain ⟨k,a,rfl⟩:=List.mem_map.mp hx;exact List.mem_map.mpr ⟨k,a,of_decide_eq_true e⟩
 ·intro h;obtain ⟨k,a,e⟩:=List.mem_map.mp h;exact ⟨_,List.mem_map.mpr ⟨k,a,rfl⟩,decide_eq_true e⟩
theorem zi2:storedH (ks.map λ k=>(k.1,k.2,C4 true)) d b (.bool true)=(putN ks d b).map λ k=>(k.1,k.2,C4 true):=by
 unfold storedH putN;rw [at_ns];by_cases z:d∈ks.map (·.1)
 ·rw [if_pos (decide_eq_true z),if_pos z,v3];refine List.map_congr_left λ k a=>?_;show putAt d (.bool true) (k.1,k.2,C4 true)=_;unfold putAt;split<;>rfl
 ·rw [if_neg (by rw [decide_eq_false z];decide),if_neg z,u1];rfl
theorem ze5:(putN ks d b).length<=ks.length + 1:=by
 unfold putN;split
 ·omega
 ·rw [K0];exact u0 _
theorem ns_put {Q:Unit->t0->Prop} (hu:A.units + 9 < cLine) (I:Inv X pins σ H s) (ha:H a=some (NsO a ks)) (h:NsAt X.K H a ks) (hl:ks.length < sizeLine) (hk:keyD d=true) (hd:d.depth<=7) (hb:IsPd X.K H d (.ref b)) (q :∀s',Inv X pins σ (upd H a (NsO a (putN ks d b))) s'->Q () s'):U0 (B1 X.prog X.w) A (setItem (.ref a) (.ref b) (.bool true)) Q E s:=by
 obtain ⟨v,x,M,_,j⟩:=zfc I h;refine wpAny_setItem_heap (knd:=z8s X.prog X.w) (hsz:=by rw [F0];exact x) (show A.units + 1 + 8 < cLine by omega) (ns_is I hk hd hb) j λ J e D=>q _ ?_;rw [zi2] at e;obtain ⟨o,l,i,c,z,t,u,_,g⟩:=e;have r:l=((putN ks d b).map nsE).toArray:=by apply Array.ext';rw [u,v3];rfl
 subst r;refine z9t I (by rw [ha];exact True.intro) D ⟨o,c⟩ ⟨⟨v,by have:=ze5 (ks:=ks) (d:=d) (b:=b);omega,?_,i,o,c,z,t⟩,⟨o,c⟩,λ L G p k=>?_⟩
 ·rw [v3] at g;exact g
 ·obtain ⟨y,F,B,C,f,m,n⟩:=p;exact ⟨y,F,B,C,f,k f m,n⟩
end
noncomputable def tDNewN:TE:=λ _ H Q=>∀p,H p=none->Q (.ref p) (upd H p (NsO p []))
noncomputable def rInN (K:b0) (neg:Bool):R2:=λ y x H Q=>∃a b ks d,x=.ref a/\y=.ref b/\NsAt K H a ks/\keyD d=true/\d.depth<=7/\IsPd K H d (.ref b)/\Q (.bl (xor neg (decide (d∈ks.map (·.1))))) H
noncomputable def sNPut (K:b0) (td ty tv:TE):TS:=λ D σ H=>tv σ H λ v H1=>td σ H1 λ x H2=>ty σ H2 λ y H3=>∃a b ks d,v=.bl true/\x=.ref a/\y=.ref b/\H3 a=some (NsO a ks)/\NsAt K H3 a ks/\ks.length < sizeLine/\keyD d=true/\d.depth<=7/\IsPd K H3 d (.ref b)/\D.nx σ (upd H3 a (NsO a (putN ks d b)))
section
variable {X:Cx}
theorem zk0 {P:Program} {w:S0} {H:Hp} (h:Heap) (hb:i3 < h.objs.size):ObjOk P w H (h.push { cls:=.type "dict",data:=.dict #[] }) h.objs.size (NsO h.objs.size []):=by refine ⟨⟨beq_eq_false_iff_ne.mpr (V3 (E1 hb)),S1 _,List.nodup_nil,0,_,Z0 _ rfl,⟨rfl,rfl,rfl⟩,rfl⟩,⟨_,Z0 _ rfl⟩,λ i j p k=>?_⟩;obtain ⟨g,e,b,d,a,c,f⟩:=p;exact ⟨g,e,b,d,a,k a c,f⟩
theorem zer {pos:Pos}:PE X (.Dict [] [] pos) tDNewN:=λ b s σ H Q I h=>wpAny_Dict_empty ⟨.ref s.heap.objs.size,_,I.laid (a:=s.heap.objs.size) (o:=NsO s.heap.objs.size []) (t':=s.toks) (λ _ _ q=>D0 _ q) (u0 _) (zk0 s.heap I.big),rfl,h _ (I.hok.fresh (u0 _))⟩
theorem zhs {k:Nat} (hr:Room k X.A):OpR X (B2 .NotIn) (rInN X.K true):=by intro n s σ H y x u v Q I m e h;obtain ⟨a,b,p,d,rfl,rfl,l,i,g,c,q⟩:=h;cases m;cases e;have t:=hr.units;obtain ⟨j,o,r,_,f⟩:=zfc I l;refine wpAny_notIn_heap (knd:=z8s X.prog X.w) (show X.A.units + 1 + 8 < cLine by omega) (ns_is I i g c) j f ?_;rw [at_ns];rw [Bool.true_xor] at q;exact ⟨.bl _,H,I.tok _,rfl,q⟩
theorem zjc {o i value:Expr} {pos pos':Pos} {td ty tv:TE} {k:Nat} (hr:Room k X.A) (ho:PE X o td) (hi:PE X i ty) (hv:PE X value tv) (hs:y6 value (some (.Subscript o i pos')) pos.line X.env=Y2 false) :
  PS X (.Assign [.Subscript o i pos'] value pos) (sNPut X.K td ty tv):=by
 intro c s σ H D I h;refine wpAny_Assign_Subscript (thn (hv c s σ H _ I h) λ r g ⟨v,H1,I1,rv,q1⟩=>thn (ho c g σ H1 _ I1 q1) λ u e ⟨x,H2,I2,rx,q2⟩=>thn (hi c e σ H2 _ I2 q2) λ j n ⟨y,H3,I3,ry,a,b,ks,d,ev,ex,ey,h0,h1,h2,h3,h4,h5,q3⟩=>?_) hs;subst ev ex ey;obtain rfl:u=A1 a:=rx;obtain rfl:j=A1 b:=ry;obtain rfl:r=C4 true:=rv;have l:=hr.units;exact ns_put (by omega) I3 h0 h1 h2 h3 h4 h5 λ m f=>⟨σ,_,f,q3⟩
end
noncomputable def cmpD (ds:List PyData) (i j:Nat):Bool:=(ltD (ds.getD i .none) (ds.getD j .none)).getD false
noncomputable def srtD (ds:List PyData):List Nat:=if ds.length < 2 then C1 ds.length else ((kasRun (cmpD ds) ds.length (O5 ds.length)).getD #[]).toList
theorem z8k (ds:List PyData):(srtD ds).Perm (C1 ds.length):=by
 unfold srtD;split
 ·exact List.Perm.refl _
 ·obtain ⟨p,b,a⟩:=(zj5 (n:=ds.length) (by omega)).run (cmpD ds);rw [b];exact a
def TupD (h:Heap) (v:Value) (d:PyData):Prop:=keyD d=true/\d.depth<=7/\(∃xs ys,d=.tuple (.tuple xs :: ys))/\∃as,Reads h v d as
theorem TupD.kept {h h':Heap} {v:Value} {d:PyData} {c:Addr} {oc:Obj} (q:TupD h v d) (e:h.get? c=some oc) (nc:oc.cls≠.type "tuple") (k :∀b o,b≠c->h.get? b=some o->h'.get? b=some o):TupD h' v d:=by obtain ⟨f,j,m,g,i⟩:=q;exact ⟨f,j,m,g,z8y (λ b o p n a l _=>k b o (λ z=>by rw [z,e] at a;cases a;exact nc l) a) d v g f i⟩
section
variable {prog:Program} {w:S0} {A:X1} {E:Value->t0->Prop} {s:t0}
theorem zir :∀(ds es:List PyData) (vs us:List Value) (as bs:List Addr) (i:Nat) (b fin:Bool) (Q:Bool->t0->Prop),keyDs ds=true->keyDs es=true->O6 s.heap vs ds as->O6 s.heap us es bs->ltDs ds es=some b->fin=decide (ds.length < es.length)->A.units + U1 ds + 1 < cLine->Q b s->PySem.W.KatLex prog w A false fin Q (vs.zip us) i s
 | [],es,vs,us,as,bs,i,b,fin,Q,_,_,r,_,h,hf,_,q=>by cases r;rw [List.zip_nil_left];cases (show some (decide (0 < es.length))=some b from h);exact PySem.W.kat_nil (by rw [hf];exact q)
 | d :: ds,es,vs,us,as,bs,i,b,fin,Q,a,c,r,r2,h,hf,f,q=>by
  cases es with
  | nil=>cases r2;rw [List.zip_nil_right];cases (show some false=some b from h);exact PySem.W.kat_nil (by rw [hf];exact q)
  | cons e es=>
   have a:=Bool.and_eq_true_iff.mp (show (keyD d && keyDs ds)=true from a);have c:=Bool.and_eq_true_iff.mp (show (keyD e && keyDs es)=true from c);have f:A.units + max d.depth (U1 ds) + 1 < cLine:=f;cases r with
   | @cons v vs _ _ as as' a1 a2=>
    cases r2 with
    | @cons u us _ _ bs bs' b1 b2=>
     have h:(if d=e then ltDs ds es else ltD d e)=some b:=h;rw [z9];refine PySem.W.kat_cons (U9 d e A s v u as bs a1 b1 (z5q d a.1) (z5q e c.1) (by have:=z8 d.depth e.depth;omega) prog w _ _ ?_);rw [zd2 (p:=d=e) (z2d d a.1) (z2d e c.1) Iff.rfl];by_cases z:d=e
     ·rw [if_pos z] at h;rw [decide_eq_true z];exact PySem.W.kat_yes (zir ds es vs us as' bs' (i + 1) b fin Q a.2 c.2 a2 b2 h (by rw [hf];simp) (by omega) q)
     ·rw [if_neg z] at h;rw [decide_eq_false z];refine PySem.W.kat_no ?_;rw [oneLt'_eq];simp only [R6,J3,if_false];exact d0 (lt_key d e v u as bs b A s _ a.1 c.1 a1 b1 h (by omega) (G0 q))
theorem zkx {v z:Value} {d e:PyData} {b:Bool} {Q:Bool->t0->Prop} (hx:TupD s.heap v d) (hy:TupD s.heap z e) (h:ltD d e=some b) (hu:A.units + 9 < cLine) (q:Q b s):U0 (B1 prog w) A (keyLt' (tuples' false) v z) Q E s:=by
 obtain ⟨f,c,⟨l,g,rfl⟩,p,i⟩:=hx;obtain ⟨k,t,⟨m,r,rfl⟩,bs,j⟩:=hy;cases i with
 | @tuple a o vs n _ _ e1 e2 e3 e4=>
  cases j with
  | @tuple a' o' vs' n' _ _ f1 f2 f3 f4=>have c:U1 (.tuple l :: g) + 1<=7:=c;refine PySem.W.kat_lt e1 e3 f1 f3 (zir _ _ _ _ _ _ 0 b _ Q f k e4 f4 h ?_ (by omega) q);rw [<-z1o e4,<-z1o f4,J2,J2]
theorem ze2 {h:Heap} :∀{vs:List Value} {ds:List PyData},All2 (λ v d=>TupD h v d) vs ds->∃fs,PySem.W.KatTups h vs fs/\fs.length=vs.length/\∀f∈fs,PySem.W.Looks (B1 prog w) h (typeOf f) (.type "tuple")
 | _,_,.nil=>⟨[],trivial,rfl,λ _ h=>absurd h A0⟩
 | _,_,.cons a r=>by
  obtain ⟨fs,i,j,m⟩:=ze2 r;obtain ⟨_,_,⟨u,p,rfl⟩,t,c⟩:=a;cases c with
  | @tuple a o vs n _ _ e1 e2 e3 e4=>
   generalize hl:vs.toList=l at e4;cases e4 with
   | @cons f l _ _ _ _ r1 r2=>
    have e:vs[0]? = some f:=by rw [<-S5,hl];rfl
    refine ⟨f :: fs,PySem.W.KatTups.cons e1 e2 e3 e i,by rw [P0,P0,j],λ g b=>?_⟩;rcases List.mem_cons.mp b with rfl|b
    ·cases r1 with
     | tuple g1 g2 g3 g4=>exact λ A Q E s k q=>b7 (T:="tuple") ⟨_,k _ _ g1,g2⟩ q
    ·exact m g b
theorem zht {a:Addr} {vs:List Value} {ds:List PyData} {n0:Nat} {P:G7->t0->Prop} (ho:s.heap.get? a=some (S6 "list" vs.toArray n0)) (l64:vs.length < 64) (al:All2 (λ v d=>TupD s.heap v d) vs ds) (nd:ds.Nodup) (cm :∀d∈ds,∀e∈ds,d≠e->(ltD d e).isSome=true) (hu:A.units + 9 < cLine)
  (h :∀(h':Heap) (e:Nat),(∀b o,b≠a->s.heap.get? b=some o->h'.get? b=some o)->h'.get? a=some (S6 "list" ((srtD ds).map λ i=>vs.getD i P2).toArray e)->P (.done (.ret .none)) { s with heap:=h' }) :
  U0 (B1 prog w) A (S9.«list.sort» ⟨[.ref a],[]⟩) P E s:=by
 have G:ds.length=vs.length:=z03 al;have la:a < s.heap.objs.size:=Q0 ho;have sz:vs.length<=sizeLine:=C0 (A3 l64) (by decide);obtain ⟨F,H⟩ :∃F,(s.heap.update a (X4 λ _=>(#[]:Array Value))).get? a=some (S6 "list" #[] F):=⟨_,get?_update_seq ho λ _=>#[]⟩
 rw [list_sort_plain];refine d0 (listItems_at ho rfl (d0 (listUpdate_at ho rfl (d0 (seqEpoch_at H rfl (d0 (wpAny_newTuple (d0 (X9 (S3 ?_) (S1 _))) (by simpa using sz))))) (by simpa using sz) (S1 _))));dsimp only;generalize hh3:((s.heap.update a (X4 λ _=>(#[]:Array Value))).push (S6 "tuple" vs.toArray 0)).push (S6 "list" #[] 0)=h3;have s1:=L4 s.heap a (X4 λ _=>(#[]:Array Value));have L :∀b o,b≠a->s.heap.get? b=some o->h3.get? b=some o:=λ b o n e=>by rw [<-hh3];exact D0 _ (D0 _ ((s1.2 b n).trans e))
 have m:h3.get? a=some (S6 "list" #[] F):=by rw [<-hh3];exact D0 _ (D0 _ H)
 have X:All2 (λ v k=>TupD h3 v k) vs ds:=z01 (λ _ _ z=>z.kept ho (show M6 "list"≠.type "tuple" by decide) L) al;have M :∀(l:Array Value),l=((srtD ds).map λ i=>vs.getD i P2).toArray->P (.done (.ret .none)) { s with heap:=h3.update a (X4 λ _=>l) }:=λ l f=>by
  obtain ⟨B,I⟩ :∃B,(h3.update a (X4 λ _=>l)).get? a=some (S6 "list" l B):=⟨_,get?_update_seq m λ _=>l⟩
  rw [f] at I⊢;exact h _ B (λ b o n e=>(Z7 _ _ (V3 n)).trans (L b o n e)) I
 have N:((srtD ds).map λ i=>vs.getD i P2).toArray.size<=sizeLine + 1:=by rw [L0,F0,(z8k ds).length_eq,Y1,G];exact C0 sz (B3 _)
 by_cases g:vs.toArray.size < 2
 ·rw [if_pos g];have U:vs.length < 2:=by simpa using g
  have t:(C1 vs.length).map (λ i=>vs.getD i P2)=vs:=by
   apply X5
   ·simp
   ·intro i h1 g;simp [A2,B0 g]
  have D:srtD ds=C1 vs.length:=by unfold srtD;rw [if_pos (by omega),G]
  refine d0 (G0 ?_);rw [if_pos g];refine (show U0 _ _ (Y2 ((),SortSt.mk' general' (vs.toArray.zip vs.toArray) #[] 7 none) >>= _) _ _ _ from d0 (G0 ?_));dsimp only;have f:j22 (λ x=>x.snd) (arrOf (SortSt.mk' general' (vs.toArray.zip vs.toArray) #[] 7 none))=((srtD ds).map λ i=>vs.getD i P2).toArray:=by
   rw [D,t];show j22 (λ x=>x.snd) (vs.toArray.zip vs.toArray)=vs.toArray;apply Array.ext
   ·simp
   ·intro i h1 g;simp
  refine d0 (seqEpoch_at m rfl (d0 (listUpdate_at m rfl ?_ (S1 _) ?_)))
  ·simp only [bne_self_eq_false,J3,if_false];exact G0 (M _ f)
  ·rw [f];exact N
 ·rw [if_neg g];have U:2<=vs.length:=by simpa using Nat.not_lt.mp g
  obtain ⟨fs,kt,lf,a0⟩:=ze2 (prog:=prog) (w:=w) X;refine d0 (PySem.W.kat_kind (T:=.type "tuple") kt (by omega) a0 (by decide) ?_);rw [if_neg g];obtain ⟨p,t,pp⟩:=(zj5 (n:=ds.length) (by omega)).run (cmpD ds);have D:srtD ds=p.toList:=by unfold srtD;rw [if_neg (by omega),t];rfl
  rw [G] at t;rw [show (M6 "tuple" != M6 "tuple")=false by decide];have R :∀i,i < vs.length->TupD h3 (vs.getD i P2) (ds.getD i .none):=λ i u=>by have Y:ds[i]? = some (ds[i]'(by omega)):=B0 (by omega);obtain ⟨v,hv,z⟩:=z0f X Y;rw [A2,A2,hv,Y];exact z
  have O :∀i,i < vs.length->ds.getD i .none∈ds:=λ i u=>by rw [A2,B0 (show i < ds.length by omega)];exact V5 _
  have Z:(O5 vs.length).kasWp (PySem.W.kas_ask prog w A (tuples' false) vs) (λ V r=>r={ s with heap:=h3 }/\V=p) { s with heap:=h3 }:=zd1 (c:=cmpD ds) (n:=vs.length) (λ i j C u K ne q=>by
   have a5:ds.getD i .none≠ds.getD j .none:=λ e=>ne (by rw [A2,A2,B0 (show i < ds.length by omega),B0 (show j < ds.length by omega)] at e;exact (j00 nd).mp e);obtain ⟨b,S⟩:=Option.isSome_iff_exists.mp (cm _ (O i u) _ (O j K) a5);unfold cmpD at q;rw [S] at q;exact zkx (s:={ s with heap:=h3 }) (R i u) (R j K) S hu q) (O5 vs.length) p t ⟨rfl,rfl⟩
  refine d0 (d3 (PySem.W.kat_run (κ:=tuples' false) (ks:=vs) (vs:=vs) (Q:=λ y r=>r={ s with heap:=h3 }/\failedOf y=none/\j22 (λ x=>x.snd) (arrOf y)=(p.toList.map λ i=>vs.getD i P2).toArray) rfl U (by omega) (λ V y r a1 a2 a3 J=>⟨J.1,a3,by rw [<-J.2];exact PySem.W.kat_snds rfl a2⟩) Z) ?_ λ _ _ z=>z);rintro ⟨⟨⟩,y⟩ r ⟨rfl,hf,f⟩;rw [<-D] at f;dsimp only at hf f⊢;refine d0 (seqEpoch_at m rfl (d0 (listUpdate_at m rfl ?_ (S1 _) ?_)))
  ·rw [hf];simp only [bne_self_eq_false,J3,if_false];exact G0 (M _ f)
  ·rw [f];exact N
end
section
variable {X:Cx}
theorem zc4 {k:Nat} (hr:Room k X.A):CallR X (.builtin "sorted") (λ xs H Q=>∃a ks,xs=[.ref a]/\NsAt X.K H a ks/\ks.length < 64/\(∀k∈ks,∃xs ys,k.1=.tuple (.tuple xs :: ys))/\(∀k∈ks,∀k'∈ks,k.1≠k'.1->(ltD k.1 k'.1).isSome=true)/\
  ∀l:Addr,H l=none->Q (.ref l) (upd H l (.lst ((srtD (ks.map (·.1))).map λ i=>V.ref (ks.getD i (.none,0)).2)))):=by
 intro a0 s σ H xs us Q I U h;obtain ⟨a,ks,rfl,L,J,tt,cm,q⟩:=h;obtain ⟨u,rfl,T⟩:=vals1 U;cases T;have a2:=hr.units;obtain ⟨g1,N,g3,⟨ep,g4⟩,_⟩:=zfc I L;have C:(ks.map nsE).toArray.size=ks.length:=by rw [L0,F0]
 refine Y6 kind_sorted plain_sorted entry_sorted (args_sorted1 _) ?_;unfold S9.«sorted»;refine d0 (m:=checkCount "sorted" 1 1 _) (G0 (d0 (j2d (kdl_dc g1) (show X.A.in1.handled=none from hr.hd) g4 (by rw [C];exact N) λ c t G Y D=>?_)));have ea:G.toList=ks.map λ k=>A1 k.2:=by
  apply m7;intro j;by_cases g:j < ks.length
  ·have S:j < G.size:=by rw [D.1,C];exact g
   obtain ⟨e,P,e2⟩:=D.2 j _ (C2 S);rw [S5,C2 S,V0,e2];rw [j37,V0,B0 g] at P;rw [B0 g];cases P;rfl
  ·rw [R3 (by rw [J2,D.1,C];omega),R3 (by rw [F0];omega)]
 rw [ea];have y:Inv X a0 σ H { s with heap:=c,toks:=t }:=I.kept (t':=t) Y;have M:(c.push (S6 "list" (ks.map λ k=>A1 k.2).toArray 0)).get? c.objs.size=some (S6 "list" (ks.map λ k=>A1 k.2).toArray 0):=Z0 _ rfl;have al :∀(h:Heap),(∀b o,c.get? b=some o->h.get? b=some o)->∀l:List (PyData×Addr),(∀k∈l,k∈ks)->All2 (λ v d=>TupD h v d) (l.map λ k=>A1 k.2) (l.map (·.1)):=λ h B l=>by
  induction l with
  | nil=>intro _;exact .nil
  | cons k l ih=>intro f;obtain ⟨O,n2,n3⟩:=L.2 k (f k R0);obtain ⟨as,r⟩:=z6a y k.1 (.ref k.2) (.ref k.2) n3 rfl;exact .cons ⟨O,n2,tt k (f k R0),as,z8y (λ b o vs n e _ _=>B b o e) _ _ _ O r⟩ (ih λ x hx=>f x (W0 _ hx))
 have F:(ks.map λ k=>A1 k.2).length=ks.length:=F0 ..;refine d0 (X9 (d0 (S3 (S2 j2j ⟨_,M,rfl⟩ j25 (zht (s:={ s with heap:=c.push (S6 "list" (ks.map λ k=>A1 k.2).toArray 0),toks:=t }) (ds:=ks.map (·.1)) M (by rw [F];exact J) (al _ (λ b o e=>D0 _ e) ks λ _ h=>h) g3 (λ d Z e W ne=>?_) (show X.A.units + 1 + 1 + 9 < cLine by omega) λ h' e B f=>⟨_,rfl,?_⟩) (j32 _)))) (by rw [F];exact C0 (A3 J) (by decide)))
 ·obtain ⟨k,hk,rfl⟩:=List.mem_map.mp Z;obtain ⟨k',a1,rfl⟩:=List.mem_map.mp W;exact cm k hk k' a1 ne
 have k2 :∀b o,c.get? b=some o->h'.get? b=some o:=λ b o z=>B b o (E1 (Q0 z)) (D0 _ z);have E:=z8k (ks.map (·.1));rw [F0] at E;have vg :∀p:List Nat,(∀i∈p,i < ks.length)->Vals (p.map λ i=>V.ref (ks.getD i (.none,0)).2) (p.map λ i=>(ks.map λ k=>A1 k.2).getD i P2):=by
  intro p;induction p with
  | nil=>intro _;exact .nil
  | cons i p ih=>intro R;refine .cons ?_ (ih λ j g=>R j (.tail _ g));have w:=R i (.head _);show RelV (V.ref (ks.getD i (.none,0)).2) ((ks.map λ k=>A1 k.2).getD i P2);rw [A2,A2,V0,B0 w];rfl
 refine G0 ⟨_,rfl,.ref c.objs.size,_,y.laid (t':=t) (o:=.lst ((srtD (ks.map (·.1))).map λ i=>V.ref (ks.getD i (.none,0)).2)) k2 (u0 _) ⟨?_,_,e,vg _ (λ i w=>List.mem_range.mp (E.mem_iff.mp w)),f⟩,rfl,q _ (y.hok.fresh (u0 _))⟩;rw [F0,E.length_eq,Y1];exact N
end
noncomputable def ItRv (a:Addr) (n:Nat):It:=
 ⟨λ i H=>i < n/\∃xs,H a=some (.lst xs)/\xs.length=n,λ i H x H'=>H'=H/\∀xs,H a=some (.lst xs)->xs[n - 1 - i]? = some x,λ i H=>i=n⟩
theorem zk5 {P:Program} {w:S0} {K:b0} {tg:Expr} (a it:Addr) (n:Nat):Turn P w K tg (ItRv a n) [it] it (λ i h=>h.IsRevIter it a ((n:Int) - 1 - (i:Nat))) where
 mem:=by simp
 obj:=λ i h f b g=>by
  obtain rfl:b=it:=by simpa using g
  obtain ⟨o,e,c,d⟩:=f;exact ⟨o,e,λ v z=>by rw [d] at z;cases z⟩
 keep:=λ i h l f k=>by obtain ⟨o,e,r⟩:=f;exact ⟨o,k it (by simp) o e,r⟩
 item:=by
  intro X q B C L i N s σ H E I j f m;subst q B C;obtain ⟨Y,M,O,hx⟩:=m;obtain ⟨a0,G,p,hz⟩:=I.list (SqL.of O);obtain ⟨D,x,Q,F,y,A⟩:=j it (by simp);have W:=G.length;have lt:n - 1 - i < M.length:=by omega
  obtain ⟨u,R,V⟩:=G.get (B0 lt);rw [show (n:Int) - 1 - (i:Nat)=((n - 1 - i:Nat):Int) by omega] at f;refine wpAny_pyNext_rev_item f p.isList (by simpa using R) λ l t T=>?_;have S:Inv X N σ H { s with heap:=l }:=I.turned (t':=s.toks) (λ b o g e=>(T.2 b g).trans e) D x F y A;obtain ⟨o,e,c,d⟩:=id t;rw [show ((n - 1 - i:Nat):Int) - 1=(n:Int) - 1 - ((i + 1:Nat):Int) by omega] at t;refine ⟨_,rfl,go_of (s:={ s with heap:=l }) e c d (by decide) ⟨M[n - 1 - i],H,S,V,⟨rfl,λ Z J=>?_⟩,t,λ b g=>(j b g).1⟩⟩;rw [O] at J;cases J;exact B0 lt
 done:=by intro X q B C L i N s σ H E I j f m;subst q B C;obtain ⟨D,x,Q,F,y,A⟩:=j it (by simp);have m:i=n:=m;rw [show (n:Int) - 1 - (i:Nat)=-1 by omega] at f;exact wpAny_pyNext_rev_end (I.ok.hd L) f λ l U=>⟨rfl,I.turned (t':=s.toks) (λ b o g e=>U b o g e) D x F y A⟩
 self:=λ _ _ _ _ _ f h=>wpAny_pyIter_revIter f h
noncomputable def iRevL (tl:TE):TI:=λ σ H R=>tl σ H λ x H1=>∃a xs,x=.ref a/\H1 a=some (.lst xs)/\R (ItRv a xs.length) H1
theorem zlt {X:Cx} {tg e:Expr} {te:TE} {p2 c2:Pos} (g2:Gl X "reversed") (m2:X.mg "reversed" = none) (ha:PE X e te) (he:N1 [e] X.env=[(false,u3 e X.env)]:=by rfl):PI X tg (.Call (.Name "reversed" p2) [e] [] c2) (iRevL te):=by
 intro g s σ H R I h;refine Call_ (ld_blt I g2 m2 boot_reversed (K3 ?_ he rfl));rw [he];refine (show U0 _ _ (spliced ((false,u3 e X.env) :: [])) _ _ s from u5 (thn (ha g s σ H _ I h) λ u c ⟨x,H1,I1,r1,a,xs,ex,sq,q⟩=>?_));subst ex;cases r1;refine Z6 ?_;obtain ⟨d,k,i,m⟩:=I1.list (SqL.of sq);have l:=k.length;refine call_reversed_list i.isList ?_;have f:(c.heap.push (revObj a ((d.toArray.size:Int) - 1))).IsRevIter c.heap.objs.size a ((d.toArray.size:Int) - 1):=⟨_,Z0 _ rfl,rfl,rfl⟩
 refine wpAny_pyIter_revIter f ?_;refine ⟨c.heap.objs.size,[c.heap.objs.size],_,_,H1,rfl,I1.kept (t':=c.toks) λ b o e=>D0 _ e,zk5 a _ _,?_,λ b j=>?_,q⟩
 ·rw [show (xs.length:Int) - 1 - ((0:Nat):Int)=(d.toArray.size:Int) - 1 by rw [L0,<-l];omega];exact f
 obtain rfl:b=c.heap.objs.size:=by simpa using j
 exact I1.fpOk (u0 _) (I1.hok.fresh (u0 _))
theorem zl2 {a:Addr} {xs:List V} {g:TG} {tb:TS} {D:Ends} {σ:St} {H:Hp} (Pv:Nat->St->Hp->Prop) (h0:Pv 0 σ H) (hl :∀i σ H,Pv i σ H->H a=some (.lst xs))
  (hs :∀i x σ H,xs.reverse[i]? = some x->Pv i σ H->g x σ H λ σ2 H2=>tb { D with nx:=Pv (i + 1),ct:=Pv (i + 1),bk:=D.nx } σ2 H2) (hd :∀σ H,Pv xs.length σ H->D.nx σ H) :
  ∃W:Nat->Nat->St->Hp->Prop,(∃m,W 0 m σ H)/\∀i m σ H,W i m σ H->
   ((ItRv a xs.length).stop i H/\D.nx σ H)\/((ItRv a xs.length).go i H/\∃N:St->Hp->Prop,(∀σ' H',N σ' H'->∃m',m' < m/\W (i + 1) m' σ' H')/\∀x H',(ItRv a xs.length).yld i H x H'->g x σ H' λ σ2 H2=>tb { D with nx:=N,ct:=N,bk:=D.nx } σ2 H2):=by
 refine ⟨λ i m σ H=>m=xs.length - i/\i<=xs.length/\Pv i σ H,⟨xs.length,by simp,S1 _,h0⟩,?_⟩;rintro i m σ H ⟨rfl,hi,p⟩;have q:=hl i σ H p;by_cases hlt:i < xs.length
 ·refine .inr ⟨⟨hlt,xs,q,rfl⟩,Pv (i + 1),λ σ' H' b=>⟨xs.length - (i + 1),by omega,rfl,hlt,b⟩,λ x H' y=>?_⟩;obtain ⟨rfl,y⟩:=y;refine hs i x σ _ ?_ p;rw [List.getElem?_reverse hlt];exact y xs q
 ·obtain rfl:i=xs.length:=by omega
  exact .inl ⟨rfl,hd σ H p⟩
end L2
set_option maxHeartbeats 400000
namespace L2
open PySem PySem.Spec PyProof.Rows
section
variable {X:Cx}
theorem zlk {o:Expr} {to:TE} {apos cpos:Pos} (ho:PE X o to) (hbase:T3 o "pop" X.env (u3 o X.env)=u3 o X.env:=by rfl) (hline:(apos.endLine == cpos.line)=true:=by rfl):PE X (.Call (.Attribute o "pop" apos) [] [] cpos) (tBM0 X.K "list" rPop to):=
 pe_bm0 j5 PySem.F.slot_list_pop PySem.F.type_list_pop mt_pop ho hbase hline
theorem zez {o e:Expr} {es:List Expr} {to:TE} {t:TA} {apos cpos:Pos} (ho:PE X o to) (ha:PA X (e :: es) t)
  (hbase:T3 o "extend" X.env (u3 o X.env)=u3 o X.env:=by rfl)
  (hfew:((A4 cpos (N1 (e :: es) X.env)).all (λ x=>!x.1) && (G9 cpos (K6 [] X.env)).all (λ x=>x.1.isSome) && decide ((e :: es).length + ([]:List c6).length + (if ([]:List c6).isEmpty then 0 else 1) < 30))=true:=by rfl)
  (hline:(apos.endLine == cpos.line)=true:=by rfl) (hs:N1 (e :: es) X.env=(false,u3 e X.env) :: N1 es X.env:=by rfl) (hplain:(A4 cpos (N1 es X.env)).any (·.1)=false:=by rfl) :
  PE X (.Call (.Attribute o "extend" apos) (e :: es) [] cpos) (tBM X.K "list" zjh to t):=pe_bm j5 PySem.F.slot_list_extend PySem.F.type_list_extend zhd ho ha hbase hfew hline hs hplain
end
end L2
set_option maxHeartbeats 0
namespace K70
open PySem PySem.W PyProof.Rows TJ L2
noncomputable abbrev PX:Program:=PySem.Challenge.pw_talejudge_k70_whole_beginnings_alike
noncomputable abbrev annX:Option Value:=some (.ref 6)
noncomputable def tp (a b:Str) (t:Nat):Obj:={ cls:=.type "tuple",data:=.seq #[.str a t,.str b (t + 1)] 0 }
noncomputable def tups:List Obj:=[tp "register" "read" 407,tp "register" "write" 409,tp "counter" "read" 411,tp "counter" "add" 413,tp "queue" "put" 415,tp "queue" "take" 417,tp "set" "put" 419,tp "set" "cut" 421,tp "set" "has" 423,tp "cell" "read" 425,tp "cell" "write" 427,tp "cell" "swap" 429]
noncomputable def insAll:List Obj->Nat->BT->BT
 | [],_,t=>t
 | x :: r,n,t=>insAll r (n + 1) (t.ins n x)
noncomputable def treeD (P:N0) (oD:Obj):BT:=insAll tups 165 ((K70.pre.tree_188 P).ins 164 oD)
noncomputable def FX (w:S0) (os:K2) (oD:Obj) (tk:Nat):SharedT:=⟨treeD w.params oD,177,{},⟨[]⟩,{},tk,os⟩
noncomputable abbrev cdX:Code:=.body (behindTheImports PX) K70.pre.env_1
noncomputable abbrev qX:Pos:=⟨0,0,0,0⟩
noncomputable abbrev BX:List Frame:=[topFrame qX]
noncomputable abbrev GX {α:Type} (w:S0) (c:Nat) (x:Sem α) (s:t0) (pos:Pos) (a:α) (s':t0) (pos':Pos):Prop:=Goes PX w 11 annX cdX qX c x s pos a s' pos'
def LX (n:Nat) {α:Type} (x:Sem α) (w:S0) (pos:Pos) (s:K2->Obj->Nat->SharedT) (a:Nat->α) (s':K2->Obj->Nat->SharedT) (pos':Pos):Prop:=
 ∀(os:K2) (oD:Obj) (tk:Nat) (K:α->Sem G7) (H:Value->Sem G7) (gd:Bool->Bool) (lv:List Value->List Value),
  PySem.W.Fast.tw10295753902157049106 P7 PX w 11 annX 1 n (s os oD tk) ⟨x.wrap K H gd lv,cdX,pos,BX⟩=some (s' os oD tk,⟨K (a tk),cdX,pos',BX⟩)
theorem LX.goes {n:Nat} {α:Type} {x:Sem α} {w:S0} {pos pos':Pos} {s s':K2->Obj->Nat->SharedT} {a:Nat->α} (h:LX n x w pos s a s' pos') (os:K2) (oD:Obj) (tk:Nat):GX w n x (s os oD tk).abs pos (a tk) (s' os oD tk).abs pos':=by refine Goes.leaf n λ K H c b=>?_;have e:=h os oD tk K H c b;rw [<-PySem.W.Fast.te10295753902157049106,<-R4] at e;exact e
noncomputable abbrev stay (w:S0):K2->Obj->Nat->SharedT:=FX w
noncomputable abbrev plus3 (w:S0):K2->Obj->Nat->SharedT:=λ os oD tk=>FX w os oD (tk + 3)
theorem qtH (a:Addr) (h :∀(w:S0) (pos:Pos),LX 3 (PySem.W.Fast.tw13066428366354244818 8 (.ref a)) w pos (stay w) (λ _=>true) (stay w) pos:=by intro w pos os oD tk K H gd lv;kernel_rfl) (w:S0) (pos:Pos):LX 3 (i4 8 (.ref a)) w pos (stay w) (λ _=>true) (stay w) pos:=by rw [PySem.W.Fast.te13066428366354244818];exact h w pos
noncomputable def qt0:=qtH 165
noncomputable def qt1:=qtH 166
noncomputable def qt2:=qtH 167
noncomputable def qt3:=qtH 168
noncomputable def qt4:=qtH 169
noncomputable def qt5:=qtH 170
noncomputable def qt6:=qtH 171
noncomputable def qt7:=qtH 172
noncomputable def qt8:=qtH 173
noncomputable def qt9:=qtH 174
noncomputable def qt10:=qtH 175
noncomputable def qt11:=qtH 176
theorem eqH (n:Nat) (a b:Addr) (hf :∀(w:S0) (pos:Pos),LX n (P4 (.ref a) (.ref b)) (w.withFollow "special-get-raises" false) pos (stay (w.withFollow "special-get-raises" false)) (λ _=>false) (stay (w.withFollow "special-get-raises" false)) pos:=by intro w pos os oD tk K H gd lv;kernel_rfl) (ht :∀(w:S0) (pos:Pos),LX n (P4 (.ref a) (.ref b)) (w.withFollow "special-get-raises" true) pos (stay (w.withFollow "special-get-raises" true)) (λ _=>false) (stay (w.withFollow "special-get-raises" true)) pos:=by intro w pos os oD tk K H gd lv;kernel_rfl) (w:S0) (pos:Pos):LX n (eqBool (.ref a) (.ref b)) w pos (stay w) (λ _=>false) (stay w) pos:=by rw [PySem.W.Fast.te13926502685295537346];exact byRow2 "special-get-raises" (P:=λ w=>LX n (P4 (.ref a) (.ref b)) w pos (stay w) (λ _=>false) (stay w) pos) (λ w=>hf w pos) (λ w=>ht w pos) w
noncomputable def eq0_1:=eqH 20 165 166
noncomputable def eq0_2:=eqH 16 165 167
noncomputable def eq0_3:=eqH 16 165 168
noncomputable def eq0_4:=eqH 16 165 169
noncomputable def eq0_5:=eqH 16 165 170
noncomputable def eq0_6:=eqH 16 165 171
noncomputable def eq0_7:=eqH 16 165 172
noncomputable def eq0_8:=eqH 16 165 173
noncomputable def eq0_9:=eqH 16 165 174
noncomputable def eq0_10:=eqH 16 165 175
noncomputable def eq0_11:=eqH 16 165 176
noncomputable def eq1_2:=eqH 16 166 167
noncomputable def eq1_3:=eqH 16 166 168
noncomputable def eq1_4:=eqH 16 166 169
noncomputable def eq1_5:=eqH 16 166 170
noncomputable def eq1_6:=eqH 16 166 171
noncomputable def eq1_7:=eqH 16 166 172
noncomputable def eq1_8:=eqH 16 166 173
noncomputable def eq1_9:=eqH 16 166 174
noncomputable def eq1_10:=eqH 16 166 175
noncomputable def eq1_11:=eqH 16 166 176
noncomputable def eq2_3:=eqH 20 167 168
noncomputable def eq2_4:=eqH 16 167 169
noncomputable def eq2_5:=eqH 16 167 170
noncomputable def eq2_6:=eqH 16 167 171
noncomputable def eq2_7:=eqH 16 167 172
noncomputable def eq2_8:=eqH 16 167 173
noncomputable def eq2_9:=eqH 16 167 174
noncomputable def eq2_10:=eqH 16 167 175
noncomputable def eq2_11:=eqH 16 167 176
noncomputable def eq3_4:=eqH 16 168 169
noncomputable def eq3_5:=eqH 16 168 170
noncomputable def eq3_6:=eqH 16 168 171
noncomputable def eq3_7:=eqH 16 168 172
noncomputable def eq3_8:=eqH 16 168 173
noncomputable def eq3_9:=eqH 16 168 174
noncomputable def eq3_10:=eqH 16 168 175
noncomputable def eq3_11:=eqH 16 168 176
noncomputable def eq4_5:=eqH 20 169 170
noncomputable def eq4_6:=eqH 16 169 171
noncomputable def eq4_7:=eqH 16 169 172
noncomputable def eq4_8:=eqH 16 169 173
noncomputable def eq4_9:=eqH 16 169 174
noncomputable def eq4_10:=eqH 16 169 175
noncomputable def eq4_11:=eqH 16 169 176
noncomputable def eq5_6:=eqH 16 170 171
noncomputable def eq5_7:=eqH 16 170 172
noncomputable def eq5_8:=eqH 16 170 173
noncomputable def eq5_9:=eqH 16 170 174
noncomputable def eq5_10:=eqH 16 170 175
noncomputable def eq5_11:=eqH 16 170 176
noncomputable def eq6_7:=eqH 20 171 172
noncomputable def eq6_8:=eqH 20 171 173
noncomputable def eq6_9:=eqH 16 171 174
noncomputable def eq6_10:=eqH 16 171 175
noncomputable def eq6_11:=eqH 16 171 176
noncomputable def eq7_8:=eqH 20 172 173
noncomputable def eq7_9:=eqH 16 172 174
noncomputable def eq7_10:=eqH 16 172 175
noncomputable def eq7_11:=eqH 16 172 176
noncomputable def eq8_9:=eqH 16 173 174
noncomputable def eq8_10:=eqH 16 173 175
noncomputable def eq8_11:=eqH 16 173 176
noncomputable def eq9_10:=eqH 20 174 175
noncomputable def eq9_11:=eqH 20 174 176
noncomputable def zlh:=eqH 20 175 176
theorem crH (a:Addr) (hf :∀(w:S0) (pos:Pos),LX 1 (Q4 "hash" [.ref a]) (w.withFollow "special-get-raises" false) pos (stay (w.withFollow "special-get-raises" false)) (λ _=>()) (stay (w.withFollow "special-get-raises" false)) pos:=by intro w pos os oD tk K H gd lv;kernel_rfl) (ht :∀(w:S0) (pos:Pos),LX 1 (Q4 "hash" [.ref a]) (w.withFollow "special-get-raises" true) pos (stay (w.withFollow "special-get-raises" true)) (λ _=>()) (stay (w.withFollow "special-get-raises" true)) pos:=by intro w pos os oD tk K H gd lv;kernel_rfl) (w:S0) (pos:Pos):LX 1 (cRoomFor "hash" [.ref a]) w pos (stay w) (λ _=>()) (stay w) pos:=by rw [PySem.W.Fast.te13383273872528276517];exact byRow2 "special-get-raises" (P:=λ w=>LX 1 (Q4 "hash" [.ref a]) w pos (stay w) (λ _=>()) (stay w) pos) (λ w=>hf w pos) (λ w=>ht w pos) w
theorem soH (a:Addr) (hf :∀(w:S0) (pos:Pos),LX 1 (U4 (.ref a) "__hash__") (w.withFollow "special-get-raises" false) pos (stay (w.withFollow "special-get-raises" false)) (λ _=>some (.builtin "tuple.__hash__")) (stay (w.withFollow "special-get-raises" false)) pos:=by intro w pos os oD tk K H gd lv;kernel_rfl) (ht :∀(w:S0) (pos:Pos),LX 1 (U4 (.ref a) "__hash__") (w.withFollow "special-get-raises" true) pos (stay (w.withFollow "special-get-raises" true)) (λ _=>some (.builtin "tuple.__hash__")) (stay (w.withFollow "special-get-raises" true)) pos:=by intro w pos os oD tk K H gd lv;kernel_rfl) (w:S0) (pos:Pos):LX 1 (specialOf (.ref a) "__hash__") w pos (stay w) (λ _=>some (.builtin "tuple.__hash__")) (stay w) pos:=by rw [PySem.W.Fast.te4214721358667687652];exact byRow2 "special-get-raises" (P:=λ w=>LX 1 (U4 (.ref a) "__hash__") w pos (stay w) (λ _=>some (.builtin "tuple.__hash__")) (stay w) pos) (λ w=>hf w pos) (λ w=>ht w pos) w
theorem csH (a:Addr) (k l:Str) (hf :∀(w:S0) (pos:Pos),LX 22 (O4 (.ref a) "__hash__" (unh a)) (w.withFollow "special-get-raises" false) pos (stay (w.withFollow "special-get-raises" false)) (λ tk=>some (.int (o0 [c0 (w.withFollow "special-get-raises" false).params k,c0 (w.withFollow "special-get-raises" false).params l]) (tk + 2))) (plus3 (w.withFollow "special-get-raises" false)) pos:=by intro w pos os oD tk K H gd lv;kernel_rfl) (ht :∀(w:S0) (pos:Pos),LX 22 (O4 (.ref a) "__hash__" (unh a)) (w.withFollow "special-get-raises" true) pos (stay (w.withFollow "special-get-raises" true)) (λ tk=>some (.int (o0 [c0 (w.withFollow "special-get-raises" true).params k,c0 (w.withFollow "special-get-raises" true).params l]) (tk + 2))) (plus3 (w.withFollow "special-get-raises" true)) pos:=by intro w pos os oD tk K H gd lv;kernel_rfl) (w:S0) (pos:Pos):LX 22 (L6 (.ref a) "__hash__" (unh a)) w pos (stay w) (λ tk=>some (.int (o0 [c0 w.params k,c0 w.params l]) (tk + 2))) (plus3 w) pos:=by rw [PySem.W.Fast.te16697807410369149715];exact byRow2 "special-get-raises" (P:=λ w=>LX 22 (O4 (.ref a) "__hash__" (unh a)) w pos (stay w) (λ tk=>some (.int (o0 [c0 w.params k,c0 w.params l]) (tk + 2))) (plus3 w) pos) (λ w=>hf w pos) (λ w=>ht w pos) w
noncomputable def cr0:=crH 165
noncomputable def so0:=soH 165
noncomputable def cs0:=csH 165 "register" "read"
noncomputable def cr1:=crH 166
noncomputable def so1:=soH 166
noncomputable def cs1:=csH 166 "register" "write"
noncomputable def cr2:=crH 167
noncomputable def so2:=soH 167
noncomputable def cs2:=csH 167 "counter" "read"
noncomputable def cr3:=crH 168
noncomputable def so3:=soH 168
noncomputable def cs3:=csH 168 "counter" "add"
noncomputable def cr4:=crH 169
noncomputable def so4:=soH 169
noncomputable def cs4:=csH 169 "queue" "put"
noncomputable def cr5:=crH 170
noncomputable def so5:=soH 170
noncomputable def cs5:=csH 170 "queue" "take"
noncomputable def cr6:=crH 171
noncomputable def so6:=soH 171
noncomputable def cs6:=csH 171 "set" "put"
noncomputable def cr7:=crH 172
noncomputable def so7:=soH 172
noncomputable def cs7:=csH 172 "set" "cut"
noncomputable def cr8:=crH 173
noncomputable def so8:=soH 173
noncomputable def cs8:=csH 173 "set" "has"
noncomputable def cr9:=crH 174
noncomputable def so9:=soH 174
noncomputable def cs9:=csH 174 "cell" "read"
noncomputable def cr10:=crH 175
noncomputable def so10:=soH 175
noncomputable def cs10:=csH 175 "cell" "write"
noncomputable def cr11:=crH 176
noncomputable def so11:=soH 176
noncomputable def cs11:=csH 176 "cell" "swap"
noncomputable def allX (P:N0):List KV3:=[(165,(.ref 109),(G1 (o0 [c0 P "register",c0 P "read"]))),(166,(.ref 116),(G1 (o0 [c0 P "register",c0 P "write"]))),(167,(.ref 109),(G1 (o0 [c0 P "counter",c0 P "read"]))),(168,(.ref 123),(G1 (o0 [c0 P "counter",c0 P "add"]))),(169,(.ref 130),(G1 (o0 [c0 P "queue",c0 P "put"]))),(170,(.ref 137),(G1 (o0 [c0 P "queue",c0 P "take"]))),(171,(.ref 144),(G1 (o0 [c0 P "set",c0 P "put"]))),(172,(.ref 149),(G1 (o0 [c0 P "set",c0 P "cut"]))),(173,(.ref 156),(G1 (o0 [c0 P "set",c0 P "has"]))),(174,(.ref 109),(G1 (o0 [c0 P "cell",c0 P "read"]))),(175,(.ref 116),(G1 (o0 [c0 P "cell",c0 P "write"]))),(176,(.ref 163),(G1 (o0 [c0 P "cell",c0 P "swap"])))]
theorem zl6 (w:S0) (os:K2) (pos:Pos):(allX w.params).Pairwise λ x y=>∀oD tk,GX w 20 (eqBool (.ref x.1) (.ref y.1)) (FX w os oD tk).abs pos false (FX w os oD tk).abs pos:=by
 unfold allX;refine
 .cons (λ y a oD tk=>(by
  revert y;simp only [W1,A0,false_implies,implies_true,and_true];exact ⟨(eq0_1 w pos).goes os oD tk |>.le (by decide),(eq0_2 w pos).goes os oD tk |>.le (by decide),(eq0_3 w pos).goes os oD tk |>.le (by decide),(eq0_4 w pos).goes os oD tk |>.le (by decide),(eq0_5 w pos).goes os oD tk |>.le (by decide),(eq0_6 w pos).goes os oD tk |>.le (by decide),(eq0_7 w pos).goes os oD tk |>.le (by decide),(eq0_8 w pos).goes os oD tk |>.le (by decide),(eq0_9 w pos).goes os oD tk |>.le (by decide),(eq0_10 w pos).goes os oD tk |>.le (by decide),(eq0_11 w pos).goes os oD tk |>.le (by decide)⟩))
  (.cons (λ y a oD tk=>(by
  revert y;simp only [W1,A0,false_implies,implies_true,and_true];exact ⟨(eq1_2 w pos).goes os oD tk |>.le (by decide),(eq1_3 w pos).goes os oD tk |>.le (by decide),(eq1_4 w pos).goes os oD tk |>.le (by decide),(eq1_5 w pos).goes os oD tk |>.le (by decide),(eq1_6 w pos).goes os oD tk |>.le (by decide),(eq1_7 w pos).goes os oD tk |>.le (by decide),(eq1_8 w pos).goes os oD tk |>.le (by decide),(eq1_9 w pos).goes os oD tk |>.le (by decide),(eq1_10 w pos).goes os oD tk |>.le (by decide),(eq1_11 w pos).goes os oD tk |>.le (by decide)⟩))
  (.cons (λ y a oD tk=>(by
  revert y;simp only [W1,A0,false_implies,implies_true,and_true];exact ⟨(eq2_3 w pos).goes os oD tk |>.le (by decide),(eq2_4 w pos).goes os oD tk |>.le (by decide),(eq2_5 w pos).goes os oD tk |>.le (by decide),(eq2_6 w pos).goes os oD tk |>.le (by decide),(eq2_7 w pos).goes os oD tk |>.le (by decide),(eq2_8 w pos).goes os oD tk |>.le (by decide),(eq2_9 w pos).goes os oD tk |>.le (by decide),(eq2_10 w pos).goes os oD tk |>.le (by decide),(eq2_11 w pos).goes os oD tk |>.le (by decide)⟩))
  (.cons (λ y a oD tk=>(by
  revert y;simp only [W1,A0,false_implies,implies_true,and_true];exact ⟨(eq3_4 w pos).goes os oD tk |>.le (by decide),(eq3_5 w pos).goes os oD tk |>.le (by decide),(eq3_6 w pos).goes os oD tk |>.le (by decide),(eq3_7 w pos).goes os oD tk |>.le (by decide),(eq3_8 w pos).goes os oD tk |>.le (by decide),(eq3_9 w pos).goes os oD tk |>.le (by decide),(eq3_10 w pos).goes os oD tk |>.le (by decide),(eq3_11 w pos).goes os oD tk |>.le (by decide)⟩))
  (.cons (λ y a oD tk=>(by
  revert y;simp only [W1,A0,false_implies,implies_true,and_true];exact ⟨(eq4_5 w pos).goes os oD tk |>.le (by decide),(eq4_6 w pos).goes os oD tk |>.le (by decide),(eq4_7 w pos).goes os oD tk |>.le (by decide),(eq4_8 w pos).goes os oD tk |>.le (by decide),(eq4_9 w pos).goes os oD tk |>.le (by decide),(eq4_10 w pos).goes os oD tk |>.le (by decide),(eq4_11 w pos).goes os oD tk |>.le (by decide)⟩))
  (.cons (λ y a oD tk=>(by
  revert y;simp only [W1,A0,false_implies,implies_true,and_true];exact ⟨(eq5_6 w pos).goes os oD tk |>.le (by decide),(eq5_7 w pos).goes os oD tk |>.le (by decide),(eq5_8 w pos).goes os oD tk |>.le (by decide),(eq5_9 w pos).goes os oD tk |>.le (by decide),(eq5_10 w pos).goes os oD tk |>.le (by decide),(eq5_11 w pos).goes os oD tk |>.le (by decide)⟩))
  (.cons (λ y a oD tk=>(by
  revert y;simp only [W1,A0,false_implies,implies_true,and_true];exact ⟨(eq6_7 w pos).goes os oD tk |>.le (by decide),(eq6_8 w pos).goes os oD tk |>.le (by decide),(eq6_9 w pos).goes os oD tk |>.le (by decide),(eq6_10 w pos).goes os oD tk |>.le (by decide),(eq6_11 w pos).goes os oD tk |>.le (by decide)⟩))
  (.cons (λ y a oD tk=>(by
  revert y;simp only [W1,A0,false_implies,implies_true,and_true];exact ⟨(eq7_8 w pos).goes os oD tk |>.le (by decide),(eq7_9 w pos).goes os oD tk |>.le (by decide),(eq7_10 w pos).goes os oD tk |>.le (by decide),(eq7_11 w pos).goes os oD tk |>.le (by decide)⟩))
  (.cons (λ y a oD tk=>(by
  revert y;simp only [W1,A0,false_implies,implies_true,and_true];exact ⟨(eq8_9 w pos).goes os oD tk |>.le (by decide),(eq8_10 w pos).goes os oD tk |>.le (by decide),(eq8_11 w pos).goes os oD tk |>.le (by decide)⟩))
  (.cons (λ y a oD tk=>(by
  revert y;simp only [W1,A0,false_implies,implies_true,and_true];exact ⟨(eq9_10 w pos).goes os oD tk |>.le (by decide),(eq9_11 w pos).goes os oD tk |>.le (by decide)⟩))
  (.cons (λ y a oD tk=>(by
  revert y;simp only [W1,A0,false_implies,implies_true,and_true];exact (zlh w pos).goes os oD tk |>.le (by decide)))
  (.cons (λ y a=>nomatch a)
  (j11))))))))))))
theorem allX_q (w:S0) (os:K2) (pos:Pos) :∀x∈allX w.params,∀oD tk,GX w 3 (i4 8 (.ref x.1)) (FX w os oD tk).abs pos true (FX w os oD tk).abs pos:=by unfold allX;simp only [W1,A0,false_implies,implies_true,and_true];exact ⟨λ oD tk=>(qt0 w pos).goes os oD tk,λ oD tk=>(qt1 w pos).goes os oD tk,λ oD tk=>(qt2 w pos).goes os oD tk,λ oD tk=>(qt3 w pos).goes os oD tk,λ oD tk=>(qt4 w pos).goes os oD tk,λ oD tk=>(qt5 w pos).goes os oD tk,λ oD tk=>(qt6 w pos).goes os oD tk,λ oD tk=>(qt7 w pos).goes os oD tk,λ oD tk=>(qt8 w pos).goes os oD tk,λ oD tk=>(qt9 w pos).goes os oD tk,λ oD tk=>(qt10 w pos).goes os oD tk,λ oD tk=>(qt11 w pos).goes os oD tk⟩
theorem allX_h (w:S0) (os:K2) (pos:Pos) :∀x∈allX w.params,∀oD tk,GX w 25 (pyHash (.ref x.1)) (FX w os oD tk).abs pos x.2.2 (FX w os oD (tk + 3)).abs pos:=by unfold allX;simp only [W1,A0,false_implies,implies_true,and_true];exact ⟨λ oD tk=>Goes.pyHashT ((cr0 w pos).goes os oD tk) ((so0 w pos).goes os oD tk) ((cs0 w pos).goes os oD tk),λ oD tk=>Goes.pyHashT ((cr1 w pos).goes os oD tk) ((so1 w pos).goes os oD tk) ((cs1 w pos).goes os oD tk),λ oD tk=>Goes.pyHashT ((cr2 w pos).goes os oD tk) ((so2 w pos).goes os oD tk) ((cs2 w pos).goes os oD tk),λ oD tk=>Goes.pyHashT ((cr3 w pos).goes os oD tk) ((so3 w pos).goes os oD tk) ((cs3 w pos).goes os oD tk),λ oD tk=>Goes.pyHashT ((cr4 w pos).goes os oD tk) ((so4 w pos).goes os oD tk) ((cs4 w pos).goes os oD tk),λ oD tk=>Goes.pyHashT ((cr5 w pos).goes os oD tk) ((so5 w pos).goes os oD tk) ((cs5 w pos).goes os oD tk),λ oD tk=>Goes.pyHashT ((cr6 w pos).goes os oD tk) ((so6 w pos).goes os oD tk) ((cs6 w pos).goes os oD tk),λ oD tk=>Goes.pyHashT ((cr7 w pos).goes os oD tk) ((so7 w pos).goes os oD tk) ((cs7 w pos).goes os oD tk),λ oD tk=>Goes.pyHashT ((cr8 w pos).goes os oD tk) ((so8 w pos).goes os oD tk) ((cs8 w pos).goes os oD tk),λ oD tk=>Goes.pyHashT ((cr9 w pos).goes os oD tk) ((so9 w pos).goes os oD tk) ((cs9 w pos).goes os oD tk),λ oD tk=>Goes.pyHashT ((cr10 w pos).goes os oD tk) ((so10 w pos).goes os oD tk) ((cs10 w pos).goes os oD tk),λ oD tk=>Goes.pyHashT ((cr11 w pos).goes os oD tk) ((so11 w pos).goes os oD tk) ((cs11 w pos).goes os oD tk)⟩
theorem famX (w:S0) (os:K2):Fam 11 164 (FX w os):=by
 have g :∀c,(treeD w.params c).get 164=some c:=λ c=>by kernel_rfl
 refine ⟨by decide,λ a b d=>abs_get (show 164 < 177 by decide) (g _),λ a b d e=>?_⟩;have u:(absHeap (treeD w.params (dObj a b)) 177 {}).update 164 (u8 (·.push e))=absHeap (treeD w.params (dObj (a.push e) (b + 1))) 177 {}:=by
  rw [<-absHeap_set (g _)];have v:(treeD w.params (dObj a b)).set 164 (u8 (·.push e))=treeD w.params (dObj (a.push e) (b + 1)):=by kernel_rfl
  rw [v]
 exact congrArg (λ h=>(⟨h,⟨[]⟩,{},d,os⟩:t0)) u
noncomputable def stD:Stmt:=(behindTheImports PX).getD 24 (.Pass ⟨0,0,0,0⟩)
noncomputable def sufX:List Stmt:=(behindTheImports PX).drop 25
theorem bodyX:behindTheImports PX=K70.pre.sts_7++(K70.pre.sts_61++(K70.pre.sts_80++(K70.pre.sts_99++(K70.pre.sts_123++([stD]++sufX))))):=by kernel_rfl
noncomputable def dKeys:Stmt->List (Option Expr)
 | .Assign _ (.Dict ks _ _) _=>ks
 | _=>[]
noncomputable def dVals:Stmt->List Expr
 | .Assign _ (.Dict _ vs _) _=>vs
 | _=>[]
noncomputable def dPos:Stmt->Pos
 | .Assign _ (.Dict _ _ p) _=>p
 | _=>⟨0,0,0,0⟩
noncomputable def sPos:Stmt->Pos
 | .Assign _ _ p=>p
 | _=>⟨0,0,0,0⟩
noncomputable abbrev p1X:Pos:=sPos stD
noncomputable abbrev p2X:Pos:=dPos stD
noncomputable abbrev p3X:Pos:=⟨52,0,52,5⟩
noncomputable def runX:List (Sem Value×Sem Value):=(((evalEachOpt (dKeys stD) K70.pre.env_1).zip ((evalEach (dVals stD) K70.pre.env_1).map λ v=>do let x <-v;j2b p2X;Y2 x))).filterMap λ x=>x.1.map (·,x.2)
theorem stD_eq:stD=.Assign [.Name "DOERS" p3X] (.Dict (dKeys stD) (dVals stD) p2X) p1X:=by kernel_rfl
theorem evD:u3 (.Dict (dKeys stD) (dVals stD) p2X) K70.pre.env_1=(do j2b p2X;let r <-(do let x <-subDict runX;Y2 (some x));match r with|some x=>Y2 (A1 x)|none=>newDict):=by kernel_rfl
theorem swD:y6 (.Dict (dKeys stD) (dVals stD) p2X) (some (.Name "DOERS" p3X)) p1X.line K70.pre.env_1=Y2 false:=by kernel_rfl
noncomputable def F0X (w:S0) (os:K2):SharedT:=⟨K70.pre.tree_188 w.params,164,{},⟨[]⟩,{},407,os⟩
noncomputable def F1X (w:S0) (os:K2):SharedT:=⟨(K70.pre.tree_188 w.params).ins 164 (dObj #[] 0),165,{},⟨[]⟩,{},407,os⟩
noncomputable def vsX:List (Value×Value):=[(.ref 165,(.ref 109)),(.ref 166,(.ref 116)),(.ref 167,(.ref 109)),(.ref 168,(.ref 123)),(.ref 169,(.ref 130)),(.ref 170,(.ref 137)),(.ref 171,(.ref 144)),(.ref 172,(.ref 149)),(.ref 173,(.ref 156)),(.ref 174,(.ref 109)),(.ref 175,(.ref 116)),(.ref 176,(.ref 163))]
theorem zfy (w:S0):LX 84 (evalPairs runX) w p2X (λ os _ _=>F1X w os) (λ _=>vsX) (λ os _ _=>FX w os (dObj #[] 0) 431) p2X:=by rw [PySem.W.Fast.te1788576489739465902];exact λ os d c K H b a=>by kernel_rfl
noncomputable def F2X (w:S0) (os:K2) (oD:Obj) (tk:Nat):SharedT:=⟨(treeD w.params oD).set 3 (Obj.putName "DOERS" (c0 w.params "DOERS") (.str "DOERS" tk) (.ref 164)),177,{},⟨[]⟩,{},tk + 1,os⟩
theorem zh9 (w:S0) (pos:Pos):LX 6 (bindName K70.pre.env_1 "DOERS" (.ref 164)) w pos (stay w) (λ _=>()) (λ os oD tk=>F2X w os oD tk) pos:=by
 rw [PySem.W.Fast.te7536695828754713326];exact byRow2 "special-get-raises" (P:=λ w=>LX 6 (PySem.W.Fast.tw7536695828754713326 K70.pre.env_1 "DOERS" (.ref 164)) w pos (stay w) (λ _=>()) (λ os oD tk=>F2X w os oD tk) pos)
  (λ w os oD tk K H b a=>by kernel_rfl) (λ w os oD tk K H b a=>by kernel_rfl) w
noncomputable abbrev oDX (P:N0):Obj:=dObj ((allX P).map ent).toArray 12
noncomputable abbrev S2X (w:S0) (os:K2):SharedT:=F2X w os (oDX w.params) 467
theorem stD_go (w:S0) (os:K2) (pos:Pos):GX w 100000 (exec stD K70.pre.env_1) (F0X w os).abs pos .next (S2X w os).abs p3X:=by
 rw [stD_eq,exec_Assign_Name _ _ _ _ _ swD];have l:=Goes.loop (p:=PX) (w:=w) (ann:=annX) (code:=cdX) (q:=qX) (pos:=p2X) (famX w os) (N:=12) (allX w.params) (show 12<=12 by decide) (by decide) (show ([165,166,167,168,169,170,171,172,173,174,175,176]:List Nat).Nodup by decide) (allX_q w os p2X) (zl6 w os p2X) (allX_h w os p2X) (allX w.params) [] 431 rfl;have b:=(zfy w).goes os (dObj #[] 0) 0;have d:GX w _ (subDict runX) (F0X w os).abs p2X 164 (FX w os (oDX w.params) 467).abs p2X:=
  Goes.subDict (by decide +kernel) (absHeap_size _ _ _) (show GX w _ (evalPairs runX) _ p2X vsX _ p2X from by
   have e:({ (F0X w os).abs with heap:=(F0X w os).abs.heap.push { cls:=.type "dict",data:=.dict #[] } }:t0)=(F1X w os).abs:=by have i:=absHeap_ins (t:=K70.pre.tree_188 w.params) (n:=164) (life:={}) (o:=dObj #[] 0) (by kernel_rfl);exact congrArg (λ h=>(⟨h,⟨[]⟩,{},407,os⟩:t0)) i.symm
   rw [e];exact b) l
 refine (Goes.bind Goes.at' (Goes.bind (a:=A1 164) (pos':=p2X) ?_ (Goes.bind Goes.at' (Goes.bind (f:=λ _=>Y2 Flow.next) ((zh9 w p3X).goes os (oDX w.params) 467) Goes.pure)))).le (c:=1 + (((1 + ((1 + (84 + 12 * (25 + (2 + 3 + 12 * (3 + 20 + 10)) + 4))) + 0 + 0)) + (1 + (6 + 0))))) (by decide);rw [evD];exact Goes.bind Goes.at' (Goes.bind (Goes.bind d Goes.pure) Goes.pure)
noncomputable abbrev pLX:Pos:=⟨373,0,390,15⟩
noncomputable def R3X (w:S0) (os:K2):Option (Flow×SharedT×Code×Pos):=PySem.W.Fast.tw10110043849684766642 P7 PX w 11 annX 1 1798 (S2X w os) ⟨(PySem.W.Fast.tw12563942051412417395 sufX K70.pre.env_1).wrap doneF deadEnd id id,cdX,p3X,BX⟩
noncomputable def S3X (w:S0) (os:K2):SharedT:=match R3X w os with|some r=>r.2.1|none=>S2X w os
theorem R3X_eq (w:S0) (os:K2):R3X w os=some (.next,S3X w os,cdX,pLX):=by kernel_rfl
theorem zlm (w:S0) (os:K2):segRun X2 PX w 11 annX 1 1798 (S2X w os).abs (piecesOf sufX K70.pre.env_1 cdX p3X BX)=some (.next,(S3X w os).abs,cdX,pLX):=by have e:=R3X_eq w os;unfold R3X at e;rw [<-PySem.W.Fast.te10110043849684766642,<-R4,<-PySem.W.Fast.te12563942051412417395] at e;exact segRun_of e
noncomputable def S0X (w:S0) (os:K2):SharedT:=⟨K70.pre.tree_6 w.params,15,{},⟨[]⟩,{},187,os⟩
theorem pre_go (w:S0) (os:K2):topGo X2 PX w 11 annX 12 ⟨boot_heap w.params,Array.mk [],boot_drawn,boot_toks,os⟩ (topStub PX)=some ((S0X w os).abs,⟨denote X2 cdX,cdX,qX,BX⟩):=by rw [PySem.W.Fast.te15667345088766844465,R4,PySem.W.Fast.te11892475500146522536];kernel_rfl
theorem zki (w:S0) (os:K2) :∃M,M<=200000/\topRun X2 PX w 11 annX M ⟨boot_heap w.params,Array.mk [],boot_drawn,boot_toks,os⟩ (topStub PX)=some (S3X w os).abs:=by have c:topRun X2 PX w 11 annX 2 (S3X w os).abs (restOf [] K70.pre.env_1 cdX pLX BX)=some (S3X w os).abs:=rfl;have a:=piece_app (zlm w os) c;rw [D2] at a;obtain ⟨M,h,g⟩:=zgm (Goes.execs1 (stD_go w os ⟨48,0,51,21⟩)) a;have b:=K70.pre.chain PX (behindTheImports PX) w os _ M _ g;rw [<-bodyX] at b;have d:segRun X2 PX w 11 annX 1 1 (S0X w os).abs (blockOf (behindTheImports PX) K70.pre.env_1 cdX qX BX)=some (.next,(S0X w os).abs,cdX,qX):=rfl;have f:=piece_block d b;have e:=go_top (pre_go w os) f;refine ⟨_,?_,e⟩;simp only [Nat.add_eq];omega
noncomputable def looseX:List Str:=[("_wall" : Str),("GREATEST_WORTH" : Str),("is_whole" : Str),("is_within" : Str),("is_worth" : Str),("is_tuple_of" : Str),("TaleError" : Str),("NoDeed" : Str),("NoTale" : Str),("NoStrictness" : Str),("FIRST_STATES" : Str),("WORTHS_OF_VERBS" : Str),("read_state" : Str),("write_state" : Str),("add_to_number" : Str),("put_behind" : Str),("take_first" : Str),("put_into_set" : Str),("cut_from_set" : Str),("has_in_set" : Str),("swap_state" : Str),("DOERS" : Str),("is_kind" : Str),("first_state" : Str),("is_deed" : Str),("do" : Str),("deeds" : Str),("STRICTNESSES" : Str),("has_to" : Str),("check_strictness" : Str),("goes_ahead" : Str),("Candidate" : Str),("Board" : Str),("step_of" : Str),("ended_numbers" : Str),("holds_all" : Str),("first_place" : Str),("all_places" : Str),("next_layer" : Str),("judged" : Str),("beginning" : Str),("is_bad" : Str),("bad_beginning" : Str),("stuck_paper" : Str),("_law_cell_at" : Str),("_law_take" : Str),("_law_do" : Str),("_law_first" : Str),("_law_worth" : Str),("_law_verb" : Str),("_law_things" : Str),("_law_applied" : Str),("_law_tale" : Str),("_law_deeds" : Str),("_law_is_ahead" : Str),("_law_may_be_next" : Str),("_law_nexts" : Str),("_law_is_full" : Str),("_law_places" : Str),("_law_is_good" : Str),("_law_explains" : Str)]
noncomputable def viewX:Program:={ PX with main:={ PX.main with body:=(PX.main.body[71]?).toList } }
noncomputable def top (i:Nat):Stmt:=PX.main.body.getD i (.Pass ⟨0,0,0,0⟩)
noncomputable def subS (s:Stmt) (j:Nat):Stmt:=match s with
 | .ClassDef _ _ _ b _ _ _ _ _ _ _=>b.getD j s
 | _=>s
noncomputable def asX:List Addr:=[3,27,28,34,35,41,42,48,49,50,52,57,58,59,63,65,70,71,72,75,77,82,83,84,87,89,94,95,96,99,100,101,102,108,109,115,116,122,123,129,130,136,137,143,144,148,149,155,156,162,163,164,165,166,167,168,169,170,171,172,173,174,175,176,182,183,189,190,194,195,201,202,208,209,210,216,217,223,224,230,231,232,234,242,243,249,250,251,252,253,258,260,268,269,275,276,282,283,291,292,293,303,304,308,309,313,314,318,319,325,326,332,333,339,340,346,347,353,354,360,361,367,368,374,375,381,382,386,387,391,392,398,399,405,406,410,411,415,416,420,421,427,428,434,435,441,442,448,449,453,454,470,471,477,478]
noncomputable def KX (P:N0):Frag:=[
 (3,⟨(.type "dict"),none,(.dict #[⟨(c0 P "__name__"),(.str "__name__" 165),(.str "law_talejudge_k70_whole_beginnings_alike" 760)⟩,⟨(c0 P "__doc__"),(.str "__doc__" 166),.none⟩,⟨(c0 P "__package__"),(.str "__package__" 167),.none⟩,⟨(c0 P "__loader__"),(.str "__loader__" 168),(.builtin "__main__.__loader__#opaque")⟩,⟨(c0 P "__spec__"),(.str "__spec__" 169),.none⟩,kR P "__annotations__" 170 6,kR P "__builtins__" 171 4,⟨(c0 P "__file__"),(.str "__file__" 173),(.str "/claim/cut.py" 172)⟩,⟨(c0 P "__cached__"),(.str "__cached__" 174),.none⟩,kR P "_wall" 193 21,⟨(c0 P "GREATEST_WORTH"),(.str "GREATEST_WORTH" 197),(.int (1000000000) 196)⟩,kR P "is_whole" 204 28,kR P "is_within" 212 35,kR P "is_worth" 219 42,kR P "is_tuple_of" 227 49,kR P "TaleError" 247 59,kR P "NoDeed" 263 72,kR P "NoTale" 279 84,kR P "NoStrictness" 295 96,kR P "FIRST_STATES" 311 99,kR P "WORTHS_OF_VERBS" 336 102,kR P "read_state" 344 109,kR P "write_state" 352 116,kR P "add_to_number" 360 123,kR P "put_behind" 368 130,kR P "take_first" 376 137,kR P "put_into_set" 384 144,kR P "cut_from_set" 390 149,kR P "has_in_set" 398 156,kR P "swap_state" 406 163,kR P "DOERS" 467 164,kR P "is_kind" 474 183,kR P "first_state" 481 190,kR P "is_deed" 487 195,kR P "do" 498 202,kR P "deeds" 513 209,kR P "STRICTNESSES" 519 210,kR P "has_to" 533 217,kR P "check_strictness" 540 224,kR P "goes_ahead" 549 231,kR P "Candidate" 595 253,kR P "Board" 652 293,kR P "step_of" 664 304,kR P "ended_numbers" 670 309,kR P "holds_all" 676 314,kR P "first_place" 682 319,kR P "all_places" 693 326,kR P "next_layer" 704 333,kR P "judged" 721 340,kR P "beginning" 731 347,kR P "is_bad" 739 354,kR P "bad_beginning" 749 361,kR P "stuck_paper" 759 368,kR P "_law_cell_at" 769 375,kR P "_law_take" 779 382,kR P "_law_do" 785 387,kR P "_law_first" 791 392,kR P "_law_worth" 798 399,kR P "_law_verb" 808 406,kR P "_law_things" 814 411,kR P "_law_applied" 820 416,kR P "_law_tale" 826 421,kR P "_law_deeds" 837 428,kR P "_law_is_ahead" 846 435,kR P "_law_may_be_next" 857 442,kR P "_law_nexts" 873 449,kR P "_law_is_full" 879 454,kR P "_law_places" 894 461,kR P "_law_is_good" 900 466,kR P "_law_explains" 906 471,kR P "law" 919 478] 71),#[]⟩),
 (27,cO "is_whole" "is_whole" 198 6 1 22 202),
 (28,fO "is_whole" "is_whole" (top 3) "talejudge.basics" 194 27),
 (34,cO "is_within" "is_within" 205 8 2 29 210),
 (35,fO "is_within" "is_within" (top 4) "talejudge.basics" 194 34),
 (41,cO "is_worth" "is_worth" 213 10 1 36 217),
 (42,fO "is_worth" "is_worth" (top 5) "talejudge.basics" 194 41),
 (48,cO "is_tuple_of" "is_tuple_of" 220 12 2 43 225),
 (49,fO "is_tuple_of" "is_tuple_of" (top 6) "talejudge.basics" 194 48),
 (50,⟨(.type "tuple"),none,(.seq #[(.type "ValueError")] 0),#[]⟩),
 (52,⟨(.type "dict"),none,(.dict #[⟨(c0 P "__module__"),(.str "__module__" 237),(.str "talejudge.errors" 228)⟩,⟨(c0 P "__qualname__"),(.str "__qualname__" 239),(.str "TaleError" 238)⟩,⟨(c0 P "__firstlineno__"),(.str "__firstlineno__" 241),(.int (15) 240)⟩,kR P "__static_attributes__" 242 57] 4),#[]⟩),
 (57,⟨(.type "tuple"),none,(.seq #[] 0),#[]⟩),
 (58,⟨(.type "dict"),none,(.dict #[⟨(c0 P "__module__"),(.str "__module__" 237),(.str "talejudge.errors" 228)⟩,⟨(c0 P "__firstlineno__"),(.str "__firstlineno__" 241),(.int (15) 240)⟩,kR P "__static_attributes__" 242 57,kR P "__weakref__" 244 60,⟨(c0 P "__doc__"),(.str "__doc__" 245),.none⟩] 3),#[]⟩),
 (59,⟨(.type "type"),none,(.cls ⟨"TaleError",[(.type "ValueError")],[(.ref 59),(.type "ValueError"),(.type "Exception"),(.type "BaseException"),(.type "object")],58,"TaleError",true,[],[(.ref 72),(.ref 84),(.ref 96)],false,none,false⟩),#[some (.ref 50),none,some (.str "TaleError" 230),some (.str "TaleError" 238),some (.builtin "ValueError.__new__"),some (.bool true)]⟩),
 (63,⟨(.type "tuple"),none,(.seq #[(.ref 59)] 0),#[]⟩),
 (65,⟨(.type "dict"),none,(.dict #[⟨(c0 P "__module__"),(.str "__module__" 255),(.str "talejudge.errors" 228)⟩,⟨(c0 P "__qualname__"),(.str "__qualname__" 257),(.str "NoDeed" 256)⟩,⟨(c0 P "__firstlineno__"),(.str "__firstlineno__" 259),(.int (17) 258)⟩,kR P "__static_attributes__" 260 70] 4),#[]⟩),
 (70,⟨(.type "tuple"),none,(.seq #[] 0),#[]⟩),
 (71,⟨(.type "dict"),none,(.dict #[⟨(c0 P "__module__"),(.str "__module__" 255),(.str "talejudge.errors" 228)⟩,⟨(c0 P "__firstlineno__"),(.str "__firstlineno__" 259),(.int (17) 258)⟩,kR P "__static_attributes__" 260 70,⟨(c0 P "__doc__"),(.str "__doc__" 261),.none⟩] 2),#[]⟩),
 (72,⟨(.type "type"),none,(.cls ⟨"NoDeed",[(.ref 59)],[(.ref 72),(.ref 59),(.type "ValueError"),(.type "Exception"),(.type "BaseException"),(.type "object")],71,"NoDeed",true,[],[],false,none,false⟩),#[some (.ref 63),none,some (.str "NoDeed" 248),some (.str "NoDeed" 256),some (.builtin "ValueError.__new__"),some (.bool true)]⟩),
 (75,⟨(.type "tuple"),none,(.seq #[(.ref 59)] 0),#[]⟩),
 (77,⟨(.type "dict"),none,(.dict #[⟨(c0 P "__module__"),(.str "__module__" 271),(.str "talejudge.errors" 228)⟩,⟨(c0 P "__qualname__"),(.str "__qualname__" 273),(.str "NoTale" 272)⟩,⟨(c0 P "__firstlineno__"),(.str "__firstlineno__" 275),(.int (19) 274)⟩,kR P "__static_attributes__" 276 82] 4),#[]⟩),
 (82,⟨(.type "tuple"),none,(.seq #[] 0),#[]⟩),
 (83,⟨(.type "dict"),none,(.dict #[⟨(c0 P "__module__"),(.str "__module__" 271),(.str "talejudge.errors" 228)⟩,⟨(c0 P "__firstlineno__"),(.str "__firstlineno__" 275),(.int (19) 274)⟩,kR P "__static_attributes__" 276 82,⟨(c0 P "__doc__"),(.str "__doc__" 277),.none⟩] 2),#[]⟩),
 (84,⟨(.type "type"),none,(.cls ⟨"NoTale",[(.ref 59)],[(.ref 84),(.ref 59),(.type "ValueError"),(.type "Exception"),(.type "BaseException"),(.type "object")],83,"NoTale",true,[],[],false,none,false⟩),#[some (.ref 75),none,some (.str "NoTale" 264),some (.str "NoTale" 272),some (.builtin "ValueError.__new__"),some (.bool true)]⟩),
 (87,⟨(.type "tuple"),none,(.seq #[(.ref 59)] 0),#[]⟩),
 (89,⟨(.type "dict"),none,(.dict #[⟨(c0 P "__module__"),(.str "__module__" 287),(.str "talejudge.errors" 228)⟩,⟨(c0 P "__qualname__"),(.str "__qualname__" 289),(.str "NoStrictness" 288)⟩,⟨(c0 P "__firstlineno__"),(.str "__firstlineno__" 291),(.int (21) 290)⟩,kR P "__static_attributes__" 292 94] 4),#[]⟩),
 (94,⟨(.type "tuple"),none,(.seq #[] 0),#[]⟩),
 (95,⟨(.type "dict"),none,(.dict #[⟨(c0 P "__module__"),(.str "__module__" 287),(.str "talejudge.errors" 228)⟩,⟨(c0 P "__firstlineno__"),(.str "__firstlineno__" 291),(.int (21) 290)⟩,kR P "__static_attributes__" 292 94,⟨(c0 P "__doc__"),(.str "__doc__" 293),.none⟩] 2),#[]⟩),
 (96,⟨(.type "type"),none,(.cls ⟨"NoStrictness",[(.ref 59)],[(.ref 96),(.ref 59),(.type "ValueError"),(.type "Exception"),(.type "BaseException"),(.type "object")],95,"NoStrictness",true,[],[],false,none,false⟩),#[some (.ref 87),none,some (.str "NoStrictness" 280),some (.str "NoStrictness" 288),some (.builtin "ValueError.__new__"),some (.bool true)]⟩),
 (99,⟨(.type "dict"),none,(.dict #[⟨(c0 P "register"),(.str "register" 298),(.int (0) 299)⟩,⟨(c0 P "counter"),(.str "counter" 300),(.int (0) 301)⟩,kR P "queue" 302 100,kR P "set" 303 101,⟨(c0 P "cell"),(.str "cell" 304),(.int (0) 305)⟩] 5),#[]⟩),
 (100,⟨(.type "tuple"),none,(.seq #[] 0),#[]⟩),
 (101,⟨(.type "tuple"),none,(.seq #[] 0),#[]⟩),
 (102,⟨(.type "dict"),none,(.dict #[⟨(c0 P "read"),(.str "read" 312),(.int (0) 313)⟩,⟨(c0 P "take"),(.str "take" 314),(.int (0) 315)⟩,⟨(c0 P "write"),(.str "write" 316),(.int (1) 317)⟩,⟨(c0 P "add"),(.str "add" 318),(.int (1) 319)⟩,⟨(c0 P "put"),(.str "put" 320),(.int (1) 321)⟩,⟨(c0 P "cut"),(.str "cut" 322),(.int (1) 323)⟩,⟨(c0 P "has"),(.str "has" 324),(.int (1) 325)⟩,⟨(c0 P "swap"),(.str "swap" 326),(.int (2) 327)⟩] 8),#[]⟩),
 (108,cO "read_state" "read_state" 337 26 2 103 342),
 (109,fO "read_state" "read_state" (top 15) "talejudge.store" 296 108),
 (115,cO "write_state" "write_state" 345 28 2 110 350),
 (116,fO "write_state" "write_state" (top 16) "talejudge.store" 296 115),
 (122,cO "add_to_number" "add_to_number" 353 30 2 117 358),
 (123,fO "add_to_number" "add_to_number" (top 17) "talejudge.store" 296 122),
 (129,cO "put_behind" "put_behind" 361 32 2 124 366),
 (130,fO "put_behind" "put_behind" (top 18) "talejudge.store" 296 129),
 (136,cO "take_first" "take_first" 369 34 2 131 374),
 (137,fO "take_first" "take_first" (top 19) "talejudge.store" 296 136),
 (143,cO "put_into_set" "put_into_set" 377 38 2 138 382),
 (144,fO "put_into_set" "put_into_set" (top 20) "talejudge.store" 296 143),
 (148,cP "cut_from_set" "cut_from_set" 385 42 2 145 388),
 (149,fO "cut_from_set" "cut_from_set" (top 21) "talejudge.store" 296 148),
 (155,cO "has_in_set" "has_in_set" 391 46 2 150 396),
 (156,fO "has_in_set" "has_in_set" (top 22) "talejudge.store" 296 155),
 (162,cO "swap_state" "swap_state" 399 48 2 157 404),
 (163,fO "swap_state" "swap_state" (top 23) "talejudge.store" 296 162),
 (164,⟨(.type "dict"),none,(.dict #[⟨(G1 (o0 [c0 P "register",c0 P "read"])),(.ref 165),(.ref 109)⟩,⟨(G1 (o0 [c0 P "register",c0 P "write"])),(.ref 166),(.ref 116)⟩,⟨(G1 (o0 [c0 P "counter",c0 P "read"])),(.ref 167),(.ref 109)⟩,⟨(G1 (o0 [c0 P "counter",c0 P "add"])),(.ref 168),(.ref 123)⟩,⟨(G1 (o0 [c0 P "queue",c0 P "put"])),(.ref 169),(.ref 130)⟩,⟨(G1 (o0 [c0 P "queue",c0 P "take"])),(.ref 170),(.ref 137)⟩,⟨(G1 (o0 [c0 P "set",c0 P "put"])),(.ref 171),(.ref 144)⟩,⟨(G1 (o0 [c0 P "set",c0 P "cut"])),(.ref 172),(.ref 149)⟩,⟨(G1 (o0 [c0 P "set",c0 P "has"])),(.ref 173),(.ref 156)⟩,⟨(G1 (o0 [c0 P "cell",c0 P "read"])),(.ref 174),(.ref 109)⟩,⟨(G1 (o0 [c0 P "cell",c0 P "write"])),(.ref 175),(.ref 116)⟩,⟨(G1 (o0 [c0 P "cell",c0 P "swap"])),(.ref 176),(.ref 163)⟩] 12),#[]⟩),
 (165,⟨(.type "tuple"),none,(.seq #[(.str "register" 407),(.str "read" 408)] 0),#[]⟩),
 (166,⟨(.type "tuple"),none,(.seq #[(.str "register" 409),(.str "write" 410)] 0),#[]⟩),
 (167,⟨(.type "tuple"),none,(.seq #[(.str "counter" 411),(.str "read" 412)] 0),#[]⟩),
 (168,⟨(.type "tuple"),none,(.seq #[(.str "counter" 413),(.str "add" 414)] 0),#[]⟩),
 (169,⟨(.type "tuple"),none,(.seq #[(.str "queue" 415),(.str "put" 416)] 0),#[]⟩),
 (170,⟨(.type "tuple"),none,(.seq #[(.str "queue" 417),(.str "take" 418)] 0),#[]⟩),
 (171,⟨(.type "tuple"),none,(.seq #[(.str "set" 419),(.str "put" 420)] 0),#[]⟩),
 (172,⟨(.type "tuple"),none,(.seq #[(.str "set" 421),(.str "cut" 422)] 0),#[]⟩),
 (173,⟨(.type "tuple"),none,(.seq #[(.str "set" 423),(.str "has" 424)] 0),#[]⟩),
 (174,⟨(.type "tuple"),none,(.seq #[(.str "cell" 425),(.str "read" 426)] 0),#[]⟩),
 (175,⟨(.type "tuple"),none,(.seq #[(.str "cell" 427),(.str "write" 428)] 0),#[]⟩),
 (176,⟨(.type "tuple"),none,(.seq #[(.str "cell" 429),(.str "swap" 430)] 0),#[]⟩),
 (182,cO "is_kind" "is_kind" 468 53 1 177 472),
 (183,fO "is_kind" "is_kind" (top 25) "talejudge.store" 296 182),
 (189,cO "first_state" "first_state" 475 55 1 184 479),
 (190,fO "first_state" "first_state" (top 26) "talejudge.store" 296 189),
 (194,cP "is_deed" "is_deed" 482 59 3 191 485),
 (195,fO "is_deed" "is_deed" (top 27) "talejudge.store" 296 194),
 (201,cO "do" "do" 488 68 4 196 496),
 (202,fO "do" "do" (top 28) "talejudge.store" 296 201),
 (208,cO "deeds" "deeds" 501 74 1 203 511),
 (209,fO "deeds" "deeds" (top 30) "talejudge.tales" 499 208),
 (210,⟨(.type "tuple"),none,(.seq #[(.str "strict" 516),(.str "hands" 517),(.str "bare" 518)] 0),#[]⟩),
 (216,cO "has_to" "has_to" 520 88 2 211 531),
 (217,fO "has_to" "has_to" (top 33) "talejudge.orders" 514 216),
 (223,cO "check_strictness" "check_strictness" 534 97 1 218 538),
 (224,fO "check_strictness" "check_strictness" (top 34) "talejudge.orders" 514 223),
 (230,cO "goes_ahead" "goes_ahead" 541 100 3 225 547),
 (231,fO "goes_ahead" "goes_ahead" (top 35) "talejudge.orders" 514 230),
 (232,⟨(.type "tuple"),none,(.seq #[] 0),#[]⟩),
 (234,⟨(.type "dict"),none,(.dict #[⟨(c0 P "__module__"),(.str "__module__" 559),(.str "talejudge.places" 550)⟩,⟨(c0 P "__qualname__"),(.str "__qualname__" 561),(.str "Candidate" 560)⟩,⟨(c0 P "__firstlineno__"),(.str "__firstlineno__" 563),(.int (107) 562)⟩,kR P "__init__" 569 243,kR P "may_stand" 579 250,kR P "__static_attributes__" 588 251] 6),#[]⟩),
 (242,cP "__init__" "Candidate.__init__" 564 109 6 239 567),
 (243,fO "__init__" "Candidate.__init__" (subS (top 37) 0) "talejudge.places" 550 242),
 (249,cO "may_stand" "Candidate.may_stand" 570 119 2 244 577),
 (250,fO "may_stand" "Candidate.may_stand" (subS (top 37) 1) "talejudge.places" 550 249),
 (251,⟨(.type "tuple"),none,(.seq #[(.str "aheads" 580),(.str "answer" 581),(.str "behinds" 582),(.str "kind" 583),(.str "number" 584),(.str "thing" 585),(.str "verb" 586),(.str "worth" 587)] 0),#[]⟩),
 (252,⟨(.type "dict"),none,(.dict #[⟨(c0 P "__module__"),(.str "__module__" 559),(.str "talejudge.places" 550)⟩,⟨(c0 P "__firstlineno__"),(.str "__firstlineno__" 563),(.int (107) 562)⟩,kR P "__init__" 569 243,kR P "may_stand" 579 250,kR P "__static_attributes__" 588 251,kR P "__dict__" 590 254,kR P "__weakref__" 592 255,⟨(c0 P "__doc__"),(.str "__doc__" 593),.none⟩] 4),#[]⟩),
 (253,⟨(.type "type"),none,(.cls ⟨"Candidate",[(.type "object")],[(.ref 253),(.type "object")],252,"Candidate",true,[],[],false,none,false⟩),#[none,none,some (.str "Candidate" 552),some (.str "Candidate" 560),some (.builtin "object.__new__"),some (.bool true)]⟩),
 (258,⟨(.type "tuple"),none,(.seq #[] 0),#[]⟩),
 (260,⟨(.type "dict"),none,(.dict #[⟨(c0 P "__module__"),(.str "__module__" 603),(.str "talejudge.places" 550)⟩,⟨(c0 P "__qualname__"),(.str "__qualname__" 605),(.str "Board" 604)⟩,⟨(c0 P "__firstlineno__"),(.str "__firstlineno__" 607),(.int (129) 606)⟩,kR P "__init__" 613 269,kR P "steps_from" 624 276,kR P "ends_at" 632 283,kR P "has_place" 640 290,kR P "__static_attributes__" 645 291] 8),#[]⟩),
 (268,cP "__init__" "Board.__init__" 608 131 3 265 611),
 (269,fO "__init__" "Board.__init__" (subS (top 38) 0) "talejudge.places" 550 268),
 (275,cO "steps_from" "Board.steps_from" 614 143 2 270 622),
 (276,fO "steps_from" "Board.steps_from" (subS (top 38) 1) "talejudge.places" 550 275),
 (282,cO "ends_at" "Board.ends_at" 625 152 2 277 630),
 (283,fO "ends_at" "Board.ends_at" (subS (top 38) 2) "talejudge.places" 550 282),
 (291,⟨(.type "tuple"),none,(.seq #[(.str "candidates" 641),(.str "ended" 642),(.str "first" 643),(.str "kinds" 644)] 0),#[]⟩),
 (292,⟨(.type "dict"),none,(.dict #[⟨(c0 P "__module__"),(.str "__module__" 603),(.str "talejudge.places" 550)⟩,⟨(c0 P "__firstlineno__"),(.str "__firstlineno__" 607),(.int (129) 606)⟩,kR P "__init__" 613 269,kR P "steps_from" 624 276,kR P "ends_at" 632 283,kR P "has_place" 640 290,kR P "__static_attributes__" 645 291,kR P "__dict__" 647 294,kR P "__weakref__" 649 295,⟨(c0 P "__doc__"),(.str "__doc__" 650),.none⟩] 4),#[]⟩),
 (293,⟨(.type "type"),none,(.cls ⟨"Board",[(.type "object")],[(.ref 293),(.type "object")],292,"Board",true,[],[],false,none,false⟩),#[none,none,some (.str "Board" 596),some (.str "Board" 604),some (.builtin "object.__new__"),some (.bool true)]⟩),
 (303,cO "step_of" "step_of" 653 157 2 298 662),
 (304,fO "step_of" "step_of" (top 39) "talejudge.places" 550 303),
 (308,cP "ended_numbers" "ended_numbers" 665 163 1 305 668),
 (309,fO "ended_numbers" "ended_numbers" (top 40) "talejudge.places" 550 308),
 (313,cP "holds_all" "holds_all" 671 165 2 310 674),
 (314,fO "holds_all" "holds_all" (top 41) "talejudge.places" 550 313),
 (318,cP "first_place" "first_place" 677 167 1 315 680),
 (319,fO "first_place" "first_place" (top 42) "talejudge.places" 550 318),
 (325,cO "all_places" "all_places" 683 169 2 320 691),
 (326,fO "all_places" "all_places" (top 43) "talejudge.places" 550 325),
 (332,cO "next_layer" "next_layer" 694 177 2 327 702),
 (333,fO "next_layer" "next_layer" (top 44) "talejudge.places" 550 332),
 (339,cO "judged" "judged" 707 184 2 334 719),
 (340,fO "judged" "judged" (top 46) "talejudge.judge" 705 339),
 (346,cO "beginning" "beginning" 724 198 2 341 729),
 (347,fO "beginning" "beginning" (top 48) "talejudge.beginnings" 722 346),
 (353,cO "is_bad" "is_bad" 732 202 2 348 737),
 (354,fO "is_bad" "is_bad" (top 49) "talejudge.beginnings" 722 353),
 (360,cO "bad_beginning" "bad_beginning" 740 204 1 355 747),
 (361,fO "bad_beginning" "bad_beginning" (top 50) "talejudge.beginnings" 722 360),
 (367,cO "stuck_paper" "stuck_paper" 752 217 2 362 757),
 (368,fO "stuck_paper" "stuck_paper" (top 52) "talejudge.stuck" 750 367),
 (374,cO "_law_cell_at" "_law_cell_at" 762 222 2 369 767),
 (375,fL "_law_cell_at" "_law_cell_at" (top 54) 374),
 (381,cO "_law_take" "_law_take" 770 226 2 376 777),
 (382,fL "_law_take" "_law_take" (top 55) 381),
 (386,cP "_law_do" "_law_do" 780 235 4 383 783),
 (387,fL "_law_do" "_law_do" (top 56) 386),
 (391,cP "_law_first" "_law_first" 786 258 1 388 789),
 (392,fL "_law_first" "_law_first" (top 57) 391),
 (398,cO "_law_worth" "_law_worth" 792 260 1 393 796),
 (399,fL "_law_worth" "_law_worth" (top 58) 398),
 (405,cO "_law_verb" "_law_verb" 799 262 2 400 806),
 (406,fL "_law_verb" "_law_verb" (top 59) 405),
 (410,cP "_law_things" "_law_things" 809 272 1 407 812),
 (411,fL "_law_things" "_law_things" (top 60) 410),
 (415,cP "_law_applied" "_law_applied" 815 278 3 412 818),
 (416,fL "_law_applied" "_law_applied" (top 61) 415),
 (420,cP "_law_tale" "_law_tale" 821 283 2 417 824),
 (421,fL "_law_tale" "_law_tale" (top 62) 420),
 (427,cO "_law_deeds" "_law_deeds" 827 311 1 422 835),
 (428,fL "_law_deeds" "_law_deeds" (top 63) 427),
 (434,cO "_law_is_ahead" "_law_is_ahead" 838 323 3 429 844),
 (435,fL "_law_is_ahead" "_law_is_ahead" (top 64) 434),
 (441,cO "_law_may_be_next" "_law_may_be_next" 847 327 4 436 855),
 (442,fL "_law_may_be_next" "_law_may_be_next" (top 65) 441),
 (448,cO "_law_nexts" "_law_nexts" 858 334 4 443 871),
 (449,fL "_law_nexts" "_law_nexts" (top 66) 448),
 (453,cP "_law_is_full" "_law_is_full" 874 344 2 450 877),
 (454,fL "_law_is_full" "_law_is_full" (top 67) 453),
 (470,cP "_law_explains" "_law_explains" 901 360 3 467 904),
 (471,fL "_law_explains" "_law_explains" (top 70) 470),
 (477,cO "law" "law" 907 373 1 472 917),
 (478,fL "law" "law" (top 71) 477)]
noncomputable def HX:Hook:=kHook KX asX (λ _=>by kernel_rfl)
noncomputable abbrev XtX:t0->Bool:=λ s=>xlAt viewX [] s && recOk (RowW.records (OpenRow.toRowW PySem.Challenge.rw_talejudge_k70_whole_beginnings_alike.row)) s
theorem look1 (w:S0) (os:K2):(staticsOk (U6 PX.main.body) (boot_heap w.params) (S3X w os).abs.heap && namesBound PX (S3X w os).abs.heap && gensDone (S3X w os).abs && laidKept (boot_heap w.params) (S3X w os).abs.heap)=true:=by kernel_rfl
theorem look2 (w:S0) (os:K2):openSeen viewX looseX (U6 PX.main.body) XtX true (S3X w os).abs=openGood viewX looseX:=by rw [PySem.W.Fast.te4187177175401517315];kernel_rfl
theorem look3 (w:S0) (os:K2):Hook.obs HX (S3X w os).abs=Hook.val HX w:=by kernel_rfl
theorem leftX:LeftO PX viewX looseX XtX (Hook.obs HX) (Hook.val HX) 200000:=
 zkt (H₀:=boot_heap) (gs₀:=Array.mk []) (boot_open (by kernel_rfl) (by decide) (λ s=>rfl)) (λ w=>by kernel_rfl) zki look1 look2 look3
end K70
set_option maxHeartbeats 4000000
namespace L2
open PySem PySem.Spec PyProof.Rows
theorem FnScope.k {N P:List Str} {sc:Scope} (a:sc.kind=.function:=by exact rfl) (b:sc.isCoroutine=false:=by exact rfl) (c:sc.isGenerator=false:=by exact rfl) (d:N.Nodup:=by decide +kernel) (e:N.take P.length=P:=by exact rfl) (f :∀x∈P,sc.names.lookup x=some .local\/sc.names.lookup x=some .cell:=by decide +kernel) (g :∀y∈sc.names,y.2≠.free:=by decide +kernel):FnScope N P sc:=⟨a,b,c,d,e,f,g⟩
theorem newA {H:Hp} {p:Addr} (o:HO) (h:H p=none) :∃H',H'=upd H p o/\Same H H'/\H' p=some o:=⟨_,rfl,Same.upd h,upd_same⟩
theorem iteK {c A B:Prop} [Decidable c] (h:B) (hc:¬ c:=by decide +kernel):if c then A else B:=iteN hc h
theorem pg_cn {X:Cx} {scope:Scope} {cl:List (Str×Addr)} {N:List Str} {C:Addr} {s₂:t0} {H₂:Hp} {fp:List Addr} {x:Str} {px:Pos} (i:Nat) (hN:N.Nodup:=by decide +kernel) (hi:N[i]? = some x:=by exact rfl) (hx:scope.names.lookup x=some .local:=by exact rfl):PG (cxComp X scope cl N C s₂ H₂ fp) (.Name x px) (gName i):=zkk i hN hi hx
theorem pe_cg {X:Cx} {xs:List Str} {tg:Expr} {g:TG} {pos:Pos} {elt iter:Expr} {ifs:List Expr} {scope:Scope} {fr:List (Nat×Str)} {wi:TI} {tc:TT} {te:TE} (hi:PI X tg iter wi)
  (hg :∀cl C s₂ H₂ fp,PG (cxComp X scope cl (xs++fr.map (·.2)) C s₂ H₂ fp) tg g)
  (ht :∀cl C s₂ H₂ fp,PF (cxComp X scope cl (xs++fr.map (·.2)) C s₂ H₂ fp) ifs tc) (he :∀cl C s₂ H₂ fp,PE (cxComp X scope cl (xs++fr.map (·.2)) C s₂ H₂ fp) elt te) (hcalm:X.calm=true:=by exact rfl)
  (hfr :∀p∈fr,X.N[p.1]? = some p.2/\(X.env.kindOf p.2=some .cell\/X.env.kindOf p.2=some .free):=by first|exact λ _ z=>absurd z A0|(intro p hp;obtain rfl:=List.mem_singleton.mp hp;first|exact ⟨rfl,.inl rfl⟩|exact ⟨rfl,.inr rfl⟩))
  (hin:(scope.names.all λ y=>y.2 != V1 || fr.any λ p=>p.2 == y.1)=true:=by decide +kernel)
  (hfs :∀p∈fr,(p.2,V1)∈scope.names/\((V7 scope X.env).names.lookup p.2=some .cell\/(V7 scope X.env).names.lookup p.2=some .free):=by first|exact λ _ z=>absurd z A0|(intro p hp;obtain rfl:=List.mem_singleton.mp hp;exact ⟨by decide +kernel,by first|exact .inl rfl|exact .inr rfl⟩))
  (hcell :∀y∈scope.names,y.2≠NameKind.cell:=by decide +kernel) (hkind:scope.kind=.function:=by exact rfl) (hnames :∀y∈scope.names,y.2=NameKind.local->scope.names.lookup y.1=some .local:=by decide +kernel)
  (hs :∀x,Y4 iter X.env x=Y2 x:=by intro _;rfl):PE X (.ListComp elt [⟨tg,iter,ifs,0⟩] scope pos) (tCompG wi xs.length fr g tc te):=
 zgd hcalm hi hfr (λ y a e=>by
  have h:=List.all_eq_true.mp hin y a;rw [e] at h;obtain ⟨p,hp,z⟩:=List.any_eq_true.mp (show fr.any (λ p=>p.2 == y.1)=true from h);have:=(hfr p hp).2
  rwa [eq_of_beq z] at this) hfs hcell hkind hnames hg ht he hs
end L2
namespace K70
open PySem PySem.Spec PyProof.Rows TJ L2
abbrev Gg (n:Str) (a:Addr):Prop:=∀P,o6 (KX P) W2 n=some (some (.ref a))
abbrev Gn (n:Str):Prop:=∀P,o6 (KX P) W2 n=some none
noncomputable abbrev kx (w:S0):=KX w.params
noncomputable abbrev Ca (P:Program) (w:S0) (mg:Str->Option Value) (base:Heap):=Cal P w (KX w.params) mg base
noncomputable abbrev CaE (P:Program) (w:S0) (mg:Str->Option Value) (base:Heap):=CalE P w (KX w.params) mg base
noncomputable abbrev Fo (P:Program) (w:S0) (mg:Str->Option Value) (base:Heap):=FnOk P w (KX w.params) mg base
theorem z0k:Gn "isinstance":=λ _=>by kernel_rfl
theorem n_len:Gn "len":=λ _=>by kernel_rfl
theorem n_all:Gn "all":=λ _=>by kernel_rfl
theorem n_max:Gn "max":=λ _=>by kernel_rfl
theorem n_min:Gn "min":=λ _=>by kernel_rfl
theorem n_int:Gn "int":=λ _=>by kernel_rfl
theorem n_str:Gn "str":=λ _=>by kernel_rfl
theorem n_bool:Gn "bool":=λ _=>by kernel_rfl
theorem z25:Gn "tuple":=λ _=>by kernel_rfl
theorem n_list:Gn "list":=λ _=>by kernel_rfl
theorem z69:Gn "range":=λ _=>by kernel_rfl
theorem z5c:Gn "sorted":=λ _=>by kernel_rfl
theorem n_sum:Gn "sum":=λ _=>by kernel_rfl
theorem z24:Gn "enumerate":=λ _=>by kernel_rfl
theorem zfb:Gn "reversed":=λ _=>by kernel_rfl
theorem z6j (P:N0):o6 (KX P) W2 "GREATEST_WORTH" = some (some (.int (1000000000) 196)):=by kernel_rfl
theorem ze8:Gg "is_whole" 28:=λ _=>by kernel_rfl
theorem zde:Gg "is_within" 35:=λ _=>by kernel_rfl
theorem zep:Gg "is_worth" 42:=λ _=>by kernel_rfl
theorem z9h:Gg "is_tuple_of" 49:=λ _=>by kernel_rfl
theorem z4x:Gg "FIRST_STATES" 99:=λ _=>by kernel_rfl
theorem z5w:Gg "WORTHS_OF_VERBS" 102:=λ _=>by kernel_rfl
theorem z6x:Gg "read_state" 109:=λ _=>by kernel_rfl
theorem z5p:Gg "write_state" 116:=λ _=>by kernel_rfl
theorem z3t:Gg "add_to_number" 123:=λ _=>by kernel_rfl
theorem z6y:Gg "put_behind" 130:=λ _=>by kernel_rfl
theorem z6r:Gg "take_first" 137:=λ _=>by kernel_rfl
theorem z4n:Gg "put_into_set" 144:=λ _=>by kernel_rfl
theorem z4o:Gg "cut_from_set" 149:=λ _=>by kernel_rfl
theorem z6d:Gg "has_in_set" 156:=λ _=>by kernel_rfl
theorem z6i:Gg "swap_state" 163:=λ _=>by kernel_rfl
theorem zj8:Gg "DOERS" 164:=λ _=>by kernel_rfl
theorem zi3:Gg "is_kind" 183:=λ _=>by kernel_rfl
theorem zas:Gg "first_state" 190:=λ _=>by kernel_rfl
theorem zgv:Gg "is_deed" 195:=λ _=>by kernel_rfl
theorem g_do:Gg "do" 202:=λ _=>by kernel_rfl
theorem zly:Gg "deeds" 209:=λ _=>by kernel_rfl
theorem z8v:Gg "STRICTNESSES" 210:=λ _=>by kernel_rfl
theorem zke:Gg "has_to" 217:=λ _=>by kernel_rfl
theorem z57:Gg "check_strictness" 224:=λ _=>by kernel_rfl
theorem zbn:Gg "goes_ahead" 231:=λ _=>by kernel_rfl
theorem zdm:Gg "Candidate" 253:=λ _=>by kernel_rfl
theorem zje:Gg "Board" 293:=λ _=>by kernel_rfl
theorem zi1:Gg "step_of" 304:=λ _=>by kernel_rfl
theorem z7l:Gg "ended_numbers" 309:=λ _=>by kernel_rfl
theorem zds:Gg "holds_all" 314:=λ _=>by kernel_rfl
theorem zab:Gg "first_place" 319:=λ _=>by kernel_rfl
theorem zbb:Gg "all_places" 326:=λ _=>by kernel_rfl
theorem zbr:Gg "next_layer" 333:=λ _=>by kernel_rfl
theorem zk3:Gg "judged" 340:=λ _=>by kernel_rfl
theorem zdk:Gg "beginning" 347:=λ _=>by kernel_rfl
theorem zkf:Gg "is_bad" 354:=λ _=>by kernel_rfl
theorem z75:Gg "bad_beginning" 361:=λ _=>by kernel_rfl
theorem z9n:Gg "stuck_paper" 368:=λ _=>by kernel_rfl
theorem z50:Gg "_law_cell_at" 375:=λ _=>by kernel_rfl
theorem zdy:Gg "_law_take" 382:=λ _=>by kernel_rfl
theorem zil:Gg "_law_do" 387:=λ _=>by kernel_rfl
theorem zax:Gg "_law_first" 392:=λ _=>by kernel_rfl
theorem zb0:Gg "_law_worth" 399:=λ _=>by kernel_rfl
theorem zdu:Gg "_law_verb" 406:=λ _=>by kernel_rfl
theorem z9o:Gg "_law_things" 411:=λ _=>by kernel_rfl
theorem z8f:Gg "_law_applied" 416:=λ _=>by kernel_rfl
theorem zdj:Gg "_law_tale" 421:=λ _=>by kernel_rfl
theorem zb6:Gg "_law_deeds" 428:=λ _=>by kernel_rfl
theorem z7m:Gg "_law_is_ahead" 435:=λ _=>by kernel_rfl
theorem z5f:Gg "_law_may_be_next" 442:=λ _=>by kernel_rfl
theorem zau:Gg "_law_nexts" 449:=λ _=>by kernel_rfl
theorem z8p:Gg "_law_is_full" 454:=λ _=>by kernel_rfl
theorem z7k:Gg "_law_explains" 471:=λ _=>by kernel_rfl
theorem g_law:Gg "law" 478:=λ _=>by kernel_rfl
noncomputable def kl_FIRST_STATES:List (Str×V):=[("register",.int (0)),("counter",.int (0)),("queue",.ref 100),("set",.ref 101),("cell",.int (0))]
theorem z3w (P:N0):KDict (KX P) P 99 kl_FIRST_STATES:=⟨⟨#[⟨(c0 P "register"),(.str "register" 298),(.int (0) 299)⟩,⟨(c0 P "counter"),(.str "counter" 300),(.int (0) 301)⟩,⟨(c0 P "queue"),(.str "queue" 302),(.ref 100)⟩,⟨(c0 P "set"),(.str "set" 303),(.ref 101)⟩,⟨(c0 P "cell"),(.str "cell" 304),(.int (0) 305)⟩],5,by kernel_rfl,(.cons ⟨⟨_,rfl⟩,rfl,⟨_,rfl⟩⟩ (.cons ⟨⟨_,rfl⟩,rfl,⟨_,rfl⟩⟩ (.cons ⟨⟨_,rfl⟩,rfl,rfl⟩ (.cons ⟨⟨_,rfl⟩,rfl,rfl⟩ (.cons ⟨⟨_,rfl⟩,rfl,⟨_,rfl⟩⟩ .nil)))))⟩,by decide⟩
noncomputable def kl_WORTHS_OF_VERBS:List (Str×V):=[("read",.int (0)),("take",.int (0)),("write",.int (1)),("add",.int (1)),("put",.int (1)),("cut",.int (1)),("has",.int (1)),("swap",.int (2))]
theorem z5l (P:N0):KDict (KX P) P 102 kl_WORTHS_OF_VERBS:=⟨⟨#[⟨(c0 P "read"),(.str "read" 312),(.int (0) 313)⟩,⟨(c0 P "take"),(.str "take" 314),(.int (0) 315)⟩,⟨(c0 P "write"),(.str "write" 316),(.int (1) 317)⟩,⟨(c0 P "add"),(.str "add" 318),(.int (1) 319)⟩,⟨(c0 P "put"),(.str "put" 320),(.int (1) 321)⟩,⟨(c0 P "cut"),(.str "cut" 322),(.int (1) 323)⟩,⟨(c0 P "has"),(.str "has" 324),(.int (1) 325)⟩,⟨(c0 P "swap"),(.str "swap" 326),(.int (2) 327)⟩],8,by kernel_rfl,(.cons ⟨⟨_,rfl⟩,rfl,⟨_,rfl⟩⟩ (.cons ⟨⟨_,rfl⟩,rfl,⟨_,rfl⟩⟩ (.cons ⟨⟨_,rfl⟩,rfl,⟨_,rfl⟩⟩ (.cons ⟨⟨_,rfl⟩,rfl,⟨_,rfl⟩⟩ (.cons ⟨⟨_,rfl⟩,rfl,⟨_,rfl⟩⟩ (.cons ⟨⟨_,rfl⟩,rfl,⟨_,rfl⟩⟩ (.cons ⟨⟨_,rfl⟩,rfl,⟨_,rfl⟩⟩ (.cons ⟨⟨_,rfl⟩,rfl,⟨_,rfl⟩⟩ .nil))))))))⟩,by decide⟩
noncomputable def kl_DOERS:List ((Str×Str)×V):=[(("register","read"),.ref 109),(("register","write"),.ref 116),(("counter","read"),.ref 109),(("counter","add"),.ref 123),(("queue","put"),.ref 130),(("queue","take"),.ref 137),(("set","put"),.ref 144),(("set","cut"),.ref 149),(("set","has"),.ref 156),(("cell","read"),.ref 109),(("cell","write"),.ref 116),(("cell","swap"),.ref 163)]
theorem zg7 (P:N0):KDictT (KX P) P 164 kl_DOERS:=⟨⟨#[⟨(G1 (o0 [c0 P "register",c0 P "read"])),(.ref 165),(.ref 109)⟩,⟨(G1 (o0 [c0 P "register",c0 P "write"])),(.ref 166),(.ref 116)⟩,⟨(G1 (o0 [c0 P "counter",c0 P "read"])),(.ref 167),(.ref 109)⟩,⟨(G1 (o0 [c0 P "counter",c0 P "add"])),(.ref 168),(.ref 123)⟩,⟨(G1 (o0 [c0 P "queue",c0 P "put"])),(.ref 169),(.ref 130)⟩,⟨(G1 (o0 [c0 P "queue",c0 P "take"])),(.ref 170),(.ref 137)⟩,⟨(G1 (o0 [c0 P "set",c0 P "put"])),(.ref 171),(.ref 144)⟩,⟨(G1 (o0 [c0 P "set",c0 P "cut"])),(.ref 172),(.ref 149)⟩,⟨(G1 (o0 [c0 P "set",c0 P "has"])),(.ref 173),(.ref 156)⟩,⟨(G1 (o0 [c0 P "cell",c0 P "read"])),(.ref 174),(.ref 109)⟩,⟨(G1 (o0 [c0 P "cell",c0 P "write"])),(.ref 175),(.ref 116)⟩,⟨(G1 (o0 [c0 P "cell",c0 P "swap"])),(.ref 176),(.ref 163)⟩],12,by kernel_rfl,(.cons ⟨⟨165,407,408,0,rfl,by kernel_rfl⟩,rfl,rfl⟩ (.cons ⟨⟨166,409,410,0,rfl,by kernel_rfl⟩,rfl,rfl⟩ (.cons ⟨⟨167,411,412,0,rfl,by kernel_rfl⟩,rfl,rfl⟩ (.cons ⟨⟨168,413,414,0,rfl,by kernel_rfl⟩,rfl,rfl⟩ (.cons ⟨⟨169,415,416,0,rfl,by kernel_rfl⟩,rfl,rfl⟩ (.cons ⟨⟨170,417,418,0,rfl,by kernel_rfl⟩,rfl,rfl⟩ (.cons ⟨⟨171,419,420,0,rfl,by kernel_rfl⟩,rfl,rfl⟩ (.cons ⟨⟨172,421,422,0,rfl,by kernel_rfl⟩,rfl,rfl⟩ (.cons ⟨⟨173,423,424,0,rfl,by kernel_rfl⟩,rfl,rfl⟩ (.cons ⟨⟨174,425,426,0,rfl,by kernel_rfl⟩,rfl,rfl⟩ (.cons ⟨⟨175,427,428,0,rfl,by kernel_rfl⟩,rfl,rfl⟩ (.cons ⟨⟨176,429,430,0,rfl,by kernel_rfl⟩,rfl,rfl⟩ .nil))))))))))))⟩,by decide +kernel,by decide⟩
noncomputable abbrev y2j:Stmt:=top 3
noncomputable abbrev y1m:FuncData:=fnX "is_whole" "is_whole" (top 3) "talejudge.basics" 194 27
theorem z70 (P:N0):Fun (KX P) "is_whole" "is_whole" y2j 28 y1m:=z0c
theorem zgi (P:N0):Binds (KX P) y1m ["value"] []:=(z70 P).binds λ _ _ _ _ _ _=>us1 λ _=>rfl
theorem zdc:FnScope ["value"] ["value"] (z06 y2j):=.k
noncomputable abbrev y2a:Stmt:=top 4
noncomputable abbrev y15:FuncData:=fnX "is_within" "is_within" (top 4) "talejudge.basics" 194 34
theorem z5g (P:N0):Fun (KX P) "is_within" "is_within" y2a 35 y15:=z0c
theorem zdx (P:N0):Binds (KX P) y15 ["value","greatest"] []:=(z5g P).binds λ _ _ _ _ _ _=>us2 λ _ _=>rfl
theorem zbe:FnScope ["value","greatest"] ["value","greatest"] (z06 y2a):=.k
noncomputable abbrev y2k:Stmt:=top 5
noncomputable abbrev y1n:FuncData:=fnX "is_worth" "is_worth" (top 5) "talejudge.basics" 194 41
theorem z6l (P:N0):Fun (KX P) "is_worth" "is_worth" y2k 42 y1n:=z0c
theorem zg9 (P:N0):Binds (KX P) y1n ["value"] []:=(z6l P).binds λ _ _ _ _ _ _=>us1 λ _=>rfl
theorem zdq:FnScope ["value"] ["value"] (z06 y2k):=.k
noncomputable abbrev y1o:Stmt:=top 6
noncomputable abbrev y0m:FuncData:=fnX "is_tuple_of" "is_tuple_of" (top 6) "talejudge.basics" 194 48
theorem z38 (P:N0):Fun (KX P) "is_tuple_of" "is_tuple_of" y1o 49 y0m:=z0c
theorem zag (P:N0):Binds (KX P) y0m ["value","many"] []:=(z38 P).binds λ _ _ _ _ _ _=>us2 λ _ _=>rfl
theorem z80:FnScope ["value","many"] ["value","many"] (z06 y1o):=.k
noncomputable abbrev y1y:Stmt:=top 15
noncomputable abbrev y0s:FuncData:=fnX "read_state" "read_state" (top 15) "talejudge.store" 296 108
theorem z41 (P:N0):Fun (KX P) "read_state" "read_state" y1y 109 y0s:=z0c
theorem zbf (P:N0):Binds (KX P) y0s ["state","worth"] []:=(z41 P).binds λ _ _ _ _ _ _=>us2 λ _ _=>rfl
theorem z9x:FnScope ["state","worth"] ["state","worth"] (z06 y1y):=.k
noncomputable abbrev y1p:Stmt:=top 16
noncomputable abbrev y0n:FuncData:=fnX "write_state" "write_state" (top 16) "talejudge.store" 296 115
theorem z36 (P:N0):Fun (KX P) "write_state" "write_state" y1p 116 y0n:=z0c
theorem za7 (P:N0):Binds (KX P) y0n ["state","worth"] []:=(z36 P).binds λ _ _ _ _ _ _=>us2 λ _ _=>rfl
theorem z84:FnScope ["state","worth"] ["state","worth"] (z06 y1p):=.k
noncomputable abbrev y16:Stmt:=top 17
noncomputable abbrev y09:FuncData:=fnX "add_to_number" "add_to_number" (top 17) "talejudge.store" 296 122
theorem z1z (P:N0):Fun (KX P) "add_to_number" "add_to_number" y16 123 y09:=z0c
theorem z74 (P:N0):Binds (KX P) y09 ["state","worth"] []:=(z1z P).binds λ _ _ _ _ _ _=>us2 λ _ _=>rfl
theorem z6h:FnScope ["state","worth"] ["state","worth"] (z06 y16):=.k
noncomputable abbrev y1z:Stmt:=top 18
noncomputable abbrev y0t:FuncData:=fnX "put_behind" "put_behind" (top 18) "talejudge.store" 296 129
theorem z3y (P:N0):Fun (KX P) "put_behind" "put_behind" y1z 130 y0t:=z0c
theorem zaw (P:N0):Binds (KX P) y0t ["state","worth"] []:=(z3y P).binds λ _ _ _ _ _ _=>us2 λ _ _=>rfl
theorem za0:FnScope ["state","worth"] ["state","worth"] (z06 y1z):=.k
noncomputable abbrev y20:Stmt:=top 19
noncomputable abbrev y0u:FuncData:=fnX "take_first" "take_first" (top 19) "talejudge.store" 296 136
theorem z4b (P:N0):Fun (KX P) "take_first" "take_first" y20 137 y0u:=z0c
theorem zbv (P:N0):Binds (KX P) y0u ["state","worth"] []:=(z4b P).binds λ _ _ _ _ _ _=>us2 λ _ _=>rfl
theorem z99:FnScope ["state","worth"] ["state","worth"] (z06 y20):=.k
noncomputable abbrev y1h:Stmt:=top 20
noncomputable abbrev y0f:FuncData:=fnX "put_into_set" "put_into_set" (top 20) "talejudge.store" 296 143
theorem z2h (P:N0):Fun (KX P) "put_into_set" "put_into_set" y1h 144 y0f:=z0c
theorem z81 (P:N0):Binds (KX P) y0f ["state","worth"] []:=(z2h P).binds λ _ _ _ _ _ _=>us2 λ _ _=>rfl
theorem z7i:FnScope ["state","worth"] ["state","worth"] (z06 y1h):=.k
noncomputable abbrev y1i:Stmt:=top 21
noncomputable abbrev y0g:FuncData:=fnX "cut_from_set" "cut_from_set" (top 21) "talejudge.store" 296 148
theorem z2j (P:N0):Fun (KX P) "cut_from_set" "cut_from_set" y1i 149 y0g:=z0c
theorem z8x (P:N0):Binds (KX P) y0g ["state","worth"] []:=(z2j P).binds λ _ _ _ _ _ _=>us2 λ _ _=>rfl
theorem z78:FnScope ["state","worth"] ["state","worth"] (z06 y1i):=.k
noncomputable abbrev y21:Stmt:=top 22
noncomputable abbrev y0v:FuncData:=fnX "has_in_set" "has_in_set" (top 22) "talejudge.store" 296 155
theorem z4a (P:N0):Fun (KX P) "has_in_set" "has_in_set" y21 156 y0v:=z0c
theorem zb4 (P:N0):Binds (KX P) y0v ["state","worth"] []:=(z4a P).binds λ _ _ _ _ _ _=>us2 λ _ _=>rfl
theorem za2:FnScope ["state","worth"] ["state","worth"] (z06 y21):=.k
noncomputable abbrev y22:Stmt:=top 23
noncomputable abbrev y0w:FuncData:=fnX "swap_state" "swap_state" (top 23) "talejudge.store" 296 162
theorem z47 (P:N0):Fun (KX P) "swap_state" "swap_state" y22 163 y0w:=z0c
theorem zc1 (P:N0):Binds (KX P) y0w ["state","worth"] []:=(z47 P).binds λ _ _ _ _ _ _=>us2 λ _ _=>rfl
theorem zaj:FnScope ["state","worth"] ["state","worth"] (z06 y22):=.k
noncomputable abbrev y2m:Stmt:=top 25
noncomputable abbrev y1u:FuncData:=fnX "is_kind" "is_kind" (top 25) "talejudge.store" 296 182
theorem z83 (P:N0):Fun (KX P) "is_kind" "is_kind" y2m 183 y1u:=z0c
theorem zh4 (P:N0):Binds (KX P) y1u ["kind"] []:=(z83 P).binds λ _ _ _ _ _ _=>us1 λ _=>rfl
theorem zf3:FnScope ["kind"] ["kind"] (z06 y2m):=.k
noncomputable abbrev y1q:Stmt:=top 26
noncomputable abbrev y0o:FuncData:=fnX "first_state" "first_state" (top 26) "talejudge.store" 296 189
theorem z3d (P:N0):Fun (KX P) "first_state" "first_state" y1q 190 y0o:=z0c
theorem zao (P:N0):Binds (KX P) y0o ["kind"] []:=(z3d P).binds λ _ _ _ _ _ _=>us1 λ _=>rfl
theorem z8d:FnScope ["kind"] ["kind"] (z06 y1q):=.k
noncomputable abbrev y2n:Stmt:=top 27
noncomputable abbrev y1v:FuncData:=fnX "is_deed" "is_deed" (top 27) "talejudge.store" 296 194
theorem z8q (P:N0):Fun (KX P) "is_deed" "is_deed" y2n 195 y1v:=z0c
theorem zhk (P:N0):Binds (KX P) y1v ["kind","verb","worth"] []:=(z8q P).binds λ _ _ _ _ _ _=>us3 λ _ _ _=>rfl
theorem sc_is_deed:FnScope ["kind","verb","worth","many"] ["kind","verb","worth"] (z06 y2n):=.k
noncomputable abbrev y2u:Stmt:=top 28
noncomputable abbrev y2v:FuncData:=fnX "do" "do" (top 28) "talejudge.store" 296 201
theorem F_do (P:N0):Fun (KX P) "do" "do" y2u 202 y2v:=z0c
theorem b_do (P:N0):Binds (KX P) y2v ["kind","state","verb","worth"] []:=(F_do P).binds λ _ _ _ _ _ _=>us4 λ _ _ _ _=>rfl
theorem sc_do:FnScope ["kind","state","verb","worth","doer"] ["kind","state","verb","worth"] (z06 y2u):=.k
noncomputable abbrev y2t:Stmt:=top 30
noncomputable abbrev y2l:FuncData:=fnX "deeds" "deeds" (top 30) "talejudge.tales" 499 208
theorem zft (P:N0):Fun (KX P) "deeds" "deeds" y2t 209 y2l:=z0c
theorem zlo (P:N0):Binds (KX P) y2l ["tale"] []:=(zft P).binds λ _ _ _ _ _ _=>us1 λ _=>rfl
theorem sc_deeds:FnScope ["tale","told","numbers","place","event","number","begun"] ["tale"] (z06 y2t):=.k
noncomputable abbrev y2q:Stmt:=top 33
noncomputable abbrev y2b:FuncData:=fnX "has_to" "has_to" (top 33) "talejudge.orders" 514 216
theorem zav (P:N0):Fun (KX P) "has_to" "has_to" y2q 217 y2b:=z0c
theorem zkr (P:N0):Binds (KX P) y2b ["tale","strictness"] []:=(zav P).binds λ _ _ _ _ _ _=>us2 λ _ _=>rfl
theorem sc_has_to:FnScope ["tale","strictness","told","pairs","ahead","one","behind","other"] ["tale","strictness"] (z06 y2q):=.k
noncomputable abbrev y0j:Stmt:=top 34
noncomputable abbrev y05:FuncData:=fnX "check_strictness" "check_strictness" (top 34) "talejudge.orders" 514 223
theorem z17 (P:N0):Fun (KX P) "check_strictness" "check_strictness" y0j 224 y05:=z0c
theorem z5i (P:N0):Binds (KX P) y05 ["strictness"] []:=(z17 P).binds λ _ _ _ _ _ _=>us1 λ _=>rfl
theorem z4h:FnScope ["strictness"] ["strictness"] (z06 y0j):=.k
noncomputable abbrev y23:Stmt:=top 35
noncomputable abbrev y0x:FuncData:=fnX "goes_ahead" "goes_ahead" (top 35) "talejudge.orders" 514 230
theorem z49 (P:N0):Fun (KX P) "goes_ahead" "goes_ahead" y23 231 y0x:=z0c
theorem zc5 (P:N0):Binds (KX P) y0x ["one","other","strictness"] []:=(z49 P).binds λ _ _ _ _ _ _=>us3 λ _ _ _=>rfl
theorem z9c:FnScope ["one","other","strictness"] ["one","other","strictness"] (z06 y23):=.k
noncomputable abbrev y2o:Stmt:=top 39
noncomputable abbrev y1w:FuncData:=fnX "step_of" "step_of" (top 39) "talejudge.places" 550 303
theorem z92 (P:N0):Fun (KX P) "step_of" "step_of" y2o 304 y1w:=z0c
theorem zh1 (P:N0):Binds (KX P) y1w ["candidate","place"] []:=(z92 P).binds λ _ _ _ _ _ _=>us2 λ _ _=>rfl
theorem sc_step_of:FnScope ["candidate","place","thing","states","done","numbers"] ["candidate","place"] (z06 y2o):=.k
noncomputable abbrev y17:Stmt:=top 40
noncomputable abbrev y0a:FuncData:=fnX "ended_numbers" "ended_numbers" (top 40) "talejudge.places" 550 308
theorem z1y (P:N0):Fun (KX P) "ended_numbers" "ended_numbers" y17 309 y0a:=z0c
theorem z7b (P:N0):Binds (KX P) y0a ["told"] []:=(z1y P).binds λ _ _ _ _ _ _=>us1 λ _=>rfl
theorem z67:FnScope ["told"] ["told"] (z06 y17):=.k
noncomputable abbrev y2c:Stmt:=top 41
noncomputable abbrev y18:FuncData:=fnX "holds_all" "holds_all" (top 41) "talejudge.places" 550 313
theorem z5j (P:N0):Fun (KX P) "holds_all" "holds_all" y2c 314 y18:=z0c
theorem zdh (P:N0):Binds (KX P) y18 ["done","numbers"] []:=(z5j P).binds λ _ _ _ _ _ _=>us2 λ _ _=>rfl
theorem zbd:FnScope ["done","numbers"] ["done","numbers"] (z06 y2c):=.k
noncomputable abbrev y1r:Stmt:=top 42
noncomputable abbrev y0p:FuncData:=fnX "first_place" "first_place" (top 42) "talejudge.places" 550 318
theorem z2z (P:N0):Fun (KX P) "first_place" "first_place" y1r 319 y0p:=z0c
theorem zai (P:N0):Binds (KX P) y0p ["tale"] []:=(z2z P).binds λ _ _ _ _ _ _=>us1 λ _=>rfl
theorem z85:FnScope ["tale"] ["tale"] (z06 y1r):=.k
noncomputable abbrev y24:Stmt:=top 43
noncomputable abbrev y0y:FuncData:=fnX "all_places" "all_places" (top 43) "talejudge.places" 550 325
theorem z44 (P:N0):Fun (KX P) "all_places" "all_places" y24 326 y0y:=z0c
theorem zbp (P:N0):Binds (KX P) y0y ["tale","strictness"] []:=(z44 P).binds λ _ _ _ _ _ _=>us2 λ _ _=>rfl
theorem sc_all_places:FnScope ["tale","strictness","board","found","layer"] ["tale","strictness"] (z06 y24):=.k
noncomputable abbrev y25:Stmt:=top 44
noncomputable abbrev y0z:FuncData:=fnX "next_layer" "next_layer" (top 44) "talejudge.places" 550 332
theorem z48 (P:N0):Fun (KX P) "next_layer" "next_layer" y25 333 y0z:=z0c
theorem zc6 (P:N0):Binds (KX P) y0z ["board","layer"] []:=(z48 P).binds λ _ _ _ _ _ _=>us2 λ _ _=>rfl
theorem sc_next_layer:FnScope ["board","layer","reached","place","step"] ["board","layer"] (z06 y25):=.k
noncomputable abbrev y2r:Stmt:=top 46
noncomputable abbrev y2d:FuncData:=fnX "judged" "judged" (top 46) "talejudge.judge" 705 339
theorem zbw (P:N0):Fun (KX P) "judged" "judged" y2r 340 y2d:=z0c
theorem zkj (P:N0):Binds (KX P) y2d ["tale","strictness"] []:=(zbw P).binds λ _ _ _ _ _ _=>us2 λ _ _=>rfl
theorem sc_judged:FnScope ["tale","strictness","board","seen","waiting","reached","number","answer","place"] ["tale","strictness"] (z06 y2r):=.k
noncomputable abbrev y2e:Stmt:=top 48
noncomputable abbrev y19:FuncData:=fnX "beginning" "beginning" (top 48) "talejudge.beginnings" 722 346
theorem z5d (P:N0):Fun (KX P) "beginning" "beginning" y2e 347 y19:=z0c
theorem zdv (P:N0):Binds (KX P) y19 ["tale","many"] []:=(z5d P).binds λ _ _ _ _ _ _=>us2 λ _ _=>rfl
theorem zbj:FnScope ["tale","many"] ["tale","many"] (z06 y2e):=.k
noncomputable abbrev y2s:Stmt:=top 49
noncomputable abbrev y2f:FuncData:=fnX "is_bad" "is_bad" (top 49) "talejudge.beginnings" 722 353
theorem zbh (P:N0):Fun (KX P) "is_bad" "is_bad" y2s 354 y2f:=z0c
theorem zjr (P:N0):Binds (KX P) y2f ["tale","many"] []:=(zbh P).binds λ _ _ _ _ _ _=>us2 λ _ _=>rfl
theorem zh0:FnScope ["tale","many"] ["tale","many"] (z06 y2s):=.k
noncomputable abbrev y1a:Stmt:=top 50
noncomputable abbrev y0b:FuncData:=fnX "bad_beginning" "bad_beginning" (top 50) "talejudge.beginnings" 722 360
theorem z20 (P:N0):Fun (KX P) "bad_beginning" "bad_beginning" y1a 361 y0b:=z0c
theorem z7j (P:N0):Binds (KX P) y0b ["tale"] []:=(z20 P).binds λ _ _ _ _ _ _=>us1 λ _=>rfl
theorem sc_bad_beginning:FnScope ["tale","bad","good","middle"] ["tale"] (z06 y1a):=.k
noncomputable abbrev y1s:Stmt:=top 52
noncomputable abbrev y0q:FuncData:=fnX "stuck_paper" "stuck_paper" (top 52) "talejudge.stuck" 750 367
theorem z31 (P:N0):Fun (KX P) "stuck_paper" "stuck_paper" y1s 368 y0q:=z0c
theorem zak (P:N0):Binds (KX P) y0q ["tale","strictness"] []:=(z31 P).binds λ _ _ _ _ _ _=>us2 λ _ _=>rfl
theorem z8z:FnScope ["tale","strictness"] ["tale","strictness"] (z06 y1s):=.k
noncomputable abbrev y1j:Stmt:=top 54
noncomputable abbrev y07:FuncData:=fY "_law_cell_at" "_law_cell_at" (top 54) 374
theorem z10 (P:N0):Fun (KX P) "_law_cell_at" "_law_cell_at" y1j 375 y07:=z0c
theorem z4j (P:N0):Binds (KX P) y07 ["script","k"] []:=(z10 P).binds λ _ _ _ _ _ _=>us2 λ _ _=>rfl
theorem z3p:FnScope ["script","k"] ["script","k"] (z06 y1j):=.k
noncomputable abbrev y2g:Stmt:=top 55
noncomputable abbrev y1b:FuncData:=fY "_law_take" "_law_take" (top 55) 381
theorem z55 (P:N0):Fun (KX P) "_law_take" "_law_take" y2g 382 y1b:=z0c
theorem zdn (P:N0):Binds (KX P) y1b ["deck","many"] []:=(z55 P).binds λ _ _ _ _ _ _=>us2 λ _ _=>rfl
theorem sc__law_take:FnScope ["deck","many","told","number"] ["deck","many"] (z06 y2g):=.k
noncomputable abbrev y2p:Stmt:=top 56
noncomputable abbrev y1x:FuncData:=fY "_law_do" "_law_do" (top 56) 386
theorem z90 (P:N0):Fun (KX P) "_law_do" "_law_do" y2p 387 y1x:=z0c
theorem zhr (P:N0):Binds (KX P) y1x ["kind","state","verb","worth"] []:=(z90 P).binds λ _ _ _ _ _ _=>us4 λ _ _ _ _=>rfl
theorem sc__law_do:FnScope ["kind","state","verb","worth","there"] ["kind","state","verb","worth"] (z06 y2p):=.k
noncomputable abbrev y26:Stmt:=top 57
noncomputable abbrev y10:FuncData:=fY "_law_first" "_law_first" (top 57) 391
theorem z46 (P:N0):Fun (KX P) "_law_first" "_law_first" y26 392 y10:=z0c
theorem zay (P:N0):Binds (KX P) y10 ["things"] []:=(z46 P).binds λ _ _ _ _ _ _=>us1 λ _=>rfl
theorem zaq:FnScope ["things"] ["things"] (z06 y26):=.k
noncomputable abbrev y27:Stmt:=top 58
noncomputable abbrev y11:FuncData:=fY "_law_worth" "_law_worth" (top 58) 398
theorem z45 (P:N0):Fun (KX P) "_law_worth" "_law_worth" y27 399 y11:=z0c
theorem zaz (P:N0):Binds (KX P) y11 ["deck"] []:=(z45 P).binds λ _ _ _ _ _ _=>us1 λ _=>rfl
theorem z9u:FnScope ["deck"] ["deck"] (z06 y27):=.k
noncomputable abbrev y2h:Stmt:=top 59
noncomputable abbrev y1c:FuncData:=fY "_law_verb" "_law_verb" (top 59) 405
theorem z5h (P:N0):Fun (KX P) "_law_verb" "_law_verb" y2h 406 y1c:=z0c
theorem zdo (P:N0):Binds (KX P) y1c ["deck","kind"] []:=(z5h P).binds λ _ _ _ _ _ _=>us2 λ _ _=>rfl
theorem sc__law_verb:FnScope ["deck","kind","some","verb"] ["deck","kind"] (z06 y2h):=.k
noncomputable abbrev y1t:Stmt:=top 60
noncomputable abbrev y0r:FuncData:=fY "_law_things" "_law_things" (top 60) 410
theorem z2v (P:N0):Fun (KX P) "_law_things" "_law_things" y1t 411 y0r:=z0c
theorem za6 (P:N0):Binds (KX P) y0r ["deck"] []:=(z2v P).binds λ _ _ _ _ _ _=>us1 λ _=>rfl
theorem sc__law_things:FnScope ["deck","words","told","k"] ["deck"] (z06 y1t):=.k
noncomputable abbrev y1k:Stmt:=top 61
noncomputable abbrev y0h:FuncData:=fY "_law_applied" "_law_applied" (top 61) 415
theorem z2f (P:N0):Fun (KX P) "_law_applied" "_law_applied" y1k 416 y0h:=z0c
theorem z8g (P:N0):Binds (KX P) y0h ["things","states","own"] []:=(z2f P).binds λ _ _ _ _ _ _=>us3 λ _ _ _=>rfl
theorem sc__law_applied:FnScope ["things","states","own","at","state","answer"] ["things","states","own"] (z06 y1k):=.k
noncomputable abbrev y2i:Stmt:=top 62
noncomputable abbrev y1d:FuncData:=fY "_law_tale" "_law_tale" (top 62) 420
theorem z5b (P:N0):Fun (KX P) "_law_tale" "_law_tale" y2i 421 y1d:=z0c
theorem zdd (P:N0):Binds (KX P) y1d ["script","most"] []:=(z5b P).binds λ _ _ _ _ _ _=>us2 λ _ _=>rfl
theorem sc__law_tale:FnScope ["script","most","way","deck","things","hands","spoil","states","events","under_way","k","hand","own","answer","name","kind","verb","worth"] ["script","most"] (z06 y2i):=.k
noncomputable abbrev y28:Stmt:=top 63
noncomputable abbrev y12:FuncData:=fY "_law_deeds" "_law_deeds" (top 63) 427
theorem z3x (P:N0):Fun (KX P) "_law_deeds" "_law_deeds" y28 428 y12:=z0c
theorem zc8 (P:N0):Binds (KX P) y12 ["tale"] []:=(z3x P).binds λ _ _ _ _ _ _=>us1 λ _=>rfl
theorem sc__law_deeds:FnScope ["tale","told","last","at","event"] ["tale"] (z06 y28):=.k
noncomputable abbrev y1e:Stmt:=top 64
noncomputable abbrev y0c:FuncData:=fY "_law_is_ahead" "_law_is_ahead" (top 64) 434
theorem z1x (P:N0):Fun (KX P) "_law_is_ahead" "_law_is_ahead" y1e 435 y0c:=z0c
theorem z7n (P:N0):Binds (KX P) y0c ["strictness","one","other"] []:=(z1x P).binds λ _ _ _ _ _ _=>us3 λ _ _ _=>rfl
theorem z6e:FnScope ["strictness","one","other"] ["strictness","one","other"] (z06 y1e):=.k
noncomputable abbrev y0k:Stmt:=top 65
noncomputable abbrev y06:FuncData:=fY "_law_may_be_next" "_law_may_be_next" (top 65) 441
theorem z14 (P:N0):Fun (KX P) "_law_may_be_next" "_law_may_be_next" y0k 442 y06:=z0c
theorem z56 (P:N0):Binds (KX P) y06 ["some","strictness","done","number"] []:=(z14 P).binds λ _ _ _ _ _ _=>us4 λ _ _ _ _=>rfl
theorem sc__law_may_be_next:FnScope ["some","strictness","done","number","other"] ["some","strictness","done","number"] (z06 y0k):=.k
noncomputable abbrev y29:Stmt:=top 66
noncomputable abbrev y13:FuncData:=fY "_law_nexts" "_law_nexts" (top 66) 448
theorem z42 (P:N0):Fun (KX P) "_law_nexts" "_law_nexts" y29 449 y13:=z0c
theorem zc2 (P:N0):Binds (KX P) y13 ["tale","some","strictness","place"] []:=(z42 P).binds λ _ _ _ _ _ _=>us4 λ _ _ _ _=>rfl
theorem sc__law_nexts:FnScope ["tale","some","strictness","place","told","done","states","number","own","behind"] ["tale","some","strictness","place"] (z06 y29):=.k
noncomputable abbrev y1l:Stmt:=top 67
noncomputable abbrev y0i:FuncData:=fY "_law_is_full" "_law_is_full" (top 67) 453
theorem z2k (P:N0):Fun (KX P) "_law_is_full" "_law_is_full" y1l 454 y0i:=z0c
theorem z8e (P:N0):Binds (KX P) y0i ["some","place"] []:=(z2k P).binds λ _ _ _ _ _ _=>us2 λ _ _=>rfl
theorem z7d:FnScope ["some","place"] ["some","place"] (z06 y1l):=.k
noncomputable abbrev y1f:Stmt:=top 70
noncomputable abbrev y0d:FuncData:=fY "_law_explains" "_law_explains" (top 70) 470
theorem z1w (P:N0):Fun (KX P) "_law_explains" "_law_explains" y1f 471 y0d:=z0c
theorem z76 (P:N0):Binds (KX P) y0d ["tale","strictness","order"] []:=(z1w P).binds λ _ _ _ _ _ _=>us3 λ _ _ _=>rfl
theorem sc__law_explains:FnScope ["tale","strictness","order","some","place","step","behind"] ["tale","strictness","order"] (z06 y1f):=.k
noncomputable abbrev y2w:Stmt:=top 71
noncomputable abbrev fd_law:FuncData:=fY "law" "law" (top 71) 477
theorem F_law (P:N0):Fun (KX P) "law" "law" y2w 478 fd_law:=z0c
theorem sc_law:FnScope ["script","tale","bad","many","some","order","due"] ["script"] (z06 y2w):=.k
noncomputable abbrev y0e:Stmt:=subS (top 37) 0
noncomputable abbrev y02:FuncData:=fnX "__init__" "Candidate.__init__" (subS (top 37) 0) "talejudge.places" 550 242
theorem z1n (P:N0):Fun (KX P) "__init__" "Candidate.__init__" y0e 243 y02:=z0c
theorem z43 (P:N0):Binds (KX P) y02 ["self","number","deed","thing","kind","pairs"] []:=(z1n P).binds λ _ _ _ _ _ _=>us6 λ _ _ _ _ _ _=>rfl
theorem z3o:FnScope ["self","number","deed","thing","kind","pairs"] ["self","number","deed","thing","kind","pairs"] (z06 y0e):=.k
theorem zb1 (P:N0):Mk (KX P) 253 243:=⟨by kernel_rfl,by kernel_rfl,by kernel_rfl,by kernel_rfl⟩
theorem z0a (P:N0):Cls (KX P) 253:=⟨by kernel_rfl,by kernel_rfl,by kernel_rfl,by kernel_rfl⟩
theorem z0p (P:N0):NoAttr (KX P) 253 "number":=by unfold NoAttr;kernel_rfl
theorem z28 (P:N0):NoAttr (KX P) 253 "thing":=by unfold NoAttr;kernel_rfl
theorem z2o (P:N0):NoAttr (KX P) 253 "kind":=by unfold NoAttr;kernel_rfl
theorem z2l (P:N0):NoAttr (KX P) 253 "verb":=by unfold NoAttr;kernel_rfl
theorem z29 (P:N0):NoAttr (KX P) 253 "worth":=by unfold NoAttr;kernel_rfl
theorem z0y (P:N0):NoAttr (KX P) 253 "answer":=by unfold NoAttr;kernel_rfl
theorem z1v (P:N0):NoAttr (KX P) 253 "aheads":=by unfold NoAttr;kernel_rfl
theorem z1i (P:N0):NoAttr (KX P) 253 "behinds":=by unfold NoAttr;kernel_rfl
noncomputable abbrev y08:Stmt:=subS (top 37) 1
noncomputable abbrev y01:FuncData:=fnX "may_stand" "Candidate.may_stand" (subS (top 37) 1) "talejudge.places" 550 249
theorem z1e (P:N0):Fun (KX P) "may_stand" "Candidate.may_stand" y08 250 y01:=z0c
theorem z3n (P:N0):Binds (KX P) y01 ["self","done"] []:=(z1e P).binds λ _ _ _ _ _ _=>us2 λ _ _=>rfl
theorem sc_Candidate_may_stand:FnScope ["self","done","ahead","behind"] ["self","done"] (z06 y08):=.k
theorem z2w (P:N0):Meth (KX P) 253 "may_stand" 250:=⟨by kernel_rfl,by kernel_rfl,by kernel_rfl⟩
noncomputable abbrev y14:Stmt:=subS (top 38) 0
noncomputable abbrev y03:FuncData:=fnX "__init__" "Board.__init__" (subS (top 38) 0) "talejudge.places" 550 268
theorem z2y (P:N0):Fun (KX P) "__init__" "Board.__init__" y14 269 y03:=z0c
theorem z3e (P:N0):Binds (KX P) y03 ["self","tale","strictness"] []:=(z2y P).binds λ _ _ _ _ _ _=>us3 λ _ _ _=>rfl
theorem sc_Board___init__:FnScope ["self","tale","strictness","pairs","told","names","number","deed","thing"] ["self","tale","strictness"] (z06 y14):=.k
theorem zeo (P:N0):Mk (KX P) 293 269:=⟨by kernel_rfl,by kernel_rfl,by kernel_rfl,by kernel_rfl⟩
theorem z15 (P:N0):Cls (KX P) 293:=⟨by kernel_rfl,by kernel_rfl,by kernel_rfl,by kernel_rfl⟩
theorem z4r (P:N0):NoAttr (KX P) 293 "kinds":=by unfold NoAttr;kernel_rfl
theorem z2b (P:N0):NoAttr (KX P) 293 "first":=by unfold NoAttr;kernel_rfl
theorem z4f (P:N0):NoAttr (KX P) 293 "ended":=by unfold NoAttr;kernel_rfl
theorem z12 (P:N0):NoAttr (KX P) 293 "candidates":=by unfold NoAttr;kernel_rfl
noncomputable abbrev y0l:Stmt:=subS (top 38) 1
noncomputable abbrev y00:FuncData:=fnX "steps_from" "Board.steps_from" (subS (top 38) 1) "talejudge.places" 550 275
theorem z26 (P:N0):Fun (KX P) "steps_from" "Board.steps_from" y0l 276 y00:=z0c
theorem z2a (P:N0):Binds (KX P) y00 ["self","place"] []:=(z26 P).binds λ _ _ _ _ _ _=>us2 λ _ _=>rfl
theorem sc_Board_steps_from:FnScope ["self","place","steps","candidate","step"] ["self","place"] (z06 y0l):=.k
theorem z1r (P:N0):Meth (KX P) 293 "steps_from" 276:=⟨by kernel_rfl,by kernel_rfl,by kernel_rfl⟩
noncomputable abbrev y1g:Stmt:=subS (top 38) 2
noncomputable abbrev y04:FuncData:=fnX "ends_at" "Board.ends_at" (subS (top 38) 2) "talejudge.places" 550 282
theorem z3q (P:N0):Fun (KX P) "ends_at" "Board.ends_at" y1g 283 y04:=z0c
theorem z79 (P:N0):Binds (KX P) y04 ["self","place"] []:=(z3q P).binds λ _ _ _ _ _ _=>us2 λ _ _=>rfl
theorem z6c:FnScope ["self","place"] ["self","place"] (z06 y1g):=.k
theorem z64 (P:N0):Meth (KX P) 293 "ends_at" 283:=⟨by kernel_rfl,by kernel_rfl,by kernel_rfl⟩
section
variable {P:Program} {w:S0} {mg:Str->Option Value} {base:Heap}
def z53:Sp:=λ vs H Q _=>∃x T,vs=[x]/\TagOf H x T/\Q (.bl (decide (T = "int"))) H
theorem zdb (T:TX (kx w) mg):Fo P w mg base CX0 1 28 y1m ["value"] z53:=by
 refine (z70 w.params).ok zdc (λ b H Q E h=>?_) (λ e A d s H b Q E c h=>?_)
 ·obtain ⟨x,t,rfl,_⟩:=h;rfl
 ·obtain ⟨x,t,rfl,a,q⟩:=h;refine ⟨_,(z04 (ps_ret (pe_and (z09 z0l rfl (T.no (z0k _)) Z2 (z00 (pv 0) (z00 (z3g (v:=.ty "int") rfl (T.no (n_int _)) boot_int rfl) pa_nil))) (pe_one (pe_not (z09 z0l rfl (T.no (z0k _)) Z2 (z00 (pv 0) (z00 (z3g (v:=.ty "bool") rfl (T.no (n_bool _)) boot_bool rfl) pa_nil)))))))),?_⟩;refine ⟨_,rfl,_,_,_,rfl,a,by decide,_,rfl,?_⟩;by_cases h1:instB t "int" = true
  ·rw [if_pos h1];refine ⟨_,rfl,_,_,_,rfl,a,by decide,_,rfl,?_⟩;rw [z8a a (by decide)];have:(!decide (t = "bool"))=decide (t = "int"):=by rcases a.one with rfl|rfl|rfl|rfl|rfl|rfl|rfl<;>revert h1<;>decide
   rw [this];exact q
  ·rw [if_neg h1];have:decide (t = "int")=false:=by rcases a.one with rfl|rfl|rfl|rfl|rfl|rfl|rfl<;>revert h1<;>decide
   rw [this] at q;exact q
def z6u:Sp:=λ vs H Q _=>∃x T g,vs=[x,.int g]/\TagOf H x T/\Q (.bl (z0x x g)) H
theorem zby (T:TX (kx w) mg) (c0:Ca P w mg base "is_whole" ["value"] 1 z53):Fo P w mg base CX0 2 35 y15 ["value","greatest"] z6u:=by
 refine (z5g w.params).ok zbe (λ c H Q E h=>?_) (λ e A d s H c Q E b h=>?_)
 ·obtain ⟨x,t,g,rfl,_⟩:=h;rfl
 ·obtain ⟨x,t,g,rfl,a,q⟩:=h;refine ⟨_,(z04 (ps_ret (pe_and (pe_cal c0 (b.mono (by decide)) rfl (z00 (pv 0) pa_nil)) (pe_one (zkd op_le op_le (pe_un un_neg (pv 1)) (pv 0) (pv 1)))))),?_⟩;refine ⟨_,rfl,x,t,rfl,a,_,rfl,?_⟩;by_cases h1:t = "int"
  ·subst h1;obtain ⟨i,rfl⟩:=a.int;refine iteT ?_;refine ⟨_,rfl,_,rfl,_,rfl,_,_,rfl,rfl,_,rfl,?_⟩;unfold z0x at q;dsimp only at q;by_cases h2:-g<=i
   ·rw [decide_eq_true h2] at q⊢;refine iteT ⟨_,rfl,_,_,rfl,rfl,?_⟩;rw [u9] at q;exact q
   ·rw [decide_eq_false h2] at q⊢;refine iteF ?_;rw [R6] at q;exact q
  ·rw [decide_eq_false h1];refine iteF ?_;rw [noInt a h1] at q;exact q
def z7w:Sp:=λ vs H Q _=>∃x T,vs=[x]/\TagOf H x T/\Q (.bl (z0x x 1000000000)) H
theorem zdl (T:TX (kx w) mg) (c0:Ca P w mg base "is_within" ["value","greatest"] 2 z6u):Fo P w mg base CX0 3 42 y1n ["value"] z7w:=by
 refine (z6l w.params).ok zdq (λ c H Q E h=>?_) (λ e A d s H c Q E a h=>?_)
 ·obtain ⟨x,t,rfl,_⟩:=h;rfl
 ·obtain ⟨x,t,rfl,b,q⟩:=h;refine ⟨_,(z04 (ps_ret (pe_cal c0 (a.mono (by decide)) rfl (z00 (pv 0) (z00 (z6v (v:=.int (1000000000)) rfl (T.of (z6j _)) ⟨_,rfl⟩) pa_nil))))),?_⟩;exact ⟨_,rfl,x,t,1000000000,rfl,b,q⟩
def z4v:Sp:=λ vs H Q _=>∃x T m,vs=[x,.int m]/\TagOf H x T/\Q (.bl (match tupOf H x with|some xs=>decide ((xs.length:Int)=m)|none=>false)) H
theorem z8r (T:TX (kx w) mg):Fo P w mg base CX0 1 49 y0m ["value","many"] z4v:=by
 refine (z38 w.params).ok z80 (λ f H Q E h=>?_) (λ l A j s H f Q E k h=>?_)
 ·obtain ⟨x,t,g,rfl,_⟩:=h;rfl
 ·obtain ⟨x,t,g,rfl,b,q⟩:=h;refine ⟨_,(z04 (ps_ret (pe_and (z09 z0l rfl (T.no (z0k _)) Z2 (z00 (pv 0) (z00 (z3g (v:=.ty "tuple") rfl (T.no (z25 _)) W3 rfl) pa_nil))) (pe_one (z0v opEq (z09 z0s rfl (T.no (n_len _)) E3 (z00 (pv 0) pa_nil)) (pv 1) (nomark _)))))),?_⟩;refine ⟨_,rfl,_,_,_,rfl,b,by decide,_,rfl,?_⟩;rw [z8a b (by decide)];by_cases h1:t = "tuple"
  ·subst h1;obtain ⟨a,c,rfl,d⟩:=b.tuple;refine iteT ⟨_,rfl,.inl ⟨a,c,rfl,.inr (SqT.of d),_,rfl,rfl,?_⟩⟩;have e:tupOf H (.ref a)=some c:=by unfold tupOf;dsimp only;rw [d]
   rw [e] at q;have i:decide (V.int (c.length:Int)=V.int g)=decide ((c.length:Int)=g):=by simp
   rw [i];exact q
  ·rw [decide_eq_false h1];refine iteF ?_;rw [noTup b h1] at q;exact q
noncomputable def kindB (x:V):Bool:=match x with
 | .str z=>(kl_FIRST_STATES.lookup z).isSome
 | _=>false
def z6q:Sp:=λ vs H Q _=>∃x T,vs=[x]/\TagOf H x T/\Q (.bl (kindB x)) H
theorem zef (T:TX (kx w) mg):Fo P w mg base CX0 1 183 y1u ["kind"] z6q:=by
 refine (z83 w.params).ok zf3 (λ b H Q E h=>?_) (λ e A d s H b Q E c h=>?_)
 ·obtain ⟨x,t,rfl,_⟩:=h;rfl
 ·obtain ⟨x,t,rfl,a,q⟩:=h;refine ⟨_,(z04 (ps_ret (pe_and (z09 z0l rfl (T.no (z0k _)) Z2 (z00 (pv 0) (z00 (z3g (v:=.ty "str") rfl (T.no (n_str _)) boot_str rfl) pa_nil))) (pe_one (z0v (zk7 (z3w _)) (pv 0) (z6v (v:=.ref 99) rfl (T.of (z4x _)) rfl) (by with_unfolding_all rfl)))))),?_⟩;refine ⟨_,rfl,_,_,_,rfl,a,by decide,_,rfl,?_⟩;rw [z8a a (by decide)];by_cases h1:t = "str"
  ·subst h1;obtain ⟨z,rfl⟩:=a.str;exact iteT ⟨_,rfl,z,rfl,rfl,q⟩
  ·rw [decide_eq_false h1];refine iteF ?_;cases x with
   | str z=>exact absurd a h1
   | _=>exact q
noncomputable def formOf (k v:Str):Int:=match kl_DOERS.lookup (k,v) with
 | none=>-1
 | some _=>(match kl_WORTHS_OF_VERBS.lookup v with|some (.int i)=>i|_=>-1)
noncomputable def deedB (H:Hp) (k v x:V):Bool:=match k,v with
 | .str a,.str b=>if formOf a b=0 then decide (x=.non) else if formOf a b=1 then z0x x 1000000000 else if formOf a b=2 then
   (match tupOf H x with|some xs=>decide (xs.length=2) && xs.all λ y=>z0x y 1000000000|none=>false) else false
 | _,_=>false
theorem zan {a b:Str} {v:V} (h:kl_DOERS.lookup (a,b)=some v):(kl_FIRST_STATES.lookup a).isSome=true/\∃i,kl_WORTHS_OF_VERBS.lookup b=some (.int i)/\(i=0\/i=1\/i=2):=by
 have m:=zb8 h;have all :∀p∈kl_DOERS,(kl_FIRST_STATES.lookup p.1.1).isSome=true/\(kl_WORTHS_OF_VERBS.lookup p.1.2=some (.int 0)\/kl_WORTHS_OF_VERBS.lookup p.1.2=some (.int 1)\/kl_WORTHS_OF_VERBS.lookup p.1.2=some (.int 2)):=by decide +kernel
 obtain ⟨d,c⟩:=all _ m;refine ⟨d,?_⟩;rcases c with c|c|c
 ·exact ⟨0,c,.inl rfl⟩
 ·exact ⟨1,c,.inr (.inl rfl)⟩
 ·exact ⟨2,c,.inr (.inr rfl)⟩
def zar:Sp:=λ vs H Q _=>∃k v x Tk Tv Tx,vs=[k,v,x]/\TagOf H k Tk/\TagOf H v Tv/\TagOf H x Tx/\Flat H x/\∀H',Same H H'->Q (.bl (deedB H k v x)) H'
theorem zfa (T:TX (kx w) mg) (c0:Ca P w mg base "is_kind" ["kind"] 1 z6q) (c1:Ca P w mg base "is_worth" ["value"] 3 z7w) (c2:Ca P w mg base "is_tuple_of" ["value","many"] 1 z4v):Fo P w mg base CX0 4 195 y1v ["kind","verb","worth"] zar:=by
 refine (z8q w.params).ok sc_is_deed (λ vs H Q E h=>?_) (λ a2 A a1 s H vs Q E n h=>?_)
 ·obtain ⟨k,v,x,J,S,t,rfl,_⟩:=h;rfl
 ·obtain ⟨k,v,x,J,S,t,rfl,hk,r,F,hf,q⟩:=h;refine ⟨_,(z02 (ps_if (PW.pt (pw_or (pt_not (pt_val (pe_cal c0 (n.mono (by decide)) rfl (z00 (pv 0) pa_nil)) (λ _=>rfl))) (pw_or (pt_not (pt_val (z09 z0l rfl (T.no (z0k _)) Z2 (z00 (pv 1) (z00 (z3g (v:=.ty "str") rfl (T.no (n_str _)) boot_str rfl) pa_nil))) (λ _=>rfl))) (pw_or1 (z07 (zbx (hu_of n) (zg7 _)) (pe_tup (z00 (pv 0) (z00 (pv 1) pa_nil))) (z6v (v:=.ref 164) rfl (T.of (zj8 _)) rfl) (by with_unfolding_all rfl))))))
   (z04 (ps_ret pe_bl))
   z0b)
   (z02 (ps_set (i:=3) sc_is_deed.nd rfl (Y0 rfl) (pe_ix (ix_kd (z5l _)) (z6v (v:=.ref 102) rfl (T.of (z5w _)) rfl) (pv 1) (λ _ _=>rfl)))
   (z02 (ps_if (z07 opEq (pv 3) pe_int (nomark _))
   (z04 (ps_ret (z0v op_isN (pv 2) pe_non (nomark _))))
   z0b)
   (z02 (ps_if (z07 opEq (pv 3) pe_int (nomark _))
   (z04 (ps_ret (pe_cal c1 (n.mono (by decide)) rfl (z00 (pv 2) pa_nil))))
   z0b)
   (z04 (ps_ret (pe_and (pe_cal c2 (n.mono (by decide)) rfl (z00 (pv 2) (z00 (pv 3) pa_nil))) (pe_one (z09 (zcs rfl) rfl (T.no (n_all _)) boot_all (z00 (pe_cg (xs:=["part"]) (g:=gName 0) (fr:=[]) (pi_tup (pv 2)) (λ _ _ _ _ _=>(pg_cn (N:=["part"]) 0)) (λ _ _ _ _ _=>pf_nil) (λ _ _ _ _ _=>(pe_cal c1 (n.mono (by decide)) rfl (z00 (pv 0) pa_nil)))) pa_nil)))))))))),?_⟩
  refine ⟨_,rfl,k,J,rfl,hk,_,rfl,?_⟩;have L:deedB H k v x=false->Q (.bl false) H:=λ e=>by have:=q H (Same.refl H);rw [e] at this;exact this
  by_cases j :∃a,k=.str a/\(kl_FIRST_STATES.lookup a).isSome=true
  ·obtain ⟨a,rfl,j⟩:=j;have Y:kindB (.str a)=true:=j;rw [Y];refine iteF ?_;refine ⟨_,rfl,_,_,_,rfl,r,by decide,_,rfl,?_⟩;rw [z8a r (by decide)];by_cases o:S = "str"
   ·subst o;obtain ⟨b,rfl⟩:=r.str;refine iteF ?_;refine ⟨_,rfl,_,rfl,?_⟩;refine ⟨w_2,λ p hp=>⟨p,a,b,rfl,upd_same,rfl,_,rfl,?_⟩⟩;have d:Same H (upd H p (.tup [.str a,.str b])):=Same.upd hp;cases h3:kl_DOERS.lookup (a,b) with
    | none=>
     refine iteT ?_;have:=q _ d;have e:deedB H (.str a) (.str b) x=false:=by unfold deedB formOf;dsimp only;rw [h3];rfl
     rw [e] at this;exact this
    | some z=>
     refine iteF ?_;obtain ⟨_,i,I,h5⟩:=zan h3;have u:formOf a b=i:=by unfold formOf;rw [h3];dsimp only;rw [I]
     refine ⟨_,rfl,b,.int i,rfl,rfl,I,?_⟩;refine ⟨_,rfl,rfl,_,rfl,?_⟩;rcases h5 with rfl|rfl|rfl
     ·refine iteT ⟨_,rfl,rfl,?_⟩;have:=q _ d;have e:deedB H (.str a) (.str b) x=decide (x=.non):=by unfold deedB;dsimp only;rw [u];rfl
      rw [e] at this;exact this
     ·refine iteF ⟨_,rfl,rfl,_,rfl,?_⟩;refine iteT ⟨_,rfl,x,t,rfl,F.same d,?_⟩;have:=q _ d;have e:deedB H (.str a) (.str b) x=z0x x 1000000000:=by unfold deedB;dsimp only;rw [u];rfl
      rw [e] at this;exact this
     ·refine iteF ⟨_,rfl,rfl,_,rfl,?_⟩;refine iteF ⟨_,rfl,_,rfl,x,t,2,rfl,F.same d,_,rfl,?_⟩;rw [zes F d];have e:deedB H (.str a) (.str b) x=(match tupOf H x with|some xs=>decide (xs.length=2) && xs.all λ y=>z0x y 1000000000|none=>false):=by unfold deedB;dsimp only;rw [u];rfl
      rw [e] at q;cases ht:tupOf H x with
      | none=>rw [ht] at q;exact iteF (q _ d)
      | some xs=>
       rw [ht] at q;dsimp only at q⊢;by_cases m:xs.length=2
       ·have C:((xs.length:Nat):Int)=2:=by omega
        rw [if_pos (decide_eq_true C)];rw [decide_eq_true m,u9] at q;obtain ⟨c,rfl,hc⟩:=zg5 ht;have a0:xs.length<=sizeLine:=by rw [m];decide
        refine e_cb1 ?_;refine z3j (K:=KX w.params) (a:=c) (xs:=xs) (H1:=upd H p (.tup [.str a,.str b])) (λ _=>true) (λ i y _=>y=.bl (z0x (xs[i]?.getD .non) 1000000000)) (λ _ _ _ _ _ z=>z) (λ R h=>⟨_,rfl,h⟩) (SqT.of (d _ _ hc)) a0 ?_ ?_
        ·intro i G B X D M KT KF Z k2;obtain ⟨Ty,ty⟩:=(hf xs ht).2 B (O0 M);refine ⟨[some B],rfl,rfl,iteT ?_⟩;exact ⟨_,rfl,B,Ty,rfl,(ty.same d).same D,Z rfl _ _ (Same.refl _) (by rw [M];rfl)⟩
        ·intro l X ys D m O;rw [List.filter_eq_self.mpr (λ _ _=>rfl)] at O;have U:ys=xs.map λ y=>V.bl (z0x y 1000000000):=by
          rw [z58 (f:=λ i=>V.bl (z0x (xs[i]?.getD .non) 1000000000)) O];apply X5
          ·simp
          ·intro i j o;have G:i < xs.length:=by simpa using j
           simp [B0 G]
         subst U;refine ⟨l,_,rfl,SqL.of upd_same,λ y W=>?_,?_⟩
         ·obtain ⟨z,_,rfl⟩:=List.mem_map.mp W;exact ⟨_,rfl⟩
         ·have e9:((xs.map λ y=>V.bl (z0x y 1000000000)).all λ y=>decide (y=V.bl true))=xs.all λ y=>z0x y 1000000000:=by rw [List.all_map];congr 1;funext y;simp
          rw [e9];exact q _ ((d.trans D).trans (Same.upd m))
       ·have C:¬ ((xs.length:Nat):Int)=2:=by omega
        rw [if_neg (by rw [decide_eq_false C];exact M0)];rw [decide_eq_false m,R6] at q;exact q _ d
   ·rw [decide_eq_false o];refine iteT ?_;exact L (by unfold deedB;cases v with|str z=>exact absurd r o|_=>rfl)
  ·have e1:kindB k=false:=by
    cases k with
    | str z=>exact Bool.eq_false_iff.mpr λ e=>j ⟨z,rfl,e⟩
    | _=>rfl
   rw [e1];refine iteT ?_;refine L ?_;cases k with
   | str a=>
    cases v with
    | str b=>
     unfold deedB formOf;dsimp only;cases h3:kl_DOERS.lookup (a,b) with
     | none=>rfl
     | some z=>exact absurd ⟨a,rfl,(zan h3).1⟩ j
    | _=>rfl
   | _=>rfl
theorem deedB0 {H:Hp} {a b:Str} {x:V} (h:formOf a b=0):deedB H (.str a) (.str b) x=decide (x=.non):=by unfold deedB;dsimp only;rw [h];rfl
theorem deedB1 {H:Hp} {a b:Str} {x:V} (h:formOf a b=1):deedB H (.str a) (.str b) x=z0x x 1000000000:=by unfold deedB;dsimp only;rw [h];rfl
theorem deedB2 {H:Hp} {a b:Str} {x:V} {xs:List V} (h:formOf a b=2) (e:tupOf H x=some xs):deedB H (.str a) (.str b) x=(decide (xs.length=2) && xs.all λ y=>z0x y 1000000000):=by unfold deedB;dsimp only;rw [h,e];rfl
def z35:Sp:=λ vs H Q _=>∃st x,vs=[st,x]/\∀p,H p=none->Q (.ref p) (upd H p (.tup [st,st]))
theorem z9r (T:TX (kx w) mg):Fo P w mg base CX0 1 109 y0s ["state","worth"] z35:=by
 refine (z41 w.params).ok z9x (λ b H Q E h=>?_) (λ e A d s H b Q E c h=>?_)
 ·obtain ⟨a,x,rfl,_⟩:=h;rfl
 ·obtain ⟨a,x,rfl,q⟩:=h;refine ⟨_,(z04 (ps_ret (pe_tup (z00 (pv 0) (z00 (pv 0) pa_nil))))),?_⟩;exact ⟨_,rfl,_,rfl,w_2,q⟩
def z2c:Sp:=λ vs H Q _=>∃st x,vs=[st,x]/\∀p,H p=none->Q (.ref p) (upd H p (.tup [x,.str "ok"]))
theorem z8u (T:TX (kx w) mg):Fo P w mg base CX0 1 116 y0n ["state","worth"] z2c:=by
 refine (z36 w.params).ok z84 (λ b H Q E h=>?_) (λ e A d s H b Q E c h=>?_)
 ·obtain ⟨a,x,rfl,_⟩:=h;rfl
 ·obtain ⟨a,x,rfl,q⟩:=h;refine ⟨_,(z04 (ps_ret (pe_tup (z00 (pv 1) (z00 pe_str pa_nil))))),?_⟩;exact ⟨_,rfl,w_2,q⟩
def z1p:Sp:=λ vs H Q _=>∃i j:Int,vs=[.int i,.int j]/\∀p,H p=none->Q (.ref p) (upd H p (.tup [.int (i + j),.int i]))
theorem z6o (T:TX (kx w) mg):Fo P w mg base CX0 1 123 y09 ["state","worth"] z1p:=by
 refine (z1z w.params).ok z6h (λ a H Q E h=>?_) (λ e A c s H a Q E b h=>?_)
 ·obtain ⟨d,x,rfl,_⟩:=h;rfl
 ·obtain ⟨i,j,rfl,q⟩:=h;refine ⟨_,(z04 (ps_ret (pe_tup (z00 (pe_op opAdd (pv 0) (pv 1)) (z00 (pv 0) pa_nil))))),?_⟩;exact ⟨_,rfl,_,rfl,.inl ⟨_,_,rfl,rfl,_,rfl,w_2,q⟩⟩
def z2q (K:b0):Sp:=λ vs H Q _=>∃(i a b:Int) (t:Addr),vs=[.int i,.ref t]/\SqT K H t [.int a,.int b]/\∀p,H p=none->Q (.ref p) (upd H p (.tup (if i=a then [.int b,.int 1] else [.int i,.int 0])))
theorem z9d (T:TX (kx w) mg):Fo P w mg base CX0 1 163 y0w ["state","worth"] (z2q (kx w)):=by
 refine (z47 w.params).ok zaj (λ d H Q E h=>?_) (λ j A g s H d Q E f h=>?_)
 ·obtain ⟨i,a,b,t,rfl,_⟩:=h;rfl
 ·obtain ⟨i,a,b,t,rfl,c,q⟩:=h;refine ⟨_,(z02 (ps_if (z07 opEq (pv 0) (pe_ix ix_seq (pv 1) pe_int (λ _ _=>rfl)) (nomark _))
   (z04 (ps_ret (pe_tup (z00 (pe_ix ix_seq (pv 1) pe_int (λ _ _=>rfl)) (z00 pe_int pa_nil)))))
   z0b)
   (z04 (ps_ret (pe_tup (z00 (pv 0) (z00 pe_int pa_nil)))))),?_⟩
  refine ⟨_,rfl,_,rfl,.inr (.inl ⟨t,_,0,.int a,rfl,rfl,c,rfl,rfl,_,rfl,?_⟩)⟩;by_cases e:i=a
  ·subst e;rw [decide_eq_true rfl];simp only [if_true] at q;exact iteT ⟨_,rfl,.inr (.inl ⟨t,_,1,.int b,rfl,rfl,c,rfl,w_2,q⟩)⟩
  ·rw [decide_eq_false (λ z=>e (by cases z;rfl))];simp only [if_neg e] at q;exact iteF ⟨_,rfl,w_2,q⟩
def z34 (K:b0):Sp:=λ vs H Q _=>∃(t:Addr) (ns:List V) (x:V),vs=[.ref t,x]/\SqT K H t ns/\ns.length < 1000/\∀p p' H',Same H H'->H' p=some (.tup [.ref p',.str "ok"])->SqT K H' p' (ns++[x])->Q (.ref p) H'
theorem z9q (T:TX (kx w) mg):Fo P w mg base CX0 1 130 y0t ["state","worth"] (z34 (kx w)):=by
 refine (z3y w.params).ok za0 (λ e H Q E h=>?_) (λ u A n s H e Q E p h=>?_)
 ·obtain ⟨t,b,x,rfl,_⟩:=h;rfl
 ·obtain ⟨t,b,x,rfl,m,d,q⟩:=h;refine ⟨_,(z04 (ps_ret (pe_tup (z00 (pe_op op_catS (pv 0) (pe_tup (z00 (pv 1) pa_nil))) (z00 pe_str pa_nil))))),?_⟩;refine ⟨_,rfl,_,rfl,w_1,λ j f=>?_⟩;have c:=Same.upd (o:=.tup [x]) f;refine ⟨t,j,b,[x],rfl,rfl,c.seqT m,SqT.of upd_same,by simp,C0 (Nat.add_le_add_right (A3 d) _) (show 1000 + 1<=sizeLine by decide),λ l r g i=>?_⟩;refine ⟨w_2,λ k a=>?_⟩;exact q k l _ ((c.trans g).trans (Same.upd a)) upd_same ((Same.upd a).seqT i)
def z2p (K:b0):Sp:=λ vs H Q _=>∃(t:Addr) (ns:List V) (x:V),vs=[.ref t,x]/\SqT K H t ns/\
 (ns=[]->∀p H',Same H H'->H' p=some (.tup [.ref t,.str "none"])->Q (.ref p) H')/\(∀n r,ns=n :: r->∀p p' H',Same H H'->H' p=some (.tup [.ref p',n])->SqT K H' p' r->Q (.ref p) H')
theorem zac (T:TX (kx w) mg):Fo P w mg base CX0 1 137 y0u ["state","worth"] (z2p (kx w)):=by
 refine (z4b w.params).ok z99 (λ e H Q E h=>?_) (λ y A u s H e Q E v h=>?_)
 ·obtain ⟨t,a,x,rfl,_⟩:=h;rfl
 ·obtain ⟨t,a,x,rfl,b,l,g⟩:=h;refine ⟨_,(z02 (ps_if (z07 opEq (z09 z0s rfl (T.no (n_len _)) E3 (z00 (pv 0) pa_nil)) pe_int (nomark _))
   (z04 (ps_ret (pe_tup (z00 (pv 0) (z00 pe_str pa_nil)))))
   z0b)
   (z04 (ps_ret (pe_tup (z00 (z1k slSeq (pv 0) (z1q pe_int) z3b) (z00 (pe_ix ix_seq (pv 0) pe_int (λ _ _=>rfl)) pa_nil)))))),?_⟩
  refine ⟨_,rfl,.inl ⟨t,a,rfl,.inr b,rfl,_,rfl,?_⟩⟩;cases a with
  | nil=>exact iteT ⟨_,rfl,w_2,λ p m=>l rfl p _ (Same.upd m) upd_same⟩
  | cons n r=>
   rw [decide_eq_false (show ¬ V.int (((n :: r).length:Nat):Int)=V.int 0 from λ z=>by injection z with z;rw [P0] at z;omega)];refine iteF ⟨_,rfl,_,rfl,.inr (.inl ⟨t,_,rfl,b,?_,λ k f=>?_⟩)⟩
   ·intro z;have:HT.sIx (n :: r).length 0 (some 1)=1:=by rw [P0];simp [HT.sIx]
    omega
   ·have d:=Same.upd (o:=.tup (cutV (n :: r) (some 1) none)) f;have i:cutV (n :: r) (some 1) none=r:=by unfold cutV;simp [HT.sIx]
    refine ⟨_,rfl,.inr (.inl ⟨t,_,0,n,rfl,rfl,d.seqT b,z05 (j:=0) rfl,w_2,λ q c=>?_⟩)⟩;refine g n r rfl q k _ (d.trans (Same.upd c)) upd_same ((Same.upd c).seqT (SqT.of ?_));rw [upd_same,i]
theorem dec_i0 (i j:Int):decide (V.int i=V.int j)=decide (i=j):=by simp
theorem zcl {q:Int->Bool} :∀(ns:List Int) (ys:List V),All2 (λ (i:Nat) y=>ns[i]?.map V.int=some y) ((C1 ns.length).filter λ i=>(ns[i]?.map q).getD false) ys->ys=(ns.filter q).map V.int
 | [],ys,h=>by cases h;rfl
 | n :: ns,ys,h=>by
  have un :∀{is:List Nat} {ys:List V},All2 (λ (i:Nat) y=>(n :: ns)[i]?.map V.int=some y) (is.map Nat.succ) ys->All2 (λ (i:Nat) y=>ns[i]?.map V.int=some y) is ys:=λ {is}=>by
   induction is with
   | nil=>intro ys h;cases h;exact .nil
   | cons i is ih=>intro ys h;cases h with|cons a r=>exact .cons a (ih r)
  rw [P0,List.range_succ_eq_map,y4,List.filter_map] at h;rw [y4];by_cases z:q n=true
  ·rw [if_pos (show (j06 q (n :: ns)[0]?).getD false=true from z)] at h;rw [if_pos z,j1];cases h with
   | cons a r=>rw [<-zcl ns _ (un r),<-Q1 a]
  ·rw [if_neg (show ¬ (j06 q (n :: ns)[0]?).getD false=true from z)] at h;rw [if_neg z];exact zcl ns _ (un h)
def z22 (K:b0):Sp:=λ vs H Q _=>∃(t:Addr) (ns:List Int) (i:Int),vs=[.ref t,.int i]/\SqT K H t (ns.map V.int)/\ns.length < 63/\
 (i∈ns->∀p H',Same H H'->H' p=some (.tup [.ref t,.int 0])->Q (.ref p) H')/\(i∉ns->∀(p p':Addr) (ns':List Int) (H':Hp),Same H H'->H' p=some (.tup [.ref p',.int 1])->SqT K H' p' (ns'.map V.int)->ns'.Perm (ns++[i])->ns'.Pairwise (·<=·)->Q (.ref p) H')
theorem z7f (T:TX (kx w) mg):Fo P w mg base CX0 1 144 y0f ["state","worth"] (z22 (kx w)):=by
 refine (z2h w.params).ok z7i (λ n H Q E h=>?_) (λ K A G s H n Q E I h=>?_)
 ·obtain ⟨t,a,i,rfl,_⟩:=h;rfl
 ·obtain ⟨t,a,i,rfl,g,c,y,u⟩:=h;refine ⟨_,(z02 (ps_if (z07 z1u (pv 1) (pv 0) (by with_unfolding_all rfl))
   (z04 (ps_ret (pe_tup (z00 (pv 0) (z00 pe_int pa_nil)))))
   z0b)
   (z04 (ps_ret (pe_tup (z00 (z0r z0j rfl (T.no (z25 _)) W3 (z00 (z09 z2g rfl (T.no (z5c _)) X7 (z00 (pe_op op_catS (pv 0) (pe_tup (z00 (pv 1) pa_nil))) pa_nil)) pa_nil)) (z00 pe_int pa_nil)))))),?_⟩
  refine ⟨_,rfl,_,rfl,t,_,rfl,.inr g,rfl,z3i a,_,rfl,?_⟩;rw [if_neg M0,z59];by_cases hi:i∈a
  ·rw [decide_eq_true hi];exact iteT ⟨_,rfl,w_2,λ p z=>y hi p _ (Same.upd z) upd_same⟩
  ·rw [decide_eq_false hi];refine iteF ⟨_,rfl,_,rfl,w_1,λ v q=>?_⟩;have f:=Same.upd (o:=.tup [.int i]) q;refine ⟨t,v,a.map V.int,[.int i],rfl,rfl,f.seqT g,SqT.of upd_same,by simp,?_,λ B J r e=>?_⟩
   ·rw [F0];exact C0 (Nat.succ_le_of_lt (u2 c)) (by decide)
   rw [show a.map V.int++[V.int i]=(a++[i]).map V.int by rw [u1];rfl] at e;refine ⟨B,a++[i],rfl,.inr e,by rw [K0];exact Nat.succ_lt_succ c,λ l b m C j=>?_⟩;have k:=Same.upd (o:=.lst (b.map V.int)) m;refine ⟨l,_,rfl,.inl ⟨SqL.of upd_same,λ D x=>⟨w_2,λ F d=>?_⟩⟩⟩;exact u hi F D b _ ((((f.trans r).trans k).trans (Same.upd x)).trans (Same.upd d)) upd_same (SqT.of ((Same.upd d) _ _ upd_same)) C j
def z23 (K:b0):Sp:=λ vs H Q _=>∃(t:Addr) (ns:List Int) (i:Int),vs=[.ref t,.int i]/\SqT K H t (ns.map V.int)/\ns.length < 64/\
 (i∉ns->∀p H',Same H H'->H' p=some (.tup [.ref t,.int 0])->Q (.ref p) H')/\(i∈ns->∀p p' H',Same H H'->H' p=some (.tup [.ref p',.int 1])->SqT K H' p' ((ns.filter λ j=>!decide (j=i)).map V.int)->Q (.ref p) H')
theorem z7g (T:TX (kx w) mg):Fo P w mg base CX0 1 149 y0g ["state","worth"] (z23 (kx w)):=by
 refine (z2j w.params).ok z78 (λ F H Q E h=>?_) (λ Z A U s H F Q E Y h=>?_)
 ·obtain ⟨t,b,i,rfl,_⟩:=h;rfl
 ·obtain ⟨t,b,i,rfl,q,r,M,I⟩:=h;refine ⟨_,(z02 (ps_if (z07 z16 (pv 1) (pv 0) (by with_unfolding_all rfl))
   (z04 (ps_ret (pe_tup (z00 (pv 0) (z00 pe_int pa_nil)))))
   z0b)
   (z04 (ps_ret (pe_tup (z00 (z0r z0j rfl (T.no (z25 _)) W3 (z00 (pe_cg (xs:=["held"]) (g:=gName 0) (fr:=[(1,"worth")]) (pi_tup (pv 0)) (λ _ _ _ _ _=>(pg_cn (N:=["held","worth"]) 0)) (λ _ _ _ _ _=>(pf_one (z07 opNe (pv 0) (pv 1) (nomark _)))) (λ _ _ _ _ _=>(pv 0))) pa_nil)) (z00 pe_int pa_nil)))))),?_⟩
  refine ⟨_,rfl,_,rfl,t,_,rfl,.inr q,rfl,z3i b,_,rfl,?_⟩;rw [if_pos rfl,z59];by_cases hi:i∈b
  ·rw [decide_eq_true hi];refine iteF ?_;have u:(b.map V.int).length<=sizeLine:=by rw [F0];exact C0 (A3 r) (by decide)
   refine t_next ?_;simp only [tRet,tTup,tCB,tCons,tNil];refine z3j (K:=KX w.params) (a:=t) (xs:=b.map V.int) (H1:=H) (λ j=>(b[j]?.map λ n=>!decide (n=i)).getD false) (λ j y _=>b[j]?.map V.int=some y) (λ _ _ _ _ _ z=>z) (λ R h=>⟨_,rfl,h⟩) q u (λ j X v B d f KT W c e=>?_) λ l B G d D m=>?_
   ·rw [V0] at f;obtain ⟨n,J,rfl⟩:=Option.map_eq_some_iff.mp f;rw [J] at c e;refine ⟨[some (.int n)],rfl,rfl,_,rfl,_,rfl,rfl,_,rfl,?_⟩;rw [dec_i0];exact ite2 (λ z=>⟨_,rfl,c z _ _ (Same.refl _) rfl⟩) λ z=>e (Bool.eq_false_iff.mpr z) _ (Same.refl _)
   ·rw [F0] at m;rw [zcl b G m];have C:=Same.upd (o:=.lst ((b.filter λ j=>!decide (j=i)).map V.int)) D;refine ⟨l,_,rfl,.inl ⟨SqL.of upd_same,λ x L=>⟨w_2,λ S k=>?_⟩⟩⟩;exact I hi S x _ (((d.trans C).trans (Same.upd L)).trans (Same.upd k)) upd_same (SqT.of ((Same.upd k) _ _ upd_same))
  ·rw [decide_eq_false hi];exact iteT ⟨_,rfl,w_2,λ p O=>M hi p _ (Same.upd O) upd_same⟩
def z3a (K:b0):Sp:=λ vs H Q _=>∃(t:Addr) (ns:List Int) (i:Int),vs=[.ref t,.int i]/\SqT K H t (ns.map V.int)/\∀p H',Same H H'->H' p=some (.tup [.ref t,.int (if i∈ns then 1 else 0)])->Q (.ref p) H'
theorem z9p (T:TX (kx w) mg):Fo P w mg base CX0 1 156 y0v ["state","worth"] (z3a (kx w)):=by
 refine (z4a w.params).ok za2 (λ c H Q E h=>?_) (λ g A f s H c Q E e h=>?_)
 ·obtain ⟨t,b,i,rfl,_⟩:=h;rfl
 ·obtain ⟨t,b,i,rfl,d,q⟩:=h;refine ⟨_,(z04 (ps_ret (pe_tup (z00 (pv 0) (z00 (zkm (z07 z1u (pv 1) (pv 0) (by with_unfolding_all rfl)) pe_int pe_int) pa_nil))))),?_⟩;refine ⟨_,rfl,_,rfl,_,rfl,t,_,rfl,.inr d,rfl,z3i b,_,rfl,?_⟩;rw [if_neg M0,z59];by_cases hi:i∈b
  ·rw [if_pos hi] at q;rw [decide_eq_true hi];exact iteT ⟨w_2,λ p a=>q p _ (Same.upd a) upd_same⟩
  ·rw [if_neg hi] at q;rw [decide_eq_false hi];exact iteF ⟨w_2,λ p a=>q p _ (Same.upd a) upd_same⟩
def doTb (K:b0) (f:Addr) (sp:Sp):Prop:=(f=109/\sp=z35)\/(f=116/\sp=z2c)\/(f=123/\sp=z1p)\/(f=130/\sp=z34 K)\/(f=137/\sp=z2p K)\/(f=144/\sp=z22 K)\/(f=149/\sp=z23 K)\/(f=156/\sp=z3a K)\/(f=163/\sp=z2q K)
theorem cal_fn {x:Str} {ps:List Str} {k f:Nat} {sp:Sp} {K:b0} (c:Cal P w K mg base x ps k sp) (e:mg x=some (.ref f)) :∃fd ps,FnOk P w K mg base CX0 k f fd ps sp/\j3 K (.ref f)=true/\Binds K fd ps []:=by obtain ⟨h,fd,b,a,g,d⟩:=c.ex;rw [e] at a;cases a;exact ⟨fd,ps,b,g,d⟩
def sp_do (K:b0):Sp:=λ vs H Q _=>∃(k v:Str) (st x:V) (f:Addr) (sp:Sp) (Tx:String),vs=[.str k,st,.str v,x]/\TagOf H x Tx/\Flat H x/\deedB H (.str k) (.str v) x=true/\kl_DOERS.lookup (k,v)=some (.ref f)/\doTb K f sp/\∀H',Same H H'->sp [st,x] H' Q E0
theorem ok_do (T:TX (kx w) mg) (c0:Ca P w mg base "is_deed" ["kind","verb","worth"] 4 zar) (c1:Ca P w mg base "read_state" ["state","worth"] 1 z35) (c2:Ca P w mg base "write_state" ["state","worth"] 1 z2c) (c3:Ca P w mg base "add_to_number" ["state","worth"] 1 z1p) (c4:Ca P w mg base "put_behind" ["state","worth"] 1 (z34 (kx w))) (c5:Ca P w mg base "take_first" ["state","worth"] 1 (z2p (kx w))) (c6:Ca P w mg base "put_into_set" ["state","worth"] 1 (z22 (kx w))) (c7:Ca P w mg base "cut_from_set" ["state","worth"] 1 (z23 (kx w))) (c8:Ca P w mg base "has_in_set" ["state","worth"] 1 (z3a (kx w))) (c9:Ca P w mg base "swap_state" ["state","worth"] 1 (z2q (kx w))):Fo P w mg base CX0 5 202 y2v ["kind","state","verb","worth"] (sp_do (kx w)):=by
 refine (F_do w.params).ok sc_do (λ u H Q E h=>?_) (λ D A F s H u Q E g h=>?_)
 ·obtain ⟨k,v,r,x,f,j,l,rfl,_⟩:=h;rfl
 ·obtain ⟨k,v,r,x,f,j,l,rfl,o,B,t,m,n,q⟩:=h;have G :∀f j,doTb (kx w) f j->∃k a b,Fo P w mg base CX0 k f a b j/\Room k (A.deeper (N8 "do" (z06 y2u) s.heap.objs.size 202 D))/\j3 (kx w) (.ref f)=true/\Binds (kx w) a b []:=λ f j z=>by
   rcases z with ⟨rfl,rfl⟩|⟨rfl,rfl⟩|⟨rfl,rfl⟩|⟨rfl,rfl⟩|⟨rfl,rfl⟩|⟨rfl,rfl⟩|⟨rfl,rfl⟩|⟨rfl,rfl⟩|⟨rfl,rfl⟩
   ·obtain ⟨a,b,e,d,c⟩:=cal_fn c1 (T.of (z6x _));exact ⟨1,a,b,e,g.mono (by decide),d,c⟩
   ·obtain ⟨a,b,e,d,c⟩:=cal_fn c2 (T.of (z5p _));exact ⟨1,a,b,e,g.mono (by decide),d,c⟩
   ·obtain ⟨a,b,e,d,c⟩:=cal_fn c3 (T.of (z3t _));exact ⟨1,a,b,e,g.mono (by decide),d,c⟩
   ·obtain ⟨a,b,e,d,c⟩:=cal_fn c4 (T.of (z6y _));exact ⟨1,a,b,e,g.mono (by decide),d,c⟩
   ·obtain ⟨a,b,e,d,c⟩:=cal_fn c5 (T.of (z6r _));exact ⟨1,a,b,e,g.mono (by decide),d,c⟩
   ·obtain ⟨a,b,e,d,c⟩:=cal_fn c6 (T.of (z4n _));exact ⟨1,a,b,e,g.mono (by decide),d,c⟩
   ·obtain ⟨a,b,e,d,c⟩:=cal_fn c7 (T.of (z4o _));exact ⟨1,a,b,e,g.mono (by decide),d,c⟩
   ·obtain ⟨a,b,e,d,c⟩:=cal_fn c8 (T.of (z6d _));exact ⟨1,a,b,e,g.mono (by decide),d,c⟩
   ·obtain ⟨a,b,e,d,c⟩:=cal_fn c9 (T.of (z6i _));exact ⟨1,a,b,e,g.mono (by decide),d,c⟩
  refine ⟨_,(z02 (ps_if (pt_not (pt_val (pe_cal c0 (g.mono (by decide)) rfl (z00 (pv 0) (z00 (pv 2) (z00 (pv 3) pa_nil)))) (λ _=>rfl)))
   (z04 z8o)
   z0b)
   (z02 (ps_set (i:=4) sc_do.nd rfl (Y0 rfl) (pe_ix (ix_kdt (hu_of g) (zg7 _)) (z6v (v:=.ref 164) rfl (T.of (zj8 _)) rfl) (pe_tup (z00 (pv 0) (z00 (pv 2) pa_nil))) (λ _ _=>rfl)))
   (z04 (ps_ret (zl0 (doTb (kx w)) (i:=4) rfl (by first|exact Y0 rfl|exact X0 (Y0 rfl)) G (z00 (pv 1) (z00 (pv 3) pa_nil))))))),?_⟩
  refine ⟨_,rfl,_,rfl,_,rfl,.str k,.str v,x,"str","str",l,rfl,rfl,rfl,o,B,λ I y=>⟨_,rfl,?_⟩⟩;rw [t];refine iteF ?_;refine ⟨_,rfl,_,rfl,w_2,λ p C=>⟨p,k,v,.ref f,rfl,rfl,upd_same,m,?_⟩⟩;exact ⟨f,j,rfl,n,_,rfl,_,rfl,q _ (y.trans (Same.upd C))⟩
def z4y:Sp:=λ vs H Q _=>∃(k:Str) (v:V),vs=[.str k]/\kl_FIRST_STATES.lookup k=some v/\Q v H
theorem z8b (T:TX (kx w) mg) (c0:Ca P w mg base "is_kind" ["kind"] 1 z6q):Fo P w mg base CX0 2 190 y0o ["kind"] z4y:=by
 refine (z3d w.params).ok z8d (λ c H Q E h=>?_) (λ f A d s H c Q E b h=>?_)
 ·obtain ⟨k,v,rfl,_⟩:=h;rfl
 ·obtain ⟨k,v,rfl,a,q⟩:=h;refine ⟨_,(z02 (ps_if (pt_not (pt_val (pe_cal c0 (b.mono (by decide)) rfl (z00 (pv 0) pa_nil)) (λ _=>rfl)))
   (z04 z8o)
   z0b)
   (z04 (ps_ret (pe_ix (ix_kd (z3w _)) (z6v (v:=.ref 99) rfl (T.of (z4x _)) rfl) (pv 0) (λ _ _=>rfl))))),?_⟩
  refine ⟨_,rfl,.str k,"str",rfl,rfl,_,rfl,?_⟩;have e:kindB (.str k)=true:=by unfold kindB;dsimp only;rw [a];rfl
  rw [e];exact iteF ⟨_,rfl,k,v,rfl,rfl,a,q⟩
inductive Ev
 | beg (h:Int) (n v x:V)
 | fin (h:Int) (a:V)
noncomputable def EvAt (K:b0) (H:Hp):Ev->V->Prop
 | .beg h n v x,y=>∃p,y=.ref p/\SqT K H p [.str "begin",.int h,n,v,x]
 | .fin h a,y=>∃p,y=.ref p/\SqT K H p [.str "end",.int h,a]
structure Rc where
 h:Int
 n:V
 v:V
 x:V
 a:V
 b:Nat
 e:Option Nat
noncomputable def endV:Option Nat->V
 | none=>.non
 | some i=>.int i
def RcAt (K:b0) (H:Hp) (r:Rc) (y:V):Prop:=∃p,y=.ref p/\SqT K H p [.int r.h,r.n,r.v,r.x,r.a,.int r.b,endV r.e]
def Tups (K:b0) (H H':Hp):Prop:=∀a xs,SqT K H a xs->SqT K H' a xs
theorem Tups.of {K:b0} {H H':Hp} (s:Same H H'):Tups K H H':=λ _ _ q=>s.seqT q
theorem Tups.trans {K:b0} {H H1 H2:Hp} (a:Tups K H H1) (b:Tups K H1 H2):Tups K H H2:=λ _ _ q=>b _ _ (a _ _ q)
theorem Tups.lst {K:b0} {H:Hp} {l:Addr} {o:HO} {zs:List V} (e:H l=some (.lst zs)):Tups K H (upd H l o):=λ _ _ q=>q.wrote e
theorem Tups.dict {K:b0} {H:Hp} {l:Addr} {o:HO} {kvs:List (Key×V)} (e:H l=some (.dK kvs)):Tups K H (upd H l o):=λ a b h=>by
 rcases h with (h|⟨ob,h⟩)|h
 ·exact .inl (.inl (by rw [upd_ne (ne_of h e (by intro z;cases z))];exact h))
 ·exact .inl (.inr ⟨ob,by rw [upd_ne (ne_of h e (by intro z;cases z))];exact h⟩)
 ·exact .inr h
theorem zlb {n j:Nat} (h:j < n):ixN n (j:Nat)=some j:=by unfold ixN;rw [if_pos (by omega),if_pos (by omega)];rfl
theorem Same.keep {H H':Hp} {l:Addr} {o:HO} (s:Same H H') (n:H l=none):Same H (upd H' l o):=λ a x e=>by rw [upd_ne (z08 e n)];exact s a x e
theorem z18 {α β:Type} {R:α->β->Prop} {x:α} {y:β} :∀{xs:List α} {ys:List β},All2 R xs ys->R x y->All2 R (xs++[x]) (ys++[y])
 | _,_,.nil,h=>.cons h .nil
 | _,_,.cons a r,h=>.cons a (z18 r h)
theorem zew {κ:Type} [DecidableEq κ] {kvs:List (κ×V)} {k:κ} {v:V}:(putK kvs k v).length<=kvs.length + 1:=by
 unfold putK;by_cases z:(kvs.any λ a=>decide (a.1=k))=true
 ·rw [if_pos z,F0];omega
 ·rw [if_neg z,K0];exact u0 _
noncomputable def lastI (h:Int) (hs:List Int):Option Nat:=(hs.foldl (λ (acc:Nat×Option Nat) k=>(acc.1 + 1,if k=h then some acc.1 else acc.2)) (0,none)).2
theorem lastF (h:Int) :∀hs:List Int,(hs.foldl (λ (acc:Nat×Option Nat) k=>(acc.1 + 1,if k=h then some acc.1 else acc.2)) (0,none)).1=hs.length:=by
 have b :∀(hs:List Int) (a:Nat×Option Nat),(hs.foldl (λ (acc:Nat×Option Nat) k=>(acc.1 + 1,if k=h then some acc.1 else acc.2)) a).1=a.1 + hs.length:=by
  intro hs;induction hs with
  | nil=>intro a;rfl
  | cons k hs ih=>intro a;rw [List.foldl_cons,ih,P0];show a.1 + 1 + hs.length=_;omega
 intro hs;rw [b hs (0,none)];simp
theorem z3c (h k:Int) (hs:List Int):lastI h (hs++[k])=if k=h then some hs.length else lastI h hs:=by unfold lastI;rw [Q9];show (if k=h then some _ else _)=_;rw [lastF]
theorem z6p {h:Int} {hs:List Int} {j:Nat} (e:lastI h hs=some j):j < hs.length:=by
 have c :∀(hs:List Int) (a:Nat×Option Nat),(∀j,a.2=some j->j < a.1)->∀j,(hs.foldl (λ (acc:Nat×Option Nat) k=>(acc.1 + 1,if k=h then some acc.1 else acc.2)) a).2=some j->j < a.1 + hs.length:=by
  intro hs;induction hs with
  | nil=>intro a b j e;exact b j e
  | cons k hs ih=>
   intro a b j e;rw [List.foldl_cons] at e;have:=ih (a.1 + 1,if k=h then some a.1 else a.2) (λ j e=>by
    dsimp only at e⊢;by_cases z:k=h
    ·rw [if_pos z] at e;cases e;omega
    ·rw [if_neg z] at e;have:=b j e;omega) j e
   rw [P0];dsimp only at this;omega
 have:=c hs (0,none) (λ j e=>by cases e) j e;simpa using this
noncomputable def dstep (i:Nat) (rs:List Rc):Ev->List Rc
 | .beg h n v x=>rs++[⟨h,n,v,x,.non,i,none⟩]
 | .fin h a=>match lastI h (rs.map Rc.h) with|some j=>rs.modify j (λ r=>{ r with a:=a,e:=some i })|none=>rs
noncomputable def dAll:Nat->List Rc->List Ev->List Rc
 | _,rs,[]=>rs
 | i,rs,e :: es=>dAll (i + 1) (dstep i rs e) es
noncomputable def dWf:Nat->List Rc->List Ev->Prop
 | _,_,[]=>True
 | i,rs,e :: es=>(∀h a,e=.fin h a->(lastI h (rs.map Rc.h)).isSome=true)/\dWf (i + 1) (dstep i rs e) es
theorem RcAt.tups {K:b0} {H H':Hp} {r:Rc} {y:V} (t:Tups K H H') (h:RcAt K H r y):RcAt K H' r y:=h.elim λ p z=>⟨p,z.1,t _ _ z.2⟩
theorem EvAt.tups {K:b0} {H H':Hp} (t:Tups K H H') :∀{e:Ev} {y:V},EvAt K H e y->EvAt K H' e y
 | .beg h n v x,_,z=>z.elim λ p z=>⟨p,z.1,t _ _ z.2⟩
 | .fin h a,_,z=>z.elim λ p z=>⟨p,z.1,t _ _ z.2⟩
theorem z7s {α β:Type} {R:α->β->Prop} {f:α->α} {y:β} :∀{xs:List α} {ys:List β} {j:Nat} {x:α},All2 R xs ys->xs[j]? = some x->R (f x) y->All2 R (xs.modify j f) (ys.set j y)
 | _,_,_,_,.nil,e,_=>by simp at e
 | _,_,0,x,.cons a r,e,h=>by rw [O2] at e;cases e;exact .cons h r
 | _,_,j + 1,x,.cons a r,e,h=>by rw [Z1] at e;exact .cons a (z7s r e h)
theorem z0w {α β:Type} {R:α->β->Prop} :∀{xs:List α} {ys:List β} {i:Nat} {x:α},All2 R xs ys->xs[i]? = some x->∃y,ys[i]? = some y/\R x y
 | _,_,i,x,.nil,e=>by simp at e
 | _,_,0,x,.cons a _,e=>by rw [O2] at e;cases e;exact ⟨_,O2,a⟩
 | _,_,i + 1,x,.cons _ r,e=>by rw [Z1] at e;obtain ⟨y,b,c⟩:=z0w r e;exact ⟨y,by rw [Z1];exact b,c⟩
def zbo (K:b0):Sp:=λ vs H Q _=>∃(t te:Addr) (th:V) (ys:List V) (es:List Ev),vs=[.ref t]/\SqT K H t [th,.ref te]/\SqT K H te ys/\All2 (EvAt K H) es ys/\es.length<=100/\dWf 0 [] es/\
 ∀l zs H',Same H H'->H l=none->H' l=some (.lst zs)->All2 (RcAt K H') (dAll 0 [] es) zs->Q (.ref l) H'
theorem zju (T:TX (kx w) mg):Fo P w mg base CX0 1 209 y2l ["tale"] (zbo (kx w)):=by
 refine (zft w.params).ok sc_deeds (λ vs H Q E h=>?_) (λ c2 A c3 s H vs Q E hr h=>?_)
 ·obtain ⟨t,te,th,ys,C,rfl,_⟩:=h;rfl
 ·obtain ⟨t,te,th,ys,C,rfl,st,se,al,hl,wf,q⟩:=h;refine ⟨_,(z02 (ps_set (i:=1) sc_deeds.nd rfl (Y0 rfl) (pe_lst pa_nil))
   (z02 (ps_set (i:=2) sc_deeds.nd rfl (Y0 rfl) z91)
   (z02 (ps_for R1 rfl (zko rfl (T.no (z24 _)) (z00 (pe_ix ix_seq (pv 0) pe_int (λ _ _=>rfl)) pa_nil)) (pg_tup rfl (z0d (z0h (i:=3) sc_deeds.nd rfl (Y0 rfl)) (z0d (z0h (i:=4) sc_deeds.nd rfl (Y0 rfl)) z1b)))
   (z04 (ps_if (z07 opEq (pe_ix ix_seq (pv 4) pe_int (λ _ _=>rfl)) pe_str (nomark _))
   (z02 (zcp (hu_of hr) (pv 2) (pe_ix ix_seq (pv 4) pe_int (λ _ _=>rfl)) (z09 z0s rfl (T.no (n_len _)) E3 (z00 (pv 1) pa_nil)) rfl)
   (z04 (z33 (z1h (pv 1) (z00 (pe_op opAdd (z1k slSeq (pv 4) (z1q pe_int) z3b) (pe_tup (z00 pe_non (z00 (pv 3) (z00 pe_non pa_nil))))) pa_nil)))))
   (z02 (ps_set (i:=5) sc_deeds.nd rfl (Y0 rfl) (z6w (hu_of hr) (pv 2) (pe_ix ix_seq (pv 4) pe_int (λ _ _=>rfl)) (λ _ _=>rfl)))
   (z02 (ps_set (i:=6) sc_deeds.nd rfl (Y0 rfl) (pe_ix ix_seq (pv 1) (pv 5) (λ _ _=>rfl)))
   (z04 (ps_asg (pe_op opAdd (z1k slSeq (pv 6) z3b (z1q pe_int)) (pe_tup (z00 (pe_ix ix_seq (pv 4) pe_int (λ _ _=>rfl)) (z00 (pe_ix ix_seq (pv 6) pe_int (λ _ _=>rfl)) (z00 (pv 3) pa_nil))))) (pg_sub (pv 1) (pv 5) z5k))))))))
   (z04 (ps_ret (pv 1)))))),?_⟩
  refine ⟨w_0,λ l Z=>?_⟩;intro d a0;have S:l≠d:=z08 upd_same a0;have s0:upd H l (.lst []) d=none->H d=none:=λ z=>by rwa [upd_ne S.symm] at z
  have s2:Same H (upd (upd H l (.lst [])) d (.dK [])):=(Same.upd Z).trans (Same.upd a0);have e1:upd (upd H l (.lst [])) d (.dK []) l=some (.lst []):=by rw [upd_ne S];exact upd_same
  have e2:upd (upd H l (.lst [])) d (.dK []) d=some (.dK []):=upd_same;generalize upd (upd H l (.lst [])) d (.dK [])=H2 at s2 e1 e2⊢;have b7:=z03 al;refine ⟨_,rfl,.inr (.inl ⟨t,_,1,.ref te,rfl,rfl,s2.seqT st,z05 (j:=1) rfl,te,ys,rfl,s2.seqT se,?_⟩)⟩;refine zhl (K:=KX w.params) (a:=te) (xs:=ys) (λ i σ L=>∃c f g,L l=some (.lst f)/\All2 (RcAt (kx w) L) c f/\L d=some (.dK g)/\g.length<=i/\c.length<=i/\(∀h,valV g (.inl h)=(lastI h (c.map Rc.h)).map λ j=>V.int (j:Nat))/\dAll i c (C.drop i)=dAll 0 [] C/\dWf i c (C.drop i)/\Same H L/\∃x3 x4 x5 x6,σ=[some (.ref t),some (.ref l),some (.ref d),x3,x4,x5,x6])
   ⟨[],[],[],e1,.nil,e2,u0 _,u0 _,λ h=>rfl,by rw [K5],by rw [K5];exact wf,s2,_,_,_,_,rfl⟩ (λ i σ L h=>?_) ?_ ?_
  ·obtain ⟨c,f,g,_,_,_,_,_,_,_,_,s',_⟩:=h;exact s'.seqT se
  ·rintro i y σ H3 p hy ⟨c,f,g,el,ar,ed,hk,hr',hv,D,dw,s3,x3,x4,x5,x6,rfl⟩ hp;obtain ⟨e,he,ev⟩:=z0f al hy;obtain ⟨hi,ee⟩:=List.getElem?_eq_some_iff.mp he;have dr:C.drop i=e :: C.drop (i + 1):=by rw [j19 hi,ee]
   rw [dr] at D dw;have s4:=s3.trans (Same.upd (o:=.tup [.int i,y]) hp);have N:=(Same.upd (o:=.tup [.int i,y]) hp) _ _ el;have Y:=(Same.upd (o:=.tup [.int i,y]) hp) _ _ ed;have U:=z01 (λ a b z=>RcAt.tups (.of (Same.upd (o:=.tup [.int i,y]) hp)) z) ar;have a5:upd H3 p (.tup [.int i,y]) p=some (.tup [.int i,y]):=upd_same;generalize upd H3 p (.tup [.int i,y])=H4 at s4 N Y U a5⊢;have b0:=EvAt.tups (.of s4) ev;refine ⟨p,_,rfl,SqT.of a5,rfl,.int i,_,rfl,y,_,rfl,rfl,?_⟩;have lz:f.length=c.length:=z03 U;have b3:100<=sizeLine:=by decide
   have a8:i < 100:=L1 hi hl;cases e with
   | beg h n v x=>
    obtain ⟨J,rfl,I⟩:=b0;refine ⟨_,rfl,.inr (.inl ⟨J,_,0,.str "begin",rfl,rfl,I,z05 (j:=0) rfl,rfl,_,rfl,iteP (decide_eq_true rfl) ?_⟩)⟩;refine ⟨_,rfl,.inl ⟨l,f,rfl,.inl (SqL.of N),⟨_,rfl,⟨_,rfl,.inr (.inl ⟨J,_,1,.int h,rfl,rfl,I,z05 (j:=1) rfl,d,_,rfl,DPut.k (k:=.inl h) Y (O1 hk (L1 a8 b3)),?_⟩)⟩⟩⟩⟩;have b8:H d=none:=s0 a0;have t5:Tups (kx w) H4 (upd H4 d (.dK (putK g (.inl h) (.int (f.length:Nat))))):=Tups.dict Y;have s5:=Same.keep (o:=.dK (putK g (.inl h) (.int (f.length:Nat)))) s4 b8;have a4:upd H4 d (.dK (putK g (.inl h) (.int (f.length:Nat)))) l=some (.lst f):=by rw [upd_ne S];exact N
    have a7:upd H4 d (.dK (putK g (.inl h) (.int (f.length:Nat)))) d=some (.dK (putK g (.inl h) (.int (f.length:Nat)))):=upd_same;generalize upd H4 d (.dK (putK g (.inl h) (.int (f.length:Nat))))=H5 at t5 s5 a4 a7⊢;have c0:=t5 _ _ I;have b5:=z01 (λ a b z=>RcAt.tups t5 z) U;refine ⟨_,rfl,.inl ⟨rfl,f,SqL.of a4⟩,⟨_,rfl,1,rfl,.inr (.inl ⟨J,_,rfl,c0,λ z=>absurd z.1 (show ¬ HT.sIx 5 0 (some 1)=0 by decide),λ F O=>?_⟩)⟩⟩;have c1:cutV [V.str "begin",.int h,n,v,x] (some 1) none=[.int h,n,v,x]:=rfl;rw [c1];refine ⟨_,rfl,w_3,λ G M=>.inr (.inr (.inr ⟨F,G,_,_,rfl,rfl,(Same.upd M).seqT (SqT.of upd_same),SqT.of upd_same,by simp,w_7,λ z=>(by cases z),λ _ u a3=>?_⟩))⟩;have B:Same H5 (upd (upd (upd H5 F (.tup [.int h,n,v,x])) G (.tup [.non,.int i,.non])) u (.tup ([.int h,n,v,x]++[.non,.int i,.non]))):=((Same.upd O).trans (Same.upd M)).trans (Same.upd a3);have X:upd (upd (upd H5 F (.tup [.int h,n,v,x])) G (.tup [.non,.int i,.non])) u (.tup ([.int h,n,v,x]++[.non,.int i,.non])) u=some (.tup ([.int h,n,v,x]++[.non,.int i,.non])):=upd_same;generalize upd (upd (upd H5 F (.tup [.int h,n,v,x])) G (.tup [.non,.int i,.non])) u (.tup ([.int h,n,v,x]++[.non,.int i,.non]))=H6 at B X⊢;have R:=B _ _ a4;have a1:=B _ _ a7;have a2:=z01 (λ a b z=>RcAt.tups (.of B) z) b5;have W:Tups (kx w) H6 (upd H6 l (.lst (f++[.ref u]))):=Tups.lst R;refine ⟨l,f,_,rfl,rfl,R,O1 (C0 (P5 lz) hr') (L1 a8 b3),?_⟩;refine ⟨c++[⟨h,n,v,x,.non,i,none⟩],f++[.ref u],putK g (.inl h) (.int (f.length:Nat)),upd_same,?_,?_,?_,?_,?_,(show dAll (i + 1) (dstep i c (.beg h n v x)) _=_ from D),dw.2,Same.keep (s5.trans B) Z,_,_,_,_,rfl⟩
    ·exact z18 (z01 (λ a b z=>RcAt.tups W z) a2) ⟨u,rfl,W _ _ (SqT.of X)⟩
    ·rw [upd_ne S.symm];exact a1
    ·exact C0 zew (by omega)
    ·rw [K0];show c.length + 1<=i + 1;omega
    ·intro k;rw [z4d,u1];show _=j06 _ (lastI k (c.map Rc.h++[h]));rw [z3c,hv k,F0,lz];by_cases z:h=k
     ·rw [if_pos z,if_pos (by rw [z])];rfl
     ·rw [if_neg z,if_neg (λ y=>z (g8 y).symm)]
   | fin h a=>
    obtain ⟨J,rfl,I⟩:=b0;obtain ⟨j,hj⟩:=Option.isSome_iff_exists.mp (dw.1 h a rfl);have b9:valV g (.inl h)=some (.int (j:Nat)):=by rw [hv h,hj];rfl
    have a6:j < c.length:=by have:=z6p hj;rwa [F0] at this
    have b2:c[j]? = some c[j]:=B0 a6;obtain ⟨yj,b4,pj,rfl,sj⟩:=z0w U b2;have b6:DGet H4 d (.int h) (some (.int (j:Nat))):=b9 ▸ DGet.k (k:=.inl h) Y;refine ⟨_,rfl,.inr (.inl ⟨J,_,0,.str "end",rfl,rfl,I,z05 (j:=0) rfl,rfl,_,rfl,iteK ?_⟩)⟩;refine ⟨_,rfl,⟨_,rfl,.inr (.inl ⟨J,_,1,.int h,rfl,rfl,I,z05 (j:=1) rfl,d,_,rfl,b6,?_⟩)⟩⟩;refine ⟨_,rfl,_,rfl,.inl ⟨l,f,j,.ref pj,rfl,rfl,SqL.of N,z05 b4,?_⟩⟩;refine ⟨_,rfl,4,rfl,.inr (.inl ⟨pj,_,rfl,sj,λ z=>absurd z.2 (show ¬ HT.sIx 7 7 (some 4)=7 by decide),λ F O=>?_⟩)⟩;have c1:cutV [.int c[j].h,c[j].n,c[j].v,c[j].x,c[j].a,.int c[j].b,endV c[j].e] none (some 4)=[.int c[j].h,c[j].n,c[j].v,c[j].x]:=rfl;rw [c1];refine ⟨_,rfl,.inr (.inl ⟨J,_,2,a,rfl,rfl,(Same.upd O).seqT I,z05 (j:=2) rfl,?_⟩)⟩;refine ⟨_,rfl,.inr (.inl ⟨pj,_,5,.int c[j].b,rfl,rfl,(Same.upd O).seqT sj,z05 (j:=5) rfl,?_⟩)⟩;refine ⟨_,rfl,w_3,λ G M=>.inr (.inr (.inr ⟨F,G,_,_,rfl,rfl,(Same.upd M).seqT (SqT.of upd_same),SqT.of upd_same,by simp,w_7,λ z=>(by cases z),λ _ u a3=>?_⟩))⟩;have B:Same H4 _:=((Same.upd O).trans (Same.upd M)).trans (Same.upd (o:=.tup ([.int c[j].h,c[j].n,c[j].v,c[j].x]++[a,.int c[j].b,.int (i:Nat)])) a3);have X:upd (upd (upd H4 F (.tup [.int c[j].h,c[j].n,c[j].v,c[j].x])) G (.tup [a,.int c[j].b,.int (i:Nat)])) u (.tup ([.int c[j].h,c[j].n,c[j].v,c[j].x]++[a,.int c[j].b,.int (i:Nat)])) u=some (.tup ([.int c[j].h,c[j].n,c[j].v,c[j].x]++[a,.int c[j].b,.int (i:Nat)])):=upd_same;generalize upd (upd (upd H4 F (.tup [.int c[j].h,c[j].n,c[j].v,c[j].x])) G (.tup [a,.int c[j].b,.int (i:Nat)])) u (.tup ([.int c[j].h,c[j].n,c[j].v,c[j].x]++[a,.int c[j].b,.int (i:Nat)]))=H6 at B X⊢;have R:=B _ _ N;have a1:=B _ _ Y;have a2:=z01 (λ a b z=>RcAt.tups (.of B) z) U;have W:Tups (kx w) H6 (upd H6 l (.lst (f.set j (.ref u)))):=Tups.lst R;refine ⟨_,rfl,_,rfl,l,f,j,j,rfl,rfl,R,zlb (show j < f.length by rw [lz];exact a6),?_⟩;have dd:dstep i c (.fin h a)=c.modify j (λ r=>{ r with a:=a,e:=some i }):=by unfold dstep;dsimp only;rw [hj]
    have b1:dAll (i + 1) (dstep i c (.fin h a)) (List.drop (i + 1) C)=_:=D;have a9:=dw.2;rw [dd] at b1 a9;have mh:(c.modify j (λ r=>{ r with a:=a,e:=some i })).map Rc.h=c.map Rc.h:=by
     apply m7;intro m;rw [V0,V0,G2];cases c[m]? with
     | none=>rfl
     | some r=>
      show some (if j=m then _ else r).h=some r.h;by_cases z:j=m
      ·rw [if_pos z]
      ·rw [if_neg z]
    refine ⟨_,f.set j (.ref u),g,upd_same,?_,?_,?_,?_,?_,b1,a9,Same.keep (s4.trans B) Z,_,_,_,_,rfl⟩
    ·exact z7s (z01 (λ a b z=>RcAt.tups W z) a2) b2 ⟨u,rfl,W _ _ (SqT.of X)⟩
    ·rw [upd_ne S.symm];exact a1
    ·omega
    ·rw [A5];omega
    ·intro k;rw [mh];exact hv k
  ·rintro σ H3 ⟨c,f,g,el,ar,ed,hk,hr',hv,D,dw,s3,x3,x4,x5,x6,rfl⟩;have:C.drop ys.length=[]:=by rw [b7];exact List.drop_length
   rw [this] at D;have D:c=dAll 0 [] C:=D;rw [<-D] at q;exact ⟨_,rfl,q l f H3 s3 Z el ar⟩
noncomputable def z1a:Nat->Str
 | 0=>"strict"
 | 1=>"hands"
 | _=>"bare"
noncomputable def ltO:Option Nat->Nat->Bool
 | some a,b=>decide (a < b)
 | none,_=>false
noncomputable def aheadB:Nat->Rc->Rc->Bool
 | 0,r,q=>ltO r.e q.b
 | 1,r,q=>decide (r.h=q.h) && decide (r.b < q.b)
 | _,_,_=>false
theorem dec_lt (a b:Nat):decide ((a:Int) < (b:Int))=decide (a < b):=decide_eq_decide.mpr (by omega)
def z5u (K:b0):Sp:=λ vs H Q _=>∃(x y:V) (r q:Rc) (m:Nat),vs=[x,y,.str (z1a m)]/\RcAt K H r x/\RcAt K H q y/\Q (.bl (aheadB m r q)) H
theorem zat (T:TX (kx w) mg):Fo P w mg base CX0 1 231 y0x ["one","other","strictness"] (z5u (kx w)):=by
 refine (z49 w.params).ok z9c (λ g H Q E h=>?_) (λ l A i s H g Q E k h=>?_)
 ·obtain ⟨x,y,r,q,m,rfl,_⟩:=h;rfl
 ·obtain ⟨x,y,r,q,m,rfl,⟨a,rfl,c⟩,⟨d,rfl,f⟩,h⟩:=h;refine ⟨_,(z02 (ps_if (z07 opEq (pv 2) pe_str (nomark _))
   (z04 (ps_ret (pe_and (z0v z3v (pe_ix ix_seq (pv 0) pe_int (λ _ _=>rfl)) pe_non (nomark _)) (pe_one (z0v op_lt (pe_ix ix_seq (pv 0) pe_int (λ _ _=>rfl)) (pe_ix ix_seq (pv 1) pe_int (λ _ _=>rfl)) (nomark _))))))
   z0b)
   (z02 (ps_if (z07 opEq (pv 2) pe_str (nomark _))
   (z04 (ps_ret (pe_and (z0v opEq (pe_ix ix_seq (pv 0) pe_int (λ _ _=>rfl)) (pe_ix ix_seq (pv 1) pe_int (λ _ _=>rfl)) (nomark _)) (pe_one (z0v op_lt (pe_ix ix_seq (pv 0) pe_int (λ _ _=>rfl)) (pe_ix ix_seq (pv 1) pe_int (λ _ _=>rfl)) (nomark _))))))
   z0b)
   (z04 (ps_ret pe_bl)))),?_⟩
  match m,h with
  | 0,h=>
   refine ⟨_,rfl,rfl,_,rfl,iteP (decide_eq_true rfl) ?_⟩;refine ⟨_,rfl,.inr (.inl ⟨a,_,6,endV r.e,rfl,rfl,c,z05 (j:=6) rfl,rfl,_,rfl,?_⟩)⟩;cases re:r.e with
   | none=>
    refine iteN (by show ¬ (!decide (V.non=V.non))=true;decide) ?_;have:aheadB 0 r q=false:=by show ltO r.e q.b=_;rw [re];rfl
    rw [this] at h;exact h
   | some b=>
    refine iteP rfl ?_;refine ⟨_,rfl,.inr (.inl ⟨a,_,6,.int (b:Nat),rfl,rfl,c,z05 (j:=6) (by rw [re];rfl),?_⟩)⟩;refine ⟨_,rfl,.inr (.inl ⟨d,_,5,.int (q.b:Nat),rfl,rfl,f,z05 (j:=5) rfl,b,q.b,rfl,rfl,?_⟩)⟩;have:aheadB 0 r q=decide (b < q.b):=by show ltO r.e q.b=_;rw [re];rfl
    rw [this,<-dec_lt] at h;exact h
  | 1,h=>
   refine ⟨_,rfl,rfl,_,rfl,iteK ?_⟩;refine ⟨_,rfl,rfl,_,rfl,iteP (decide_eq_true rfl) ?_⟩;refine ⟨_,rfl,.inr (.inl ⟨a,_,0,.int r.h,rfl,rfl,c,z05 (j:=0) rfl,?_⟩)⟩;refine ⟨_,rfl,.inr (.inl ⟨d,_,0,.int q.h,rfl,rfl,f,z05 (j:=0) rfl,rfl,_,rfl,?_⟩)⟩;by_cases z:r.h=q.h
   ·refine iteP (decide_eq_true (by rw [z])) ?_;refine ⟨_,rfl,.inr (.inl ⟨a,_,5,.int (r.b:Nat),rfl,rfl,c,z05 (j:=5) rfl,?_⟩)⟩;refine ⟨_,rfl,.inr (.inl ⟨d,_,5,.int (q.b:Nat),rfl,rfl,f,z05 (j:=5) rfl,r.b,q.b,rfl,rfl,?_⟩)⟩;have:aheadB 1 r q=decide (r.b < q.b):=by show (decide (r.h=q.h) && _)=_;rw [decide_eq_true z];rfl
    rw [this,<-dec_lt] at h;exact h
   ·refine iteN (λ e=>z (V.int.inj (of_decide_eq_true e))) ?_;have:aheadB 1 r q=false:=by show (decide (r.h=q.h) && _)=_;rw [decide_eq_false z];rfl
    rw [this] at h;exact h
  | m + 2,h=>refine ⟨_,rfl,rfl,_,rfl,iteN (show ¬ decide (V.str "bare" = V.str "strict")=true by decide +kernel) ?_⟩;refine ⟨_,rfl,rfl,_,rfl,iteN (show ¬ decide (V.str "bare" = V.str "hands")=true by decide +kernel) ?_⟩;exact h
def z1s:Sp:=λ vs H Q _=>∃(m:Nat),vs=[.str (z1a m)]/\Q .non H
theorem zid {H:Hp}:SqT (kx w) H 210 [.str "strict",.str "hands",.str "bare"]:=
 .inr ⟨⟨(.type "tuple"),none,(.seq #[(.str "strict" 516),(.str "hands" 517),(.str "bare" 518)] 0),#[]⟩,#[(.str "strict" 516),(.str "hands" 517),(.str "bare" 518)],0,by kernel_rfl,rfl,rfl,w_3,.cons ⟨_,rfl⟩ (.cons ⟨_,rfl⟩ (.cons ⟨_,rfl⟩ .nil))⟩
theorem z4g (T:TX (kx w) mg):Fo P w mg base CX0 1 224 y05 ["strictness"] z1s:=by
 refine (z17 w.params).ok z4h (λ a H Q E h=>?_) (λ d A c s H a Q E b h=>?_)
 ·obtain ⟨m,rfl,_⟩:=h;rfl
 ·obtain ⟨m,rfl,h⟩:=h;refine ⟨_,(z04 (ps_if (PW.pt (pw_or (pt_not (pt_val (z09 z0l rfl (T.no (z0k _)) Z2 (z00 (pv 0) (z00 (z3g (v:=.ty "str") rfl (T.no (n_str _)) boot_str rfl) pa_nil))) (λ _=>rfl))) (pw_or1 (z07 z16 (pv 0) (z6v (v:=.ref 210) rfl (T.of (z8v _)) rfl) (by with_unfolding_all rfl)))))
   (z04 z8o)
   z0b)),?_⟩
  refine ⟨_,rfl,_,_,"str",rfl,rfl,by decide +kernel,_,rfl,iteN (by decide) ?_⟩;refine ⟨_,rfl,210,_,rfl,.inr zid,rfl,rfl,_,rfl,iteN ?_ h⟩
  match m with
  | 0=>decide +kernel
  | 1=>decide +kernel
  | m + 2=>exact (by decide +kernel:¬ (if true=true then !inV (.str "bare") [V.str "strict",.str "hands",.str "bare"] else inV (.str "bare") [V.str "strict",.str "hands",.str "bare"])=true)
noncomputable def z0g (m:Nat) (rs:List Rc) (a b:Nat):Bool:=match rs[a]?,rs[b]? with|some r,some q=>aheadB m r q|_,_=>false
noncomputable def rowTo (m:Nat) (rs:List Rc) (a j:Nat):List (Nat×Nat):=((C1 j).filter λ b=>z0g m rs a b).map λ b=>(a,b)
noncomputable def z2n (m:Nat) (rs:List Rc) (i:Nat):List (Nat×Nat):=(C1 i).flatMap λ a=>rowTo m rs a rs.length
theorem za3 {m:Nat} {rs:List Rc} {a j:Nat}:rowTo m rs a (j + 1)=rowTo m rs a j++if z0g m rs a j then [(a,j)] else []:=by
 unfold rowTo;rw [n8,Q6,u1];by_cases z:z0g m rs a j=true
 ·rw [if_pos z];simp [z]
 ·rw [if_neg z];simp [z]
theorem z6s {m:Nat} {rs:List Rc} {i:Nat}:z2n m rs (i + 1)=z2n m rs i++rowTo m rs i rs.length:=by unfold z2n;rw [n8,List.flatMap_append];simp
theorem zcw {m:Nat} {rs:List Rc} {a j:Nat}:(rowTo m rs a j).length<=j:=by unfold rowTo;rw [F0];exact C0 (U2 _ _) (by rw [Y1];exact u0 _)
theorem z54 {m:Nat} {rs:List Rc} :∀i:Nat,(z2n m rs i).length<=i * rs.length
 | 0=>by simp [z2n]
 | i + 1=>by rw [z6s,K0,Nat.add_mul,Nat.one_mul];exact Nat.add_le_add (z54 i) zcw
theorem zin {i:Nat} {rs:List Rc} {e:Ev}:(dstep i rs e).length<=rs.length + 1:=by
 cases e with
 | beg h n v x=>show (rs++[_]).length<=_;rw [K0];exact u0 _
 | fin h a=>
  unfold dstep;dsimp only;cases lastI h (rs.map Rc.h) with
  | none=>exact B3 _
  | some j=>show (rs.modify j _).length<=_;rw [A5];exact B3 _
theorem zbk :∀{i:Nat} {rs:List Rc} (es:List Ev),(dAll i rs es).length<=rs.length + es.length
 | _,_,[]=>u0 _
 | i,rs,e :: es=>by show (dAll (i + 1) (dstep i rs e) es).length<=_;have:=zbk (i:=i + 1) (rs:=dstep i rs e) es;have:=zin (i:=i) (rs:=rs) (e:=e);rw [P0];omega
def PairAt (H:Hp) (p:Nat×Nat) (y:V):Prop:=∃a,y=.ref a/\H a=some (.tup [.int p.1,.int p.2])
theorem PairAt.same {H H':Hp} {p:Nat×Nat} {y:V} (s:Same H H') (h:PairAt H p y):PairAt H' p y:=h.elim λ a z=>⟨a,z.1,s _ _ z.2⟩
theorem PairAt.wrote {H:Hp} {l:Addr} {zs ws:List V} {p:Nat×Nat} {y:V} (e:H l=some (.lst zs)) (h:PairAt H p y):PairAt (upd H l (.lst ws)) p y:=h.elim λ a z=>⟨a,z.1,by rw [upd_ne (ne_of z.2 e (by intro z;cases z))];exact z.2⟩
def zco (K:b0):Sp:=λ vs H Q _=>∃(t te:Addr) (th:V) (ys:List V) (es:List Ev) (m:Nat),vs=[.ref t,.str (z1a m)]/\SqT K H t [th,.ref te]/\SqT K H te ys/\All2 (EvAt K H) es ys/\es.length<=100/\dWf 0 [] es/\
 ∀l zs H',Same H H'->H l=none->H' l=some (.lst zs)->All2 (PairAt H') (z2n m (dAll 0 [] es) (dAll 0 [] es).length) zs->Q (.ref l) H'
theorem zi0 (T:TX (kx w) mg) (c0:Ca P w mg base "deeds" ["tale"] 1 (zbo (kx w))) (c1:Ca P w mg base "check_strictness" ["strictness"] 1 z1s) (c2:Ca P w mg base "goes_ahead" ["one","other","strictness"] 1 (z5u (kx w))):Fo P w mg base CX0 2 217 y2b ["tale","strictness"] (zco (kx w)):=by
 refine (zav w.params).ok sc_has_to (λ vs H Q E h=>?_) (λ b8 A b9 s H vs Q E R h=>?_)
 ·obtain ⟨t,X,th,ys,B,m,rfl,_⟩:=h;rfl
 ·obtain ⟨t,X,th,ys,B,m,rfl,st,se,al,hl,wf,q⟩:=h;refine ⟨_,(z02 (z33 (pe_cal c1 (R.mono (by decide)) rfl (z00 (pv 1) pa_nil)))
   (z02 (ps_set (i:=2) sc_has_to.nd rfl (Y0 rfl) (pe_cal c0 (R.mono (by decide)) rfl (z00 (pv 0) pa_nil)))
   (z02 (ps_set (i:=3) sc_has_to.nd rfl (Y0 rfl) (pe_lst pa_nil))
   (z02 (ps_for R1 rfl (z8i rfl (T.no (z24 _)) (z00 (pv 2) pa_nil)) (pg_tup rfl (z0d (z0h (i:=4) sc_has_to.nd rfl (Y0 rfl)) (z0d (z0h (i:=5) sc_has_to.nd rfl (Y0 rfl)) z1b)))
   (z04 (ps_for R1 rfl (z8i rfl (T.no (z24 _)) (z00 (pv 2) pa_nil)) (pg_tup rfl (z0d (z0h (i:=6) sc_has_to.nd rfl (Y0 rfl)) (z0d (z0h (i:=7) sc_has_to.nd rfl (Y0 rfl)) z1b)))
   (z04 (ps_if (pt_val (pe_cal c2 (R.mono (by decide)) rfl (z00 (pv 5) (z00 (pv 7) (z00 (pv 1) pa_nil)))) (λ _=>rfl))
   (z04 (z33 (z1h (pv 3) (z00 (pe_tup (z00 (pv 4) (z00 (pv 6) pa_nil))) pa_nil))))
   z0b)))))
   (z04 (ps_ret (pv 3))))))),?_⟩
  refine ⟨_,rfl,m,rfl,?_⟩;refine ⟨_,rfl,t,X,th,ys,B,rfl,st,se,al,hl,wf,λ l g C s1 b2 el J=>?_⟩;generalize hrs:dAll 0 [] B=rs at J q;have hn:rs.length<=100:=by rw [<-hrs];have:=zbk (i:=0) (rs:=[]) B;simpa using C0 this (by simpa using hl)
  have v:g.length=rs.length:=z03 J;refine ⟨w_0,λ d r=>?_⟩;have a2:H d=none:=s1.free r;have nl:l≠d:=z08 el r;have s2:Same H (upd C d (.lst [])):=s1.trans (Same.upd r);have L:upd C d (.lst []) l=some (.lst g):=(Same.upd r) _ _ el;have a1:=z01 (λ a b z=>RcAt.tups (.of (Same.upd (o:=.lst []) r)) z) J;have W:upd C d (.lst []) d=some (.lst []):=upd_same;generalize upd C d (.lst [])=H2 at s2 L a1 W⊢;refine ⟨_,rfl,l,g,rfl,SqL.of L,?_⟩;refine z94 (K:=KX w.params) (a:=l) (xs:=g) (λ i σ c=>∃f,c l=some (.lst g)/\All2 (RcAt (kx w) c) rs g/\c d=some (.lst f)/\All2 (PairAt c) (z2n m rs i) f/\Same H c/\∃x4 x5 x6 x7,σ=[some (.ref t),some (.str (z1a m)),some (.ref l),some (.ref d),x4,x5,x6,x7])
   ⟨[],L,a1,W,.nil,s2,_,_,_,_,rfl⟩ (λ i σ c h=>?_) ?_ ?_
  ·obtain ⟨f,e,_⟩:=h;exact SqL.of e
  ·rintro i x σ V p Z ⟨f,e3,a3,f3,b3,s3,x4,x5,x6,x7,rfl⟩ hp;obtain ⟨H4,M,n,ep⟩:=newA (.tup [.int i,x]) hp;rw [<-M];have e4:=n _ _ e3;have f4:=n _ _ f3;have a4:=z01 (λ a b z=>RcAt.tups (.of n) z) a3;have b4:=z01 (λ a b z=>PairAt.same n z) b3;have s4:=s3.trans n;refine ⟨p,_,rfl,SqT.of ep,rfl,.int i,_,rfl,x,_,rfl,rfl,?_⟩;have a9:i < rs.length:=by rw [<-v];exact (List.getElem?_eq_some_iff.mp Z).1
   have pl:=z54 (m:=m) (rs:=rs) i;have pm:i * rs.length<=10000:=j18 (C0 (A3 a9) hn) hn;refine ⟨_,rfl,l,g,rfl,SqL.of e4,?_⟩;refine z94 (K:=KX w.params) (a:=l) (xs:=g) (λ j σ c=>∃f,c l=some (.lst g)/\All2 (RcAt (kx w) c) rs g/\c d=some (.lst f)/\All2 (PairAt c) (z2n m rs i++rowTo m rs i j) f/\Same H c/\∃x6 x7,σ=[some (.ref t),some (.str (z1a m)),some (.ref l),some (.ref d),some (.int (i:Nat)),some x,x6,x7])
    ⟨f,e4,a4,f4,by rw [show rowTo m rs i 0=[] from rfl,D2];exact b4,s4,_,_,rfl⟩ (λ j σ c h=>?_) ?_ ?_
   ·obtain ⟨f,e,_⟩:=h;exact SqL.of e
   ·rintro j y σ I G hy ⟨zs3,e5,a5,f5,b5,s5,x6,x7,rfl⟩ hp';have k:=Same.upd (o:=.tup [.int j,y]) hp';have a0:upd I G (.tup [.int j,y]) G=some (.tup [.int j,y]):=upd_same;generalize upd I G (.tup [.int j,y])=H6 at k a0⊢;have e6:=k _ _ e5;have N:=k _ _ f5;have F:=z01 (λ a b z=>RcAt.tups (.of k) z) a5;have O:=z01 (λ a b z=>PairAt.same k z) b5;have U:=s5.trans k;refine ⟨G,_,rfl,SqT.of a0,rfl,.int j,_,rfl,y,_,rfl,rfl,?_⟩;obtain ⟨r1,b0,a7⟩:=z0f F Z;obtain ⟨S,Y,b1⟩:=z0f F hy;have b7:j < rs.length:=(List.getElem?_eq_some_iff.mp Y).1;have ah:z0g m rs i j=aheadB m r1 S:=by unfold z0g;rw [b0,Y]
    refine ⟨_,rfl,_,rfl,_,rfl,x,y,r1,S,m,rfl,a7,b1,_,rfl,?_⟩;rw [<-ah];have rl:=zcw (m:=m) (rs:=rs) (a:=i) (j:=j);have zl:zs3.length=(z2n m rs i++rowTo m rs i j).length:=z03 O;rw [K0] at zl;by_cases z:z0g m rs i j=true
    ·refine iteP z ?_;refine ⟨_,rfl,.inl ⟨rfl,zs3,SqL.of N⟩,_,rfl,_,rfl,w_2,λ p2 a8=>?_⟩;obtain ⟨H7,M,u,e7⟩:=newA (.tup [.int (i:Nat),.int (j:Nat)]) a8;rw [<-M];have D:=u _ _ N;refine ⟨d,zs3,_,rfl,rfl,D,O1 (m:=20000) (by omega) (by decide),?_⟩;refine ⟨zs3++[.ref p2],?_,?_,upd_same,?_,Same.keep (U.trans u) a2,_,_,rfl⟩
     ·rw [upd_ne nl];exact u _ _ e6
     ·exact z01 (λ a b z=>RcAt.tups ((Tups.of u).trans (Tups.lst D)) z) F
     ·rw [za3,if_pos z,<-o7];exact z18 (z01 (λ a b z=>PairAt.wrote D (PairAt.same u z)) O) (PairAt.wrote D ⟨p2,rfl,e7⟩)
    ·refine iteN z ?_;exact ⟨zs3,e6,F,N,by rw [za3,if_neg z,D2];exact O,U,_,_,rfl⟩
   ·rintro σ I ⟨zs3,e5,a5,f5,b5,s5,x6,x7,rfl⟩;exact ⟨zs3,e5,a5,f5,by rw [z6s,<-v];rw [v] at b5;rw [v];exact b5,s5,_,_,_,_,rfl⟩
  ·rintro σ V ⟨f,e3,a3,f3,b3,s3,x4,x5,x6,x7,rfl⟩;rw [v] at b3;exact ⟨_,rfl,q d f V s3 a2 f3 b3⟩
end
section
noncomputable def oStep (os:List Int):Ev->List Int
 | .beg h _ _ _=>os++[h]
 | .fin h _=>os.filter λ k=>decide (k≠h)
noncomputable def oOk (os:List Int):Ev->Prop
 | .beg h _ _ _=>h∉os
 | .fin h _=>h∈os
noncomputable def EWf:List Int->List Ev->Prop
 | _,[]=>True
 | os,e :: es=>oOk os e/\EWf (oStep os e) es
theorem EWf.snoc :∀{es:List Ev} {os:List Int} {e:Ev},EWf os es->oOk (es.foldl oStep os) e->EWf os (es++[e])
 | [],os,e,_,h=>⟨h,trivial⟩
 | x :: es,os,e,w,h=>⟨w.1,EWf.snoc w.2 h⟩
theorem z8t {h:Int} (hs:List Int) :∀{j:Nat},lastI h hs=some j->hs[j]? = some h/\∀k,j < k->hs[k]?≠some h:=by
 suffices key :∀n (hs:List Int),hs.length=n->∀{j:Nat},lastI h hs=some j->hs[j]? = some h/\∀k,j < k->hs[k]?≠some h from λ {j} a=>key _ hs rfl a;intro n;induction n with
 | zero=>intro hs e j a;have:=z6p a;omega
 | succ n ih=>
  intro hs e j a;have ne:hs≠[]:=λ z=>by rw [z] at e;cases e
  obtain ⟨b,t,rfl⟩ :∃b t,hs=b++[t]:=⟨hs.dropLast,hs.getLast ne,(G4 ne).symm⟩
  rw [K0] at e;have e:b.length=n:=by simpa using e
  rw [z3c] at a;by_cases z:t=h
  ·rw [if_pos z] at a;cases a;refine ⟨by simp [z],λ k c=>?_⟩;rw [R3 (by rw [K0];show b.length + 1<=k;omega)];intro y;cases y
  ·rw [if_neg z] at a;obtain ⟨d,f⟩:=ih b e a;have lt:=z6p a;refine ⟨by rw [K1 lt];exact d,λ k c=>?_⟩;by_cases y:k < b.length
   ·rw [K1 y];exact f k c
   ·by_cases y2:k=b.length
    ·subst y2;rw [P1 (u0 _)];simp;exact z
    ·rw [R3 (by rw [K0];show b.length + 1<=k;omega)];intro y;cases y
theorem zgh {h:Int} (hs:List Int) (hm:h∈hs):(lastI h hs).isSome=true:=by
 suffices key :∀n (hs:List Int),hs.length=n->h∈hs->(lastI h hs).isSome=true from key _ hs rfl hm;intro n;induction n with
 | zero=>intro hs e hm;rw [List.length_eq_zero_iff.mp e] at hm;cases hm
 | succ n ih=>
  intro hs e hm;have ne:hs≠[]:=λ z=>by rw [z] at e;cases e
  obtain ⟨a,t,rfl⟩ :∃a t,hs=a++[t]:=⟨hs.dropLast,hs.getLast ne,(G4 ne).symm⟩
  rw [K0] at e;rw [z3c];by_cases z:t=h
  ·rw [if_pos z];rfl
  ·rw [if_neg z];refine ih a (by simpa using e) ?_;rcases List.mem_append.mp hm with y|y
   ·exact y
   ·exact absurd (List.mem_singleton.mp y).symm z
structure DInv (i:Nat) (rs:List Rc) (os:List Int):Prop where
 b :∀r∈rs,r.b < i
 e :∀r∈rs,∀e,r.e=some e->e < i
 p :∀(x y:Nat) (r q:Rc),x < y->rs[x]? = some r->rs[y]? = some q->r.b < q.b/\(r.h=q.h->∃e,r.e=some e/\e < q.b)
 o :∀r∈rs,r.h∉os->r.e.isSome=true
 m :∀h∈os,h∈rs.map Rc.h
theorem DInv.nil:DInv 0 [] []:=⟨λ _ h=>(by cases h),λ _ h=>(by cases h),λ x y r q _ h=>(by simp at h),λ _ h=>(by cases h),λ _ h=>(by cases h)⟩
theorem zb7 {rs:List Rc} {j:Nat} {f:Rc->Rc} (hf :∀r,(f r).h=r.h):(rs.modify j f).map Rc.h=rs.map Rc.h:=by
 apply m7;intro m;rw [V0,V0,G2];cases rs[m]? with
 | none=>rfl
 | some r=>
  show some (if j=m then f r else r).h=some r.h;by_cases z:j=m
  ·rw [if_pos z,hf]
  ·rw [if_neg z]
theorem DInv.step {i:Nat} {rs:List Rc} {os:List Int} (I:DInv i rs os) {e:Ev} (ok:oOk os e):DInv (i + 1) (dstep i rs e) (oStep os e)/\∀h a,e=.fin h a->(lastI h (rs.map Rc.h)).isSome=true:=by
 cases e with
 | beg h n v x=>
  have ok:h∉os:=ok;refine ⟨⟨λ r d=>?_,λ r d e c=>?_,λ t g r q E J D=>?_,λ r d A=>?_,λ k O=>?_⟩,λ h a e=>by cases e⟩
  ·rcases List.mem_append.mp d with z|z
   ·have:=I.b r z;omega
   ·rw [List.mem_singleton.mp z];exact F2 i
  ·rcases List.mem_append.mp d with z|z
   ·have:=I.e r z e c;omega
   ·rw [List.mem_singleton.mp z] at c;cases c
  ·have a1:g < (dstep i rs (.beg h n v x)).length:=(List.getElem?_eq_some_iff.mp D).1;have hl:(dstep i rs (.beg h n v x)).length=rs.length + 1:=by show (rs++[_]).length=_;rw [K0];rfl
   have T:rs[t]? = some r:=by
    have:(rs++[_])[t]? = some r:=J
    rwa [K1 (by omega)] at this
   by_cases z:g < rs.length
   ·have a0:rs[g]? = some q:=by
     have:(rs++[_])[g]? = some q:=D
     rwa [K1 z] at this
    exact I.p t g r q E T a0
   ·have L:(rs++[_])[g]? = some q:=D;have Y:g=rs.length:=by omega
    subst Y;rw [P1 (u0 _)] at L;simp at L;have H:=O0 T;rw [<-L];refine ⟨I.b r H,λ B=>?_⟩;have:r.e.isSome=true:=I.o r H (by rw [B];exact ok);obtain ⟨e,c⟩:=Option.isSome_iff_exists.mp this;exact ⟨e,c,I.e r H e c⟩
  ·rcases List.mem_append.mp d with z|z
   ·exact I.o r z λ y=>A (List.mem_append.mpr (.inl y))
   ·rw [List.mem_singleton.mp z] at A;exact absurd (List.mem_append.mpr (.inr (List.mem_singleton.mpr rfl))) A
  ·show k∈(rs++[_]).map Rc.h;rw [u1];rcases List.mem_append.mp O with z|z
   ·exact List.mem_append.mpr (.inl (I.m k z))
   ·rw [List.mem_singleton.mp z];exact List.mem_append.mpr (.inr (List.mem_singleton.mpr rfl))
 | fin h a=>
  have ok:h∈os:=ok;obtain ⟨j,G⟩:=Option.isSome_iff_exists.mp (zgh _ (I.m h ok));refine ⟨?_,λ h' a' e=>by cases e;rw [G];rfl⟩;obtain ⟨U,W⟩:=z8t _ G;have hd:dstep i rs (.fin h a)=rs.modify j (λ r=>{ r with a:=a,e:=some i }):=by unfold dstep;dsimp only;rw [G]
  rw [hd];have hs:oStep os (.fin h a)=os.filter λ k=>decide (k≠h):=rfl;rw [hs];rw [V0] at U;obtain ⟨rj,P,R⟩:=Option.map_eq_some_iff.mp U;have get :∀m q,(rs.modify j (λ r=>{ r with a:=a,e:=some i }))[m]? = some q->∃r,rs[m]? = some r/\q.h=r.h/\q.b=r.b/\(m=j->q.e=some i)/\(m≠j->q=r):=λ m q X=>by
   rw [G2] at X;obtain ⟨r,d,e⟩:=Option.map_eq_some_iff.mp X;refine ⟨r,d,?_⟩;by_cases z:j=m
   ·rw [if_pos z] at e;rw [<-e];exact ⟨rfl,rfl,λ _=>rfl,λ y=>absurd z.symm y⟩
   ·rw [if_neg z] at e;rw [<-e];exact ⟨rfl,rfl,λ y=>absurd y.symm z,λ _=>rfl⟩
  refine ⟨λ r d=>?_,λ r d e c=>?_,λ t g r q E J D=>?_,λ r d A=>?_,λ k O=>?_⟩
  ·obtain ⟨m,C⟩:=List.mem_iff_getElem?.mp d;obtain ⟨s,u,_,h3,_⟩:=get m r C;have:=I.b s (O0 u);omega
  ·obtain ⟨m,C⟩:=List.mem_iff_getElem?.mp d;obtain ⟨s,u,_,_,F,N⟩:=get m r C;by_cases z:m=j
   ·rw [F z] at c;cases c;exact F2 i
   ·rw [N z] at c;have:=I.e s (O0 u) e c;omega
  ·obtain ⟨s,K,Z,r3,r4,r5⟩:=get t r J;obtain ⟨S,V,Q,q3,_⟩:=get g q D;obtain ⟨p1,M⟩:=I.p t g s S E K V;refine ⟨by omega,λ B=>?_⟩;by_cases z:t=j
   ·subst z;rw [P] at K;cases K;refine absurd ?_ (W g E);rw [V0,V];show some S.h=some h;rw [<-Q,<-B,Z,R]
   ·rw [r5 z] at B⊢;rw [Q] at B;obtain ⟨e,c,lt⟩:=M B;exact ⟨e,c,by omega⟩
  ·obtain ⟨m,C⟩:=List.mem_iff_getElem?.mp d;obtain ⟨s,u,h2,_,F,N⟩:=get m r C;by_cases z:m=j
   ·rw [F z];rfl
   ·rw [N z] at A⊢;by_cases y:s.h=h
    ·have lt:m < j:=by
      rcases Nat.lt_or_gt_of_ne z with l|l
      ·exact l
      ·exact absurd (by rw [V0,u];show some s.h=_;rw [y]) (W m l)
     obtain ⟨_,M⟩:=I.p m j s rj lt u P;obtain ⟨e,c,_⟩:=M (by rw [y,R]);rw [c];rfl
    ·exact I.o s (O0 u) λ w=>A (List.mem_filter.mpr ⟨w,decide_eq_true y⟩)
  ·rw [zb7 (f:=λ r=>{ r with a:=a,e:=some i }) (λ r=>rfl)];exact I.m k (List.mem_filter.mp O).1
theorem DInv.all :∀{es:List Ev} {i:Nat} {rs:List Rc} {os:List Int},DInv i rs os->EWf os es->dWf i rs es/\∃os',DInv (i + es.length) (dAll i rs es) os'
 | [],i,rs,os,I,_=>⟨trivial,os,I⟩
 | e :: es,i,rs,os,I,w=>by obtain ⟨b,c⟩:=I.step w.1;obtain ⟨d,os',a⟩:=DInv.all b w.2;refine ⟨⟨c,d⟩,os',?_⟩;rw [P0,show i + (es.length + 1)=i + 1 + es.length by omega];exact a
theorem zh7 {kvs:List (Key×V)} {h:Int} :∀{os:List Int},kvs.map (·.1)=os.map Sum.inl->(dropK kvs (.inl h)).map (·.1)=(os.filter λ k=>decide (k≠h)).map Sum.inl:=by
 induction kvs with
 | nil=>intro os e;cases os with|nil=>rfl|cons o os=>cases e
 | cons p r ih=>
  intro os e;cases os with
  | nil=>cases e
  | cons o os=>
   rw [j1,j1] at e;injection e with e1 e2;by_cases z:o=h
   ·rw [zch (by rw [e1,z]),u4 (by simp [z])];exact ih e2
   ·rw [zcj (by rw [e1];exact λ y=>z (g8 y)),o4 (by simp [z]),j1,j1,e1,ih e2]
theorem z7y {α β:Type} {R S:α->β->Prop} :∀{xs:List α} {ys:List β},(∀a b,b∈ys->R a b->S a b)->All2 R xs ys->All2 S xs ys
 | _,_,_,.nil=>.nil
 | _,_,h,.cons a r=>.cons (h _ _ R0 a) (z7y (λ x y c z=>h x y (W0 _ c) z) r)
theorem z27 {α β:Type} {R:α->β->Prop} :∀{xs:List α} {ys:List β},ys.length=xs.length->(∀(k:Nat) a b,xs[k]? = some a->ys[k]? = some b->R a b)->All2 R xs ys
 | [],[],_,_=>.nil
 | [],y :: ys,h,_=>by cases h
 | x :: xs,[],h,_=>by cases h
 | x :: xs,y :: ys,h,f=>.cons (f 0 x y rfl rfl) (z27 (by simpa using h) λ k a b c d=>f (k + 1) a b (by rw [Z1];exact c) (by rw [Z1];exact d))
end
section
theorem z1j {m:Nat} {rs:List Rc} {a b:Nat} {r q:Rc} (ha:rs[a]? = some r) (hb:rs[b]? = some q):z0g m rs a b=aheadB m r q:=by unfold z0g;rw [ha,hb]
theorem mem_pairsTo {m:Nat} {rs:List Rc} {p:Nat×Nat} {n:Nat}:p∈z2n m rs n↔p.1 < n/\p.2 < rs.length/\z0g m rs p.1 p.2=true:=by
 unfold z2n rowTo;rw [List.mem_flatMap];constructor
 ·rintro ⟨a,ha,h⟩;obtain ⟨b,e,rfl⟩:=List.mem_map.mp h;obtain ⟨d,c⟩:=List.mem_filter.mp e;exact ⟨List.mem_range.mp ha,List.mem_range.mp d,c⟩
 ·rintro ⟨d,c,h3⟩;exact ⟨p.1,List.mem_range.mpr d,List.mem_map.mpr ⟨p.2,List.mem_filter.mpr ⟨List.mem_range.mpr c,h3⟩,rfl⟩⟩
end
section
variable {P:Program} {w:S0} {mg:Str->Option Value} {base:Heap}
def near (i:Int):Prop:=-1000000000<=i/\i<=1000000000
inductive DeedOk:Str->Str->Dt->Prop
 | regR:DeedOk "register" "read" .non
 | regW {i:Int}:near i->DeedOk "register" "write" (.int i)
 | cntR:DeedOk "counter" "read" .non
 | cntA {i:Int}:near i->DeedOk "counter" "add" (.int i)
 | quP {i:Int}:near i->DeedOk "queue" "put" (.int i)
 | quT:DeedOk "queue" "take" .non
 | setP {i:Int}:near i->DeedOk "set" "put" (.int i)
 | setC {i:Int}:near i->DeedOk "set" "cut" (.int i)
 | setH {i:Int}:near i->DeedOk "set" "has" (.int i)
 | celR:DeedOk "cell" "read" .non
 | celW {i:Int}:near i->DeedOk "cell" "write" (.int i)
 | celS {i j:Int}:near i->near j->DeedOk "cell" "swap" (.tup [.int i,.int j])
noncomputable def kinds5:List Str:=["register","counter","queue","set","cell"]
noncomputable def verbsT (k:Str):List Str:=if k = "register" then ["write","read"] else if k = "counter" then ["add","read"] else if k = "queue" then ["put","take"] else if k = "set" then ["put","cut","has"] else ["read","write","swap","swap"]
def VerbOk (k v:Str):Prop:=((v = "read"\/v = "take")/\DeedOk k v .non)\/(v = "swap"/\∀i j,near i->near j->DeedOk k v (.tup [.int i,.int j]))\/(v≠"read"/\v≠"take"/\v≠"swap"/\∀i,near i->DeedOk k v (.int i))
theorem zkb {k v:Str} (hk:k∈kinds5) (hv:v∈verbsT k):VerbOk k v:=by
 unfold kinds5 at hk;simp only [F1,A0,or_false] at hk;rcases hk with rfl|rfl|rfl|rfl|rfl
 ·rw [show verbsT "register" = (["write","read"]:List Str) by decide +kernel] at hv;simp only [F1,A0,or_false] at hv;rcases hv with rfl|rfl
  ·exact .inr (.inr ⟨by decide +kernel,by decide +kernel,by decide +kernel,λ i h=>.regW h⟩)
  ·exact .inl ⟨.inl rfl,.regR⟩
 ·rw [show verbsT "counter" = (["add","read"]:List Str) by decide +kernel] at hv;simp only [F1,A0,or_false] at hv;rcases hv with rfl|rfl
  ·exact .inr (.inr ⟨by decide +kernel,by decide +kernel,by decide +kernel,λ i h=>.cntA h⟩)
  ·exact .inl ⟨.inl rfl,.cntR⟩
 ·rw [show verbsT "queue" = (["put","take"]:List Str) by decide +kernel] at hv;simp only [F1,A0,or_false] at hv;rcases hv with rfl|rfl
  ·exact .inr (.inr ⟨by decide +kernel,by decide +kernel,by decide +kernel,λ i h=>.quP h⟩)
  ·exact .inl ⟨.inr rfl,.quT⟩
 ·rw [show verbsT "set" = (["put","cut","has"]:List Str) by decide +kernel] at hv;simp only [F1,A0,or_false] at hv;rcases hv with rfl|rfl|rfl
  ·exact .inr (.inr ⟨by decide +kernel,by decide +kernel,by decide +kernel,λ i h=>.setP h⟩)
  ·exact .inr (.inr ⟨by decide +kernel,by decide +kernel,by decide +kernel,λ i h=>.setC h⟩)
  ·exact .inr (.inr ⟨by decide +kernel,by decide +kernel,by decide +kernel,λ i h=>.setH h⟩)
 ·rw [show verbsT "cell" = (["read","write","swap","swap"]:List Str) by decide +kernel] at hv;simp only [F1,A0,or_false] at hv;rcases hv with rfl|rfl|rfl|rfl
  ·exact .inl ⟨.inl rfl,.celR⟩
  ·exact .inr (.inr ⟨by decide +kernel,by decide +kernel,by decide +kernel,λ i h=>.celW h⟩)
  ·exact .inr (.inl ⟨rfl,λ i j a b=>.celS a b⟩)
  ·exact .inr (.inl ⟨rfl,λ i j a b=>.celS a b⟩)
theorem zl1 (z:Str) (ws:List Str):inV (.str z) (ws.map V.str)=decide (z∈ws):=by
 unfold inV;rw [j2f,Bool.eq_iff_iff,N7,decide_eq_true_eq];constructor
 ·rintro ⟨x,hx,e⟩;have e:x=z:=eq_of_beq (show (x == z)=true from e);rw [<-e];exact hx
 ·exact λ h=>⟨z,h,(show (z == z)=true from beq_self_eq_true z)⟩
theorem zc7 {L:List Addr} {H H':Hp} (k:KeptL L H H') (n :∀l∈L,H l=none):Same H H':=λ b o e=>k b o (λ z=>by rw [n b z] at e;cases e) e
structure WordsAt (H:Hp) (p:Addr) (n:Nat) (f:Str->Option (List Str)):Prop where
 ex :∃kvs:List (Key×V),H p=some (.dK kvs)/\kvs.length<=n/\∀k ws,f k=some ws->∃l,valV kvs (.inr k)=some (.ref l)/\H l=some (.lst (ws.map V.str))
theorem zda (kvs:List (Key×V)) (k:Key) (v:V):(putK kvs k v).length<=kvs.length + 1:=by
 unfold putK;split
 ·rw [F0];exact B3 _
 ·rw [K0];exact u0 _
theorem WordsAt.put {H:Hp} {p l:Addr} {n:Nat} {f:Str->Option (List Str)} {kvs:List (Key×V)} {k:Str} {ws:List Str} (hl:H l=none) (e:H p=some (.dK kvs)) (hn:kvs.length<=n) (h :∀k ws,f k=some ws->∃l,valV kvs (.inr k)=some (.ref l)/\H l=some (.lst (ws.map V.str))) :
  ∃H',H'=upd (upd H l (.lst (ws.map V.str))) p (.dK (putK kvs (.inr k) (.ref l)))/\WordsAt H' p (n + 1) (λ j=>if j=k then some ws else f j)/\KeptL [p] H H':=by
 have i:p≠l:=z08 e hl;refine ⟨_,rfl,⟨_,upd_same,C0 (zda _ _ _) (Z5 hn),λ j s c=>?_⟩,λ b o q d=>?_⟩
 ·by_cases z:j=k
  ·subst z;rw [if_pos rfl] at c;cases c;refine ⟨l,by rw [z4d,if_pos rfl],?_⟩;rw [upd_ne i.symm];exact upd_same
  ·rw [if_neg z] at c;obtain ⟨m,r,a⟩:=h j s c;refine ⟨m,by rw [z4d,if_neg (λ y=>z (d8 y))];exact r,?_⟩;have t:m≠p:=λ y=>by rw [y,e] at a;cases a
   rw [upd_ne t,upd_ne (z08 a hl)];exact a
 ·have g:b≠p:=λ z=>q (by rw [z];exact List.mem_singleton.mpr rfl);rw [upd_ne g,upd_ne (z08 d hl)];exact d
theorem words3 {H:Hp} {p l1 l2 l3:Addr} {k1 k2 k3:Str} {w1 w2 w3:List Str} (hp:H p=none) (h1:upd H p (.dK []) l1=none) (h2:upd (upd H p (.dK [])) l1 (.lst (w1.map V.str)) l2=none)
  (h3:upd (upd (upd H p (.dK [])) l1 (.lst (w1.map V.str))) l2 (.lst (w2.map V.str)) l3=none) (n12:k1≠k2) (n13:k1≠k3) (n23:k2≠k3) :
  upd (upd (upd (upd H p (.dK [])) l1 (.lst (w1.map V.str))) l2 (.lst (w2.map V.str))) l3 (.lst (w3.map V.str)) p=some (.dK [])/\
  ∃H',H'=upd (upd (upd (upd (upd H p (.dK [])) l1 (.lst (w1.map V.str))) l2 (.lst (w2.map V.str))) l3 (.lst (w3.map V.str))) p (.dK [(.inr k1,.ref l1),(.inr k2,.ref l2),(.inr k3,.ref l3)])/\Same H H'/\
   H' p=some (.dK [(.inr k1,.ref l1),(.inr k2,.ref l2),(.inr k3,.ref l3)])/\∀k ws,(if k=k1 then some w1 else if k=k2 then some w2 else if k=k3 then some w3 else none)=some ws->∃l,valV [((.inr k1:Key),V.ref l1),(.inr k2,.ref l2),(.inr k3,.ref l3)] (.inr k)=some (.ref l)/\H' l=some (.lst (ws.map V.str)):=by
 have c:p≠l1:=z08 upd_same h1;have d:p≠l2:=z08 (by rw [upd_ne c];exact upd_same) h2;have f:p≠l3:=z08 (by rw [upd_ne d,upd_ne c];exact upd_same) h3;have g:l1≠l2:=z08 upd_same h2;have j:l1≠l3:=z08 (by rw [upd_ne g];exact upd_same) h3;have i:l2≠l3:=z08 upd_same h3;refine ⟨by rw [upd_ne f,upd_ne d,upd_ne c];exact upd_same,_,rfl,λ b o e=>?_,upd_same,λ k ws e=>?_⟩
 ·rw [upd_ne (z08 e hp)];exact ((((Same.upd hp).trans (Same.upd h1)).trans (Same.upd h2)).trans (Same.upd h3)) b o e
 ·have ne :∀{a b:Str},a≠b->(Sum.inr a:Key)≠Sum.inr b:=λ h e=>h (d8 e);by_cases z1:k=k1
  ·rw [if_pos z1] at e;cases e;exact ⟨l1,by rw [z1];exact z0o rfl,by rw [upd_ne c.symm,upd_ne j,upd_ne g];exact upd_same⟩
  ·rw [if_neg z1] at e;by_cases z2:k=k2
   ·rw [if_pos z2] at e;cases e;exact ⟨l2,by rw [z2,z0m (ne n12)];exact z0o rfl,by rw [upd_ne d.symm,upd_ne i];exact upd_same⟩
   ·rw [if_neg z2] at e;by_cases z3:k=k3
    ·rw [if_pos z3] at e;cases e;exact ⟨l3,by rw [z3,z0m (ne n13),z0m (ne n23)];exact z0o rfl,by rw [upd_ne f.symm];exact upd_same⟩
    ·rw [if_neg z3] at e;cases e
def WorthIn (H:Hp) (d:Dt) (x:V):Prop:=∀a b:Int,d=.tup [.int a,.int b]->∃t,x=.ref t/\H t=some (.tup [.int a,.int b])
theorem e9:(10:Int) ^ (9:Int).toNat=1000000000:=by decide
theorem p9:CPow 10 9:=⟨by decide,by decide,by decide⟩
end
section
inductive Sv
 | num (i:Int)
 | row (ns:List Int)
def rowK (k:Str):Prop:=k = "queue"\/k = "set"
instance (k:Str):Decidable (rowK k):=by unfold rowK;infer_instance
noncomputable def opOf (k v:Str):Nat:=if k = "queue" then (if v = "put" then 0 else 1) else if k = "set" then (if v = "put" then 2 else if v = "cut" then 3 else 4) else if v = "read" then 5 else if v = "add" then 6 else if v = "write" then 7 else 8
noncomputable def dI:Dt->Int
 | .int i=>i
 | _=>0
noncomputable def srtI (ns:List Int):List Int:=ns.mergeSort λ a b=>decide (a<=b)
noncomputable def dzo:Nat->Dt->Sv->Sv×V
 | 0,d,.row ns=>(.row (ns++[dI d]),.str "ok")
 | 1,_,.row []=>(.row [],.str "none")
 | 1,_,.row (m :: r)=>(.row r,.int m)
 | 2,d,.row ns=>if dI d∈ns then (.row ns,.int 0) else (.row (srtI (ns++[dI d])),.int 1)
 | 3,d,.row ns=>(.row (ns.filter λ j=>!decide (j=dI d)),.int (if dI d∈ns then 1 else 0))
 | 4,d,.row ns=>(.row ns,.int (if dI d∈ns then 1 else 0))
 | 5,_,.num i=>(.num i,.int i)
 | 6,d,.num i=>(.num (i + dI d),.int i)
 | 7,d,.num _=>(.num (dI d),.str "ok")
 | 8,.tup [.int a,.int b],.num i=>if i=a then (.num b,.int 1) else (.num i,.int 0)
 | _,_,s=>(s,.non)
noncomputable def dz (k v:Str) (d:Dt) (s:Sv):Sv×V:=dzo (opOf k v) d s
theorem dz_at {k v:Str} {d:Dt} {s:Sv} {n:Nat} (h:opOf k v=n):dz k v d s=dzo n d s:=by unfold dz;rw [h]
theorem dz_quP {i:Int} {ns:List Int}:dz "queue" "put" (.int i) (.row ns)=(.row (ns++[i]),.str "ok"):=dz_at (n:=0) (by decide +kernel)
theorem zfl {d:Dt}:dz "queue" "take" d (.row [])=(.row [],.str "none"):=dz_at (n:=1) (by decide +kernel)
theorem dz_quT {d:Dt} {m:Int} {r:List Int}:dz "queue" "take" d (.row (m :: r))=(.row r,.int m):=dz_at (n:=1) (by decide +kernel)
theorem zd9 {i:Int} {ns:List Int}:dz "set" "put" (.int i) (.row ns)=if i∈ns then (.row ns,.int 0) else (.row (srtI (ns++[i])),.int 1):=dz_at (n:=2) (by decide +kernel)
theorem zf9 {i:Int} {ns:List Int}:dz "set" "cut" (.int i) (.row ns)=(.row (ns.filter λ j=>!decide (j=i)),.int (if i∈ns then 1 else 0)):=dz_at (n:=3) (by decide +kernel)
theorem ze7 {i:Int} {ns:List Int}:dz "set" "has" (.int i) (.row ns)=(.row ns,.int (if i∈ns then 1 else 0)):=dz_at (n:=4) (by decide +kernel)
theorem zev {d:Dt} {i:Int}:dz "register" "read" d (.num i)=(.num i,.int i):=dz_at (n:=5) (by decide +kernel)
theorem zff {d:Dt} {i:Int}:dz "counter" "read" d (.num i)=(.num i,.int i):=dz_at (n:=5) (by decide +kernel)
theorem zgj {d:Dt} {i:Int}:dz "cell" "read" d (.num i)=(.num i,.int i):=dz_at (n:=5) (by decide +kernel)
theorem zei {i j:Int}:dz "counter" "add" (.int j) (.num i)=(.num (i + j),.int i):=dz_at (n:=6) (by decide +kernel)
theorem zfj {i j:Int}:dz "register" "write" (.int j) (.num i)=(.num j,.str "ok"):=dz_at (n:=7) (by decide +kernel)
theorem ze0 {i j:Int}:dz "cell" "write" (.int j) (.num i)=(.num j,.str "ok"):=dz_at (n:=7) (by decide +kernel)
theorem zcx {i a b:Int}:dz "cell" "swap" (.tup [.int a,.int b]) (.num i)=if i=a then (.num b,.int 1) else (.num i,.int 0):=dz_at (n:=8) (by decide +kernel)
theorem z8l (ns:List Int):(srtI ns).Perm ns:=List.mergeSort_perm ns _
theorem z52 (ns:List Int):(srtI ns).Pairwise (·<=·):=by have:=j2a (le:=λ a b:Int=>decide (a<=b)) (λ a b c d e=>decide_eq_true (Int.le_trans (of_decide_eq_true d) (of_decide_eq_true e))) (λ a b=>by rcases Int.le_total a b with h|h<;>simp [h]) ns;exact this.imp λ h=>of_decide_eq_true h
theorem zce {xs ys:List Int} (p:xs.Perm ys) (hx:xs.Pairwise (·<=·)) (hy:ys.Pairwise (·<=·)):xs=ys:=p.eq_of_pairwise (le:=(·<=·)) (λ _ _ _ _ a b=>Int.le_antisymm a b) hx hy
theorem zk1 {ns:List Int} (h:ns.Pairwise (· < ·)):ns.Nodup:=h.imp λ z e=>by omega
noncomputable def SvOk (n:Nat) (k:Str):Sv->Prop
 | .row ns=>rowK k/\ns.length<=n/\(∀i∈ns,near i)/\(k = "set"->ns.Pairwise (· < ·))
 | .num i=>¬ rowK k/\-(1000000000 * (n:Int))<=i/\i<=1000000000 * (n:Int)
def AnsV (a:V):Prop:=a=.str "ok"\/a=.str "none"\/∃i:Int,a=.int i/\-100000000000<=i/\i<=100000000000
theorem SvOk.le {n m:Nat} {k:Str} :∀{s:Sv},n<=m->SvOk n k s->SvOk m k s
 | .row _,l,h=>⟨h.1,C0 h.2.1 l,h.2.2⟩
 | .num _,l,h=>⟨h.1,by have:=h.2.1;omega,by have:=h.2.2;omega⟩
theorem SvOk.isRow {n:Nat} {k:Str} :∀{s:Sv},SvOk n k s->rowK k->∃ns,s=.row ns/\ns.length<=n/\(∀i∈ns,near i)/\(k = "set"->ns.Pairwise (· < ·))
 | .row ns,h,_=>⟨ns,rfl,h.2⟩
 | .num _,h,hk=>absurd hk h.1
theorem SvOk.isNum {n:Nat} {k:Str} :∀{s:Sv},SvOk n k s->¬ rowK k->∃i,s=.num i/\-(1000000000 * (n:Int))<=i/\i<=1000000000 * (n:Int)
 | .row _,h,hk=>absurd h.1 hk
 | .num i,h,_=>⟨i,rfl,h.2⟩
theorem SvOk.row {n:Nat} {k:Str} {ns:List Int} (h1:rowK k) (h2:ns.length<=n) (h3 :∀i∈ns,near i) (h4:k = "set"->ns.Pairwise (· < ·)):SvOk n k (.row ns):=⟨h1,h2,h3,h4⟩
theorem SvOk.num {n:Nat} {k:Str} {i:Int} (h1:¬ rowK k) (h2:-(1000000000 * (n:Int))<=i) (h3:i<=1000000000 * (n:Int)):SvOk n k (.num i):=⟨h1,h2,h3⟩
theorem z39 {i:Int} (h0:-100000000000<=i) (h1:i<=100000000000):AnsV (.int i):=.inr (.inr ⟨i,rfl,h0,h1⟩)
theorem ans_b {p:Prop} [Decidable p]:AnsV (.int (if p then 1 else 0)):=by
 by_cases h:p
 ·rw [if_pos h];exact z39 (by decide) (by decide)
 ·rw [if_neg h];exact z39 (by decide) (by decide)
theorem dz_ok {n:Nat} {k v:Str} {d:Dt} {s:Sv} (hd:DeedOk k v d) (h:SvOk n k s) (hn:n < 63):SvOk (n + 1) k (dz k v d s).1/\AnsV (dz k v d s).2:=by
 have t:rowK "queue":=.inl rfl;have p:rowK "set":=.inr rfl;have x:("queue" : Str)≠"set":=by decide +kernel
 have u:¬ rowK "register":=by decide +kernel
 have w:¬ rowK "counter":=by decide +kernel
 have q:¬ rowK "cell":=by decide +kernel
 cases hd with
 | quP ni=>
  obtain ⟨l,rfl,f,c,o⟩:=h.isRow t;rw [dz_quP];refine ⟨.row t (by rw [K0];exact Z5 f) (λ j g=>?_) λ z=>absurd z x,.inl rfl⟩;rcases List.mem_append.mp g with y|y
  ·exact c j y
  ·rw [List.mem_singleton.mp y];exact ni
 | quT=>
  obtain ⟨l,rfl,f,c,o⟩:=h.isRow t;cases l with
  | nil=>rw [zfl];exact ⟨.row t (S1 _) (λ j g=>by cases g) (λ z=>absurd z x),.inr (.inl rfl)⟩
  | cons m r=>rw [dz_quT];rw [P0] at f;have B:=c m R0;exact ⟨.row t (by omega) (λ j g=>c j (W0 _ g)) (λ z=>absurd z x),z39 (by have:=B.1;omega) (by have:=B.2;omega)⟩
 | setP ni=>
  rename_i i;obtain ⟨l,rfl,f,c,o⟩:=h.isRow p;rw [zd9];by_cases z:i∈l
  ·rw [if_pos z];exact ⟨.row p (S4 f) c o,z39 (by decide) (by decide)⟩
  ·rw [if_neg z];have A:=z8l (l++[i]);refine ⟨.row p (by rw [A.length_eq,K0];exact Z5 f) (λ j g=>?_) (λ _=>?_),z39 (by decide) (by decide)⟩
   ·rcases List.mem_append.mp (A.mem_iff.mp g) with y|y
    ·exact c j y
    ·rw [List.mem_singleton.mp y];exact ni
   ·have C:(srtI (l++[i])).Nodup:=A.nodup_iff.mpr (by rw [Y3];exact ⟨zk1 (o rfl),by simp,λ a D b E e=>z (by rw [<-List.mem_singleton.mp E,<-e];exact D)⟩);exact ((z52 (l++[i])).and C).imp λ h=>by have:=h.1;have:=h.2;omega
 | setC ni=>obtain ⟨l,rfl,f,c,o⟩:=h.isRow p;rw [zf9];exact ⟨.row p (C0 (U2 _ _) (S4 f)) (λ j g=>c j (List.mem_filter.mp g).1) (λ z=>(o z).filter _),ans_b⟩
 | setH ni=>obtain ⟨l,rfl,f,c,o⟩:=h.isRow p;rw [ze7];exact ⟨.row p (S4 f) c o,ans_b⟩
 | regR=>obtain ⟨a,rfl,f,c⟩:=h.isNum u;rw [zev];exact ⟨.num u (by omega) (by omega),z39 (by omega) (by omega)⟩
 | cntR=>obtain ⟨a,rfl,f,c⟩:=h.isNum w;rw [zff];exact ⟨.num w (by omega) (by omega),z39 (by omega) (by omega)⟩
 | celR=>obtain ⟨a,rfl,f,c⟩:=h.isNum q;rw [zgj];exact ⟨.num q (by omega) (by omega),z39 (by omega) (by omega)⟩
 | cntA ni=>obtain ⟨a,rfl,f,c⟩:=h.isNum w;rw [zei];have:=ni.1;have:=ni.2;exact ⟨.num w (by omega) (by omega),z39 (by omega) (by omega)⟩
 | regW ni=>obtain ⟨a,rfl,f,c⟩:=h.isNum u;rw [zfj];have:=ni.1;have:=ni.2;exact ⟨.num u (by omega) (by omega),.inl rfl⟩
 | celW ni=>obtain ⟨a,rfl,f,c⟩:=h.isNum q;rw [ze0];have:=ni.1;have:=ni.2;exact ⟨.num q (by omega) (by omega),.inl rfl⟩
 | celS ni nj=>
  rename_i i j;obtain ⟨a,rfl,f,c⟩:=h.isNum q;rw [zcx];have:=nj.1;have:=nj.2;by_cases z:a=i
  ·rw [if_pos z];exact ⟨.num q (by omega) (by omega),z39 (by decide) (by decide)⟩
  ·rw [if_neg z];exact ⟨.num q (by omega) (by omega),z39 (by decide) (by decide)⟩
noncomputable def StZ (K:b0) (H:Hp):Sv->V->Prop
 | .row ns,v=>∃p,v=.ref p/\SqT K H p (ns.map V.int)
 | .num i,v=>v=.int i
theorem StZ.tups {K:b0} {H H':Hp} (t:Tups K H H') :∀{s:Sv} {v:V},StZ K H s v->StZ K H' s v
 | .row _,_,h=>h.elim λ p z=>⟨p,z.1,t _ _ z.2⟩
 | .num _,_,h=>h
noncomputable def zeroK (k:Str):Sv:=if rowK k then .row [] else .num 0
theorem zfr (k:Str):SvOk 0 k (zeroK k):=by
 unfold zeroK;by_cases h:rowK k
 ·rw [if_pos h];exact .row h (u0 _) (λ i a=>by cases a) (λ _=>.nil)
 ·rw [if_neg h];exact .num h (by omega) (by omega)
end
section
variable {P:Program} {w:S0} {mg:Str->Option Value} {base:Heap}
structure Tt (K:b0) (H H':Hp):Prop where
 t:Tups K H H'
 l :∀a xs,H a=some (.tup xs)->H' a=some (.tup xs)
theorem Tt.of {K:b0} {H H':Hp} (s:Same H H'):Tt K H H':=⟨.of s,λ _ _ h=>s _ _ h⟩
theorem Tt.trans {K:b0} {H H1 H2:Hp} (a:Tt K H H1) (b:Tt K H1 H2):Tt K H H2:=⟨a.t.trans b.t,λ _ _ h=>b.l _ _ (a.l _ _ h)⟩
def MutAt (H:Hp) (l:Addr):Prop:=(∃zs,H l=some (.lst zs))\/∃kvs:List (Key×V),H l=some (.dK kvs)
theorem KeptL.tt {K:b0} {L:List Addr} {H H':Hp} (k:KeptL L H H') (m :∀l∈L,MutAt H l):Tt K H H':=by
 refine ⟨λ a b h=>?_,λ a b h=>k _ _ (λ z=>?_) h⟩
 ·rcases h with (h|⟨ob,h⟩)|h
  ·exact .inl (.inl (k _ _ (λ z=>by rcases m a z with ⟨_,e⟩|⟨_,e⟩<;>(rw [h] at e;cases e)) h))
  ·exact .inl (.inr ⟨ob,k _ _ (λ z=>by rcases m a z with ⟨_,e⟩|⟨_,e⟩<;>(rw [h] at e;cases e)) h⟩)
  ·exact .inr h
 ·rcases m a z with ⟨_,e⟩|⟨_,e⟩<;>(rw [h] at e;cases e)
def ThAt (H:Hp) (p:Addr) (ts:List (Str×Str)):Prop:=∃ys,H p=some (.tup ys)/\All2 (λ (t:Str×Str) y=>∃b,y=.ref b/\H b=some (.tup [.str t.1,.str t.2])) ts ys
structure ThOk (ts:List (Str×Str)):Prop where
 n0:0 < ts.length
 n6:ts.length<=6
 nd:(ts.map (·.1)).Nodup
 ks :∀t∈ts,t.2∈kinds5
theorem ThAt.tt {K:b0} {H H':Hp} {p:Addr} {ts:List (Str×Str)} (t:Tt K H H') (h:ThAt H p ts):ThAt H' p ts:=h.elim λ a z=>⟨a,t.l _ _ z.1,z01 (λ _ _ y=>y.elim λ b x=>⟨b,x.1,t.l _ _ x.2⟩) z.2⟩
def kindR (K:b0) (x y:V) (H:Hp):Prop:=∃(n k:Str) (b:Addr),x=.str n/\y=.ref b/\k∈kinds5/\H b=some (.tup [.str n,.str k])
theorem z7t {K:b0} {H:Hp} :∀{ks:List Str} {ys:List V},All2 (λ x y=>kindR K x y H) (ks.map V.str) ys->∃ts:List (Str×Str),ts.map (·.1)=ks/\(∀t∈ts,t.2∈kinds5)/\All2 (λ (t:Str×Str) y=>∃b,y=.ref b/\H b=some (.tup [.str t.1,.str t.2])) ts ys
 | [],_,h=>by cases h;exact ⟨[],rfl,λ _ z=>absurd z A0,.nil⟩
 | n :: ks,_,h=>by
  cases h with
  | cons a r=>
   obtain ⟨ts,e,l,j⟩:=z7t r;obtain ⟨m,k,b,g,c,d,f⟩:=a;cases g;refine ⟨(n,k) :: ts,by rw [j1,e],λ t i=>?_,.cons ⟨b,c,f⟩ j⟩;rcases List.mem_cons.mp i with z|z
   ·rw [z];exact d
   ·exact l t z
theorem WorthIn.tt {K:b0} {H H':Hp} {d:Dt} {x:V} (t:Tt K H H') (h:WorthIn H d x):WorthIn H' d x:=λ a b e=>(h a b e).elim λ p z=>⟨p,z.1,t.l _ _ z.2⟩
theorem do_can {H:Hp} {k v:Str} {st x:V} {d:Dt} {n:Nat} {sv:Sv} {Q:VK} {E:XK} (so:SvOk n k sv) (sz:StZ (kx w) H sv st) (hn:n < 63) (hd:DeedOk k v d) (hx:IsDt (kx w) H d x) (wi:WorthIn H d x)
  (q :∀p st' H',Same H H'->H' p=some (.tup [st',(dz k v d sv).2])->StZ (kx w) H' (dz k v d sv).1 st'->Q (.ref p) H'):sp_do (kx w) [.str k,st,.str v,x] H Q E:=by
 have A :∀i:Int,Flat H (.int i):=λ i J e=>by cases e
 have F:Flat H .non:=λ J e=>by cases e
 have s :∀i:Int,near i->z0x (.int i) 1000000000=true:=λ i h=>by unfold z0x;dsimp only;rw [decide_eq_true h.1,decide_eq_true h.2];rfl
 have M:rowK "queue":=.inl rfl;have G:rowK "set":=.inr rfl;cases hd with
 | quP ni=>rename_i i;obtain ⟨o,rfl,D,_,_⟩:=so.isRow M;obtain ⟨t,rfl,l⟩:=sz;cases (show x=V.int i from hx);rw [dz_quP] at q;refine ⟨_,_,_,_,_,_,_,rfl,rfl,A i,(deedB1 (by decide +kernel)).trans (s i ni),by decide +kernel,.inr (.inr (.inr (.inl ⟨rfl,rfl⟩))),λ H' b=>⟨t,_,_,rfl,b.seqT l,by rw [F0];omega,λ p C B c f u=>q p _ _ (b.trans c) f ⟨C,rfl,?_⟩⟩⟩;rw [show (o++[i]).map V.int=o.map V.int++[V.int i] by rw [u1];rfl];exact u
 | quT=>
  obtain ⟨o,rfl,D,_,_⟩:=so.isRow M;obtain ⟨t,rfl,l⟩:=sz;cases (show x=V.non from hx);refine ⟨_,_,_,_,_,_,_,rfl,rfl,F,(deedB0 (by decide +kernel)).trans rfl,by decide +kernel,.inr (.inr (.inr (.inr (.inl ⟨rfl,rfl⟩)))),λ H' b=>⟨t,o.map V.int,_,rfl,b.seqT l,λ e p B c f=>?_,λ m r e p C B c f u=>?_⟩⟩
  ·cases o with
   | nil=>rw [zfl] at q;exact q p _ _ (b.trans c) f ⟨t,rfl,(b.trans c).seqT l⟩
   | cons m r=>cases e
  ·cases o with
   | nil=>cases e
   | cons m' r'=>rw [dz_quT] at q;rw [j1] at e;injection e with e1 e3;subst e1 e3;exact q p _ _ (b.trans c) f ⟨C,rfl,u⟩
 | setP ni=>
  rename_i i;obtain ⟨o,rfl,D,_,L⟩:=so.isRow G;obtain ⟨t,rfl,l⟩:=sz;cases (show x=V.int i from hx);rw [zd9] at q;refine ⟨_,_,_,_,_,_,_,rfl,rfl,A i,(deedB1 (by decide +kernel)).trans (s i ni),by decide +kernel,.inr (.inr (.inr (.inr (.inr (.inl ⟨rfl,rfl⟩))))),λ H' b=>⟨t,o,_,rfl,b.seqT l,by omega,λ z p B c f=>?_,λ z p C R B c f u P N=>?_⟩⟩
  ·rw [if_pos z] at q;exact q p _ _ (b.trans c) f ⟨t,rfl,(b.trans c).seqT l⟩
  ·rw [if_neg z] at q;rw [zce (P.trans (z8l _).symm) N (z52 _)] at u;exact q p _ _ (b.trans c) f ⟨C,rfl,u⟩
 | setC ni=>
  rename_i i;obtain ⟨o,rfl,D,_,L⟩:=so.isRow G;obtain ⟨t,rfl,l⟩:=sz;cases (show x=V.int i from hx);rw [zf9] at q;refine ⟨_,_,_,_,_,_,_,rfl,rfl,A i,(deedB1 (by decide +kernel)).trans (s i ni),by decide +kernel,.inr (.inr (.inr (.inr (.inr (.inr (.inl ⟨rfl,rfl⟩)))))),λ H' b=>⟨t,o,_,rfl,b.seqT l,by omega,λ z p B c f=>?_,λ z p C B c f u=>?_⟩⟩
  ·rw [if_neg z,List.filter_eq_self.mpr (λ j O=>by simp;exact λ e=>z (e ▸ O))] at q;exact q p _ _ (b.trans c) f ⟨t,rfl,(b.trans c).seqT l⟩
  ·rw [if_pos z] at q;exact q p _ _ (b.trans c) f ⟨C,rfl,u⟩
 | setH ni=>rename_i i;obtain ⟨o,rfl,D,_,L⟩:=so.isRow G;obtain ⟨t,rfl,l⟩:=sz;cases (show x=V.int i from hx);rw [ze7] at q;exact ⟨_,_,_,_,_,_,_,rfl,rfl,A i,(deedB1 (by decide +kernel)).trans (s i ni),by decide +kernel,.inr (.inr (.inr (.inr (.inr (.inr (.inr (.inl ⟨rfl,rfl⟩))))))),λ H' b=>⟨t,o,_,rfl,b.seqT l,λ p B c f=>q p _ _ (b.trans c) f ⟨t,rfl,(b.trans c).seqT l⟩⟩⟩
 | regR=>obtain ⟨a,rfl,_⟩:=so.isNum (by decide +kernel);cases (show st=V.int a from sz);cases (show x=V.non from hx);rw [zev] at q;exact ⟨_,_,_,_,_,_,_,rfl,rfl,F,(deedB0 (by decide +kernel)).trans rfl,by decide +kernel,.inl ⟨rfl,rfl⟩,λ H' b=>⟨_,_,rfl,λ p g=>q p _ _ (b.trans (Same.upd g)) upd_same rfl⟩⟩
 | cntR=>obtain ⟨a,rfl,_⟩:=so.isNum (by decide +kernel);cases (show st=V.int a from sz);cases (show x=V.non from hx);rw [zff] at q;exact ⟨_,_,_,_,_,_,_,rfl,rfl,F,(deedB0 (by decide +kernel)).trans rfl,by decide +kernel,.inl ⟨rfl,rfl⟩,λ H' b=>⟨_,_,rfl,λ p g=>q p _ _ (b.trans (Same.upd g)) upd_same rfl⟩⟩
 | celR=>obtain ⟨a,rfl,_⟩:=so.isNum (by decide +kernel);cases (show st=V.int a from sz);cases (show x=V.non from hx);rw [zgj] at q;exact ⟨_,_,_,_,_,_,_,rfl,rfl,F,(deedB0 (by decide +kernel)).trans rfl,by decide +kernel,.inl ⟨rfl,rfl⟩,λ H' b=>⟨_,_,rfl,λ p g=>q p _ _ (b.trans (Same.upd g)) upd_same rfl⟩⟩
 | cntA ni=>rename_i i;obtain ⟨a,rfl,_⟩:=so.isNum (by decide +kernel);cases (show st=V.int a from sz);cases (show x=V.int i from hx);rw [zei] at q;exact ⟨_,_,_,_,_,_,_,rfl,rfl,A i,(deedB1 (by decide +kernel)).trans (s i ni),by decide +kernel,.inr (.inr (.inl ⟨rfl,rfl⟩)),λ H' b=>⟨_,_,rfl,λ p g=>q p _ _ (b.trans (Same.upd g)) upd_same rfl⟩⟩
 | regW ni=>rename_i i;obtain ⟨a,rfl,_⟩:=so.isNum (by decide +kernel);cases (show st=V.int a from sz);cases (show x=V.int i from hx);rw [zfj] at q;exact ⟨_,_,_,_,_,_,_,rfl,rfl,A i,(deedB1 (by decide +kernel)).trans (s i ni),by decide +kernel,.inr (.inl ⟨rfl,rfl⟩),λ H' b=>⟨_,_,rfl,λ p g=>q p _ _ (b.trans (Same.upd g)) upd_same rfl⟩⟩
 | celW ni=>rename_i i;obtain ⟨a,rfl,_⟩:=so.isNum (by decide +kernel);cases (show st=V.int a from sz);cases (show x=V.int i from hx);rw [ze0] at q;exact ⟨_,_,_,_,_,_,_,rfl,rfl,A i,(deedB1 (by decide +kernel)).trans (s i ni),by decide +kernel,.inr (.inl ⟨rfl,rfl⟩),λ H' b=>⟨_,_,rfl,λ p g=>q p _ _ (b.trans (Same.upd g)) upd_same rfl⟩⟩
 | celS ni nj=>
  rename_i i j;obtain ⟨a,rfl,_⟩:=so.isNum (by decide +kernel);cases (show st=V.int a from sz);obtain ⟨t,rfl,e⟩:=wi i j rfl;have K:tupOf H (.ref t)=some [.int i,.int j]:=by unfold tupOf;dsimp only;rw [e]
  rw [zcx] at q;refine ⟨_,_,_,_,_,_,"tuple",rfl,.inr (.inl ⟨⟨_,e⟩,rfl⟩),λ J z=>?_,?_,by decide +kernel,.inr (.inr (.inr (.inr (.inr (.inr (.inr (.inr ⟨rfl,rfl⟩))))))),λ H' b=>⟨a,i,j,t,rfl,SqT.of (b _ _ e),λ p g=>?_⟩⟩
  ·rw [K] at z;cases z;exact ⟨(show (2:Nat)<=1000 by decide),λ y I=>⟨"int",by simp only [F1,A0,or_false] at I;rcases I with rfl|rfl<;>rfl⟩⟩
  ·rw [deedB2 (by decide +kernel) K];show (true && (z0x (.int i) 1000000000 && (z0x (.int j) 1000000000 && true)))=true;rw [s i ni,s j nj];rfl
  ·by_cases z:a=i
   ·rw [if_pos z] at q⊢;exact q p _ _ (b.trans (Same.upd g)) upd_same rfl
   ·rw [if_neg z] at q⊢;exact q p _ _ (b.trans (Same.upd g)) upd_same rfl
def IsA (a:V):Prop:=(∃i,a=.int i)\/∃z,a=.str z
theorem AnsV.isA {a:V} (h:AnsV a):IsA a:=by
 rcases h with rfl|rfl|⟨i,rfl,_⟩
 ·exact .inr ⟨_,rfl⟩
 ·exact .inr ⟨_,rfl⟩
 ·exact .inl ⟨_,rfl⟩
theorem IsA.scal {a b:V} (ha:IsA a\/a=.non) (hb:IsA b\/b=.non):L2.scal a b=true:=by rcases ha with (⟨i,rfl⟩|⟨i,rfl⟩)|rfl<;>rcases hb with (⟨j,rfl⟩|⟨j,rfl⟩)|rfl<;>rfl
noncomputable def EvGd (K:b0) (H:Hp) (ts:List (Str×Str)):Ev->Prop
 | .beg _ n v x=>∃(nm k vb:Str) (dt:Dt),n=.str nm/\v=.str vb/\(nm,k)∈ts/\DeedOk k vb dt/\IsDt K H dt x/\WorthIn H dt x
 | .fin _ a=>IsA a
theorem EvGd.tt {K:b0} {H H':Hp} {ts:List (Str×Str)} (t:Tt K H H') :∀{e:Ev},EvGd K H ts e->EvGd K H' ts e
 | .beg _ _ _ _,⟨nm,k,vb,dt,e1,e2,hm,dk,ix,wi⟩=>⟨nm,k,vb,dt,e1,e2,hm,dk,IsDt.mono' t.t dt _ ix,wi.tt t⟩
 | .fin _ _,h=>h
structure DD where
 nm:Str
 k:Str
 vb:Str
 dt:Dt
def RcGd (K:b0) (H:Hp) (ts:List (Str×Str)) (r:Rc) (p:DD):Prop:=r.n=.str p.nm/\r.v=.str p.vb/\(p.nm,p.k)∈ts/\DeedOk p.k p.vb p.dt/\IsDt K H p.dt r.x/\WorthIn H p.dt r.x/\((r.e=none/\r.a=.non)\/(r.e.isSome=true/\IsA r.a))
theorem RcGd.tt {K:b0} {H H':Hp} {ts:List (Str×Str)} {r:Rc} {p:DD} (t:Tt K H H') (h:RcGd K H ts r p):RcGd K H' ts r p:=⟨h.1,h.2.1,h.2.2.1,h.2.2.2.1,IsDt.mono' t.t _ _ h.2.2.2.2.1,h.2.2.2.2.2.1.tt t,h.2.2.2.2.2.2⟩
theorem zg3 {α β:Type} {R:α->β->Prop} {f:α->α} (hf :∀x y,R x y->R (f x) y) :∀{xs:List α} {ys:List β} (j:Nat),All2 R xs ys->All2 R (xs.modify j f) ys
 | _,_,j,.nil=>by cases j<;>exact .nil
 | _,_,0,.cons a r=>.cons (hf _ _ a) r
 | _,_,j + 1,.cons a r=>.cons a (zg3 hf j r)
end
section
noncomputable def nsV (ns:List Nat):List V:=ns.map λ (n:Nat)=>V.int (n:Int)
theorem z7u (ns:List Nat):(nsV ns).length=ns.length:=F0 ..
theorem inV_ns (i:Nat) (ns:List Nat):inV (.int (i:Nat)) (nsV ns)=decide (i∈ns):=by
 unfold inV nsV;rw [j2f,Bool.eq_iff_iff,N7,decide_eq_true_iff];constructor
 ·rintro ⟨n,hn,e⟩;have e:((n:Int))=i:=of_decide_eq_true e;rw [show i=n by omega];exact hn
 ·exact λ h=>⟨i,h,decide_eq_true rfl⟩
theorem z4m (ns:List Nat):(nsV ns).all flatV=true:=by unfold nsV;rw [List.all_map];exact List.all_eq_true.mpr λ _ _=>rfl
theorem zkg {ns:List Nat} {us:List V} (h:All2 (λ (a:Nat) y=>y=V.int (a:Nat)) ns us):us=nsV ns:=by
 induction h with
 | nil=>rfl
 | cons a r ih=>subst a;rw [ih];rfl
noncomputable def srtN (ns:List Nat):List Nat:=ns.mergeSort λ a b=>decide (a<=b)
theorem z82 (ns:List Nat):(srtN ns).Perm ns:=List.mergeSort_perm ns _
theorem zdf (ns:List Nat):(srtN ns).Pairwise (·<=·):=by have:=j2a (le:=λ a b:Nat=>decide (a<=b)) (λ a b c d e=>decide_eq_true (C0 (of_decide_eq_true d) (of_decide_eq_true e))) (λ a b=>by rcases Nat.le_total a b with h|h<;>simp [h]) ns;exact this.imp λ h=>of_decide_eq_true h
theorem zj9 {ns':List Int} {xs:List Nat} (p:ns'.Perm (xs.map λ (n:Nat)=>(n:Int))) (s:ns'.Pairwise (·<=·)):ns'.map V.int=nsV (srtN xs):=by
 have e:ns'=(srtN xs).map λ (n:Nat)=>(n:Int):=by refine (p.trans ((z82 xs).symm.map _)).eq_of_pairwise (le:=(·<=·)) (λ _ _ _ _ c d=>Int.le_antisymm c d) s ?_;exact List.Pairwise.map _ (λ a b h=>Int.ofNat_le.mpr h) (zdf xs)
 rw [e];unfold nsV;rw [v3];rfl
theorem idx_eq :∀{l:List Str} {x:Str} {i:Nat},l.Nodup->l[i]? = some x->l.idxOf x=i
 | [],_,_,_,h=>by cases h
 | y :: l,x,i,nd,h=>by
  rw [List.nodup_cons] at nd;rw [List.idxOf_cons];cases i with
  | zero=>rw [O2] at h;cases h;rw [beq_self_eq_true];rfl
  | succ i=>rw [Z1] at h;have:¬ y=x:=λ z=>nd.1 (z ▸ O0 h);rw [beq_eq_false_iff_ne.mpr this];show l.idxOf x + 1=_;rw [idx_eq nd.2 h]
noncomputable abbrev Pl:=List Nat×List Sv
noncomputable abbrev Stp:=Nat×V×Pl
noncomputable def ixT (ts:List (Str×Str)) (nm:Str):Nat:=(ts.map (·.1)).idxOf nm
noncomputable def stp (ts:List (Str×Str)) (r:Rc) (p:DD) (n:Nat) (pl:Pl):Option Stp:=match pl.2[ixT ts p.nm]? with
 | some s=>if r.e.isNone || decide ((dz p.k p.vb p.dt s).2=r.a) then some (n,(dz p.k p.vb p.dt s).2,(srtN (pl.1++[n]),pl.2.set (ixT ts p.nm) (dz p.k p.vb p.dt s).1)) else none
 | none=>none
noncomputable def nexAt (c:Nat->Bool) (ts:List (Str×Str)) (rs:List Rc) (ps:List DD) (pl:Pl) (n:Nat):Option Stp:=if c n=true then (match rs[n]?,ps[n]? with|some r,some p=>stp ts r p n pl|_,_=>none) else none
noncomputable def nexT (c:Nat->Bool) (ts:List (Str×Str)) (rs:List Rc) (ps:List DD) (pl:Pl) (i:Nat):List Stp:=(C1 i).filterMap (nexAt c ts rs ps pl)
theorem z4p {c:Nat->Bool} {ts:List (Str×Str)} {rs:List Rc} {ps:List DD} {pl:Pl} {i:Nat}:nexT c ts rs ps pl (i + 1)=nexT c ts rs ps pl i++(nexAt c ts rs ps pl i).toList:=by unfold nexT;rw [n8,List.filterMap_append];congr 1
theorem zbg {c:Nat->Bool} {ts:List (Str×Str)} {rs:List Rc} {ps:List DD} {pl:Pl} {i:Nat}:(nexT c ts rs ps pl i).length<=i:=by unfold nexT;exact C0 (z7 _ _) (by rw [Y1];exact u0 _)
noncomputable def cO (m:Nat) (rs:List Rc) (ns:List Nat) (n:Nat):Bool:=decide (n∉ns) && decide (∀a∈C1 rs.length,z0g m rs a n=true->a∈ns)
noncomputable def cP (m:Nat) (rs:List Rc) (ns:List Nat) (n:Nat):Bool:=cO m rs ns n && decide (∀b∈C1 rs.length,z0g m rs n b=true->b∉ns)
noncomputable def cM (m:Nat) (rs:List Rc) (ns:List Nat) (n:Nat):Bool:=decide (n∉ns) && decide (∀a∈C1 rs.length,z0g m rs a n=true->(∃r,rs[a]? = some r/\r.e.isSome=true)->a∈ns) && decide (∀b∈ns,z0g m rs n b=false)
theorem z1l {m:Nat} {rs:List Rc} {a b:Nat} (h:z0g m rs a b=true):a < rs.length/\b < rs.length:=by
 unfold z0g at h;cases ea:rs[a]? with
 | none=>rw [ea] at h;cases h
 | some r=>
  cases eb:rs[b]? with
  | none=>rw [ea,eb] at h;cases h
  | some q=>exact ⟨(List.getElem?_eq_some_iff.mp ea).1,(List.getElem?_eq_some_iff.mp eb).1⟩
theorem zi5 {i m:Nat} {rs:List Rc} {os:List Int} {a b:Nat} {r:Rc} (I:DInv i rs os) (h:z0g m rs a b=true) (ha:rs[a]? = some r):r.e.isSome=true:=by
 obtain ⟨_,d⟩:=z1l h;have c:rs[b]? = some rs[b]:=B0 d;generalize rs[b]=q at c;rw [z1j ha c] at h
 match m,h with
 | 0,h=>
  have h:ltO r.e q.b=true:=h;cases e:r.e with
  | none=>rw [e] at h;cases h
  | some x=>rfl
 | 1,h=>
  have h:(decide (r.h=q.h) && decide (r.b < q.b))=true:=h;rw [j2,decide_eq_true_iff,decide_eq_true_iff] at h;have g:a < b:=by
   rcases Nat.lt_trichotomy a b with z|z|z
   ·exact z
   ·subst z;rw [ha] at c;cases c;omega
   ·have:=(I.p b a q r z c ha).1;omega
  obtain ⟨x,f,_⟩:=(I.p a b r q g ha c).2 h.1;rw [f];rfl
 | m + 2,h=>cases (show false=true from h)
theorem cM_cP {i m:Nat} {rs:List Rc} {os:List Int} (I:DInv i rs os) {ns:List Nat} (lt :∀x∈ns,x < rs.length) {n:Nat}:cM m rs ns n=cP m rs ns n:=by
 unfold cM cP cO;rw [Bool.eq_iff_iff];simp only [j2,decide_eq_true_iff];constructor
 ·rintro ⟨⟨h1,h2⟩,h3⟩;refine ⟨⟨h1,λ a d h=>h2 a d h ?_⟩,λ b _ c z=>?_⟩
  ·have g:=List.mem_range.mp d;have f:rs[a]? = some rs[a]:=B0 g;exact ⟨_,f,zi5 I h f⟩
  ·rw [h3 b z] at c;cases c
 ·rintro ⟨⟨h1,h2⟩,h3⟩;refine ⟨⟨h1,λ a d h _=>h2 a d h⟩,λ b c=>?_⟩;cases e:z0g m rs n b with
  | false=>rfl
  | true=>exact absurd c (h3 b (List.mem_range.mpr (lt b c)) e)
structure PlOk (ts:List (Str×Str)) (N n:Nat) (pl:Pl):Prop where
 nd:pl.1.Nodup
 lt :∀x∈pl.1,x < N
 so:All2 (λ (t:Str×Str) s=>SvOk n t.2 s) ts pl.2
 nb:n<=4\/n<=pl.1.length
theorem z4i :∀(n:Nat) (ns:List Nat),ns.Nodup->(∀x∈ns,x < n)->ns.length<=n
 | 0,ns,_,h=>by
  cases ns with
  | nil=>exact u0 _
  | cons x r=>exact absurd (h x R0) (z5 _)
 | n + 1,ns,nd,h=>by
  have:=z4i n (ns.erase n) (nd.erase n) λ x a=>by have a:=(List.Nodup.mem_erase_iff nd).mp a;have:=h x a.2;omega
  by_cases m:n∈ns
  ·rw [j1h m] at this;omega
  ·rw [List.erase_of_not_mem m] at this;omega
theorem PlOk.n63 {ts:List (Str×Str)} {N n j:Nat} {pl:Pl} (h:PlOk ts N n pl) (N63:N<=63) (hj:j < N) (nj:j∉pl.1):n < 63/\pl.1.length < 63:=by
 have:=z4i N (j :: pl.1) (List.nodup_cons.mpr ⟨nj,h.nd⟩) λ x a=>by
  rcases List.mem_cons.mp a with z|z
  ·omega
  ·exact h.lt x z
 rw [P0] at this;rcases h.nb with z|z<;>omega
end
section
variable {P:Program} {w:S0} {mg:Str->Option Value} {base:Heap}
theorem lk_eq {f:Str} {v:V} {fs:List (Str×V)}:(putF f v fs).lookup f=some v:=by rw [z3l,if_pos rfl]
theorem lk_ne {f g:Str} {v:V} {fs:List (Str×V)} (h:g≠f):(putF f v fs).lookup g=fs.lookup g:=by rw [z3l,if_neg h]
theorem lk_n {f g:Str} {v:V} {fs:List (Str×V)} {o:Option V} (e:fs.lookup g=o) (h:g≠f:=by decide +kernel):(putF f v fs).lookup g=o:=(lk_ne h).trans e
theorem zd3 {x dx:Addr} {o1 o2:HO} {H H':Hp} (hx:H x=none) (hd:H dx=none) (k:Kept x (upd (upd H dx o1) x o2) H'):Same H H':=λ p o e=>by
 have a:p≠x:=λ z=>by rw [z,hx] at e;cases e
 have b:p≠dx:=λ z=>by rw [z,hd] at e;cases e
 exact k p o a (by rw [upd_ne a,upd_ne b];exact e)
theorem z2t {K:b0} {ta tv:TE} {f:Str} {rest:TS} {D:Ends} {σ:L2.St} {H:Hp} (h:tv σ H λ y H1=>ta σ H1 λ x H2=>∃a C dx fs,x=.ref a/\H2 a=some (.ins C dx fs)/\Cls K C/\NoAttr K C f/\fs.length < 1000/\rest D σ (upd H2 a (.ins C dx (putF f y fs)))):tSeq (sFld K ta tv f) rest D σ H:=h
theorem zl3 {K:b0} {ta tv:TE} {f:Str} {D:Ends} {σ:L2.St} {H:Hp} (h:tv σ H λ y H1=>ta σ H1 λ x H2=>∃a C dx fs,x=.ref a/\H2 a=some (.ins C dx fs)/\Cls K C/\NoAttr K C f/\fs.length < 1000/\D.nx σ (upd H2 a (.ins C dx (putF f y fs)))):sFld K ta tv f D σ H:=h
theorem zfg (f:Str) (v:V) :∀fs:List (Str×V),(putF f v fs).length<=fs.length + 1
 | []=>u0 _
 | (g,x) :: r=>by
  unfold putF;split
  ·simp
  ·have:=zfg f v r;simp only [P0];omega
theorem z1d {K:b0} {x dx C:Addr} {H H1:Hp} {fs:List (Str×V)} {R:L2.St->Hp->Prop} {σ:L2.St} {f:Str} {y:V} {i n:Nat} (k:Kept x H H1) (e:H1 x=some (.ins C dx fs)) (hv:σ[i]? = some (some (.ref x))) (c:Cls K C) (na:NoAttr K C f) (l:fs.length<=n) (hn:n < 100)
  (q :∀H2,Kept x H H2->(∀b o,b≠x->H1 b=some o->H2 b=some o)->H2 x=some (.ins C dx (putF f y fs))->(putF f y fs).length<=n + 1->R σ H2) :
  tVar i σ H1 λ z H2=>∃a C dx fs,z=.ref a/\H2 a=some (.ins C dx fs)/\Cls K C/\NoAttr K C f/\fs.length < 1000/\R σ (upd H2 a (.ins C dx (putF f y fs))):=
 ⟨_,hv,x,C,dx,fs,rfl,e,c,na,by omega,q _ (k.trans .set) (λ b o d g=>by rw [upd_ne d];exact g) upd_same (C0 (zfg f y fs) (by omega))⟩
theorem ins_tt {K:b0} {x C dx:Addr} {fs:List (Str×V)} {H H':Hp} (e:H x=some (.ins C dx fs)) (k:Kept x H H'):Tt K H H':=by
 refine ⟨λ a b h=>?_,λ a b h=>k _ _ (λ z=>by rw [z,e] at h;cases h) h⟩;rcases h with (h|⟨ob,h⟩)|h
 ·exact .inl (.inl (k _ _ (λ z=>by rw [z,e] at h;cases h) h))
 ·exact .inl (.inr ⟨ob,k _ _ (λ z=>by rw [z,e] at h;cases h) h⟩)
 ·exact .inr h
theorem zja {ps:List (Nat×Nat)} {q:Nat×Nat->Bool} {f:Nat×Nat->Nat} {us:List V} (h:All2 (λ (i:Nat) y=>∃p,ps[i]? = some p/\y=V.int (f p:Nat)) ((C1 ps.length).filter λ i=>(ps[i]?.map q).getD false) us) :∃as,us=nsV as/\as.length<=ps.length/\∀a,a∈as↔∃p∈ps,q p=true/\f p=a:=by
 refine ⟨((C1 ps.length).filter λ i=>(ps[i]?.map q).getD false).map λ i=>f (ps[i]?.getD (0,0)),?_,?_,λ a=>?_⟩
 ·generalize (C1 ps.length).filter (λ i=>(ps[i]?.map q).getD false)=is at h;induction h with
  | nil=>rfl
  | cons a r ih=>obtain ⟨p,c,b⟩:=a;rw [ih,b,j1,c];rfl
 ·rw [F0];exact C0 (U2 _ _) (by rw [Y1];exact u0 _)
 ·rw [List.mem_map];constructor
  ·rintro ⟨i,d,e⟩;obtain ⟨c,b⟩:=List.mem_filter.mp d;have j:=List.mem_range.mp c;have g:ps[i]? = some ps[i]:=B0 j;rw [g] at b e;exact ⟨_,O0 g,b,e⟩
  ·rintro ⟨p,g,c,b⟩;obtain ⟨i,d⟩:=List.mem_iff_getElem?.mp g;refine ⟨i,List.mem_filter.mpr ⟨List.mem_range.mpr (List.getElem?_eq_some_iff.mp d).1,?_⟩,?_⟩
   ·rw [d];exact c
   ·rw [d];exact b
theorem dec_iN (i j:Nat):decide (V.int (i:Int)=V.int (j:Int))=decide (i=j):=decide_eq_decide.mpr ⟨λ e=>by have:=V.int.inj e;omega,λ e=>by rw [e]⟩
def z1g (K:b0):Sp:=λ vs H Q _=>∃(x dx lp:Addr) (n:Nat) (iv kv y:V) (zs:List V) (ps:List (Nat×Nat)) (r:Rc),vs=[.ref x,.int n,y,iv,kv,.ref lp]/\H x=some (.ins 253 dx [])/\RcAt K H r y/\H lp=some (.lst zs)/\All2 (PairAt H) ps zs/\ps.length<=10000/\
 ∀fs la lb as bs H',Kept x H H'->H' x=some (.ins 253 dx fs)->fs.lookup ("number" : Str)=some (.int n)->fs.lookup ("thing" : Str)=some iv->fs.lookup ("kind" : Str)=some kv->fs.lookup ("verb" : Str)=some r.v->fs.lookup ("worth" : Str)=some r.x->fs.lookup ("answer" : Str)=some r.a->fs.lookup ("aheads" : Str)=some (.ref la)->fs.lookup ("behinds" : Str)=some (.ref lb)->fs.lookup ("may_stand" : Str)=none->H' la=some (.lst (nsV as))->H' lb=some (.lst (nsV bs))->(∀a,a∈as↔(a,n)∈ps)->(∀b,b∈bs↔(n,b)∈ps)->as.length<=10000->bs.length<=10000->H la=none->H lb=none->Q .non H'
theorem zbt (T:TX (kx w) mg):Fo P w mg base (CXE P w base) 1 243 y02 ["self","number","deed","thing","kind","pairs"] (z1g (kx w)):=by
 refine (z1n w.params).okE z3o (λ vs H Q E h=>?_) (λ c1 A c2 s H vs Q E hr h=>?_)
 ·obtain ⟨x,dx,V,n,iv,kv,y,D,B,r,rfl,_⟩:=h;rfl
 ·obtain ⟨x,dx,V,n,iv,kv,y,D,B,r,rfl,C,⟨p,rfl,sq⟩,S,al,pl,q⟩:=h;refine ⟨_,(z02 (ps_fld (pv 0) (pv 1) rfl)
   (z02 (ps_fld (pv 0) (pv 3) rfl)
   (z02 (ps_fld (pv 0) (pv 4) rfl)
   (z02 (ps_fld (pv 0) (pe_ix ix_seq (pv 2) pe_int (λ _ _=>rfl)) rfl)
   (z02 (ps_fld (pv 0) (pe_ix ix_seq (pv 2) pe_int (λ _ _=>rfl)) rfl)
   (z02 (ps_fld (pv 0) (pe_ix ix_seq (pv 2) pe_int (λ _ _=>rfl)) rfl)
   (z02 (ps_fld (pv 0) (pe_cg (xs:=["ahead","behind"]) (g:=gTup (kx w) 2 (gCons (gName 0) (gCons (gName 1) gNil))) (fr:=[(1,"number")]) (z2m (pv 5)) (λ _ _ _ _ _=>(pg_tup rfl (z0d (pg_cn (N:=["ahead","behind","number"]) 0) (z0d (pg_cn (N:=["ahead","behind","number"]) 1) z1b)))) (λ _ _ _ _ _=>(pf_one (z07 opEq (pv 1) (pv 2) (nomark _)))) (λ _ _ _ _ _=>(pv 0))) rfl)
   (z04 (ps_fld (pv 0) (pe_cg (xs:=["ahead","behind"]) (g:=gTup (kx w) 2 (gCons (gName 0) (gCons (gName 1) gNil))) (fr:=[(1,"number")]) (z2m (pv 5)) (λ _ _ _ _ _=>(pg_tup rfl (z0d (pg_cn (N:=["ahead","behind","number"]) 0) (z0d (pg_cn (N:=["ahead","behind","number"]) 1) z1b)))) (λ _ _ _ _ _=>(pf_one (z07 opEq (pv 0) (pv 2) (nomark _)))) (λ _ _ _ _ _=>(pv 1))) rfl))))))))),?_⟩
  have a4 :∀{H1 X:Hp} {l:Addr},Kept x H H1->Kept x H1 X->l≠x->X l=none->H l=none:=λ {H1 X l} k k' nl hl=>by
   cases z:H l with
   | none=>rfl
   | some o=>rw [k' l o nl (k l o nl z)] at hl;cases hl
  refine z2t ⟨_,rfl,z1d Kept.refl C rfl (z0a _) (z0p _) (n:=0) (u0 _) (by decide) λ H1 d _ e1 c=>?_⟩;refine z2t ⟨_,rfl,z1d d e1 rfl (z0a _) (z28 _) c (by decide) λ X e _ e2 c=>?_⟩;refine z2t ⟨_,rfl,z1d e e2 rfl (z0a _) (z2o _) c (by decide) λ H3 k3 _ e3 c=>?_⟩;have t3:Tt (kx w) H H3:=ins_tt C k3;refine z2t ⟨_,rfl,.inr (.inl ⟨p,_,2,r.v,rfl,rfl,t3.t _ _ sq,z05 (j:=2) rfl,z1d k3 e3 rfl (z0a _) (z2l _) c (by decide) λ H4 k4 _ e4 c=>?_⟩)⟩;refine z2t ⟨_,rfl,.inr (.inl ⟨p,_,3,r.x,rfl,rfl,(ins_tt C k4).t _ _ sq,z05 (j:=3) rfl,z1d k4 e4 rfl (z0a _) (z29 _) c (by decide) λ H5 k5 _ e5 c=>?_⟩)⟩;refine z2t ⟨_,rfl,.inr (.inl ⟨p,_,4,r.a,rfl,rfl,(ins_tt C k5).t _ _ sq,z05 (j:=4) rfl,z1d k5 e5 rfl (z0a _) (z0y _) c (by decide) λ H6 J _ e6 c=>?_⟩)⟩;have b1:V≠x:=λ z=>by rw [z,C] at S;cases S
  have zl:D.length=B.length:=z03 al;have b0 :∀{L:Hp},Kept x H L->All2 (PairAt L) B D:=λ k=>z01 (λ _ _ z=>z.elim λ b y=>⟨b,y.1,(ins_tt (K:=KX w.params) C k).l _ _ y.2⟩) al;refine z2t ?_;refine zbc (K:=KX w.params) (a:=V) (xs:=D) (H1:=H6) (λ i=>(B[i]?.map λ p=>decide (p.2=n)).getD false) (λ i y _=>∃p,B[i]? = some p/\y=.int (((λ p:Nat×Nat=>p.1) p:Nat):Int)) (λ _ _ _ _ _ z=>z) (λ R h=>⟨_,rfl,h⟩) (SqL.of (J _ _ b1 S)) (C0 (m:=10000) (by omega) (by decide)) (λ i hi v L Y hv KT KF d e=>?_) λ G H7 us s7 W a7=>?_
  ·obtain ⟨u,Z,b,rfl,eb⟩:=z0f (b0 J) hv;rw [Z] at d e;refine ⟨b,_,rfl,SqT.of (Y _ _ eb),rfl,_,_,rfl,_,_,rfl,rfl,[some (.int u.1),some (.int u.2)],rfl,rfl,?_⟩;refine ⟨_,rfl,_,rfl,rfl,_,rfl,?_⟩;rw [dec_iN];exact ite2 (λ z=>⟨_,rfl,d z _ _ (Same.refl _) ⟨u,rfl,rfl⟩⟩) λ z=>e (Bool.eq_false_iff.mpr z) _ (Same.refl _)
  rw [zl] at a7;obtain ⟨I,rfl,b9,b3⟩:=zja (q:=λ p=>decide (p.2=n)) (f:=λ p=>p.1) a7;have s8:=s7.trans (Same.upd (o:=.lst (nsV I)) W);have a8:upd H7 G (.lst (nsV I)) G=some (.lst (nsV I)):=upd_same;have a0:G≠x:=λ z=>by rw [z,s7 _ _ e6] at W;cases W
  generalize upd H7 G (.lst (nsV I))=H8 at s8 a8⊢;refine z1d (J.trans s8.kept) (s8 _ _ e6) rfl (z0a _) (z1v _) c (by decide) λ H9 M b2 e9 c=>?_;have b8:=b2 _ _ a0 a8;refine zl3 ?_;refine zbc (K:=KX w.params) (a:=V) (xs:=D) (H1:=H9) (λ i=>(B[i]?.map λ p=>decide (p.1=n)).getD false) (λ i y _=>∃p,B[i]? = some p/\y=.int (((λ p:Nat×Nat=>p.2) p:Nat):Int)) (λ _ _ _ _ _ z=>z) (λ R h=>⟨_,rfl,h⟩) (SqL.of (M _ _ b1 S)) (C0 (m:=10000) (by omega) (by decide)) (λ i hi v L Y hv KT KF d e=>?_) λ F a5 us a1 U a6=>?_
  ·obtain ⟨u,Z,b,rfl,eb⟩:=z0f (b0 M) hv;rw [Z] at d e;refine ⟨b,_,rfl,SqT.of (Y _ _ eb),rfl,_,_,rfl,_,_,rfl,rfl,[some (.int u.1),some (.int u.2)],rfl,rfl,?_⟩;refine ⟨_,rfl,_,rfl,rfl,_,rfl,?_⟩;rw [dec_iN];exact ite2 (λ z=>⟨_,rfl,d z _ _ (Same.refl _) ⟨u,rfl,rfl⟩⟩) λ z=>e (Bool.eq_false_iff.mpr z) _ (Same.refl _)
  rw [zl] at a6;obtain ⟨bs,rfl,c0,b6⟩:=zja (q:=λ p=>decide (p.1=n)) (f:=λ p=>p.2) a6;have O:=a1.trans (Same.upd (o:=.lst (nsV bs)) U);have a3:upd a5 F (.lst (nsV bs)) F=some (.lst (nsV bs)):=upd_same;have a9:F≠x:=λ z=>by rw [z,a1 _ _ e9] at U;cases U
  generalize upd a5 F (.lst (nsV bs))=H11 at O a3⊢;refine z1d (M.trans O.kept) (O _ _ e9) rfl (z0a _) (z1i _) c (by decide) λ b5 b4 a2 b7 c=>?_;refine q _ G F I bs b5 b4 b7 (lk_n (lk_n (lk_n (lk_n (lk_n (lk_n (lk_n lk_eq))))))) (lk_n (lk_n (lk_n (lk_n (lk_n (lk_n lk_eq)))))) (lk_n (lk_n (lk_n (lk_n (lk_n lk_eq))))) (lk_n (lk_n (lk_n (lk_n lk_eq)))) (lk_n (lk_n (lk_n lk_eq))) (lk_n (lk_n lk_eq)) (lk_n lk_eq) lk_eq (lk_n (lk_n (lk_n (lk_n (lk_n (lk_n (lk_n (lk_n rfl)))))))) (a2 _ _ a0 (O _ _ b8)) (a2 _ _ a9 a3) (λ a=>(b3 a).trans ⟨λ ⟨p,h1,h2,h3⟩=>?_,λ h=>⟨_,h,decide_eq_true rfl,rfl⟩⟩) (λ b=>(b6 b).trans ⟨λ ⟨p,h1,h2,h3⟩=>?_,λ h=>⟨_,h,decide_eq_true rfl,rfl⟩⟩) (by omega) (by omega) (a4 J (s7.kept (r:=x)) a0 W) (a4 M (a1.kept (r:=x)) a9 U)
  ·rw [<-h3,<-of_decide_eq_true h2];exact h1
  ·rw [<-h3,<-of_decide_eq_true h2];exact h1
def CaAt (H:Hp) (m:Nat) (rs:List Rc) (ts:List (Str×Str)) (n:Nat) (r:Rc) (p:DD) (y:V):Prop:=∃x dx fs la lb as bs,y=.ref x/\H x=some (.ins 253 dx fs)/\fs.lookup ("number" : Str)=some (.int (n:Nat))/\fs.lookup ("thing" : Str)=some (.int (ixT ts p.nm:Nat))/\fs.lookup ("kind" : Str)=some (.str p.k)/\fs.lookup ("verb" : Str)=some r.v/\fs.lookup ("worth" : Str)=some r.x/\fs.lookup ("answer" : Str)=some r.a/\fs.lookup ("aheads" : Str)=some (.ref la)/\fs.lookup ("behinds" : Str)=some (.ref lb)/\fs.lookup ("may_stand" : Str)=none/\H la=some (.lst (nsV as))/\H lb=some (.lst (nsV bs))/\(∀a,a∈as↔z0g m rs a n=true)/\(∀b,b∈bs↔z0g m rs n b=true)/\as.length<=10000/\bs.length<=10000
theorem CaAt.same {H H':Hp} {m:Nat} {rs:List Rc} {ts:List (Str×Str)} {n:Nat} {r:Rc} {p:DD} {y:V} (s:Same H H') (h:CaAt H m rs ts n r p y):CaAt H' m rs ts n r p y:=by obtain ⟨x,a,fs,l,z,u,bs,v,o,k,b,w,i,d,g,q,t,j,c,e,f⟩:=h;exact ⟨x,a,fs,l,z,u,bs,v,s _ _ o,k,b,w,i,d,g,q,t,j,s _ _ c,s _ _ e,f⟩
def z19 (K:b0):Sp:=λ vs H Q _=>∃(y:V) (pa:Addr) (m n:Nat) (rs:List Rc) (ts:List (Str×Str)) (r:Rc) (p:DD) (ns:List Nat),vs=[y,.ref pa]/\CaAt H m rs ts n r p y/\SqT K H pa (nsV ns)/\Q (.bl (cP m rs ns n)) H
theorem z2u (T:TX (kx w) mg):Fo P w mg base CX0 1 250 y01 ["self","done"] (z19 (kx w)):=by
 refine (z1e w.params).ok sc_Candidate_may_stand (λ X H Q E h=>?_) (λ a1 A a0 s H X Q E hr h=>?_)
 ·obtain ⟨y,f,m,n,g,Y,r,p,d,rfl,_⟩:=h;rfl
 ·obtain ⟨y,f,m,n,g,Y,r,p,d,rfl,⟨x,v,fs,I,R,t,bs,rfl,C,Z,f2,f3,f4,f5,f6,U,S,f9,N,M,O,L,al,bl⟩,G,q⟩:=h;refine ⟨_,(z02 (ps_if (z07 z1u (pe_fld (pv 0) rfl) (pv 1) (by with_unfolding_all rfl))
   (z04 (ps_ret pe_bl))
   z0b)
   (z02 (ps_for R1 rfl (z2m (pe_fld (pv 0) rfl)) (z0h (i:=2) sc_Candidate_may_stand.nd rfl (Y0 rfl))
   (z04 (ps_if (z07 z16 (pv 2) (pv 1) (by with_unfolding_all rfl))
   (z04 (ps_ret pe_bl))
   z0b)))
   (z02 (ps_for R1 rfl (z2m (pe_fld (pv 0) rfl)) (z0h (i:=3) sc_Candidate_may_stand.nd rfl (Y0 rfl))
   (z04 (ps_if (z07 z1u (pv 3) (pv 1) (by with_unfolding_all rfl))
   (z04 (ps_ret pe_bl))
   z0b)))
   (z04 (ps_ret pe_bl))))),?_⟩
  refine sq_if ?_;refine ⟨_,rfl,x,_,v,fs,_,rfl,C,z0a _,z0p _,Z,_,rfl,f,_,rfl,.inr G,rfl,z4m _,_,rfl,?_⟩;have q:=λ b (h:b=cP m g d n)=>(show Q (.bl b) H from h ▸ q)
  by_cases z1:n∈d
  ·refine iteP ?_ (q _ ?_)
   ·rw [inV_ns];exact decide_eq_true z1
   ·unfold cP cO;rw [decide_eq_false (λ h=>h z1)];rfl
  refine iteN (λ h=>z1 (of_decide_eq_true (by rw [inV_ns] at h;exact h))) ?_;refine t_nx ?_;have J :∀{t:List Nat} {j:Nat} {y:V},(nsV t)[j]? = some y->∃a,t[j]? = some a/\y=.int (a:Nat):=λ h=>by unfold nsV at h;rw [V0] at h;obtain ⟨a,h1,W⟩:=Option.map_eq_some_iff.mp h;exact ⟨a,h1,W.symm⟩
  refine ⟨_,rfl,x,_,v,fs,_,rfl,C,z0a _,z1v _,U,I,rfl,⟨_,SqL.of N⟩,?_⟩;refine z5a (K:=KX w.params) (a:=I) (xs:=nsV t) (λ i σ l=>l=H/\(∀k a,k < i->t[k]? = some a->a∈d)/\∃x2 x3,σ=[some (.ref x),some (.ref f),x2,x3]) ⟨rfl,λ k a c=>absurd c (z5 _),_,_,rfl⟩ (λ _ σ l _ h=>by rw [h.1];exact SqL.of N) ?_ ?_
  ·rintro j y σ l B ⟨rfl,fj,x2,x3,rfl⟩;obtain ⟨a,o,rfl⟩:=J B;refine g_name ⟨_,rfl,_,rfl,f,_,rfl,.inr G,rfl,z4m _,_,rfl,?_⟩;by_cases z2:a∈d
   ·refine iteN (λ h=>?_) ⟨rfl,λ k F c e=>?_,_,_,rfl⟩
    ·rw [inV_ns,decide_eq_true z2] at h;cases h
    ·by_cases z:k=j
     ·subst z;rw [o] at e;cases e;exact z2
     ·exact fj k F (by omega) e
   ·refine iteP ?_ (q _ ?_)
    ·rw [inV_ns,decide_eq_false z2];rfl
    ·have h:=(O a).mp (O0 o);unfold cP cO;rw [decide_eq_false (p:=∀a∈C1 g.length,z0g m g a n=true->a∈d) (λ D=>z2 (D a (List.mem_range.mpr (z1l h).1) h)),L8,R6]
  rintro σ l ⟨rfl,fj,x2,x3,rfl⟩;refine t_nx ?_;have co:cO m g d n=true:=by unfold cO;rw [j2,decide_eq_true_iff,decide_eq_true_iff];refine ⟨z1,λ a _ h=>?_⟩;obtain ⟨k,c⟩:=List.mem_iff_getElem?.mp ((O a).mpr h);exact fj k a (by rw [z7u];exact (List.getElem?_eq_some_iff.mp c).1) c
  refine ⟨_,rfl,x,_,v,fs,_,rfl,C,z0a _,z1i _,S,R,rfl,⟨_,SqL.of M⟩,?_⟩;refine z5a (K:=KX w.params) (a:=R) (xs:=nsV bs) (λ i σ u=>u=l/\(∀k a,k < i->bs[k]? = some a->a∉d)/\∃x2 x3,σ=[some (.ref x),some (.ref f),x2,x3]) ⟨rfl,λ k a c=>absurd c (z5 _),_,_,rfl⟩ (λ _ σ u _ h=>by rw [h.1];exact SqL.of M) ?_ ?_
  ·rintro j y σ u B ⟨rfl,gj,x2,x3,rfl⟩;obtain ⟨a,o,rfl⟩:=J B;refine g_name ⟨_,rfl,_,rfl,f,_,rfl,.inr G,rfl,z4m _,_,rfl,?_⟩;by_cases z2:a∈d
   ·refine iteP ?_ (q _ ?_)
    ·rw [inV_ns];exact decide_eq_true z2
    ·have h:=(L a).mp (O0 o);unfold cP;rw [decide_eq_false (λ D=>D a (List.mem_range.mpr (z1l h).2) h z2),L8]
   ·refine iteN (λ h=>?_) ⟨rfl,λ k F c e=>?_,_,_,rfl⟩
    ·rw [inV_ns] at h;exact z2 (of_decide_eq_true h)
    ·by_cases z:k=j
     ·subst z;rw [o] at e;cases e;exact z2
     ·exact gj k F (by omega) e
  rintro σ u ⟨rfl,gj,x2,x3,rfl⟩;refine t_nx (q _ ?_);unfold cP;rw [co,u9];refine (decide_eq_true λ b _ h=>?_).symm;obtain ⟨k,c⟩:=List.mem_iff_getElem?.mp ((L b).mpr h);exact gj k b (by rw [z7u];exact (List.getElem?_eq_some_iff.mp c).1) c
theorem ze6 {X:Cx} {K:b0} (hK:X.K=K):OpR X (B2 .In) (rIn K false):=hK ▸ z1u
def PlZ (K:b0) (H:Hp) (p:Addr) (pl:Pl):Prop:=∃pa pb vs,SqT K H p [.ref pa,.ref pb]/\SqT K H pa (nsV pl.1)/\SqT K H pb vs/\All2 (StZ K H) pl.2 vs
theorem PlZ.tups {K:b0} {H H':Hp} {p:Addr} {pl:Pl} (t:Tups K H H') (h:PlZ K H p pl):PlZ K H' p pl:=by obtain ⟨e,b,f,a,d,g,c⟩:=h;exact ⟨e,b,f,t _ _ a,t _ _ d,t _ _ g,z01 (λ _ _ z=>StZ.tups t z) c⟩
def StpZ (K:b0) (H:Hp) (s:Stp) (y:V):Prop:=∃b p,y=.ref b/\SqT K H b [.int (s.1:Nat),s.2.1,.ref p]/\PlZ K H p s.2.2
theorem StpZ.tups {K:b0} {H H':Hp} {s:Stp} {y:V} (t:Tups K H H') (h:StpZ K H s y):StpZ K H' s y:=by obtain ⟨b,p,a,c,d⟩:=h;exact ⟨b,p,a,t _ _ c,d.tups t⟩
structure ThW (ts:List (Str×Str)):Prop where
 n6:ts.length<=6
 nd:(ts.map (·.1)).Nodup
 ks :∀t∈ts,t.2∈kinds5
theorem ThOk.thw {ts:List (Str×Str)} (h:ThOk ts):ThW ts:=⟨h.n6,h.nd,h.ks⟩
theorem zkv {H:Hp} {k:Str} (hk:k∈kinds5) :∃v,kl_FIRST_STATES.lookup k=some v/\StZ (kx w) H (zeroK k) v:=by
 have a:SqT (kx w) H 100 []:=.inr ⟨⟨.type "tuple",none,.seq #[] 0,#[]⟩,#[],0,by kernel_rfl,rfl,rfl,by decide,.nil⟩;have b:SqT (kx w) H 101 []:=.inr ⟨⟨.type "tuple",none,.seq #[] 0,#[]⟩,#[],0,by kernel_rfl,rfl,rfl,by decide,.nil⟩;unfold kinds5 at hk;simp only [F1,A0,or_false] at hk;unfold zeroK;rcases hk with rfl|rfl|rfl|rfl|rfl
 ·exact ⟨.int 0,by decide +kernel,by rw [if_neg (by decide +kernel)];rfl⟩
 ·exact ⟨.int 0,by decide +kernel,by rw [if_neg (by decide +kernel)];rfl⟩
 ·exact ⟨.ref 100,by decide +kernel,by rw [if_pos (by decide +kernel)];exact ⟨_,rfl,a⟩⟩
 ·exact ⟨.ref 101,by decide +kernel,by rw [if_pos (by decide +kernel)];exact ⟨_,rfl,b⟩⟩
 ·exact ⟨.int 0,by decide +kernel,by rw [if_neg (by decide +kernel)];rfl⟩
def TaleAt (K:b0) (H:Hp) (t:Addr) (ts:List (Str×Str)) (es:List Ev):Prop:=∃pt te ys,H t=some (.tup [.ref pt,.ref te])/\ThAt H pt ts/\H te=some (.tup ys)/\All2 (EvAt K H) es ys
theorem TaleAt.tt {K:b0} {H H':Hp} {t:Addr} {ts:List (Str×Str)} {es:List Ev} (x:Tt K H H') (h:TaleAt K H t ts es):TaleAt K H' t ts es:=by obtain ⟨pt,c,a,e,f,b,d⟩:=h;exact ⟨pt,c,a,x.l _ _ e,f.tt x,x.l _ _ b,z01 (λ _ _ z=>EvAt.tups x.t z) d⟩
theorem ixT_at {ts:List (Str×Str)} (ok:ThW ts) {t:Str×Str} {i:Nat} (h:ts[i]? = some t):ixT ts t.1=i:=idx_eq ok.nd (by rw [V0,h];rfl)
theorem ixT_of {ts:List (Str×Str)} (ok:ThW ts) {nm k:Str} (h:(nm,k)∈ts):ts[ixT ts nm]? = some (nm,k):=by obtain ⟨i,a⟩:=List.mem_iff_getElem?.mp h;rw [show ixT ts nm=i from ixT_at ok a];exact a
theorem set_sl {K:b0} {σ:L2.St} {H:Hp} {Q:VK} {t1 t2 ti tv tj:TE} {pb:Addr} {vs:List V} {i:Nat} {v:V} (h1 :∀(H':Hp) (R:VK),Same H H'->R (.ref pb) H'->t1 σ H' R) (h2 :∀(H':Hp) (R:VK),Same H H'->R (.ref pb) H'->t2 σ H' R) (hi :∀(H':Hp) (R:VK),Same H H'->R (.int (i:Nat)) H'->ti σ H' R) (hv :∀(H':Hp) (R:VK),Same H H'->R v H'->tv σ H' R) (hj :∀(H':Hp) (R:VK),Same H H'->R (.int ((i:Int) + 1)) H'->tj σ H' R)
  (sq:SqT K H pb vs) (il:i < vs.length) (l9:vs.length<=90) (q :∀p5 H',Same H H'->SqT K H' p5 (vs.set i v)->Q (.ref p5) H') :
  tOp (λ x y H Q=>rCatS K x y H Q\/rCatT K x y H Q) (tOp (λ x y H Q=>rCatS K x y H Q\/rCatT K x y H Q) (tSl (λ x lo hi H Q=>rSlL K x lo hi H Q\/rSlT K x lo hi H Q\/rSlS x lo hi H Q) t1 zfz (tPart ti)) (tTup (tCons tv tNil))) (tSl (λ x lo hi H Q=>rSlL K x lo hi H Q\/rSlT K x lo hi H Q\/rSlS x lo hi H Q) t2 (tPart tj) zfz) σ H Q:=by
 refine h1 _ _ (Same.refl _) (hi _ _ (Same.refl _) ⟨i,rfl,.inr (.inl ⟨pb,vs,rfl,sq,λ z=>?_,λ f E=>?_⟩)⟩)
 ·have:=z.2;rw [HT.sIx_nat] at this;omega
 have s:cutV vs none (some (i:Int))=vs.take i:=by unfold cutV;rw [HT.sIx_none,HT.sIx_nat,K5,Nat.sub_zero,A6 (by omega)]
 have j:=Same.upd (o:=.tup (cutV vs none (some (i:Int)))) E;have n:upd H f (.tup (cutV vs none (some (i:Int)))) f=some (.tup (vs.take i)):=by rw [upd_same,s]
 generalize upd H f (.tup (cutV vs none (some (i:Int))))=H1 at j n⊢;refine hv _ _ j ⟨w_1,λ B u=>?_⟩;obtain ⟨J,G,k,F⟩:=newA (.tup [v]) u;rw [<-G];refine .inl ⟨f,B,vs.take i,[v],rfl,rfl,SqT.of (k _ _ n),SqT.of F,by simp,C0 (m:=100) (by rw [Q2];show _ + 1<=100;omega) (by decide),λ p g A D=>?_⟩;have a:Same H g:=(j.trans k).trans A;refine h2 _ _ a (hj _ _ a ⟨_,rfl,.inr (.inl ⟨pb,vs,rfl,a.seqT sq,λ z=>?_,λ b C=>?_⟩)⟩)
 ·have:=z.1;rw [show (i:Int) + 1=((i + 1:Nat):Int) from rfl,HT.sIx_nat] at this;omega
 have w:cutV vs (some ((i:Int) + 1)) none=vs.drop (i + 1):=by unfold cutV;rw [show (i:Int) + 1=((i + 1:Nat):Int) from rfl,HT.sIx_none,HT.sIx_nat,A6 (by omega)];exact N3 (by rw [U5];exact u0 _)
 have c:=Same.upd (o:=.tup (cutV vs (some ((i:Int) + 1)) none)) C;have h:upd g b (.tup (cutV vs (some ((i:Int) + 1)) none)) b=some (.tup (vs.drop (i + 1))):=by rw [upd_same,w]
 generalize upd g b (.tup (cutV vs (some ((i:Int) + 1)) none))=H4 at c h⊢;have d:vs.take i++[v]++vs.drop (i + 1)=vs.set i v:=by rw [L9,if_pos il,o7];rfl
 have e:=c.seqT D;have l:(vs.take i++[v]).length + (vs.drop (i + 1)).length<=sizeLine:=C0 (m:=100) (by rw [<-K0,d,j07];omega) (by decide);by_cases hd:vs.drop (i + 1)=[]
 ·refine .inr ⟨p,b,_,_,rfl,rfl,e,SqT.of h,by simp,l,λ _=>?_,λ z=>absurd hd z⟩;rw [hd,D2] at d;rw [d] at e;exact q _ _ (a.trans c) e
 ·refine .inl ⟨p,b,_,_,rfl,rfl,e,SqT.of h,hd,l,λ p5 I t r=>?_⟩;rw [d] at r;exact q _ _ ((a.trans c).trans t) r
theorem zhe {α β:Type} {R:α->β->Prop} {xs:List α} {ys:List β} {x:α} {y:β} (h:All2 R xs ys) (hx:R x y) :∀i,All2 R (xs.set i x) (ys.set i y):=by
 induction h with
 | nil=>intro i;exact .nil
 | cons a r ih=>
  intro i;cases i with
  | zero=>exact .cons hx r
  | succ i=>exact .cons a (ih i)
noncomputable def stq (ts:List (Str×Str)) (p:DD) (n:Nat) (pl:Pl) (s:Sv):Stp:=(n,(dz p.k p.vb p.dt s).2,(srtN (pl.1++[n]),pl.2.set (ixT ts p.nm) (dz p.k p.vb p.dt s).1))
theorem stp_of {ts:List (Str×Str)} {r:Rc} {p:DD} {n:Nat} {pl:Pl} {s:Sv} (h:pl.2[ixT ts p.nm]? = some s):stp ts r p n pl=if r.e.isNone || decide ((dz p.k p.vb p.dt s).2=r.a) then some (stq ts p n pl s) else none:=by unfold stp;rw [h];rfl
def z9e (K:b0):Sp:=λ vs H Q _=>∃(y:V) (pp:Addr) (m n k N:Nat) (rs:List Rc) (ts:List (Str×Str)) (r:Rc) (p:DD) (pl:Pl),vs=[y,.ref pp]/\CaAt H m rs ts n r p y/\RcGd K H ts r p/\ThW ts/\PlZ K H pp pl/\PlOk ts N k pl/\N<=63/\n < N/\n∉pl.1/\
 ∀s b q H',pl.2[ixT ts p.nm]? = some s->SvOk k p.k s->Same H H'->H' b=some (.tup [.int (n:Nat),(dz p.k p.vb p.dt s).2,.ref q])->StpZ K H' (stq ts p n pl s) (.ref b)->Q (.ref b) H'
theorem zgb (T:TX (kx w) mg) (c0:Ca P w mg base "do" ["kind","state","verb","worth"] 5 (sp_do (kx w))):Fo P w mg base CX0 6 304 y1w ["candidate","place"] (z9e (kx w)):=by
 refine (z92 w.params).ok sc_step_of (λ e H Q E h=>?_) (λ c3 A c4 s H e Q E hr h=>?_)
 ·obtain ⟨y,M,m,n,k,N,rs,l,r,p,a,rfl,_⟩:=h;rfl
 ·obtain ⟨y,M,m,n,k,N,rs,l,r,p,a,rfl,⟨x,d,fs,la,lb,as,bs,rfl,b,f1,f2,f3,f4,f5,f6,f7,f8,f9,ea,eb,ma,mb,al,bl⟩,gd,ok,⟨Z,Y,e,X,sa,sb,sz⟩,O,c1,hn,nn,q⟩:=h;refine ⟨_,(z02 (ps_set (i:=2) sc_step_of.nd rfl (Y0 rfl) (pe_fld (pv 0) rfl))
   (z02 (ps_set (i:=3) sc_step_of.nd rfl (Y0 rfl) (pe_ix ix_seq (pv 1) pe_int (λ _ _=>rfl)))
   (z02 (ps_set (i:=4) sc_step_of.nd rfl (Y0 rfl) (pe_cal c0 (hr.mono (by decide)) rfl (z00 (pe_fld (pv 0) rfl) (z00 (pe_ix ix_seq (pv 3) (pv 2) (λ _ _=>rfl)) (z00 (pe_fld (pv 0) rfl) (z00 (pe_fld (pv 0) rfl) pa_nil))))))
   (z02 (ps_set (i:=5) sc_step_of.nd rfl (Y0 rfl) (z0r z0j rfl (T.no (z25 _)) W3 (z00 (z09 z2g rfl (T.no (z5c _)) X7 (z00 (pe_op op_catS (pe_ix ix_seq (pv 1) pe_int (λ _ _=>rfl)) (pe_tup (z00 (pe_fld (pv 0) rfl) pa_nil))) pa_nil)) pa_nil)))
   (z04 (ps_ret (pe_tup (z00 (pe_fld (pv 0) rfl) (z00 (pe_ix ix_seq (pv 4) pe_int (λ _ _=>rfl)) (z00 (pe_tup (z00 (pv 5) (z00 (pe_op (op_catS.or za8) (pe_op (op_catS.or za8) (z1k slSeq (pv 3) z3b (z1q (pv 2))) (pe_tup (z00 (pe_ix ix_seq (pv 4) pe_int (λ _ _=>rfl)) pa_nil))) (z1k slSeq (pv 3) (z1q (pe_op opAdd (pv 2) pe_int)) z3b)) pa_nil))) pa_nil)))))))))),?_⟩
  obtain ⟨g1,g2,hm,dk,ix,wi,ga⟩:=gd;have a6:=ixT_of ok hm;obtain ⟨s,hs,so⟩:=z0w O.so a6;obtain ⟨v,hv,hz⟩:=z0w sz hs;obtain ⟨b0,c6⟩:=O.n63 c1 hn nn;have vl:e.length=a.2.length:=z03 sz;have sl:a.2.length=l.length:=z03 O.so;have it:ixT l p.nm < e.length:=(List.getElem?_eq_some_iff.mp hv).1;rw [g2] at f4;refine ⟨_,rfl,x,_,d,fs,_,rfl,b,z0a _,z28 _,f2,?_⟩;refine g_name (t_nx ?_);refine ⟨_,rfl,.inr (.inl ⟨M,_,1,.ref Y,rfl,rfl,X,z05 (j:=1) rfl,?_⟩)⟩;refine g_name (t_nx ?_);refine ⟨_,rfl,x,_,d,fs,_,rfl,b,z0a _,z2o _,f3,?_⟩;refine ⟨_,rfl,_,rfl,.inr (.inl ⟨Y,e,_,v,rfl,rfl,sb,z05 hv,?_⟩)⟩;refine ⟨_,rfl,x,_,d,fs,_,rfl,b,z0a _,z2l _,f4,?_⟩;refine ⟨_,rfl,x,_,d,fs,_,rfl,b,z0a _,z29 _,f5,?_⟩;refine do_can (w:=w) (E:=E0) so hz b0 dk ix wi λ U J K B e6 b9=>?_;refine g_name (t_nx ?_);refine z0q ?_;refine ⟨_,rfl,.inr (.inl ⟨M,_,0,.ref Z,rfl,rfl,B.seqT X,z05 (j:=0) rfl,?_⟩)⟩;refine ⟨_,rfl,x,_,d,fs,_,rfl,B _ _ b,z0a _,z0p _,f1,w_1,λ D a5=>?_⟩;have r7:=B.trans (Same.upd (o:=.tup [.int (n:Nat)]) a5);have u7:=Same.upd (o:=.tup [.int (n:Nat)]) a5;have e7:upd K D (.tup [.int (n:Nat)]) D=some (.tup [.int (n:Nat)]):=upd_same;generalize upd K D (.tup [.int (n:Nat)])=H7 at r7 u7 e7⊢;refine ⟨Z,D,nsV a.1,[.int (n:Nat)],rfl,rfl,r7.seqT sa,SqT.of e7,by simp,C0 (m:=100) (by rw [z7u];show _ + 1<=100;omega) (by decide),λ b2 H8 r8 q8=>?_⟩;rw [show nsV a.1++[.int (n:Nat)]=((a.1++[n]).map λ (n:Nat)=>(n:Int)).map V.int by unfold nsV;rw [v3,u1];rfl] at q8;refine ⟨b2,_,rfl,.inr q8,by rw [F0,K0];show _ + 1 < 64;omega,λ l3 c5 a7 pm pw=>?_⟩;rw [zj9 pm pw];obtain ⟨H9,t,r9,e9⟩:=newA (.lst (nsV (srtN (a.1++[n])))) a7;rw [<-t];refine ⟨l3,_,rfl,.inl ⟨SqL.of e9,λ u c2=>?_⟩⟩;obtain ⟨W,t,a9,b8⟩:=newA (.tup (nsV (srtN (a.1++[n])))) c2;rw [<-t];refine g_name ?_;have I:Same K W:=((u7.trans r8).trans r9).trans a9;have G:=B.trans I;refine sq_ret ?_;refine ⟨_,rfl,x,_,d,fs,_,rfl,G _ _ b,z0a _,z0p _,f1,?_⟩;refine ⟨_,rfl,.inr (.inl ⟨U,_,1,_,rfl,rfl,SqT.of (I _ _ e6),z05 (j:=1) rfl,?_⟩)⟩;refine ⟨_,rfl,zbs (set_sl (i:=ixT l p.nm) (v:=J) (λ C R f h=>⟨_,rfl,h⟩) (λ C R f h=>⟨_,rfl,h⟩) (λ C R f h=>⟨_,rfl,h⟩) (λ C R f h=>⟨_,rfl,.inr (.inl ⟨U,_,0,J,rfl,rfl,SqT.of (f _ _ (I _ _ e6)),z05 (j:=0) rfl,h⟩)⟩) (λ C R f h=>⟨_,rfl,.inl ⟨_,1,rfl,rfl,h⟩⟩) (G.seqT sb) it (by have:=ok.n6;omega) λ g a3 b7 b3=>?_)⟩;refine ⟨w_2,λ c a8=>⟨w_3,λ b6 a1=>?_⟩⟩;have L:=Same.upd (o:=.tup [.ref u,.ref g]) a8;have a4:upd a3 c (.tup [.ref u,.ref g]) c=some (.tup [.ref u,.ref g]):=upd_same;generalize upd a3 c (.tup [.ref u,.ref g])=H12 at L a4 a1⊢;obtain ⟨a2,t,S,a0⟩:=newA (.tup [.int (n:Nat),(dz p.k p.vb p.dt s).2,.ref c]) a1;rw [<-t];have F:Same W a2:=(b7.trans L).trans S;refine q s b6 c a2 hs so (G.trans F) a0 ⟨b6,c,rfl,SqT.of a0,u,g,e.set (ixT l p.nm) J,SqT.of (S _ _ a4),SqT.of (F _ _ b8),(L.trans S).seqT b3,zhe (z01 (λ _ _ z=>StZ.tups (.of (G.trans F)) z) sz) (b9.tups (.of (I.trans F))) _⟩
def EndL (rs:List Rc) (es:List Nat):Prop:=es.length<=rs.length/\∀n,n∈es↔∃r,rs[n]? = some r/\r.e.isSome=true
def z30 (K:b0):Sp:=λ vs H Q _=>∃(l:Addr) (zs:List V) (rs:List Rc),vs=[.ref l]/\H l=some (.lst zs)/\All2 (RcAt K H) rs zs/\rs.length<=100/\
 ∀le es H',Same H H'->H' le=some (.lst (nsV es))->EndL rs es->Q (.ref le) H'
theorem z60 (T:TX (kx w) mg):Fo P w mg base CX0 1 309 y0a ["told"] (z30 (kx w)):=by
 refine (z1y w.params).ok z67 (λ F H Q E h=>?_) (λ a0 A S s H F Q E Z h=>?_)
 ·obtain ⟨l,f,d,rfl,_⟩:=h;rfl
 ·obtain ⟨l,f,d,rfl,D,t,X,q⟩:=h;refine ⟨_,(z04 (ps_ret (pe_cg (xs:=["number","deed"]) (g:=gTup (kx w) 2 (gCons (gName 0) (gCons (gName 1) gNil))) (fr:=[]) (z8i rfl (T.no (z24 _)) (z00 (pv 0) pa_nil)) (λ _ _ _ _ _=>(pg_tup rfl (z0d (pg_cn (N:=["number","deed"]) 0) (z0d (pg_cn (N:=["number","deed"]) 1) z1b)))) (λ _ _ _ _ _=>(pf_one (z07 z3v (pe_ix (z7p (K:=KX w.params) rfl) (pv 1) pe_int (λ _ _=>rfl)) pe_non (nomark _)))) (λ _ _ _ _ _=>(pv 0))))),?_⟩;have o:f.length=d.length:=z03 t;refine sq_ret ?_;refine zij (K:=KX w.params) (a:=l) (xs:=f) (H1:=H) (λ i=>(d[i]?.map λ r=>r.e.isSome).getD false) (λ i y _=>y=.int (i:Nat)) (λ _ _ _ _ _ z=>z) (λ R h=>⟨_,rfl,h⟩) (SqL.of D) (C0 (m:=100) (by omega) (by decide)) ?_ ?_
  ·intro i U v B k G KT W b c;obtain ⟨x,u,L,rfl,O⟩:=G;obtain ⟨r,M,p,rfl,I⟩:=z0f t L;rw [M] at b c;refine ⟨u,_,rfl,SqT.of O,rfl,_,_,rfl,_,_,rfl,rfl,[some (.int (i:Nat)),some (.ref p)],rfl,rfl,?_⟩;refine ⟨_,rfl,.inr (.inl ⟨p,_,6,endV r.e,rfl,rfl,k.seqT I,z05 (j:=6) rfl,rfl,_,rfl,?_⟩)⟩;have b:=λ z=>b (show r.e.isSome=true from z);have c:=λ z=>c (show r.e.isSome=false from z);cases re:r.e with
   | none=>exact iteN (by show ¬ (!decide (V.non=V.non))=true;decide) (c (by rw [re];rfl) _ (Same.refl _))
   | some e=>exact iteP rfl ⟨_,rfl,b (by rw [re];rfl) _ _ (Same.refl _) rfl⟩
  intro le B Y k C J;rw [zkg J];refine q le _ _ (k.trans (Same.upd C)) upd_same ⟨?_,λ n=>?_⟩
  ·exact C0 (U2 _ _) (by rw [Y1,o];exact u0 _)
  ·rw [List.mem_filter,List.mem_range,o];constructor
   ·rintro ⟨h1,h2⟩;rw [B0 h1] at h2;exact ⟨_,B0 h1,h2⟩
   ·rintro ⟨r,h1,h2⟩;exact ⟨(List.getElem?_eq_some_iff.mp h1).1,by rw [h1];exact h2⟩
def z66 (K:b0):Sp:=λ vs H Q _=>∃(pa le:Addr) (ns es:List Nat),vs=[.ref pa,.ref le]/\SqT K H pa (nsV ns)/\H le=some (.lst (nsV es))/\es.length<=100/\∀b H',Same H H'->(b=true↔∀n∈es,n∈ns)->Q (.bl b) H'
theorem zc9 (T:TX (kx w) mg):Fo P w mg base CX0 1 314 y18 ["done","numbers"] (z66 (kx w)):=by
 refine (z5j w.params).ok zbd (λ J H Q E h=>?_) (λ a0 A U s H J Q E X h=>?_)
 ·obtain ⟨B,le,u,l,rfl,_⟩:=h;rfl
 ·obtain ⟨B,le,u,l,rfl,M,I,Y,q⟩:=h;refine ⟨_,(z04 (ps_ret (z09 (zcs rfl) rfl (T.no (n_all _)) boot_all (z00 (pe_cg (xs:=["number"]) (g:=gName 0) (fr:=[(0,"done")]) (z2m (pv 1)) (λ _ _ _ _ _=>(pg_cn (N:=["number","done"]) 0)) (λ _ _ _ _ _=>pf_nil) (λ _ _ _ _ _=>(z0v (ze6 (K:=KX w.params) rfl) (pv 0) (pv 1) (by with_unfolding_all rfl)))) pa_nil)))),?_⟩;refine sq_ret (e_cb1 ?_);refine zbc (K:=KX w.params) (a:=le) (xs:=nsV l) (H1:=H) (λ _=>true) (λ i y _=>∃n,l[i]? = some n/\y=.bl (decide (n∈u))) (λ _ _ _ _ _ z=>z) (λ R h=>⟨_,rfl,h⟩) (SqL.of I) (C0 (m:=100) (by rw [z7u];omega) (by decide)) ?_ ?_
  ·intro i b v D k p KT W G Z;unfold nsV at p;rw [V0] at p;obtain ⟨n,c,rfl⟩:=Option.map_eq_some_iff.mp p;refine ⟨[some (.int (n:Nat))],rfl,rfl,iteT ?_⟩;refine ⟨_,rfl,_,rfl,B,_,rfl,.inr (k.seqT M),rfl,z4m _,?_⟩;exact G rfl _ _ (Same.refl _) ⟨n,c,by rw [<-inV_ns];rfl⟩
  intro O D o k L d;rw [List.filter_eq_self.mpr (λ _ _=>rfl),z7u] at d;have F:=z03 d;rw [Y1] at F;refine ⟨O,o,rfl,SqL.of upd_same,λ y f=>?_,q _ _ (k.trans (Same.upd L)) ?_⟩
  ·obtain ⟨i,b⟩:=List.mem_iff_getElem?.mp f;obtain ⟨j,_,n,_,e⟩:=z0f d b;exact ⟨_,e⟩
  ·rw [O7];constructor
   ·intro h n c;obtain ⟨i,b⟩:=List.mem_iff_getElem?.mp c;have C:=(List.getElem?_eq_some_iff.mp b).1;have t:o[i]? = some o[i]:=B0 (by omega);obtain ⟨j,r,S,x,e⟩:=z0f d t;rw [X8 C] at r;cases r;rw [b] at x;cases x;have:=of_decide_eq_true (h _ (O0 t));rw [e] at this;exact of_decide_eq_true (V.bl.inj this)
   ·intro h y f;obtain ⟨i,b⟩:=List.mem_iff_getElem?.mp f;obtain ⟨j,_,n,c,e⟩:=z0f d b;rw [e,decide_eq_true (h n (O0 c))];exact decide_eq_true rfl
theorem zhn {K:b0} {H:Hp} {ts:List (Str×Str)} {vs:List V} (al:All2 (λ (i:Nat) y=>∃t,ts[i]? = some t/\StZ K H (zeroK t.2) y) (C1 ts.length) vs):All2 (StZ K H) (ts.map λ t=>zeroK t.2) vs:=by have a:=z03 al;rw [Y1] at a;refine z27 (by rw [F0,a]) λ i z v c f=>?_;rw [V0] at c;obtain ⟨t,d,rfl⟩:=Option.map_eq_some_iff.mp c;obtain ⟨j,e,h,b,g⟩:=z0f al f;rw [X8 (List.getElem?_eq_some_iff.mp d).1] at e;cases e;rw [d] at b;cases b;exact g
def z4u (K:b0):Sp:=λ vs H Q _=>∃(t:Addr) (ts:List (Str×Str)) (es:List Ev),vs=[.ref t]/\TaleAt K H t ts es/\ThW ts/\∀p H',Same H H'->PlZ K H' p ([],ts.map λ t=>zeroK t.2)->Q (.ref p) H'
theorem z93 (T:TX (kx w) mg) (c0:Ca P w mg base "first_state" ["kind"] 2 z4y):Fo P w mg base CX0 3 319 y0p ["tale"] (z4u (kx w)):=by
 refine (z2z w.params).ok z85 (λ d H Q E h=>?_) (λ a7 A a4 s H d Q E X h=>?_)
 ·obtain ⟨t,x,M,rfl,_⟩:=h;rfl
 ·obtain ⟨t,x,M,rfl,⟨pt,te,ys,et,⟨J,a3,o⟩,a6,al⟩,ok,q⟩:=h;refine ⟨_,(z04 (ps_ret (pe_tup (z00 (pe_tup pa_nil) (z00 (z0r z0j rfl (T.no (z25 _)) W3 (z00 (pe_cg (xs:=["name","kind"]) (g:=gTup (kx w) 2 (gCons (gName 0) (gCons (gName 1) gNil))) (fr:=[]) (pi_tup (pe_ix ix_seq (pv 0) pe_int (λ _ _=>rfl))) (λ _ _ _ _ _=>(pg_tup rfl (z0d (pg_cn (N:=["name","kind"]) 0) (z0d (pg_cn (N:=["name","kind"]) 1) z1b)))) (λ _ _ _ _ _=>pf_nil) (λ _ _ _ _ _=>(pe_cal c0 (X.mono (by decide)) rfl (z00 (pv 1) pa_nil)))) pa_nil)) pa_nil))))),?_⟩;refine sq_ret ?_;refine ⟨w_0,λ r L=>?_⟩;obtain ⟨W,c,f,e3⟩:=newA (.tup []) L;rw [<-c];refine zbs (e_cb1 ?_);refine z3j (K:=KX w.params) (a:=pt) (xs:=J) (H1:=W) (λ _=>true) (λ i y I=>∃t,x[i]? = some t/\StZ (kx w) I (zeroK t.2) y) (λ _ _ _ _ s ⟨t,h1,h2⟩=>⟨t,h1,h2.tups (.of s)⟩) (λ R h=>⟨_,rfl,.inr (.inl ⟨t,_,0,.ref pt,rfl,rfl,SqT.of (f _ _ et),z05 (j:=0) rfl,h⟩)⟩) (f.seqT (SqT.of a3)) (C0 (m:=6) (by rw [z03 o];exact ok.n6) (by decide)) ?_ ?_
  ·intro i hi v k e n KT KF S k2;obtain ⟨t,u,b,rfl,Z⟩:=z0f o n;have O:=(f.trans e) _ _ Z;obtain ⟨v,n,hz⟩:=zkv (w:=w) (H:=k) (ok.ks t (O0 u));refine ⟨b,_,rfl,SqT.of O,rfl,_,_,rfl,_,_,rfl,rfl,[some (.str t.1),some (.str t.2)],rfl,rfl,iteT ?_⟩;exact ⟨_,rfl,t.2,v,rfl,n,S rfl _ _ (Same.refl _) ⟨t,u,hz⟩⟩
  intro l4 k d e a1 D;rw [List.filter_eq_self.mpr (λ _ _=>rfl),z03 o] at D;obtain ⟨H5,c,a2,e5⟩:=newA (.lst d) a1;rw [<-c];refine ⟨l4,d,rfl,.inl ⟨SqL.of e5,λ p G=>?_⟩⟩;obtain ⟨H6,c,Y,e6⟩:=newA (.tup d) G;rw [<-c];refine ⟨w_2,λ F U=>?_⟩;obtain ⟨B,c,C,V⟩:=newA (.tup [.ref r,.ref p]) U;rw [<-c];have l:Same k B:=(a2.trans Y).trans C;exact q F B ((f.trans e).trans l) ⟨r,p,d,SqT.of V,SqT.of ((e.trans l) _ _ e3),SqT.of (C _ _ e6),zhn (z01 (λ _ _ z=>z.elim λ t y=>⟨t,y.1,y.2.tups (.of l)⟩) D)⟩
noncomputable def hide (r:Addr) (H:Hp):Hp:=λ p=>if p=r then none else H p
theorem z1f {r p:Addr} {H:Hp} {o:HO} (n:p≠r) (e:H p=some o):hide r H p=some o:=by unfold hide;rw [if_neg n];exact e
theorem hide_same {r:Addr} {H:Hp}:Same (hide r H) H:=λ p o e=>by
 unfold hide at e;by_cases z:p=r
 ·rw [if_pos z] at e;cases e
 ·rw [if_neg z] at e;exact e
theorem zky {r p:Addr} {H:Hp} {o:HO} (e:hide r H p=some o):p≠r:=λ z=>by unfold hide at e;rw [if_pos z] at e;cases e
theorem z4z {r:Addr} {H H':Hp} (s:Same H H'):Same (hide r H) (hide r H'):=λ p o e=>z1f (zky e) (s _ _ (hide_same _ _ e))
theorem z6b {l:Addr} {H:Hp} {o:HO}:hide l (upd H l o)=hide l H:=by
 funext q;unfold hide;by_cases z:q=l
 ·rw [if_pos z,if_pos z]
 ·rw [if_neg z,if_neg z,upd_ne z]
theorem z9f {ts:List (Str×Str)} {f:Str×Str->Str} {us:List V} (h:All2 (λ (i:Nat) y=>∃t,ts[i]? = some t/\y=V.str (f t)) (C1 ts.length) us):us=ts.map λ t=>V.str (f t):=by
 have b:=z03 h;rw [Y1] at b;apply m7;intro i;rw [V0];cases hu:us[i]? with
 | none=>rw [R3 (by have:=List.getElem?_eq_none_iff.mp hu;omega)];rfl
 | some y=>obtain ⟨j,a,t,c,d⟩:=z0f h hu;rw [X8 (by have:=(List.getElem?_eq_some_iff.mp hu).1;omega)] at a;cases a;rw [c,d];rfl
def CaL (H:Hp) (m:Nat) (rs:List Rc) (ts:List (Str×Str)) (ps:List DD) (cs:List V):Prop:=∀n r p y,rs[n]? = some r->ps[n]? = some p->cs[n]? = some y->CaAt H m rs ts n r p y
structure BoF (K:b0) (H:Hp) (m:Nat) (rs:List Rc) (ts:List (Str×Str)) (ps:List DD) (fs:List (Str×V)):Prop where
 cand :∃lc cs,fs.lookup ("candidates" : Str)=some (.ref lc)/\H lc=some (.lst cs)/\cs.length=rs.length/\CaL H m rs ts ps cs
 first :∃p0,fs.lookup ("first" : Str)=some (.ref p0)/\PlZ K H p0 ([],ts.map λ t=>zeroK t.2)
 ended :∃le en,fs.lookup ("ended" : Str)=some (.ref le)/\H le=some (.lst (nsV en))/\EndL rs en
 kinds :∃lk,fs.lookup ("kinds" : Str)=some (.ref lk)/\H lk=some (.lst (ts.map λ t=>V.str t.2))
 nm :∀z:Str,z∈(["steps_from","ends_at","has_place"]:List Str)->fs.lookup z=none
theorem BoF.same {K:b0} {H H':Hp} {m:Nat} {rs:List Rc} {ts:List (Str×Str)} {ps:List DD} {fs:List (Str×V)} (s:Same H H') (h:BoF K H m rs ts ps fs):BoF K H' m rs ts ps fs:=
 ⟨h.cand.elim λ f z=>z.elim λ b y=>⟨f,b,y.1,s _ _ y.2.1,y.2.2.1,λ n r p v a c g=>(y.2.2.2 n r p v a c g).same s⟩,h.first.elim λ p z=>⟨p,z.1,z.2.tups (.of s)⟩,h.ended.elim λ le z=>z.elim λ d y=>⟨le,d,y.1,s _ _ y.2.1,y.2.2⟩,h.kinds.elim λ e z=>⟨e,z.1,s _ _ z.2⟩,h.nm⟩
def z0u (K:b0):Sp:=λ vs H Q _=>∃(x dx t:Addr) (ts:List (Str×Str)) (es:List Ev) (ps:List DD) (m:Nat),vs=[.ref x,.ref t,.str (z1a m)]/\H x=some (.ins 293 dx [])/\TaleAt K H t ts es/\ThW ts/\es.length<=63/\EWf [] es/\All2 (RcGd K H ts) (dAll 0 [] es) ps/\
 ∀fs H',Kept x H H'->H' x=some (.ins 293 dx fs)->BoF K H' m (dAll 0 [] es) ts ps fs->Q .non H'
theorem zk6 (T:TX (kx w) mg) (c0:Ca P w mg base "has_to" ["tale","strictness"] 2 (zco (kx w))) (c1:Ca P w mg base "deeds" ["tale"] 1 (zbo (kx w))) (c2:Ca P w mg base "first_place" ["tale"] 3 (z4u (kx w))) (c3:Ca P w mg base "ended_numbers" ["told"] 1 (z30 (kx w))) (c4:Fo P w mg base (CXE P w base) 1 243 y02 ["self","number","deed","thing","kind","pairs"] (z1g (kx w))):Fo P w mg base (CXE P w base) 5 269 y03 ["self","tale","strictness"] (z0u (kx w)):=by
 refine (z2y w.params).okE sc_Board___init__ (λ vs H Q E h=>?_) (λ l2 A l3 s H vs Q E hr h=>?_)
 ·obtain ⟨x,dx,t,u,L,ps,m,rfl,_⟩:=h;rfl
 ·obtain ⟨x,dx,t,u,L,ps,m,rfl,ex,ta,ok,k8,wf,gd,q⟩:=h;refine ⟨_,(z02 (ps_set (i:=3) sc_Board___init__.nd rfl (Y0 rfl) (pe_cal c0 (hr.mono (by decide)) rfl (z00 (pv 1) (z00 (pv 2) pa_nil))))
   (z02 (ps_set (i:=4) sc_Board___init__.nd rfl (Y0 rfl) (pe_cal c1 (hr.mono (by decide)) rfl (z00 (pv 1) pa_nil)))
   (z02 (ps_fld (pv 0) (pe_cg (xs:=["name","kind"]) (g:=gTup (kx w) 2 (gCons (gName 0) (gCons (gName 1) gNil))) (fr:=[]) (pi_tup (pe_ix ix_seq (pv 1) pe_int (λ _ _=>rfl))) (λ _ _ _ _ _=>(pg_tup rfl (z0d (pg_cn (N:=["name","kind"]) 0) (z0d (pg_cn (N:=["name","kind"]) 1) z1b)))) (λ _ _ _ _ _=>pf_nil) (λ _ _ _ _ _=>(pv 1))) rfl)
   (z02 (ps_fld (pv 0) (pe_cal c2 (hr.mono (by decide)) rfl (z00 (pv 1) pa_nil)) rfl)
   (z02 (ps_fld (pv 0) (pe_cal c3 (hr.mono (by decide)) rfl (z00 (pv 4) pa_nil)) rfl)
   (z02 (ps_fld (pv 0) (pe_lst pa_nil) rfl)
   (z02 (zis (i:=5) sc_Board___init__.nd rfl (Y0 rfl) (xs:=["name","kind"]) (g:=gTup (kx w) 2 (gCons (gName 0) (gCons (gName 1) gNil))) (fr:=[]) rfl (pi_tup (pe_ix ix_seq (pv 1) pe_int (λ _ _=>rfl))) (λ _ z=>absurd z A0) (zhb rfl) (λ _ z=>absurd z A0) (by decide +kernel) rfl (by decide +kernel) (λ _ _ _ _ _=>(pg_tup rfl (z0d (pg_cn (N:=["name","kind"]) 0) (z0d (pg_cn (N:=["name","kind"]) 1) z1b)))) (λ _ _ _ _ _=>pf_nil) (λ _ _ _ _ _=>(pv 0)))
   (z04 (PS.nox (ps_for R1 rfl (z8i rfl (T.no (z24 _)) (z00 (pv 4) pa_nil)) (pg_tup rfl (z0d (z0h (i:=6) sc_Board___init__.nd rfl (Y0 rfl)) (z0d (z0h (i:=7) sc_Board___init__.nd rfl (Y0 rfl)) z1b)))
   (z02 (ps_set (i:=8) sc_Board___init__.nd rfl (Y0 rfl) (zg1 (pv 5) (z00 (pe_ix ix_seq (pv 7) pe_int (λ _ _=>rfl)) pa_nil)))
   (z04 (z33 (z1h (pe_fld (pv 0) rfl) (z00 (zgk (zb1 _) c4 (hr.mono (by decide)) rfl (T.of (zdm _)) (z43 _) .nil passN (z00 (pv 6) (z00 (pv 7) (z00 (pv 8) (z00 (pe_ix ix_seq (pe_fld (pv 0) rfl) (pv 8) (λ _ _=>rfl)) (z00 (pv 3) pa_nil)))))) pa_nil))))))))))))))),?_⟩
  obtain ⟨pt,te,ys,et,⟨yt,e8,a1⟩,h0,al⟩:=id ta;obtain ⟨dw,os,DI⟩:=DInv.all DInv.nil wf;have rl:(dAll 0 [] L).length<=63:=by have:=zbk (i:=0) (rs:=[]) L;simp only [t8,m8] at this;omega
  refine ⟨_,rfl,_,rfl,t,te,.ref pt,ys,L,m,rfl,SqT.of et,SqT.of h0,al,by omega,dw,λ lp zp H1 s1 l4 c6 ap=>?_⟩;refine g_name (t_nx ?_);refine ⟨_,rfl,t,te,.ref pt,ys,L,rfl,s1.seqT (SqT.of et),s1.seqT (SqT.of h0),z01 (λ _ _ z=>EvAt.tups (.of s1) z) al,by omega,dw,λ lt zt C s2 l0 Y ar=>?_⟩;refine g_name (t_nx ?_);have Z:=s1.trans s2;generalize dAll 0 [] L=rs at *;have zl:zt.length=rs.length:=z03 ar;have pl:=z54 (m:=m) (rs:=rs) rs.length;have pm:rs.length * rs.length<=63 * 63:=j18 rl rl;have g5 :∀{a:Addr} {o:HO} {J:Hp},J x=some (.ins 293 dx [])->J a=some o->(∀d f,o≠.ins 293 d f)->a≠x:=λ e1 e2 n z=>by rw [z,e1] at e2;cases e2;exact n _ _ rfl
  have a8:=Z _ _ ex;have j8:lp≠x:=g5 a8 (s2 _ _ c6) λ _ _ z=>by cases z
  have c8:lt≠x:=g5 a8 Y λ _ _ z=>by cases z
  refine z2t ?_;refine z3j (K:=KX w.params) (a:=pt) (xs:=yt) (H1:=C) (λ _=>true) (λ i y _=>∃t,u[i]? = some t/\y=.str t.2) (λ _ _ _ _ s z=>z) (λ R h=>⟨_,rfl,.inr (.inl ⟨t,_,0,.ref pt,rfl,rfl,SqT.of (Z _ _ et),z05 (j:=0) rfl,h⟩)⟩) (Z.seqT (SqT.of e8)) (C0 (m:=6) (by rw [z03 a1];exact ok.n6) (by decide)) ?_ ?_
  ·intro i hi v H3 s3 hv KT KF k1 k2;obtain ⟨t,ht,b,rfl,eb⟩:=z0f a1 hv;refine ⟨b,_,rfl,SqT.of ((Z.trans s3) _ _ eb),rfl,_,_,rfl,_,_,rfl,rfl,[some (.str t.1),some (.str t.2)],rfl,rfl,iteT ?_⟩;exact ⟨_,rfl,k1 rfl _ _ (Same.refl _) ⟨t,ht,rfl⟩⟩
  intro G H3 us s3 d4 e4;rw [List.filter_eq_self.mpr (λ _ _=>rfl),z03 a1] at e4;rw [z9f (f:=λ t=>t.2) e4];have c7:=s3.trans (Same.upd (o:=.lst (u.map λ t=>V.str t.2)) d4);have b5:upd H3 G (.lst (u.map λ t=>V.str t.2)) G=some (.lst (u.map λ t=>V.str t.2)):=upd_same;have g0:G≠x:=λ z=>by rw [z,s3 _ _ a8] at d4;cases d4
  generalize upd H3 G (.lst (u.map λ t=>V.str t.2))=H4 at c7 b5⊢;have s4:=Z.trans c7;refine z1d s4.kept (s4 _ _ ex) rfl (z15 _) (z4r _) (n:=0) (u0 _) (by decide) λ H5 k5 d6 e5 ln=>?_;refine z2t ?_;refine ⟨_,rfl,t,u,L,rfl,ta.tt (ins_tt ex k5),ok,λ p0 H6 s6 pz=>?_⟩;refine z1d (k5.trans s6.kept) (s6 _ _ e5) rfl (z15 _) (z2b _) ln (by decide) λ H7 k7 b9 e7 ln=>?_;refine z2t ?_;have b0:Kept x C H7:=(c7.kept.trans d6).trans (s6.kept.trans b9);have i5:Tt (kx w) C H7:=ins_tt a8 b0;refine ⟨_,rfl,lt,zt,rs,rfl,b0 _ _ c8 Y,z01 (λ _ _ z=>RcAt.tups i5.t z) ar,by omega,λ le en H8 D a9 EL=>?_⟩;refine z1d (k7.trans D.kept) (D _ _ e7) rfl (z15 _) (z4f _) ln (by decide) λ H9 k9 a0 e9 ln=>?_;refine z2t ⟨w_0,λ c W=>?_⟩;have I:=Same.upd (o:=.lst []) W;have g7:upd H9 c (.lst []) c=some (.lst []):=upd_same;have b3:c≠x:=λ z=>by rw [z,e9] at W;cases W
  generalize upd H9 c (.lst [])=H10 at I g7⊢;refine z1d (k9.trans I.kept) (I _ _ e9) rfl (z15 _) (z12 _) ln (by decide) λ c9 e6 a5 d8 ln=>?_;have f0:=a5 _ _ b3 g7;have h6:Kept x C c9:=(b0.trans (D.kept.trans a0)).trans (I.kept.trans a5);have d3:Tt (kx w) H c9:=ins_tt ex e6;refine z0q ?_;refine z3j (K:=KX w.params) (a:=pt) (xs:=yt) (H1:=c9) (λ _=>true) (λ i y _=>∃t,u[i]? = some t/\y=.str t.1) (λ _ _ _ _ s z=>z) (λ R h=>⟨_,rfl,.inr (.inl ⟨t,_,0,.ref pt,rfl,rfl,SqT.of (d3.l _ _ et),z05 (j:=0) rfl,h⟩)⟩) (d3.t _ _ (SqT.of e8)) (C0 (m:=6) (by rw [z03 a1];exact ok.n6) (by decide)) ?_ ?_
  ·intro i hi v d2 a4 hv KT KF k1 k2;obtain ⟨t,ht,b,rfl,eb⟩:=z0f a1 hv;refine ⟨b,_,rfl,SqT.of (a4 _ _ (d3.l _ _ eb)),rfl,_,_,rfl,_,_,rfl,rfl,[some (.str t.1),some (.str t.2)],rfl,rfl,iteT ?_⟩;exact ⟨_,rfl,k1 rfl _ _ (Same.refl _) ⟨t,ht,rfl⟩⟩
  intro M d2 us a4 a3 e3;rw [List.filter_eq_self.mpr (λ _ _=>rfl),z03 a1] at e3;rw [z9f (f:=λ t=>t.1) e3];have F:=a4.trans (Same.upd (o:=.lst (u.map λ t=>V.str t.1)) a3);have e0:upd d2 M (.lst (u.map λ t=>V.str t.1)) M=some (.lst (u.map λ t=>V.str t.1)):=upd_same;have l5:M≠x:=λ z=>by rw [z,a4 _ _ d8] at a3;cases a3
  have i7:M≠c:=λ z=>by rw [z,a4 _ _ f0] at a3;cases a3
  generalize upd d2 M (.lst (u.map λ t=>V.str t.1))=HB at F e0⊢;refine g_name ?_;have eB:=F _ _ d8;have d1:=F _ _ f0;have kB:Kept x H HB:=e6.trans F.kept;have b1:Kept x C HB:=h6.trans F.kept;have b8:C c=none:=by
   cases z:C c with
   | none=>rfl
   | some o=>have:=((b0.trans (D.kept.trans a0))) _ _ b3 z;rw [W] at this;cases this
  have j4:H c=none:=Z.free b8;have k0:lt≠c:=λ z=>by rw [z,b8] at Y;cases Y
  have j2:lp≠c:=λ z=>by have:=s2 _ _ c6;rw [z,b8] at this;cases this
  have w5:Kept x H4 H5:=d6;have g8:Kept x H4 H9:=(w5.trans (s6.kept.trans b9)).trans (D.kept.trans a0);have g9:G≠c:=λ z=>by have h:=g8 _ _ g0 b5;rw [z,W] at h;cases h
  have d5:HB G=some (.lst (u.map λ t=>V.str t.2)):=((g8.trans (I.kept.trans a5)).trans F.kept) _ _ g0 b5;refine ⟨_,rfl,lt,zt,rfl,SqL.of (b1 _ _ c8 Y),?_⟩;refine z94 (K:=KX w.params) (a:=lt) (xs:=zt) (λ i σ J=>∃B,KeptL [c] HB J/\J c=some (.lst B)/\B.length=i/\CaL (hide c J) m rs u ps B/\∃x6 x7 x8,σ=[some (.ref x),some (.ref t),some (.str (z1a m)),some (.ref lp),some (.ref lt),some (.ref M),x6,x7,x8])
   ⟨[],KeptL.refl,d1,rfl,λ n r p y _ _ h=>(by cases h),_,_,_,rfl⟩ (λ i σ J h=>?_) ?_ ?_
  ·obtain ⟨B,kk,_⟩:=h;exact SqL.of (kk _ _ (by simp [k0]) (b1 _ _ c8 Y))
  ·rintro i y σ b2 pq hy ⟨B,k13,e13,cl,ca,x6,x7,x8,rfl⟩ hpq;obtain ⟨a7,v_,sp,j5⟩:=newA (.tup [.int i,y]) hpq;rw [<-v_];refine ⟨pq,_,rfl,SqT.of j5,rfl,.int i,_,rfl,y,_,rfl,rfl,?_⟩;have k6:i < rs.length:=by rw [<-zl];exact (List.getElem?_eq_some_iff.mp hy).1
   obtain ⟨r,g6,py,rfl,g3⟩:=z0f ar hy;obtain ⟨S,i0,g1,g2,hm,dk,ix,wi,ga⟩:=z0w gd g6;have mB :∀l∈[c],MutAt HB l:=λ l hl=>by rw [List.mem_singleton.mp hl];exact .inl ⟨_,d1⟩
   have i3:Tt (kx w) C HB:=ins_tt a8 b1;have c5:Tt (kx w) C a7:=(i3.trans (KeptL.tt k13 mB)).trans (.of sp);have a6:KeptL [c] HB a7:=k13.trans sp.keptL;have g4:=c5.t _ _ g3;rw [g1] at g4;have b7:=ixT_of ok hm;have k4:ixT u S.nm < u.length:=(List.getElem?_eq_some_iff.mp b7).1;have d7:(u.map (·.1))[ixT u S.nm]? = some S.nm:=by rw [V0,b7];rfl
   have i9:u.map (λ t=>V.str t.1)=(u.map (·.1)).map V.str:=by rw [v3];rfl
   have b6:=a6 _ _ (by simp [i7]) e0;rw [i9] at b6;refine ⟨_,rfl,.inl ⟨rfl,_,SqL.of b6⟩,_,rfl,.inr (.inl ⟨py,_,1,.str S.nm,rfl,rfl,g4,z05 (j:=1) rfl,M,u.map (·.1),S.nm,ixT u S.nm,rfl,rfl,b6,C0 (m:=6) (by rw [F0];exact ok.n6) (by decide),d7,λ m' l1 e=>?_,?_⟩)⟩
   ·have:=(P9 (List.getElem?_eq_some_iff.mp e).1 ok.nd).mp (e.trans d7.symm);omega
   refine g_name (t_nx ?_);have h4:=a6 _ _ (by simp [b3.symm]) eB;have a2:=sp _ _ e13;have i8:=a6 _ _ (by simp [g9]) d5;have h9:=a6 _ _ (by simp [j2]) (b1 _ _ j8 (s2 _ _ c6));refine ⟨_,rfl,x,_,dx,_,_,rfl,h4,z15 _,z12 _,lk_eq,.inl ⟨rfl,_,SqL.of a2⟩,?_⟩;refine ⟨_,rfl,_,rfl,_,rfl,_,rfl,x,_,dx,_,_,rfl,h4,z15 _,z4r _,lk_n (lk_n (lk_n lk_eq)),?_⟩;refine ⟨_,rfl,.inl ⟨G,_,_,.str S.k,rfl,rfl,SqL.of i8,z05 (by rw [V0,b7];rfl),?_⟩⟩;refine ⟨_,rfl,λ X dc b4 d9 nc=>?_⟩;have sC:Same a7 (upd (upd a7 dc (.own X)) X (.ins 253 dc [])):=(Same.upd d9).trans (Same.upd (by rw [upd_ne nc.symm];exact b4));refine ⟨X,dc,lp,i,_,_,.ref py,zp,z2n m rs rs.length,r,rfl,upd_same,⟨py,rfl,sC.seqT (c5.t _ _ g3)⟩,sC _ _ h9,z01 (λ _ _ z=>z.elim λ b y=>⟨b,y.1,sC _ _ (c5.l _ _ (s2 _ _ y.2))⟩) ap,by omega,λ fs la lb as bs k3 i2 h8 f1 f2 f3 f4 f5 f6 f7 f8 f9 ea eb ma mb i6 h7 fa fb=>⟨rfl,?_⟩⟩;have d0:Same a7 k3:=zd3 b4 d9 i2;have j0:=d0 _ _ a2;refine ⟨c,B,_,rfl,rfl,j0,O1 (m:=100) (by omega) (by decide),?_⟩;have i1:X≠c:=λ z=>by rw [z,a2] at b4;cases b4
   have j7:la≠c:=λ z=>by rw [z,sC _ _ a2] at fa;cases fa
   have j1:lb≠c:=λ z=>by rw [z,sC _ _ a2] at fb;cases fb
   refine ⟨B++[.ref X],(a6.trans d0.keptL).trans (KeptL.set (by simp)),upd_same,by rw [K0];show B.length + 1=_;omega,λ n r' p' y' h1 U O=>?_,_,_,_,rfl⟩;rw [z6b];by_cases z:n < B.length
   ·rw [K1 z] at O;exact (ca n r' p' y' h1 U O).same (z4z (sp.trans d0))
   ·have hn:n=B.length:=by have:=(List.getElem?_eq_some_iff.mp O).1;rw [K0] at this;have:n < B.length + 1:=this;omega
    rw [hn,P1 (u0 _),j36] at O;cases O;rw [hn,cl] at h1 U;rw [g6] at h1;rw [i0] at U;cases h1;cases U;rw [hn,cl];exact ⟨X,dc,fs,la,lb,as,bs,rfl,z1f i1 h8,f1,f2,f3,f4,f5,f6,f7,f8,f9,z1f j7 ea,z1f j1 eb,λ a=>(ma a).trans ⟨λ h=>(mem_pairsTo.mp h).2.2,λ h=>mem_pairsTo.mpr ⟨(z1l h).1,(z1l h).2,h⟩⟩,λ b=>(mb b).trans ⟨λ h=>(mem_pairsTo.mp h).2.2,λ h=>mem_pairsTo.mpr ⟨(z1l h).1,(z1l h).2,h⟩⟩,i6,h7⟩
  ·rintro σ b2 ⟨B,k13,e13,cl,ca,x6,x7,x8,rfl⟩;have j3 :∀b o,b≠x->b≠c->H8 b=some o->b2 b=some o:=λ b o n1 n2 e=>k13 _ _ (by simp [n2]) (F _ _ (a5 _ _ n1 (I _ _ (a0 _ _ n1 e))));have h5:le≠x:=λ z=>by rw [z,D _ _ e7] at a9;cases a9
   have i4:le≠c:=λ z=>by have h:=a0 _ _ h5 a9;rw [z,W] at h;cases h
   have j6 :∀l∈[c],MutAt HB l:=λ l hl=>by rw [List.mem_singleton.mp hl];exact .inl ⟨_,d1⟩
   have j9:Tt (kx w) H6 b2:=((ins_tt (s6 _ _ e5) b9).trans ((Tt.of D).trans ((ins_tt (D _ _ e7) a0).trans ((Tt.of I).trans ((ins_tt (I _ _ e9) a5).trans (.of F)))))).trans (KeptL.tt k13 j6);refine q _ b2 (λ b o nb e=>k13 _ _ (λ z=>by rw [List.mem_singleton.mp z,j4] at e;cases e) (kB b o nb e)) (k13 _ _ (by simp [b3.symm]) eB) ⟨⟨c,B,lk_eq,e13,by omega,λ n r p y h1 U O=>(ca n r p y h1 U O).same hide_same⟩,⟨p0,lk_n (lk_n lk_eq),pz.tups j9.t⟩,⟨le,en,lk_n lk_eq,j3 _ _ h5 i4 a9,EL⟩,⟨G,lk_n (lk_n (lk_n lk_eq)),k13 _ _ (by simp [g9]) d5⟩,λ z hz=>?_⟩;simp only [F1,A0,or_false] at hz;rcases hz with rfl|rfl|rfl<;>exact (lk_n (lk_n (lk_n (lk_n rfl))))
theorem ze3 {α β:Type} {R:α->β->Prop} {xs xs':List α} {ys ys':List β} (h:All2 R xs ys) (h':All2 R xs' ys'):All2 R (xs++xs') (ys++ys'):=by
 induction h with
 | nil=>exact h'
 | cons a r ih=>exact .cons a ih
theorem if_any {tc:TT} {ta tb:TS} {D:Ends} {σ:L2.St} {H:Hp} (R:Hp->Prop) (k :∀H',R H'->ta D σ H') (h:(∀H',R H'->ta D σ H')->tIfS tc ta tb D σ H):tIfS tc ta tb D σ H:=h k
def BoAt (K:b0) (H:Hp) (m:Nat) (rs:List Rc) (ts:List (Str×Str)) (ps:List DD) (b:Addr):Prop:=∃dx fs,H b=some (.ins 293 dx fs)/\BoF K H m rs ts ps fs
theorem BoAt.same {K:b0} {H H':Hp} {m:Nat} {rs:List Rc} {ts:List (Str×Str)} {ps:List DD} {b:Addr} (s:Same H H') (h:BoAt K H m rs ts ps b):BoAt K H' m rs ts ps b:=h.elim λ a z=>z.elim λ fs y=>⟨a,fs,s _ _ y.1,y.2.same s⟩
def z11 (K:b0):Sp:=λ vs H Q _=>∃(b pp:Addr) (m k:Nat) (rs:List Rc) (ts:List (Str×Str)) (ps:List DD) (pl:Pl),vs=[.ref b,.ref pp]/\BoAt K H m rs ts ps b/\All2 (RcGd K H ts) rs ps/\ThW ts/\PlZ K H pp pl/\PlOk ts rs.length k pl/\rs.length<=63/\
 ∀l ys H',Same H H'->H l=none->H' l=some (.lst ys)->All2 (StpZ K H') (nexT (cP m rs pl.1) ts rs ps pl rs.length) ys->Q (.ref l) H'
theorem z4s (T:TX (kx w) mg) (c0:Fo P w mg base CX0 1 250 y01 ["self","done"] (z19 (kx w))) (c1:Ca P w mg base "step_of" ["candidate","place"] 6 (z9e (kx w))):Fo P w mg base CX0 7 276 y00 ["self","place"] (z11 (kx w)):=by
 refine (z26 w.params).ok sc_Board_steps_from (λ vs H Q E h=>?_) (λ a6 A a7 s H vs Q E hr h=>?_)
 ·obtain ⟨b,u,m,k,c,l,D,d,rfl,_⟩:=h;rfl
 ·obtain ⟨b,u,m,k,c,l,D,d,rfl,⟨dx,fs,eb,⟨⟨lc,cs,fc,ec,cl,ca⟩,_,_,_,fn⟩⟩,gd,ok,pz,po,rl,q⟩:=h;refine ⟨_,(z02 (ps_set (i:=2) sc_Board_steps_from.nd rfl (Y0 rfl) (pe_lst pa_nil))
   (z02 (ps_for R1 rfl (z2m (pe_fld (pv 0) rfl)) (z0h (i:=3) sc_Board_steps_from.nd rfl (Y0 rfl))
   (z04 (ps_if (pt_val (zcd (pv 3) (z0a _) (z2w _) c0 (hr.mono (by decide)) (z3n _) .nil pass0 (z00 (pe_ix ix_seq (pv 1) pe_int (λ _ _=>rfl)) pa_nil)) (λ _=>rfl))
   (z02 (ps_set (i:=4) sc_Board_steps_from.nd rfl (Y0 rfl) (pe_cal c1 (hr.mono (by decide)) rfl (z00 (pv 3) (z00 (pv 1) pa_nil))))
   (z04 (ps_if (PW.pt (pw_or (z07 op_isN (pe_fld (pv 3) rfl) pe_non (nomark _)) (pw_or1 (z07 opEq (pe_fld (pv 3) rfl) (pe_ix ix_seq (pv 4) pe_int (λ _ _=>rfl)) (nomark _)))))
   (z04 (z33 (z1h (pv 2) (z00 (pv 4) pa_nil))))
   z0b)))
   z0b)))
   (z04 (ps_ret (pv 2))))),?_⟩
  refine ⟨w_0,λ o G=>?_⟩;obtain ⟨H1,v_,Y,F⟩:=newA (.lst []) G;rw [<-v_];refine g_name (t_nx ?_);refine ⟨_,rfl,b,_,dx,fs,_,rfl,Y _ _ eb,z15 _,z12 _,fc,lc,rfl,⟨_,SqL.of (Y _ _ ec)⟩,?_⟩;refine z5a (K:=KX w.params) (a:=lc) (xs:=cs) (λ i σ f=>∃ys,Same H f/\f o=some (.lst ys)/\All2 (StpZ (kx w) f) (nexT (cP m c d.1) l c D d i) ys/\∃x3 x4,σ=[some (.ref b),some (.ref u),some (.ref o),x3,x4])
   ⟨[],Y,F,.nil,_,_,rfl⟩ (λ i σ f _ h=>SqL.of (h.choose_spec.1 _ _ ec)) ?_ ?_
  ·rintro i y σ H2 hy ⟨ys,s2,e2,al2,x3,x4,rfl⟩;have L:i < c.length:=by rw [<-cl];exact (List.getElem?_eq_some_iff.mp hy).1
   have C:c[i]? = some c[i]:=B0 L;obtain ⟨p,M,g⟩:=z0w gd C;generalize c[i]=r at C g;have N:=(ca i r p y C M hy).same s2;obtain ⟨S,pb,vs,sp,sa,sb,sz⟩:=id pz;refine g_name ?_;have a4 :∀{f:Hp} {R:VK},Same H f->R (.ref S) f->tOp (rIx (kx w)) (tVar 1) (tC (.int 0)) [some (.ref b),some (.ref u),some (.ref o),some y,x4] f R:=λ B h=>⟨_,rfl,.inr (.inl ⟨u,_,0,.ref S,rfl,rfl,B.seqT sp,z05 (j:=0) rfl,h⟩)⟩
   have skip:cP m c d.1 i=false\/stp l r p i d=none->∀{x3 x4:Option V} {f:Hp},Same H2 f->∃ys,Same H f/\f o=some (.lst ys)/\All2 (StpZ (kx w) f) (nexT (cP m c d.1) l c D d (i + 1)) ys/\∃x3' x4',[some (.ref b),some (.ref u),some (.ref o),x3,x4]=[some (.ref b),some (.ref u),some (.ref o),x3',x4']:=λ h {x3 x4 f} B=>by
    refine ⟨ys,s2.trans B,B _ _ e2,?_,_,_,rfl⟩;rw [z4p,show nexAt (cP m c d.1) l c D d i=none by
     unfold nexAt;rcases h with h|h
     ·rw [h];rfl
     ·rw [C,M];split<;>first|exact h|rfl]
    rw [W8,D2];exact z01 (λ _ _ z=>StpZ.tups (.of B) z) al2
   obtain ⟨x,O,a0,la,lb,as,bs,rfl,W,f1,f2,f3,f4,f5,f6,f7,f8,f9,_⟩:=id N;refine ⟨_,rfl,x,O,a0,rfl,W,f9,a4 s2 ⟨.ref x,S,m,i,c,l,r,p,d.1,rfl,N,s2.seqT sa,_,rfl,?_⟩⟩;cases hc:cP m c d.1 i with
   | false=>exact iteF (skip (.inl hc) (Same.refl _))
   | true=>
   refine iteT ?_;have ni:i∉d.1:=of_decide_eq_true (Bool.and_eq_true_iff.mp (Bool.and_eq_true_iff.mp hc).1).1;refine ⟨_,rfl,_,rfl,.ref x,u,m,i,k,c.length,c,l,r,p,d,rfl,N,g.tt (.of s2),ok,pz.tups (.of s2),po,rl,L,ni,λ X Z q6 J a5 so v e3 a2=>?_⟩;refine g_name (t_nx ?_);have I:=stp_of (r:=r) (n:=i) a5;refine if_any (λ f=>J=f/\stp l r p i d=some (stq l p i d X)) ?_ λ put=>?_;rotate_left
   ·refine t_or ?_;refine ⟨_,rfl,x,_,O,a0,_,rfl,v _ _ W,z0a _,z0y _,f6,rfl,_,rfl,?_⟩;have a3:=dz_ok g.2.2.2.1 so (po.n63 rl L ni).1;rcases g.2.2.2.2.2.2 with ⟨U,t⟩|⟨U,t⟩
    ·refine iteP (by rw [t];rfl) (iteT (put _ ⟨rfl,?_⟩));rw [I,U];rfl
    have na:¬ decide (r.a=V.non)=true:=λ h=>by have:=of_decide_eq_true h;rcases t with ⟨j,t⟩|⟨j,t⟩<;>(rw [t] at this;cases this)
    have F:r.e.isNone=false:=Option.isNone_eq_false_iff.mpr U;refine iteN na ?_;refine ⟨_,rfl,x,_,O,a0,_,rfl,v _ _ W,z0a _,z0y _,f6,?_⟩;refine ⟨_,rfl,.inr (.inl ⟨Z,_,1,_,rfl,rfl,SqT.of e3,z05 (j:=1) rfl,IsA.scal (.inl t) (.inl a3.2.isA),_,rfl,?_⟩)⟩;by_cases za:r.a=(dz p.k p.vb p.dt X).2
    ·refine iteP (decide_eq_true za) (put _ ⟨rfl,?_⟩);rw [I,F,j21,decide_eq_true za.symm];rfl
    ·refine iteN (λ h=>za (of_decide_eq_true h)) (skip (.inr ?_) v);rw [I,F,j21,decide_eq_false (λ h=>za h.symm)];rfl
   rintro f ⟨rfl,hst⟩;have a1:=v _ _ e2;have yl:ys.length<=i:=by rw [z03 al2];exact zbg
   refine ⟨_,rfl,.inl ⟨rfl,_,SqL.of a1⟩,_,rfl,o,ys,_,rfl,rfl,a1,O1 (m:=100) (by omega) (by decide),?_⟩;have tu:Tups (kx w) J (upd J o (.lst (ys++[.ref Z]))):=Tups.lst a1;refine ⟨ys++[.ref Z],Same.keep (s2.trans v) G,upd_same,?_,_,_,rfl⟩;rw [z4p,show nexAt (cP m c d.1) l c D d i=some (stq l p i d X) by unfold nexAt;rw [if_pos hc,C,M];exact hst];exact ze3 (z01 (λ _ _ z=>(StpZ.tups (.of v) z).tups tu) al2) (.cons (a2.tups tu) .nil)
  ·rintro σ H2 ⟨ys,s2,e2,al2,x3,x4,rfl⟩;rw [cl] at al2;exact ⟨_,rfl,q o ys H2 s2 G e2 al2⟩
end
section
theorem cut_to {ys:List V} {m:Nat} (h:m<=ys.length):cutV ys none (some (m:Int))=ys.take m/\HT.sIx ys.length 0 none=0/\HT.sIx ys.length ys.length (some (m:Int))=m:=by
 have a:HT.sIx ys.length 0 none=0:=by simp [HT.sIx]
 have b:HT.sIx ys.length ys.length (some (m:Int))=m:=by simp [HT.sIx];rw [if_neg (by omega)];exact A6 h
 refine ⟨?_,a,b⟩;unfold cutV;rw [a,b,K5,Nat.sub_zero]
end
section
variable {P:Program} {w:S0} {mg:Str->Option Value} {base:Heap}
def z3r (K:b0):Sp:=λ vs H Q _=>∃(a:Addr) (ns:List Int),vs=[.ref a,.int 0]/\SqL K H a (ns.map V.int)/\∀i,Q (.int i) H
theorem z77 (T:TX (kx w) mg):Fo P w mg base CX0 1 375 y07 ["script","k"] (z3r (kx w)):=by
 refine (z10 w.params).ok z3p (λ d H Q E h=>?_) (λ g A f s H d Q E e h=>?_)
 ·obtain ⟨a,b,rfl,_⟩:=h;rfl
 ·obtain ⟨a,b,rfl,c,q⟩:=h;refine ⟨_,(z02 (ps_if (z07 op_lt (pv 1) (z09 z0s rfl (T.no (n_len _)) E3 (z00 (pv 0) pa_nil)) (nomark _))
   (z04 (ps_ret (pe_ix ix_seq (pv 0) (pv 1) (λ _ _=>rfl))))
   z0b)
   (z04 (ps_ret pe_int))),?_⟩
  refine ⟨_,rfl,_,rfl,.inl ⟨a,_,rfl,.inl c,_,_,rfl,rfl,_,rfl,?_⟩⟩;cases b with
  | nil=>exact iteF (q 0)
  | cons n b=>rw [if_pos (by simp)];exact ⟨_,rfl,_,rfl,.inl ⟨a,_,0,.int n,rfl,rfl,c,z05 (xs:=(n :: b).map V.int) (j:=0) rfl,q n⟩⟩
def DeckAt (H:Hp) (r:Addr) (n:Nat):Prop:=∃a b c:Int,H r=some (.lst [.int a,.int b,.int c])/\0<=b/\b < 2/\0<=c/\c<=n
theorem DeckAt.same {H H':Hp} {r:Addr} {n:Nat} (h:DeckAt H r n) (s:Same H H'):DeckAt H' r n:=by obtain ⟨a,b,c,e,z⟩:=h;exact ⟨a,b,c,s _ _ e,z⟩
theorem DeckAt.fresh {r p:Addr} {H:Hp} {n:Nat} (h:DeckAt H r n) (e:H p=none):p≠r:=λ z=>by obtain ⟨a,b,c,d,_⟩:=h;rw [z,d] at e;cases e
structure Dw (r:Addr) (n:Nat) (H H':Hp):Prop where
 k:Kept r H H'
 r:DeckAt H' r n
theorem Dw.trans {r:Addr} {n m:Nat} {H H1 H2:Hp} (a:Dw r n H H1) (b:Dw r m H1 H2):Dw r m H H2:=⟨a.k.trans b.k,b.r⟩
theorem Dw.same {r:Addr} {n:Nat} {H H1 H2:Hp} (a:Dw r n H H1) (s:Same H1 H2):Dw r n H H2:=⟨a.k.trans s.kept,a.r.same s⟩
theorem DeckAt.dw {r:Addr} {n:Nat} {H:Hp} (h:DeckAt H r n):Dw r n H H:=⟨.refl,h⟩
theorem Dw.free {r:Addr} {n:Nat} {H H':Hp} {p:Addr} (h:Dw r n H H') (e:H' p=none):H p=none:=by
 cases z:H p with
 | none=>rfl
 | some o=>rw [h.k _ _ (h.r.fresh e) z] at e;cases e
def z1m:Sp:=λ vs H Q _=>∃(r:Addr) (m:Int) (n:Nat),vs=[.ref r,.int m]/\DeckAt H r n/\n < 10000/\0 < m/\m < 2 ^ 64/\∀t H',Dw r (n + 1) H H'->0<=t->t < m->Q (.int t) H'
theorem zbl (T:TX (kx w) mg):Fo P w mg base CX0 1 382 y1b ["deck","many"] z1m:=by
 refine (z55 w.params).ok sc__law_take (λ l H Q E h=>?_) (λ F A t s H l Q E y h=>?_)
 ·obtain ⟨r,m,n,rfl,_⟩:=h;rfl
 ·obtain ⟨r,m,n,rfl,⟨a,b,c,e,g,k,o,z⟩,D,f,p,q⟩:=h;refine ⟨_,(z02 (ps_if (z07 opEq (pe_ix ix_seq (pv 0) pe_int (λ _ _=>rfl)) pe_int (nomark _))
   (z02 (ps_set (i:=2) sc__law_take.nd rfl (Y0 rfl) (pe_op op_mod (pe_ix ix_seq (pv 0) pe_int (λ _ _=>rfl)) (pv 1)))
   (z02 (ps_asg (pe_op z8j (pe_ix ix_seq (pv 0) pe_int (λ _ _=>rfl)) (pv 1)) (pg_sub (pv 0) pe_int z5k))
   (z04 (ps_ret (pv 2)))))
   z0b)
   (z02 (ps_asg (pe_op opAdd (pe_ix ix_seq (pv 0) pe_int (λ _ _=>rfl)) pe_int) (pg_sub (pv 0) pe_int z5k))
   (z02 (ps_set (i:=3) sc__law_take.nd rfl (Y0 rfl) (pe_op op_mod (pe_op opAdd (pe_op op_mul (pe_op op_mod (pe_ix ix_seq (pv 0) pe_int (λ _ _=>rfl)) pe_int) (pe_op opAdd (pe_op op_mul (pe_ix ix_seq (pv 0) pe_int (λ _ _=>rfl)) (pe_ix ix_seq (pv 0) pe_int (λ _ _=>rfl))) pe_int)) (pe_ix ix_seq (pv 0) pe_int (λ _ _=>rfl))) pe_int))
   (z02 (ps_set (i:=3) sc__law_take.nd rfl (Y0 rfl) (pe_op op_mod (pe_op op_mul (pv 3) (pv 3)) pe_int))
   (z04 (ps_ret (pe_op op_mod (pe_op z8j (pe_op op_mod (pe_op op_mul (pv 3) pe_int) pe_int) pe_int) (pv 1)))))))),?_⟩
  refine ⟨_,rfl,.inl ⟨r,_,1,.int b,rfl,rfl,SqL.of e,rfl,rfl,_,rfl,?_⟩⟩;refine ite2 (λ _=>?_) λ _=>?_
  ·refine ⟨_,rfl,.inl ⟨r,_,0,.int a,rfl,rfl,SqL.of e,rfl,_,rfl,_,_,rfl,rfl,f,?_⟩⟩;refine ⟨_,rfl,.inl ⟨r,_,0,.int a,rfl,rfl,SqL.of e,rfl,_,rfl,_,_,rfl,rfl,⟨f,p⟩,?_⟩⟩;refine ⟨_,rfl,r,_,0,0,rfl,rfl,e,rfl,?_⟩;exact ⟨_,rfl,q _ _ ⟨.set,_,b,c,upd_same,g,k,o,by omega⟩ (B6 _ (by omega)) (E5 _ f)⟩
  ·refine ⟨_,rfl,.inl ⟨r,_,2,.int c,rfl,rfl,SqL.of e,rfl,.inl ⟨_,_,rfl,rfl,?_⟩⟩⟩;refine ⟨_,rfl,r,_,2,2,rfl,rfl,e,rfl,?_⟩;have d:upd H r (.lst ([V.int a,.int b,.int c].set 2 (.int (c + 1)))) r=some (.lst [.int a,.int b,.int (c + 1)]):=upd_same;have j:Kept r H (upd H r (.lst ([V.int a,.int b,.int c].set 2 (.int (c + 1))))):=.set;generalize upd H r (.lst ([V.int a,.int b,.int c].set 2 (.int (c + 1))))=H2 at d j⊢;have u:0<=a % 2147483647:=B6 _ (by decide);have B:a % 2147483647 < 2147483647:=E5 _ (by decide);refine ⟨_,rfl,.inl ⟨r,_,0,.int a,rfl,rfl,SqL.of d,rfl,_,_,rfl,rfl,(show (0:Int) < 2147483647 by decide),?_⟩⟩;refine ⟨_,rfl,.inl ⟨r,_,2,.int (c + 1),rfl,rfl,SqL.of d,rfl,_,rfl,.inl ⟨r,_,2,.int (c + 1),rfl,rfl,SqL.of d,rfl,_,_,rfl,rfl,.inl ⟨by omega,by omega⟩,.inl ⟨_,_,rfl,rfl,?_⟩⟩⟩⟩;refine ⟨_,_,rfl,rfl,.inl ⟨by omega,by omega⟩,_,rfl,.inl ⟨r,_,2,.int (c + 1),rfl,rfl,SqL.of d,rfl,.inl ⟨_,_,rfl,rfl,?_⟩⟩⟩;refine ⟨_,_,rfl,rfl,(show (0:Int) < 2147483629 by decide),?_⟩;generalize hx:(a % 2147483647 * ((c + 1) * (c + 1) + 48271) + (c + 1)) % 2147483629=x;have C:0<=x:=by rw [<-hx];exact B6 _ (by decide)
   have v:x < 2147483629:=by rw [<-hx];exact E5 _ (by decide)
   refine ⟨_,rfl,_,rfl,_,_,rfl,rfl,.inl ⟨by omega,by omega⟩,_,_,rfl,rfl,(show (0:Int) < 2147483587 by decide),?_⟩;refine ⟨_,rfl,_,_,rfl,rfl,.inr (by decide),_,_,rfl,rfl,(show (0:Int) < 2147483563 by decide),_,_,rfl,rfl,⟨by decide,by decide⟩,_,rfl,_,_,rfl,rfl,f,?_⟩;exact q _ _ ⟨j,a,b,c + 1,d,g,k,by omega,by omega⟩ (B6 _ (by omega)) (E5 _ f)
def z5t:Sp:=λ vs H Q _=>∃(r:Addr) (n:Nat),vs=[.ref r]/\DeckAt H r n/\n < 10000/\∀i H',Dw r (n + 1) H H'->near i->Q (.int i) H'
theorem za9 (T:TX (kx w) mg) (c0:Ca P w mg base "_law_take" ["deck","many"] 1 z1m):Fo P w mg base CX0 2 399 y11 ["deck"] z5t:=by
 refine (z45 w.params).ok z9u (λ f H Q E h=>?_) (λ x A p s H f Q E g h=>?_)
 ·obtain ⟨r,n,rfl,_⟩:=h;rfl
 ·obtain ⟨r,n,rfl,R,i,q⟩:=h;refine q_of (z4e (qs_ret (qe_ix ix_seq (qe_lst (z0e (QE.mk pe_int) (z0e (QE.mk pe_int) (z0e (QE.mk pe_int) (z0e (QE.mk pe_int) (z0e (QE.mk pe_int) (z0e (QE.mk pe_int) (z0e (QE.mk (pe_un un_neg pe_int)) (z0e (QE.mk (pe_op op_pow pe_int pe_int)) qa_nil))))))))) (QE.mk (pe_cal c0 (g.mono (by decide)) rfl (z00 (pv 0) (z00 pe_int pa_nil)))) (λ _ _=>rfl)))) ?_;refine ⟨_,rfl,_,_,rfl,rfl,p9,w_8,λ l a=>?_⟩;simp only [e9];refine ⟨_,rfl,r,8,n,rfl,R.same (Same.upd a),i,by decide,by decide,λ t u c e j=>?_⟩;obtain ⟨v,m,b⟩:=atI_of (xs:=[V.int 0,.int 1,.int 2,.int 3,.int 1,.int 2,.int (-1),.int 1000000000]) e j;refine .inl ⟨l,_,t,v,rfl,rfl,SqL.of (c.k _ _ (R.fresh a) upd_same),m,?_⟩;have d:=(R.dw.same (Same.upd (o:=.lst [V.int 0,.int 1,.int 2,.int 3,.int 1,.int 2,.int (-1),.int 1000000000]) a)).trans c;simp only [F1,A0,or_false] at b;rcases b with rfl|rfl|rfl|rfl|rfl|rfl|rfl|rfl<;>exact q _ _ d ⟨by decide,by decide⟩
def z72 (K:b0):Sp:=λ vs H Q _=>∃(r:Addr) (k:Str) (n:Nat),vs=[.ref r,.str k]/\DeckAt H r n/\n < 9000/\k∈kinds5/\∀p v x d H' m,Dw r m H H'->m<=n + 3->H' p=some (.tup [.str v,x])->H p=none->DeedOk k v d->IsDt K H' d x->WorthIn H' d x->Q (.ref p) H'
theorem zbu (T:TX (kx w) mg) (c0:Ca P w mg base "_law_take" ["deck","many"] 1 z1m) (c1:Ca P w mg base "_law_worth" ["deck"] 2 z5t):Fo P w mg base CX0 3 406 y1c ["deck","kind"] (z72 (kx w)):=by
 refine (z5h w.params).ok sc__law_verb (λ vs H Q E h=>?_) (λ b6 A b7 s H vs Q E g h=>?_)
 ·obtain ⟨r,k,n,rfl,_⟩:=h;rfl
 ·obtain ⟨r,k,n,rfl,R,hn,Z,q⟩:=h;refine q_of (z0i (qs_set (i:=2) sc__law_verb.nd rfl (Y0 rfl) (zle (zc3 (QE.mk pe_str) (qe_lst (z0e (QE.mk pe_str) (z0e (QE.mk pe_str) qa_nil))) (zc3 (QE.mk pe_str) (qe_lst (z0e (QE.mk pe_str) (z0e (QE.mk pe_str) qa_nil))) (zc3 (QE.mk pe_str) (qe_lst (z0e (QE.mk pe_str) (z0e (QE.mk pe_str) qa_nil))) zkz))) rfl rfl (by simp) (by decide)))
   (z0i (zea (hu_of g) (QE.mk (pv 2)) (QE.mk pe_str) (qe_lst (z0e (QE.mk pe_str) (z0e (QE.mk pe_str) (z0e (QE.mk pe_str) qa_nil)))) rfl)
   (z0i (zea (hu_of g) (QE.mk (pv 2)) (QE.mk pe_str) (qe_lst (z0e (QE.mk pe_str) (z0e (QE.mk pe_str) (z0e (QE.mk pe_str) (z0e (QE.mk pe_str) qa_nil))))) rfl)
   (z0i (QS.mk (ps_set (i:=3) sc__law_verb.nd rfl (Y0 rfl) (pe_ix ix_seq (z6w (hu_of g) (pv 2) (pv 1) (λ _ _=>rfl)) (pe_cal c0 (g.mono (by decide)) rfl (z00 (pv 0) (z00 (z09 z0s rfl (T.no (n_len _)) E3 (z00 (z6w (hu_of g) (pv 2) (pv 1) (λ _ _=>rfl)) pa_nil)) pa_nil))) (λ _ _=>rfl))))
   (z0i (QS.mk (ps_if (z07 opEq (pv 3) pe_str (nomark _))
   (z04 (ps_ret (pe_tup (z00 (pv 3) (z00 (pe_tup (z00 (pe_cal c1 (g.mono (by decide)) rfl (z00 (pv 0) pa_nil)) (z00 (pe_cal c1 (g.mono (by decide)) rfl (z00 (pv 0) pa_nil)) pa_nil))) pa_nil)))))
   z0b))
   (z0i (QS.mk (ps_if (z07 z1u (pv 3) (pe_lst (z00 pe_str (z00 pe_str pa_nil))) (by with_unfolding_all rfl))
   (z04 (ps_ret (pe_tup (z00 (pv 3) (z00 pe_non pa_nil)))))
   z0b))
   (z4e (QS.mk (ps_ret (pe_tup (z00 (pv 3) (z00 (pe_cal c1 (g.mono (by decide)) rfl (z00 (pv 0) pa_nil)) pa_nil)))))))))))) ?_
  refine z0q ?_;intro p hp;refine ⟨w_2,λ l1 X=>⟨w_2,λ l2 O=>⟨w_2,λ l3 h3=>?_⟩⟩⟩;obtain ⟨ep,H2,a5,s2,e2,f2⟩:=words3 (H:=H) (k1:="register") (k2:="counter") (k3:="queue") (w1:=["write","read"]) (w2:=["add","read"]) (w3:=["put","take"]) hp X O h3 (by decide +kernel) (by decide +kernel) (by decide +kernel);refine ⟨ep,[(.inr "register",.ref l1),(.inr "counter",.ref l2),(.inr "queue",.ref l3)],rfl,(show (3:Nat)<=15 by decide),?_⟩;rw [show mergeK [] [((.inr "register" : Key),V.ref l1),(.inr "counter",.ref l2),(.inr "queue",.ref l3)]=[(.inr "register",.ref l1),(.inr "counter",.ref l2),(.inr "queue",.ref l3)] from rfl];refine g_name ?_;refine (show∀A,H2=A->tSeq _ _ _ _ A from ?_) _ a5;intro A G;subst G;refine ⟨w_3,λ l4 h4=>⟨_,rfl,p,_,rfl,DPut.k (k:=.inr "set") ((Same.upd h4) _ _ e2) (show (3:Nat) < sizeLine by decide),?_⟩⟩;obtain ⟨H4,a8,W4,k4⟩:=WordsAt.put (k:="set") (ws:=["put","cut","has"]) h4 e2 (n:=3) (u0 _) f2;refine (show∀A,H4=A->tSeq _ _ _ _ A from ?_) _ a8;intro A G;subst G;obtain ⟨b5,e4,n4,f4⟩:=W4.ex;refine ⟨w_4,λ l5 h5=>⟨_,rfl,p,_,rfl,DPut.k (k:=.inr "cell") ((Same.upd h5) _ _ e4) (O1 n4 (by decide)),?_⟩⟩;obtain ⟨N,b1,W5,k5⟩:=WordsAt.put (k:="cell") (ws:=["read","write","swap","swap"]) h5 e4 n4 f4;refine (show∀A,N=A->tSeq _ _ _ _ A from ?_) _ b1;intro A G;subst G;have s5:Same H N:=zc7 (L:=[p]) ((s2.keptL.trans k4).trans k5) (λ l hl=>by rw [List.mem_singleton.mp hl];exact hp);obtain ⟨b8,e5,_,f5⟩:=W5.ex;have M:=R.dw.same s5;have fk:(if k = "cell" then some ["read","write","swap","swap"] else if k = "set" then some ["put","cut","has"] else if k = "register" then some ["write","read"] else if k = "counter" then some ["add","read"] else if k = "queue" then some ["put","take"] else none:Option (List Str))=some (verbsT k):=by have B:=Z;unfold kinds5 at B;simp only [F1,A0,or_false] at B;rcases B with rfl|rfl|rfl|rfl|rfl<;>decide +kernel
  obtain ⟨D,v6,I⟩:=f5 k _ fk;have dg:DGet N p (.str k) (some (.ref D)):=by have:=DGet.k (k:=.inr k) e5;rw [v6] at this;exact this
  refine ⟨_,rfl,_,rfl,p,.ref D,rfl,dg,_,rfl,_,rfl,_,rfl,p,.ref D,rfl,dg,.inl ⟨D,_,rfl,.inl (SqL.of I),?_⟩⟩;have a2:0 < (verbsT k).length/\(verbsT k).length<=4:=by have B:=Z;unfold kinds5 at B;simp only [F1,A0,or_false] at B;rcases B with rfl|rfl|rfl|rfl|rfl<;>decide +kernel
  refine ⟨r,_,n,rfl,M.r,by omega,by rw [F0];omega,by rw [F0];omega,λ t7 H7 w7 a6 b2=>?_⟩;obtain ⟨v0,b0,a9⟩:=atI_of (xs:=(verbsT k).map V.str) a6 b2;obtain ⟨v,hv,rfl⟩:=List.mem_map.mp a9;have n6:D≠r:=λ z=>by
   obtain ⟨a,b,c,er,_⟩:=M.r;rw [z,er] at I;cases hws:verbsT k with
   | nil=>rw [hws] at a2;exact absurd a2.1 (by decide)
   | cons y ys=>rw [hws] at I;cases I
  refine .inl ⟨D,_,t7,_,rfl,rfl,SqL.of (w7.k _ _ n6 I),b0,?_⟩;have a4:=M.trans w7;have fr :∀{m:Nat} {H':Hp} {p':Addr},Dw r m H H'->H' p'=none->H p'=none:=λ hw e=>hw.free e;have J:Dw r (n + 1) H H7:=a4;have U :∀(d:Dt) (x:V) (f:Hp) (m:Nat),Dw r m H f->m<=n + 3->DeedOk k v d->IsDt (kx w) f d x->WorthIn f d x->∀p9,f p9=none->Q (.ref p9) (upd f p9 (.tup [.str v,x])):=λ d x f m u b3 dk ix wi p9 C=>q p9 v x d _ m (u.same (Same.upd C)) b3 upd_same (u.free C) dk (ix.same (Same.upd C)) (λ a b e=>(wi a b e).elim λ t z=>⟨t,z.1,(Same.upd C) _ _ z.2⟩);rcases zkb Z hv with ⟨a3,F⟩|⟨hsw,F⟩|⟨X,O,h3,F⟩
  ·refine ⟨_,rfl,rfl,_,rfl,iteN (by rcases a3 with rfl|rfl<;>decide +kernel) ?_⟩;refine ⟨_,rfl,w_2,λ Y K=>⟨Y,[V.str "read",.str "take"],rfl,.inl (SqL.of upd_same),rfl,rfl,_,rfl,iteP (by rcases a3 with rfl|rfl<;>decide +kernel) ?_⟩⟩;exact ⟨_,rfl,w_2,λ p9 C=>U .non .non _ _ (J.same (Same.upd K)) (by omega) F rfl (λ _ _ e=>by cases e) p9 C⟩
  ·subst hsw;refine ⟨_,rfl,rfl,_,rfl,iteP (decide_eq_true rfl) ?_⟩;refine ⟨_,rfl,_,rfl,r,_,rfl,J.r,by omega,λ i f u ni=>⟨_,rfl,r,_,rfl,u.r,by omega,λ j b4 a0 nj=>⟨w_2,λ a1 a7=>⟨w_2,λ S W=>?_⟩⟩⟩⟩;exact U (.tup [.int i,.int j]) (.ref a1) _ _ (((J.trans u).trans a0).same (Same.upd a7)) (by omega) (F i j ni nj) (.mkT upd_same (.mk2 rfl rfl)) (λ a b e=>by cases e;exact ⟨a1,rfl,upd_same⟩) S W
  ·refine ⟨_,rfl,rfl,_,rfl,iteN (by rw [decide_eq_false λ e=>h3 (by injection e)];decide) ?_⟩;refine ⟨_,rfl,w_2,λ Y K=>⟨Y,[V.str "read",.str "take"],rfl,.inl (SqL.of upd_same),rfl,rfl,_,rfl,?_⟩⟩;have iv:inV (.str v) [.str "read",.str "take"]=decide (v∈(["read","take"]:List Str)):=zl1 v ["read","take"];rw [if_neg M0,iv];refine iteN (λ z=>?_) ?_
   ·have:=of_decide_eq_true z;simp only [F1,A0,or_false] at this;rcases this with z|z
    ·exact X z
    ·exact O z
   ·have u:=J.same (Same.upd (o:=.lst [V.str "read",.str "take"]) K);exact ⟨_,rfl,_,rfl,r,_,rfl,u.r,by omega,λ i f a0 ni=>⟨w_2,λ S W=>U (.int i) (.int i) _ _ (u.trans a0) (by omega) (F i ni) rfl (λ _ _ e=>by cases e) S W⟩⟩
theorem z9m {K:b0} {H:Hp} :∀ns:List Int,IsPds K H (ns.map PyData.int) (ns.map V.int)
 | []=>rfl
 | n :: ns=>⟨.int n,ns.map V.int,rfl,rfl,z9m ns⟩
theorem z9s :∀ns:List Int,z0z (ns.map PyData.int)=true
 | []=>rfl
 | n :: ns=>by show (true && z0z (ns.map PyData.int))=true;rw [z9s ns];rfl
theorem z9j :∀ns:List Int,U1 (ns.map PyData.int)<=1
 | []=>by decide
 | n :: ns=>by have:=z9j ns;show max (j1g (.int n)) (U1 (ns.map PyData.int))<=1;exact Nat.max_le.mpr ⟨(show (0:Nat)<=1 by decide),this⟩
def za4 (K:b0):Sp:=λ vs H Q _=>∃(k v:Str) (st x:V) (d:Dt) (n:Nat) (sv:Sv),vs=[.str k,st,.str v,x]/\SvOk n k sv/\StZ K H sv st/\n < 63/\DeedOk k v d/\IsDt K H d x/\WorthIn H d x/\∀p st' H',Same H H'->H' p=some (.tup [st',(dz k v d sv).2])->StZ K H' (dz k v d sv).1 st'->Q (.ref p) H'
theorem zg8 (T:TX (kx w) mg):Fo P w mg base CX0 1 387 y1x ["kind","state","verb","worth"] (za4 (kx w)):=by
 refine (z90 w.params).ok sc__law_do (λ vs H Q E h=>?_) (λ b4 A b5 s H vs Q E hr h=>?_)
 ·obtain ⟨k,v,F,x,d,n,sv,rfl,_⟩:=h;rfl
 ·obtain ⟨k,v,F,x,d,n,sv,rfl,C,sz,hn,hd,I,wi,q⟩:=h;refine ⟨_,(z02 (ps_if (z07 opEq (pv 2) pe_str (nomark _))
   (z04 (ps_ret (pe_tup (z00 (pv 1) (z00 (pv 1) pa_nil)))))
   z0b)
   (z02 (ps_if (z07 opEq (pv 2) pe_str (nomark _))
   (z04 (ps_ret (pe_tup (z00 (pv 3) (z00 pe_str pa_nil)))))
   z0b)
   (z02 (ps_if (z07 opEq (pv 2) pe_str (nomark _))
   (z04 (ps_ret (pe_tup (z00 (pe_op opAdd (pv 1) (pv 3)) (z00 (pv 1) pa_nil)))))
   z0b)
   (z02 (ps_if (z07 opEq (pv 2) pe_str (nomark _))
   (z04 (ps_ret (pe_ix ix_seq (pe_lst (z00 (pe_tup (z00 (pv 1) (z00 pe_int pa_nil))) (z00 (pe_tup (z00 (pe_ix ix_seq (pv 3) pe_int (λ _ _=>rfl)) (z00 pe_int pa_nil))) pa_nil))) (z0r zb5 rfl (T.no (n_int _)) boot_int (z00 (z0v opEq (pv 1) (pe_ix ix_seq (pv 3) pe_int (λ _ _=>rfl)) (nomark _)) pa_nil)) (λ _ _=>rfl))))
   z0b)
   (z02 (ps_if (z07 opEq (pv 2) pe_str (nomark _))
   (z02 (ps_if (z07 (op_eqP hr) (pv 1) (pe_tup pa_nil) (nomark _))
   (z04 (ps_ret (pe_tup (z00 (pv 1) (z00 pe_str pa_nil)))))
   z0b)
   (z04 (ps_ret (pe_tup (z00 (z1k slSeq (pv 1) (z1q pe_int) z3b) (z00 (pe_ix ix_seq (pv 1) pe_int (λ _ _=>rfl)) pa_nil))))))
   z0b)
   (z02 (ps_if (z07 opEq (pv 0) pe_str (nomark _))
   (z04 (ps_ret (pe_tup (z00 (pe_op zcy (pv 1) (pe_tup (z00 (pv 3) pa_nil))) (z00 pe_str pa_nil)))))
   z0b)
   (z02 (ps_set (i:=4) sc__law_do.nd rfl (Y0 rfl) (z0v z1u (pv 3) (pv 1) (by with_unfolding_all rfl)))
   (z02 (ps_if (PW.pt (pw_and (z07 opEq (pv 2) pe_str (nomark _)) (z5v (pt_not (pt_val (pv 4) (λ _=>rfl))))))
   (z04 (ps_ret (pe_tup (z00 (z0r z0j rfl (T.no (z25 _)) W3 (z00 (z09 z2g rfl (T.no (z5c _)) X7 (z00 (pe_op zcy (pv 1) (pe_tup (z00 (pv 3) pa_nil))) pa_nil)) pa_nil)) (z00 pe_int pa_nil)))))
   z0b)
   (z02 (ps_if (z07 opEq (pv 2) pe_str (nomark _))
   (z04 (ps_ret (pe_tup (z00 (pv 1) (z00 pe_int pa_nil)))))
   z0b)
   (z02 (ps_if (z07 opEq (pv 2) pe_str (nomark _))
   (z04 (ps_ret (pe_tup (z00 (z0r z0j rfl (T.no (z25 _)) W3 (z00 (pe_cg (xs:=["one"]) (g:=gName 0) (fr:=[(3,"worth")]) (pi_tup (pv 1)) (λ _ _ _ _ _=>(pg_cn (N:=["one","worth"]) 0)) (λ _ _ _ _ _=>(pf_one (z07 opNe (pv 0) (pv 1) (nomark _)))) (λ _ _ _ _ _=>(pv 0))) pa_nil)) (z00 (z0r zb5 rfl (T.no (n_int _)) boot_int (z00 (pv 4) pa_nil)) pa_nil)))))
   z0b)
   (z04 (ps_ret (pe_tup (z00 (pv 1) (z00 (z0r zb5 rfl (T.no (n_int _)) boot_int (z00 (pv 4) pa_nil)) pa_nil))))))))))))))),?_⟩
  have big :∀{b:List Int},b.length<=n->(b.map V.int).length + 1<=sizeLine:=λ l=>by rw [F0];exact C0 (m:=64) (by omega) (by decide)
  have a6 :∀(b:List Int) (i:Int),b.map V.int++[V.int i]=(b++[i]).map V.int:=λ b i=>by rw [u1];rfl
  have a4:rowK "queue":=.inl rfl;have a0:rowK "set":=.inr rfl;cases hd with
  | regR=>
   have u:¬ rowK "register":=by decide +kernel
   obtain ⟨a,rfl,_,_⟩:=C.isNum u;cases (show F=V.int a from sz);rw [zev] at q;refine ⟨_,rfl,rfl,_,rfl,iteP (decide_eq_true rfl) ?_⟩;exact ⟨_,rfl,_,rfl,w_2,λ p c=>q p _ _ (Same.upd c) upd_same rfl⟩
  | cntR=>
   have u:¬ rowK "counter":=by decide +kernel
   obtain ⟨a,rfl,_,_⟩:=C.isNum u;cases (show F=V.int a from sz);rw [zff] at q;refine ⟨_,rfl,rfl,_,rfl,iteP (decide_eq_true rfl) ?_⟩;exact ⟨_,rfl,_,rfl,w_2,λ p c=>q p _ _ (Same.upd c) upd_same rfl⟩
  | celR=>
   have u:¬ rowK "cell":=by decide +kernel
   obtain ⟨a,rfl,_,_⟩:=C.isNum u;cases (show F=V.int a from sz);rw [zgj] at q;refine ⟨_,rfl,rfl,_,rfl,iteP (decide_eq_true rfl) ?_⟩;exact ⟨_,rfl,_,rfl,w_2,λ p c=>q p _ _ (Same.upd c) upd_same rfl⟩
  | regW ni=>
   rename_i i;have u:¬ rowK "register":=by decide +kernel
   obtain ⟨a,rfl,_,_⟩:=C.isNum u;cases (show F=V.int a from sz);cases (show x=V.int i from I);rw [zfj] at q;refine ⟨_,rfl,rfl,_,rfl,iteK ⟨_,rfl,rfl,_,rfl,iteP (decide_eq_true rfl) ?_⟩⟩;exact ⟨_,rfl,w_2,λ p c=>q p _ _ (Same.upd c) upd_same rfl⟩
  | celW ni=>
   rename_i i;have u:¬ rowK "cell":=by decide +kernel
   obtain ⟨a,rfl,_,_⟩:=C.isNum u;cases (show F=V.int a from sz);cases (show x=V.int i from I);rw [ze0] at q;refine ⟨_,rfl,rfl,_,rfl,iteK ⟨_,rfl,rfl,_,rfl,iteP (decide_eq_true rfl) ?_⟩⟩;exact ⟨_,rfl,w_2,λ p c=>q p _ _ (Same.upd c) upd_same rfl⟩
  | cntA ni=>
   rename_i i;have u:¬ rowK "counter":=by decide +kernel
   obtain ⟨a,rfl,_,_⟩:=C.isNum u;cases (show F=V.int a from sz);cases (show x=V.int i from I);rw [zei] at q;refine ⟨_,rfl,rfl,_,rfl,iteK ⟨_,rfl,rfl,_,rfl,iteK ⟨_,rfl,rfl,_,rfl,iteP (decide_eq_true rfl) ?_⟩⟩⟩;exact ⟨_,rfl,_,rfl,.inl ⟨a,i,rfl,rfl,_,rfl,w_2,λ p c=>q p _ _ (Same.upd c) upd_same rfl⟩⟩
  | celS ni nj=>
   rename_i i j;have u:¬ rowK "cell":=by decide +kernel
   obtain ⟨a,rfl,_,_⟩:=C.isNum u;cases (show F=V.int a from sz);obtain ⟨t,rfl,et⟩:=wi i j rfl;refine ⟨_,rfl,rfl,_,rfl,iteK ⟨_,rfl,rfl,_,rfl,iteK ⟨_,rfl,rfl,_,rfl,iteK ⟨_,rfl,rfl,_,rfl,iteP (decide_eq_true rfl) ?_⟩⟩⟩⟩;refine ⟨_,rfl,w_2,λ e J=>?_⟩;obtain ⟨H1,v_,D,X⟩:=newA (.tup [.int a,.int 0]) J;rw [<-v_];refine ⟨_,rfl,.inr (.inl ⟨t,_,1,.int j,rfl,rfl,SqT.of (D _ _ et),z05 (j:=1) rfl,w_2,λ B b1=>?_⟩)⟩;have M:=Same.upd (o:=.tup [.int j,.int 1]) b1;have e2:upd H1 B (.tup [.int j,.int 1]) B=some (.tup [.int j,.int 1]):=upd_same;have a9:=M _ _ X;generalize upd H1 B (.tup [.int j,.int 1])=W at M e2 a9⊢;refine ⟨w_2,λ l hl=>?_⟩;have G:=Same.upd (o:=.lst [.ref e,.ref B]) hl;have e3:upd W l (.lst [.ref e,.ref B]) l=some (.lst [.ref e,.ref B]):=upd_same;have a5:=G _ _ a9;have a3:=G _ _ e2;generalize upd W l (.lst [.ref e,.ref B])=H3 at G e3 a5 a3⊢;have sx:=(D.trans M).trans G;refine ⟨_,rfl,_,rfl,.inr (.inl ⟨t,_,0,.int i,rfl,rfl,SqT.of (sx _ _ et),z05 (j:=0) rfl,rfl,.inl (.inr ⟨_,rfl,?_⟩)⟩)⟩;by_cases z:decide (V.int a=V.int i)=true
   ·rw [zcx,if_pos (V.int.inj (of_decide_eq_true z))] at q;exact .inl ⟨l,_,_,.ref B,rfl,rfl,SqL.of e3,by rw [if_pos z];rfl,q B _ _ sx a3 rfl⟩
   ·rw [zcx,if_neg λ y=>z (decide_eq_true (congrArg V.int y))] at q;exact .inl ⟨l,_,_,.ref e,rfl,rfl,SqL.of e3,by rw [if_neg z];rfl,q e _ _ sx a5 rfl⟩
  | quT=>
   obtain ⟨b,rfl,L,_,_⟩:=C.isRow a4;obtain ⟨t,rfl,f⟩:=sz;refine ⟨_,rfl,rfl,_,rfl,iteK ⟨_,rfl,rfl,_,rfl,iteK ⟨_,rfl,rfl,_,rfl,iteK ⟨_,rfl,rfl,_,rfl,iteK ⟨_,rfl,rfl,_,rfl,iteP (decide_eq_true rfl) ?_⟩⟩⟩⟩⟩;refine ⟨_,rfl,w_0,λ p0 b0=>?_⟩;have S:=Same.upd (o:=.tup []) b0;refine ⟨.tuple (b.map PyData.int),.tuple [],⟨t,_,rfl,S.seqT f,z9m b⟩,⟨p0,[],rfl,SqT.of upd_same,rfl⟩,z9s b,rfl,C0 (Nat.add_le_add_right (z9j b) 1) (by decide),_,rfl,?_⟩;generalize upd H p0 (.tup [])=H0 at S⊢;have a1:=S.seqT f;cases b with
   | nil=>rw [zfl] at q;exact iteP rfl ⟨_,rfl,w_2,λ p c=>q p _ _ (S.trans (Same.upd c)) upd_same ⟨t,rfl,(Same.upd c).seqT a1⟩⟩
   | cons m r=>
    refine iteN M0 ?_;refine ⟨_,rfl,_,rfl,.inr (.inl ⟨t,_,rfl,a1,?_,λ e J=>?_⟩)⟩
    ·intro z;have:HT.sIx ((m :: r).map V.int).length 0 (some 1)=1:=by rw [F0,P0];simp [HT.sIx]
     omega
    ·have ec:cutV ((m :: r).map V.int) (some 1) none=r.map V.int:=by unfold cutV;simp [HT.sIx];exact N3 (by rw [F0];exact u0 _)
     have D:=Same.upd (o:=.tup (cutV ((m :: r).map V.int) (some 1) none)) J;have X:upd H0 e (.tup (cutV ((m :: r).map V.int) (some 1) none)) e=some (.tup (r.map V.int)):=by rw [upd_same,ec]
     generalize upd H0 e (.tup (cutV ((m :: r).map V.int) (some 1) none))=H1 at D X⊢;refine ⟨_,rfl,.inr (.inl ⟨t,_,0,.int m,rfl,rfl,D.seqT a1,z05 (j:=0) rfl,w_2,λ p c=>?_⟩)⟩;rw [dz_quT] at q;exact q p _ _ ((S.trans D).trans (Same.upd c)) upd_same ⟨e,rfl,(Same.upd c).seqT (SqT.of X)⟩
  | quP ni=>rename_i i;obtain ⟨b,rfl,L,_,_⟩:=C.isRow a4;obtain ⟨t,rfl,f⟩:=sz;cases (show x=V.int i from I);refine ⟨_,rfl,rfl,_,rfl,iteK ⟨_,rfl,rfl,_,rfl,iteK ⟨_,rfl,rfl,_,rfl,iteK ⟨_,rfl,rfl,_,rfl,iteK ⟨_,rfl,rfl,_,rfl,iteK ⟨_,rfl,rfl,_,rfl,iteP (decide_eq_true rfl) ?_⟩⟩⟩⟩⟩⟩;refine ⟨_,rfl,_,rfl,w_1,λ e J=>?_⟩;have D:=Same.upd (o:=.tup [.int i]) J;refine ⟨t,e,b.map V.int,[.int i],rfl,rfl,D.seqT f,SqT.of upd_same,big L,λ B W M O=>?_⟩;rw [a6] at O;rw [dz_quP] at q;exact ⟨w_2,λ p3 a8=>q p3 _ _ ((D.trans M).trans (Same.upd a8)) upd_same ⟨B,rfl,(Same.upd a8).seqT O⟩⟩
  | setP ni=>
   rename_i i;obtain ⟨b,rfl,L,_,a7⟩:=C.isRow a0;obtain ⟨t,rfl,f⟩:=sz;cases (show x=V.int i from I);refine ⟨_,rfl,rfl,_,rfl,iteK ⟨_,rfl,rfl,_,rfl,iteK ⟨_,rfl,rfl,_,rfl,iteK ⟨_,rfl,rfl,_,rfl,iteK ⟨_,rfl,rfl,_,rfl,iteK ⟨_,rfl,rfl,_,rfl,iteK ?_⟩⟩⟩⟩⟩⟩;refine ⟨_,rfl,_,rfl,t,_,rfl,.inr f,rfl,z3i b,?_⟩;rw [if_neg M0,z59];refine ⟨_,rfl,rfl,_,rfl,iteP (decide_eq_true rfl) ⟨_,rfl,_,rfl,?_⟩⟩;by_cases hi:i∈b
   ·rw [decide_eq_true hi];refine iteN (by decide) ⟨_,rfl,rfl,_,rfl,iteP (decide_eq_true rfl) ?_⟩;rw [zd9,if_pos hi] at q;exact ⟨_,rfl,w_2,λ p c=>q p _ _ (Same.upd c) upd_same ⟨t,rfl,(Same.upd c).seqT f⟩⟩
   ·rw [decide_eq_false hi];refine iteP rfl ?_;refine ⟨_,rfl,_,rfl,w_1,λ e J=>?_⟩;have D:=Same.upd (o:=.tup [.int i]) J;refine ⟨t,e,b.map V.int,[.int i],rfl,rfl,D.seqT f,SqT.of upd_same,big L,λ B W M O=>?_⟩;rw [a6] at O;refine ⟨B,b++[i],rfl,.inr O,by rw [K0];exact (show b.length + 1 < 64 by omega),λ l b3 hl pm pw=>?_⟩;have G:=Same.upd (o:=.lst (b3.map V.int)) hl;refine ⟨l,_,rfl,.inl ⟨SqL.of upd_same,λ Z a2=>⟨w_2,λ Y U=>?_⟩⟩⟩;rw [zd9,if_neg hi] at q;rw [zce (pm.trans (z8l _).symm) pw (z52 _)] at *;exact q Y _ _ ((((D.trans M).trans G).trans (Same.upd a2)).trans (Same.upd U)) upd_same ⟨Z,rfl,SqT.of ((Same.upd U) _ _ upd_same)⟩
  | setC ni=>
   rename_i i;obtain ⟨b,rfl,L,_,a7⟩:=C.isRow a0;obtain ⟨t,rfl,f⟩:=sz;cases (show x=V.int i from I);refine ⟨_,rfl,rfl,_,rfl,iteK ⟨_,rfl,rfl,_,rfl,iteK ⟨_,rfl,rfl,_,rfl,iteK ⟨_,rfl,rfl,_,rfl,iteK ⟨_,rfl,rfl,_,rfl,iteK ⟨_,rfl,rfl,_,rfl,iteK ?_⟩⟩⟩⟩⟩⟩;refine ⟨_,rfl,_,rfl,t,_,rfl,.inr f,rfl,z3i b,?_⟩;rw [if_neg M0,z59];refine ⟨_,rfl,rfl,_,rfl,iteK ?_⟩;refine iteN M0 ⟨_,rfl,rfl,_,rfl,iteK ⟨_,rfl,rfl,_,rfl,iteP (decide_eq_true rfl) ?_⟩⟩;have zl:(b.map V.int).length<=sizeLine:=C0 (B3 _) (big L);simp only [tRet,tTup,tCB,tCons,tNil];refine z3j (K:=KX w.params) (a:=t) (xs:=b.map V.int) (H1:=H) (λ j=>(b[j]?.map λ n=>!decide (n=i)).getD false) (λ j y _=>b[j]?.map V.int=some y) (λ _ _ _ _ _ z=>z) (λ R h=>⟨_,rfl,h⟩) f zl (λ j hj v H' s' hv KT KF k1 k2=>?_) λ l H' ys s' b2 al=>?_
   ·rw [V0] at hv;obtain ⟨n,hn,rfl⟩:=Option.map_eq_some_iff.mp hv;rw [hn] at k1 k2;refine ⟨[some (.int n)],rfl,rfl,_,rfl,_,rfl,rfl,_,rfl,?_⟩;rw [dec_i0];exact ite2 (λ z=>⟨_,rfl,k1 z _ _ (Same.refl _) rfl⟩) λ z=>k2 (Bool.eq_false_iff.mpr z) _ (Same.refl _)
   ·rw [F0] at al;rw [zcl b ys al];have G:=Same.upd (o:=.lst ((b.filter λ j=>!decide (j=i)).map V.int)) b2;refine ⟨l,_,rfl,.inl ⟨SqL.of upd_same,λ Z a2=>⟨_,rfl,.inl (.inr ⟨_,rfl,w_2,λ Y U=>?_⟩)⟩⟩⟩;rw [zf9] at q;exact q Y _ _ (((s'.trans G).trans (Same.upd a2)).trans (Same.upd U)) (upd_same.trans (by simp)) ⟨Z,rfl,SqT.of ((Same.upd U) _ _ upd_same)⟩
  | setH ni=>rename_i i;obtain ⟨b,rfl,L,_,a7⟩:=C.isRow a0;obtain ⟨t,rfl,f⟩:=sz;cases (show x=V.int i from I);refine ⟨_,rfl,rfl,_,rfl,iteK ⟨_,rfl,rfl,_,rfl,iteK ⟨_,rfl,rfl,_,rfl,iteK ⟨_,rfl,rfl,_,rfl,iteK ⟨_,rfl,rfl,_,rfl,iteK ⟨_,rfl,rfl,_,rfl,iteK ?_⟩⟩⟩⟩⟩⟩;refine ⟨_,rfl,_,rfl,t,_,rfl,.inr f,rfl,z3i b,?_⟩;rw [if_neg M0,z59];refine ⟨_,rfl,rfl,_,rfl,iteK ?_⟩;refine iteN M0 ⟨_,rfl,rfl,_,rfl,iteK ⟨_,rfl,rfl,_,rfl,iteK ?_⟩⟩;rw [ze7] at q;exact ⟨_,rfl,_,rfl,.inl (.inr ⟨_,rfl,w_2,λ p c=>q p _ _ (Same.upd c) (upd_same.trans (by simp)) ⟨t,rfl,(Same.upd c).seqT f⟩⟩)⟩
def AnsI (a:V):Prop:=(∃i,a=.int i)\/a=.str "ok"\/a=.str "none"
theorem AnsV.ansI {a:V} (h:AnsV a):AnsI a:=by
 rcases h with h|h|⟨i,h,_⟩
 ·exact .inr (.inl h)
 ·exact .inr (.inr h)
 ·exact .inl ⟨i,h⟩
def StsZ (K:b0) (H:Hp) (p:Addr) (ts:List (Str×Str)) (n:Nat) (ss:List Sv):Prop:=∃vs,SqT K H p vs/\All2 (StZ K H) ss vs/\All2 (λ (t:Str×Str) s=>SvOk n t.2 s) ts ss
theorem StsZ.tups {K:b0} {H H':Hp} {p:Addr} {ts:List (Str×Str)} {n:Nat} {ss:List Sv} (t:Tups K H H') (h:StsZ K H p ts n ss):StsZ K H' p ts n ss:=h.elim λ a z=>⟨a,t _ _ z.1,z01 (λ _ _ y=>y.tups t) z.2.1,z.2.2⟩
def StsT (K:b0) (H:Hp) (p:Addr) (ts:List (Str×Str)) (n:Nat):Prop:=∃ss,StsZ K H p ts n ss
theorem StsT.tups {K:b0} {H H':Hp} {p:Addr} {ts:List (Str×Str)} {n:Nat} (t:Tups K H H') (h:StsT K H p ts n):StsT K H' p ts n:=h.elim λ a z=>⟨a,z.tups t⟩
theorem StsT.le {K:b0} {H:Hp} {p:Addr} {ts:List (Str×Str)} {n m:Nat} (l:n<=m) (h:StsT K H p ts n):StsT K H p ts m:=h.elim λ a z=>⟨a,z.elim λ b y=>⟨b,y.1,y.2.1,z01 (λ _ _ x=>SvOk.le l x) y.2.2⟩⟩
def ZrAt (H:Hp) (k:Str) (v:V):Prop:=(rowK k/\∃a,v=.ref a/\H a=some (.tup []))\/(¬ rowK k/\v=.int 0)
theorem ZrAt.same {H H':Hp} {k:Str} {v:V} (s:Same H H') (h:ZrAt H k v):ZrAt H' k v:=h.imp (λ z=>⟨z.1,z.2.elim λ a y=>⟨a,y.1,s _ _ y.2⟩⟩) id
def ZrT (H:Hp) (p:Addr) (ts:List (Str×Str)):Prop:=∃vs,H p=some (.tup vs)/\All2 (λ (t:Str×Str) y=>ZrAt H t.2 y) ts vs
theorem ZrAt.stz {K:b0} {H:Hp} {k:Str} {v:V} (h:ZrAt H k v):StZ K H (zeroK k) v:=by
 unfold zeroK;rcases h with ⟨b,a,rfl,c⟩|⟨b,rfl⟩
 ·rw [if_pos b];exact ⟨a,rfl,SqT.of c⟩
 ·rw [if_neg b];rfl
theorem zi9 {α β γ:Type} {R:β->γ->Prop} {f:α->β} {xs:List α} {ys:List γ} (h:All2 (λ x y=>R (f x) y) xs ys):All2 R (xs.map f) ys:=by
 induction h with
 | nil=>exact .nil
 | cons a r ih=>exact .cons a ih
theorem ziv :∀{ts:List (Str×Str)},All2 (λ (t:Str×Str) s=>SvOk 0 t.2 s) ts (ts.map λ t=>zeroK t.2)
 | []=>.nil
 | _ :: _=>.cons (zfr _) ziv
theorem ZrT.stz {K:b0} {H:Hp} {p:Addr} {ts:List (Str×Str)} (h:ZrT H p ts):StsZ K H p ts 0 (ts.map λ t=>zeroK t.2):=h.elim λ a z=>⟨a,SqT.of z.1,zi9 (z01 (λ _ _ y=>y.stz) z.2),ziv⟩
theorem ZrT.sts {K:b0} {H:Hp} {p:Addr} {ts:List (Str×Str)} (h:ZrT H p ts):StsT K H p ts 0:=⟨_,h.stz⟩
theorem z97 {H:Hp} :∀{ts:List (Str×Str)} {ys zs:List V},All2 (λ (t:Str×Str) y=>∃b,y=.ref b/\H b=some (.tup [.str t.1,.str t.2])) ts ys->All2 (λ x y=>∃(n k:Str) (b:Addr),x=.ref b/\H b=some (.tup [.str n,.str k])/\ZrAt H k y) ys zs->All2 (λ (t:Str×Str) y=>ZrAt H t.2 y) ts zs
 | [],_,_,.nil,.nil=>.nil
 | t :: ts,_,_,.cons a r,.cons a' r'=>by
  refine .cons ?_ (z97 r r');obtain ⟨b,rfl,e⟩:=a;obtain ⟨n,k,i,d,c,g⟩:=a';cases d;rw [e] at c;injection c with c;injection c with c;have f:t.2=k:=by injection c with _ h;injection h with h _;injection h
  rw [f];exact g
def z2x (K:b0):Sp:=λ vs H Q _=>∃(pt:Addr) (ts:List (Str×Str)),vs=[.ref pt]/\ThAt H pt ts/\ts.length<=6/\∀p H',Same H H'->ZrT H' p ts->Q (.ref p) H'
theorem z9a (T:TX (kx w) mg):Fo P w mg base CX0 1 392 y10 ["things"] (z2x (kx w)):=by
 refine (z46 w.params).ok zaq (λ vs H Q E h=>?_) (λ a8 A a7 s H vs Q E hr h=>?_)
 ·obtain ⟨pt,M,rfl,_⟩:=h;rfl
 ·obtain ⟨pt,M,rfl,⟨J,a6,G⟩,a0,q⟩:=h;refine ⟨_,(z04 (ps_ret (z0r z0j rfl (T.no (z25 _)) W3 (z00 (pe_cg (xs:=["name","kind"]) (g:=gTup (kx w) 2 (gCons (gName 0) (gCons (gName 1) gNil))) (fr:=[]) (pi_tup (pv 0)) (λ _ _ _ _ _=>(pg_tup rfl (z0d (pg_cn (N:=["name","kind"]) 0) (z0d (pg_cn (N:=["name","kind"]) 1) z1b)))) (λ _ _ _ _ _=>pf_nil) (λ _ _ _ _ _=>(zk9 (hu_of hr) (zjk (zbz pe_str (pe_tup pa_nil) (zbz pe_str (pe_tup pa_nil) zj7)) rfl rfl (by simp) (by decide)) (pv 1) pe_int ⟨rfl,rfl,rfl,rfl⟩))) pa_nil)))),?_⟩;refine zio ?_;refine z9z (S:=Same) (K:=KX w.params) (a:=pt) (xs:=J) (λ x y H=>∃(n k:Str) (b:Addr),x=.ref b/\H b=some (.tup [.str n,.str k])/\ZrAt H k y) (Same.refl _) (λ _ _ _ a b=>a.trans b) (λ _ _=>Same.refl _) ?_ (λ R h=>⟨_,rfl,h⟩) (λ H' s'=>s'.seqT (SqT.of a6)) (C0 (P5 (z03 G)) (C0 a0 (by decide))) ?_ ?_
  ·rintro x y l j i ⟨n,k,b,F,C,e3⟩;exact ⟨n,k,b,F,i _ _ C,e3.same i⟩
  ·intro v hv l u KT Z KF;obtain ⟨m,Y⟩:=List.mem_iff_getElem?.mp hv;obtain ⟨t,ht,b,rfl,eb⟩:=z0f G Y;have L:=u _ _ eb;refine ⟨b,_,rfl,SqT.of L,rfl,_,_,rfl,_,_,rfl,rfl,[some (.str t.1),some (.str t.2)],rfl,rfl,iteT ?_⟩;intro p X;refine ⟨w_0,λ d W=>⟨w_0,λ f B=>?_⟩⟩;have D:p≠d:=z08 upd_same W;have O:p≠f:=z08 (by rw [upd_ne D];exact upd_same) B;have a2:d≠f:=z08 upd_same B;refine ⟨by rw [upd_ne O,upd_ne D];exact upd_same,[(.inr "queue",.ref d),(.inr "set",.ref f)],rfl,(show (2:Nat)<=15 by decide),?_⟩;rw [show mergeK [] [((.inr "queue" : Key),V.ref d),(.inr "set",.ref f)]=[(.inr "queue",.ref d),(.inr "set",.ref f)] from rfl];generalize hH4:upd (upd (upd (upd l p (.dK [])) d (.tup [])) f (.tup [])) p (.dK [(.inr "queue",.ref d),(.inr "set",.ref f)])=j;have I:j p=some (.dK [(.inr "queue",.ref d),(.inr "set",.ref f)]):=by rw [<-hH4];exact upd_same
   have F:j d=some (.tup []):=by rw [<-hH4,upd_ne D.symm,upd_ne a2];exact upd_same
   have C:j f=some (.tup []):=by rw [<-hH4,upd_ne O.symm];exact upd_same
   have i:Same l j:=λ c o e=>by rw [<-hH4,upd_ne (z08 e X)];exact ((((Same.upd X).trans (Same.upd W)).trans (Same.upd B))) c o e
   refine ⟨p,rfl,.inl ⟨_,.inl I⟩,_,rfl,_,DGet.k (k:=.inr t.2) I,?_⟩;refine Z _ _ i ⟨t.1,t.2,b,rfl,i _ _ L,?_⟩;by_cases z1:t.2 = "queue"
   ·rw [z1,z0o rfl];exact .inl ⟨.inl rfl,_,rfl,F⟩
   ·rw [z0m (λ e=>z1 (d8 e).symm)];by_cases z2:t.2 = "set"
    ·rw [z2,z0o rfl];exact .inl ⟨.inr rfl,_,rfl,C⟩
    ·rw [z0m (λ e=>z2 (d8 e).symm)];exact .inr ⟨λ h=>h.elim z1 z2,rfl⟩
  ·intro l3 l r u a4 a5;refine ⟨l3,r,rfl,.inl ⟨SqL.of upd_same,λ p4 a3=>?_⟩⟩;have a1:All2 (λ (t:Str×Str) y=>∃b,y=.ref b/\l b=some (.tup [.str t.1,.str t.2])) M J:=z01 (λ _ _ z=>z.elim λ b y=>⟨b,y.1,u _ _ y.2⟩) G;have U:=(Same.upd (o:=.lst r) a4).trans (Same.upd (o:=.tup r) a3);exact q p4 _ (u.trans U) ⟨r,upd_same,z01 (λ _ _ z=>z.same U) (z97 a1 a5)⟩
theorem zll {tl:TE} {K:b0} {m:Nat} {fr:List (Nat×Str)} {g:TG} {tc:TT} {te:TE} {σ:L2.St} {H:Hp} {Q:VK} (Pr:Addr->Hp->Prop) (h1 :∀R:VK,(∀l H1,Pr l H1->R (.ref l) H1)->tl σ H R) (h2 :∀l H1,Pr l H1->tCompG (iList K λ _ _ R=>R (.ref l) H1) m fr g tc te σ H Q):tCompG (iList K tl) m fr g tc te σ H Q:=h1 _ λ l H1 p=>h2 l H1 p
theorem seq_bm {K:b0} {N:String} {r:V->List V->Hp->VK->Prop} {to:TE} {t:TA} {g:TG} {rest:TS} {D:Ends} {σ:L2.St} {H:Hp} (h:to σ H λ x H1=>tyV K N x H1/\t σ H1 λ xs H2=>r x xs H2 λ y H3=>g y σ H3 (rest D)):tSeq (tAsg (tBM K N r to t) g) rest D σ H:=h
def OwnAt (K:b0) (H:Hp) (ts:List (Str×Str)) (p:Addr):Prop:=∃(nm vb:Str) (x a:V) (k:Str) (d:Dt),H p=some (.lst [.str nm,.str vb,x,a])/\(nm,k)∈ts/\DeedOk k vb d/\IsDt K H d x/\WorthIn H d x/\(a=.non\/AnsI a)
theorem z9k {H:Hp} :∀{ts:List (Str×Str)} {ys zs:List V},All2 (λ (t:Str×Str) y=>∃b,y=.ref b/\H b=some (.tup [.str t.1,.str t.2])) ts ys->All2 (λ x y=>∃(n k:Str) (b:Addr),x=.ref b/\H b=some (.tup [.str n,.str k])/\y=.str n) ys zs->zs=(ts.map (·.1)).map V.str
 | [],_,_,.nil,.nil=>rfl
 | t :: ts,_,_,.cons a r,.cons a' r'=>by
  rw [z9k r r'];obtain ⟨b,rfl,f⟩:=a;obtain ⟨n,k,g,e,c,rfl⟩:=a';cases e;rw [f] at c;injection c with c;injection c with c;have d:t.1=n:=by injection c with h _;injection h
  rw [<-d];rfl
theorem zgq {α β:Type} {R S:α->β->Prop} {y:β} :∀{xs:List α} {ys:List β} {j:Nat} {x:α},(∀a b,R a b->S a b)->All2 R xs ys->xs[j]? = some x->S x y->All2 S xs (ys.set j y)
 | _,_,_,_,_,.nil,e,_=>by simp at e
 | _,_,0,x,f,.cons a r,e,h=>by rw [O2] at e;cases e;exact .cons h (z01 f r)
 | _,_,j + 1,x,f,.cons a r,e,h=>by rw [Z1] at e;exact .cons (f _ _ a) (zgq f r e h)
theorem zd8 {α β:Type} {R S:α->β->Prop} {y:β} :∀{xs:List α} {ys:List β} {j:Nat} {x x':α},(∀a b,R a b->S a b)->All2 R xs ys->xs[j]? = some x'->S x y->All2 S (xs.set j x) (ys.set j y)
 | _,_,_,_,_,_,.nil,e,_=>by simp at e
 | _,_,0,x,_,f,.cons a r,_,h=>.cons h (z01 f r)
 | _,_,j + 1,x,_,f,.cons a r,e,h=>by rw [Z1] at e;exact .cons (f _ _ a) (zd8 f r e h)
theorem cut_at {ys:List V} {m:Nat} (h:m < ys.length):cutV ys none (some (m:Int))=ys.take m/\cutV ys (some ((m:Int) + 1)) none=ys.drop (m + 1)/\HT.sIx ys.length ys.length (some (m:Int))=m/\HT.sIx ys.length 0 (some ((m:Int) + 1))=m + 1:=by
 obtain ⟨c,_,a⟩:=cut_to (A3 h);have b:HT.sIx ys.length 0 (some ((m:Int) + 1))=m + 1:=by simp [HT.sIx];rw [if_neg (by omega)];omega
 refine ⟨c,?_,a,b⟩;unfold cutV;rw [b,show HT.sIx ys.length ys.length none=ys.length by simp [HT.sIx]];exact N3 (by rw [U5];exact u0 _)
theorem zhu {ys:List V} {m:Nat} {y:V} (h:m < ys.length):ys.take m++[y]++ys.drop (m + 1)=ys.set m y:=by rw [L9,if_pos h];simp
def z21 (K:b0):Sp:=λ vs H Q _=>∃(pt ps po:Addr) (ts:List (Str×Str)) (n:Nat) (ss:List Sv) (nm vb:Str) (x a0:V) (k:Str) (d:Dt),vs=[.ref pt,.ref ps,.ref po]/\ThAt H pt ts/\ThW ts/\StsZ K H ps ts n ss/\n < 63/\H po=some (.lst [.str nm,.str vb,x,a0])/\(nm,k)∈ts/\DeedOk k vb d/\IsDt K H d x/\WorthIn H d x/\∀p H' s,ss[ixT ts nm]? = some s->KeptL [po] H H'->H' po=some (.lst [.str nm,.str vb,x,(dz k vb d s).2])->StsZ K H' p ts (n + 1) (ss.set (ixT ts nm) (dz k vb d s).1)->SvOk n k s->Q (.ref p) H'
theorem z7h (T:TX (kx w) mg) (c0:Ca P w mg base "_law_do" ["kind","state","verb","worth"] 1 (za4 (kx w))):Fo P w mg base CX0 2 416 y0h ["things","states","own"] (z21 (kx w)):=by
 refine (z2f w.params).ok sc__law_applied (λ f H Q E h=>?_) (λ d9 A e0 s H f Q E hr h=>?_)
 ·obtain ⟨pt,Z,r,C,n,ss,u,B,x,a0,k,d,rfl,_⟩:=h;rfl
 ·obtain ⟨pt,Z,r,C,n,ss,u,B,x,a0,k,d,rfl,⟨yt,a9,W⟩,ok,⟨f,b5,a4,a3⟩,hn,M,hm,dk,ix,wi,q⟩:=h;refine ⟨_,(z02 (ps_set (i:=3) sc__law_applied.nd rfl (Y0 rfl) (zg1 (pe_cg (xs:=["name","kind"]) (g:=gTup (kx w) 2 (gCons (gName 0) (gCons (gName 1) gNil))) (fr:=[]) (pi_tup (pv 0)) (λ _ _ _ _ _=>(pg_tup rfl (z0d (pg_cn (N:=["name","kind"]) 0) (z0d (pg_cn (N:=["name","kind"]) 1) z1b)))) (λ _ _ _ _ _=>pf_nil) (λ _ _ _ _ _=>(pv 0))) (z00 (pe_ix ix_seq (pv 2) pe_int (λ _ _=>rfl)) pa_nil)))
   (z02 (ps_asg (pe_cal c0 (hr.mono (by decide)) rfl (z00 (pe_ix ix_seq (pe_ix ix_seq (pv 0) (pv 3) (λ _ _=>rfl)) pe_int (λ _ _=>rfl)) (z00 (pe_ix ix_seq (pv 1) (pv 3) (λ _ _=>rfl)) (z00 (pe_ix ix_seq (pv 2) pe_int (λ _ _=>rfl)) (z00 (pe_ix ix_seq (pv 2) pe_int (λ _ _=>rfl)) pa_nil))))) (pg_tup rfl (z0d (z0h (i:=4) sc__law_applied.nd rfl (Y0 rfl)) (z0d (z0h (i:=5) sc__law_applied.nd rfl (Y0 rfl)) z1b))))
   (z02 (ps_asg (pv 5) (pg_sub (pv 2) pe_int z5k))
   (z04 (ps_ret (pe_op zcy (pe_op zcy (z1k slSeq (pv 1) z3b (z1q (pv 3))) (pe_tup (z00 (pv 4) pa_nil))) (z1k slSeq (pv 1) (z1q (pe_op opAdd (pv 3) pe_int)) z3b))))))),?_⟩
  refine seq_bm ?_;refine z9z (S:=Same) (K:=KX w.params) (a:=pt) (xs:=yt) (λ x y H=>∃(n k:Str) (b:Addr),x=.ref b/\H b=some (.tup [.str n,.str k])/\y=.str n) (Same.refl _) (λ _ _ _ a b=>a.trans b) (λ _ _=>Same.refl _) ?_ (λ R h=>⟨_,rfl,h⟩) (λ F s'=>s'.seqT (SqT.of a9)) (C0 (P5 (z03 W)) (C0 ok.n6 (by decide))) ?_ ?_
  ·rintro x y I H4 l ⟨n,k,b,e1,e2,e3⟩;exact ⟨n,k,b,e1,l _ _ e2,e3⟩
  ·intro v hv I L KT b7 KF;obtain ⟨m,hm⟩:=List.mem_iff_getElem?.mp hv;obtain ⟨t,ht,b,rfl,eb⟩:=z0f W hm;exact ⟨b,_,rfl,SqT.of (L _ _ eb),rfl,_,_,rfl,_,_,rfl,rfl,[some (.str t.1),some (.str t.2)],rfl,rfl,iteT ⟨_,rfl,b7 _ _ (Same.refl _) ⟨t.1,t.2,b,rfl,L _ _ eb,rfl⟩⟩⟩
  intro Y I zs L c6 c9;have b8:All2 (λ (t:Str×Str) y=>∃b,y=.ref b/\I b=some (.tup [.str t.1,.str t.2])) C yt:=z01 (λ _ _ z=>z.elim λ b y=>⟨b,y.1,L _ _ y.2⟩) W;have ez:=z9k b8 c9;subst ez;have sl:=Same.upd (o:=.lst ((C.map (·.1)).map V.str)) c6;have el:upd I Y (.lst ((C.map (·.1)).map V.str)) Y=some (.lst ((C.map (·.1)).map V.str)):=upd_same;have l:=L.trans sl;generalize upd I Y (.lst ((C.map (·.1)).map V.str))=H4 at sl el l⊢;obtain ⟨j,J⟩:=List.mem_iff_getElem?.mp hm;have a2:(C.map (·.1))[j]? = some u:=by rw [V0,J];rfl
  have d8:j < C.length:=(List.getElem?_eq_some_iff.mp J).1;refine ⟨.inl ⟨rfl,_,SqL.of el⟩,_,rfl,.inl ⟨r,_,0,.str u,rfl,rfl,SqL.of (l _ _ M),z05 (j:=0) rfl,Y,C.map (·.1),u,j,rfl,rfl,el,by rw [F0];exact C0 ok.n6 (by decide),a2,λ m lt e=>?_,?_⟩⟩
  ·have:=(P9 (by rw [F0];omega) ok.nd).mp (e.trans a2.symm);omega
  refine g_name ?_;obtain ⟨yj,c8,bj,rfl,d0⟩:=z0w W J;obtain ⟨X,a5,so⟩:=z0w a3 J;obtain ⟨vj,d5,sj⟩:=z0w a4 a5;have c7:ixT C u=j:=idx_eq ok.nd a2;rw [c7] at q;refine ⟨_,rfl,_,rfl,.inr (.inl ⟨pt,yt,j,.ref bj,rfl,rfl,SqT.of (l _ _ a9),z05 c8,.inr (.inl ⟨bj,_,1,.str k,rfl,rfl,SqT.of (l _ _ d0),z05 (j:=1) rfl,?_⟩)⟩)⟩;refine ⟨_,rfl,_,rfl,.inr (.inl ⟨Z,f,j,vj,rfl,rfl,l.seqT b5,z05 d5,?_⟩)⟩;refine ⟨_,rfl,.inl ⟨r,_,1,.str B,rfl,rfl,SqL.of (l _ _ M),z05 (j:=1) rfl,?_⟩⟩;refine ⟨_,rfl,.inl ⟨r,_,2,x,rfl,rfl,SqL.of (l _ _ M),z05 (j:=2) rfl,?_⟩⟩;refine ⟨k,B,vj,x,d,n,X,rfl,so,sj.tups (.of l),hn,dk,ix.same l,wi.tt (.of (K:=KX w.params) l),λ p2 O D G e5 b4=>?_⟩;have q:=λ p F=>q p F X a5;have d1:=dz_ok dk so hn;generalize hdz:dz k B d X=z at *;obtain ⟨z1,a⟩:=z;change D p2=some (.tup [O,a]) at e5;change StZ (kx w) D z1 O at b4;change∀p F,KeptL [r] H F->F r=some (.lst [.str u,.str B,x,a])->StsZ (kx w) F p C (n + 1) (ss.set j z1)->SvOk n k X->Q (.ref p) F at q;have G:=l.trans G;refine ⟨p2,_,rfl,SqT.of e5,rfl,_,_,rfl,_,_,rfl,rfl,?_⟩;refine ⟨_,rfl,_,rfl,r,_,3,3,rfl,rfl,G _ _ M,rfl,?_⟩;rw [show [V.str u,.str B,x,a0].set 3 a=[.str u,.str B,x,a] from rfl];have k6:KeptL [r] D (upd D r (.lst [.str u,.str B,x,a])):=KeptL.set (by simp);have T6:Tt (kx w) D (upd D r (.lst [.str u,.str B,x,a])):=KeptL.tt k6 λ c hc=>by rw [List.mem_singleton.mp hc];exact .inl ⟨_,G _ _ M⟩
  have e6:upd D r (.lst [.str u,.str B,x,a]) r=some (.lst [.str u,.str B,x,a]):=upd_same;generalize upd D r (.lst [.str u,.str B,x,a])=H6 at k6 T6 e6⊢;have a7:Tt (kx w) H H6:=Tt.trans (.of G) T6;have b3:=a7.t _ _ b5;have vl:f.length=C.length:=(z03 a4).trans (z03 a3);have a6:j < f.length:=by omega
  obtain ⟨c1,c2,c3,c4⟩:=cut_at a6;refine ⟨_,rfl,_,rfl,_,rfl,.inr (.inl ⟨Z,f,rfl,b3,λ z=>by have:=z.2;rw [c3] at this;omega,λ p7 d3=>?_⟩)⟩;rw [c1];obtain ⟨H7,v_,s7,e7⟩:=newA (.tup (f.take j)) d3;rw [<-v_];refine ⟨_,rfl,w_1,λ p8 d6=>?_⟩;have s8:=Same.upd (o:=.tup [O]) d6;refine ⟨p7,p8,f.take j,[O],rfl,rfl,s8.seqT (SqT.of e7),SqT.of upd_same,?_,λ p9 H9 U d7=>?_⟩
  ·rw [Q2];exact C0 (m:=10) (by have:=ok.n6;show min j f.length + 1<=10;omega) (by decide)
  have U:=(s7.trans s8).trans U;have b9:=U.seqT b3;refine ⟨_,rfl,_,rfl,.inl ⟨_,_,rfl,rfl,_,rfl,.inr (.inl ⟨Z,f,rfl,b9,λ z=>by have:=z.1;rw [c4] at this;omega,λ d4 b6=>?_⟩)⟩⟩;rw [c2];have b2:=Same.upd (o:=.tup (f.drop (j + 1))) b6;refine ⟨p9,d4,f.take j++[O],f.drop (j + 1),rfl,rfl,b2.seqT d7,SqT.of upd_same,?_,λ c5 b0 d2 a8=>?_⟩
  ·rw [K0,Q2,U5];exact C0 (m:=20) (by have:=ok.n6;show min j f.length + 1 + (f.length - (j + 1))<=20;omega) (by decide)
  rw [zhu a6] at a8;have a1:=(U.trans b2).trans d2;have b1:Tt (kx w) H6 b0:=.of a1;refine q c5 b0 ((G.keptL.trans k6).trans a1.keptL) (a1 _ _ e6) ⟨_,a8,zd8 (λ _ _ z=>z.tups (a7.trans b1).t) a4 a5 (b4.tups (T6.trans b1).t),zgq (λ _ _ z=>SvOk.le (B3 _) z) a3 J d1.1⟩ so
theorem zd5 {K:b0} {H:Hp} {R:Addr->Hp->Prop} {po:Addr} {ts:List (Str×Str)} {n:Nat} {ss:List Sv} {nm vb:Str} {x a:V} {k:Str} {d:Dt} (hn:n < 63) (eo:H po=some (.lst [.str nm,.str vb,x,a])) (hm:(nm,k)∈ts) (dk:DeedOk k vb d) (ix:IsDt K H d x) (wi:WorthIn H d x) (q :∀p H',KeptL [po] H H'->OwnAt K H' ts po->(∃a xs,H' po=some (.lst (xs++[a]))/\xs.length=3/\AnsI a)->StsT K H' p ts (n + 1)->R p H') :∀p H' s,ss[ixT ts nm]? = some s->KeptL [po] H H'->H' po=some (.lst [.str nm,.str vb,x,(dz k vb d s).2])->StsZ K H' p ts (n + 1) (ss.set (ixT ts nm) (dz k vb d s).1)->SvOk n k s->R p H':=by
 intro p H' s j b e g i;have T:Tt K H H':=KeptL.tt b λ c h=>by rw [List.mem_singleton.mp h];exact .inl ⟨_,eo⟩
 have f:=(dz_ok dk i hn).2.ansI;exact q p H' b ⟨nm,vb,x,_,k,d,e,hm,dk,IsDt.mono' T.t _ _ ix,wi.tt T,.inr f⟩ ⟨_,[.str nm,.str vb,x],e,rfl,f⟩ ⟨_,g⟩
theorem valV_isSomeK {kvs:List (Key×V)} {k:Key}:(valV kvs k).isSome=true↔k∈kvs.map (·.1):=by
 induction kvs with
 | nil=>simp [valV]
 | cons p r ih=>
  obtain ⟨a,pv⟩:=p;by_cases y:a=k
  ·subst y;rw [z0o rfl];simp
  ·rw [z0m y,ih,j1,F1];exact ⟨λ z=>.inr z,λ z=>z.resolve_left λ x=>y x.symm⟩
theorem zl5 {kvs:List (Key×V)} {k:Key} {v:V} (h:k∈kvs.map (·.1)):(putK kvs k v).map (·.1)=kvs.map (·.1):=by
 unfold putK;obtain ⟨p,a,e⟩:=List.mem_map.mp h;rw [if_pos (List.any_eq_true.mpr ⟨p,a,decide_eq_true e⟩),v3];refine List.map_congr_left λ q _=>?_;show (if q.1=k then (q.1,v) else q).1=q.1;by_cases y:q.1=k
 ·rw [if_pos y]
 ·rw [if_neg y]
theorem zga {kvs:List (Key×V)} {k:Key} {v:V} (h:k∉kvs.map (·.1)):putK kvs k v=kvs++[(k,v)]:=by unfold putK;rw [if_neg];intro z;obtain ⟨p,a,e⟩:=List.any_eq_true.mp z;exact h (List.mem_map.mpr ⟨p,a,of_decide_eq_true e⟩)
def z4q:Sp:=λ vs H Q _=>∃(r:Addr) (n:Nat),vs=[.ref r]/\DeckAt H r n/\n < 100/\∀p ts H',Dw r (n + 20) H H'->H p=none->ThAt H' p ts->ThOk ts->(∀t∈ts,L7 t.1=true/\t.1.length<=8)->Q (.ref p) H'
theorem DeckAt.le {H:Hp} {r:Addr} {n m:Nat} (l:n<=m) (h:DeckAt H r n):DeckAt H r m:=by obtain ⟨a,b,c,e,d,f,g,i⟩:=h;exact ⟨a,b,c,e,d,f,g,by omega⟩
theorem Dw.le {r:Addr} {n m:Nat} {H H':Hp} (l:n<=m) (h:Dw r n H H'):Dw r m H H':=⟨h.k,h.r.le l⟩
theorem z87 (T:TX (kx w) mg) (c0:Ca P w mg base "_law_take" ["deck","many"] 1 z1m):Fo P w mg base CX0 2 411 y0r ["deck"] z4q:=by
 refine (z2v w.params).ok sc__law_things (λ vs H Q E h=>?_) (λ d4 A d5 s H vs Q E J h=>?_)
 ·obtain ⟨r,n,rfl,_⟩:=h;rfl
 ·obtain ⟨r,n,rfl,R,hn,q⟩:=h;refine q_of (z0i (qs_set (i:=1) sc__law_things.nd rfl (Y0 rfl) (qe_lst (z0e (QE.mk pe_str) (z0e (QE.mk pe_str) (z0e (QE.mk pe_str) (z0e (QE.mk pe_str) (z0e (QE.mk pe_str) (z0e (QE.mk pe_str) (z0e (QE.mk pe_str) (z0e (QE.mk pe_str) qa_nil))))))))))
   (z0i (QS.mk (ps_set (i:=2) sc__law_things.nd rfl (X0 rfl) z91))
   (z0i (qs_for R1 rfl (z2e rfl (T.no (z69 _)) (z00 (pe_op opAdd pe_int (pe_cal c0 (J.mono (by decide)) rfl (z00 (pv 0) (z00 pe_int pa_nil)))) pa_nil)) (z0h (i:=3) sc__law_things.nd rfl (Y0 rfl))
   (z4e (zea (hu_of J) (QE.mk (pv 2)) (QE.mk (pe_ix ix_seq (pv 1) (pe_cal c0 (J.mono (by decide)) rfl (z00 (pv 0) (z00 pe_int pa_nil))) (λ _ _=>rfl))) (qe_ix ix_seq (qe_lst (z0e (QE.mk pe_str) (z0e (QE.mk pe_str) (z0e (QE.mk pe_str) (z0e (QE.mk pe_str) (z0e (QE.mk pe_str) qa_nil)))))) (QE.mk (pe_cal c0 (J.mono (by decide)) rfl (z00 (pv 0) (z00 pe_int pa_nil)))) (λ _ _=>rfl)) rfl)))
   (z4e (QS.mk (ps_ret (z0r z0j rfl (T.no (z25 _)) W3 (z00 (pe_cg (xs:=["name"]) (g:=gName 0) (fr:=[(2,"told")]) (z2m (z09 (z9y rfl) rfl (T.no (z5c _)) X7 (z00 (pv 2) pa_nil))) (λ _ _ _ _ _=>(pg_cn (N:=["name","told"]) 0)) (λ _ _ _ _ _=>pf_nil) (λ _ _ _ _ _=>(pe_tup (z00 (pv 0) (z00 (z6w (hu_of J) (pv 1) (pv 0) (λ _ _=>rfl)) pa_nil))))) pa_nil)))))))) ?_
  refine z0q ?_;refine ⟨w_8,λ l hl=>?_⟩;refine g_name ?_;have nl:l≠r:=R.fresh hl;have W:=Same.upd (o:=.lst [.str "q",.str "a",.str "zz",.str "begin",.str "reg",.str "abcdefgh",.str "b",.str "thing"]) hl;have e1:upd H l (.lst [.str "q",.str "a",.str "zz",.str "begin",.str "reg",.str "abcdefgh",.str "b",.str "thing"]) l=some (.lst ((["q","a","zz","begin","reg","abcdefgh","b","thing"]:List Str).map V.str)):=upd_same;generalize upd H l (.lst [.str "q",.str "a",.str "zz",.str "begin",.str "reg",.str "abcdefgh",.str "b",.str "thing"])=H1 at W e1⊢;refine z0q ?_;intro d O;refine g_name ?_;have X:d≠r:=(R.same W).fresh O;have a5:l≠d:=z08 e1 O;have fd:H d=none:=W.free O;have s2:=Same.upd (o:=.dK []) O;have e2:=s2 _ _ e1;have a3:upd H1 d (.dK []) d=some (.dK []):=upd_same;have a4:=W.trans s2;generalize upd H1 d (.dK [])=H2 at s2 e2 a3 a4⊢;have w2:Dw r n H H2:=R.dw.same a4;refine ⟨_,rfl,r,3,n,rfl,w2.r,by omega,by decide,by decide,λ t H3 G d2 d3=>.inl ⟨1,t,rfl,rfl,1 + t,rfl,by omega,by omega,?_⟩⟩;have e3:=G.k _ _ nl e2;have a9:=G.k _ _ X a3;have G:=w2.trans G;have tn:(1 + t).toNat<=3:=by omega
  have tp:0 < (1 + t).toNat:=by omega
  generalize (1 + t).toNat=tt at tn tp⊢;refine z3m (lo:=0) (n:=tt) (λ i σ M=>∃kvs ss,Dw r (n + 1 + 2 * i) H M/\M l=some (.lst ((["q","a","zz","begin","reg","abcdefgh","b","thing"]:List Str).map V.str))/\M d=some (.dK kvs)/\kvs.map (·.1)=ss.map Sum.inr/\ss.Nodup/\(∀z∈ss,L7 z=true/\z.length<=8)/\ss.length<=i/\(0 < i->0 < ss.length)/\(∀k v,valV kvs k=some v->∃z,z∈kinds5/\v=.str z)/\∃x3,σ=[some (.ref r),some (.ref l),some (.ref d),x3])
   ⟨[],[],G,e3,a9,rfl,.nil,λ _ z=>absurd z A0,u0 _,λ h=>h,(λ k v e=>by cases e),_,rfl⟩ ?_ ?_
  ·rintro i σ L hi ⟨kvs,ss,w4,e4,ed4,ek,sn,so,sl,sp,kv,x3,rfl⟩;refine g_name ?_;refine ⟨w_5,λ j B=>⟨_,rfl,r,5,_,rfl,w4.r.same (Same.upd B),by omega,by decide,by decide,λ t5 Y u b4 d0=>?_⟩⟩;obtain ⟨v5,b2,b9⟩:=atI_of (xs:=kinds5.map V.str) b4 d0;obtain ⟨I,b0,rfl⟩:=List.mem_map.mp b9;refine .inl ⟨j,_,t5,_,rfl,rfl,SqL.of (u.k _ _ (w4.r.fresh B) upd_same),b2,?_⟩;have e5:=u.k _ _ nl ((Same.upd (o:=.lst (kinds5.map V.str)) B) _ _ e4);have a0:=u.k _ _ X ((Same.upd (o:=.lst (kinds5.map V.str)) B) _ _ ed4);have u:=(w4.same (Same.upd (o:=.lst (kinds5.map V.str)) B)).trans u;refine ⟨_,rfl,_,rfl,_,rfl,r,8,_,rfl,u.r,by omega,by decide,by decide,λ t6 Z F b3 b7=>?_⟩;obtain ⟨v6,c4,c2⟩:=atI_of (xs:=(["q","a","zz","begin","reg","abcdefgh","b","thing"]:List Str).map V.str) b3 b7;obtain ⟨c,c9,rfl⟩:=List.mem_map.mp c2;have c7:L7 c=true/\c.length<=8:=(by decide +kernel :∀z∈(["q","a","zz","begin","reg","abcdefgh","b","thing"]:List Str),L7 z=true/\z.length<=8) c c9;have e6:=F.k _ _ nl e5;have b5:=F.k _ _ X a0;have F:=u.trans F;have kl:kvs.length=ss.length:=by have:=congrArg m6 ek;simpa using this
   refine .inl ⟨l,_,t6,_,rfl,rfl,SqL.of e6,c4,d,_,rfl,DPut.k (k:=.inr c) b5 (O1 (m:=100) (by omega) (by decide)),?_⟩;have w7:Dw r (n + 1 + 2 * (i + 1)) H (upd Z d (.dK (putK kvs (.inr c) (.str I)))):=by refine ⟨λ b o hb e=>by rw [upd_ne (z08 e fd)];exact F.k b o hb e,?_⟩;obtain ⟨a1,b1,c1,ee,D⟩:=F.r;exact ⟨a1,b1,c1,by rw [upd_ne X.symm];exact ee,D.1,D.2.1,D.2.2.1,by have:=D.2.2.2;omega⟩
   have a6 :∀k v,valV (putK kvs (.inr c) (.str I)) k=some v->∃z,z∈kinds5/\v=.str z:=λ k v e=>by
    rw [z4d] at e;by_cases z:k=.inr c
    ·rw [if_pos z] at e;cases e;exact ⟨I,b0,rfl⟩
    ·rw [if_neg z] at e;exact kv k v e
   by_cases z:c∈ss
   ·have kk:=zl5 (kvs:=kvs) (k:=(.inr c:Key)) (v:=.str I) (by rw [ek];exact List.mem_map.mpr ⟨c,z,rfl⟩);exact ⟨_,ss,w7,by rw [upd_ne a5];exact e6,upd_same,kk.trans ek,sn,so,by omega,λ _=>Y7 z,a6,_,rfl⟩
   ·have kk:=zga (kvs:=kvs) (k:=(.inr c:Key)) (v:=.str I) (by rw [ek];exact λ y=>z (by obtain ⟨a,ha,e⟩:=List.mem_map.mp y;cases e;exact ha));refine ⟨_,ss++[c],w7,by rw [upd_ne a5];exact e6,upd_same,by rw [kk,u1,ek,u1];rfl,?_,λ z hz=>?_,?_,λ _=>?_,a6,_,rfl⟩
    ·rw [Y3];refine ⟨sn,by simp,λ a ha b hb=>?_⟩;rw [List.mem_singleton.mp hb];exact λ e=>z (e ▸ ha)
    ·rcases List.mem_append.mp hz with y|y
     ·exact so z y
     ·rw [List.mem_singleton.mp y];exact c7
    ·rw [K0];show ss.length + 1<=i + 1;omega
    ·rw [K0];exact Nat.succ_pos _
  ·rintro σ L ⟨kvs,ss,w4,e4,ed4,ek,sn,so,sl,sp,kv,x3,rfl⟩;refine t_nx (zio ?_);refine zll (λ j Y=>∃f:List Str,L j=none/\f.Perm ss/\Y=upd L j (.lst (f.map V.str))) (λ R h=>⟨_,rfl,d,kvs,ss,rfl,ed4,ek,by omega,λ j f h5 C _=>h j _ ⟨f,h5,C,rfl⟩⟩) ?_;rintro j Y ⟨f,B,C,rfl⟩;have s5:=Same.upd (o:=.lst (f.map V.str)) B;have a0:=s5 _ _ ed4;have e5:upd L j (.lst (f.map V.str)) j=some (.lst (f.map V.str)):=upd_same;have d1:f.length<=3:=by rw [C.length_eq];omega
   refine zdi (S:=Same) (K:=KX w.params) (a:=j) (xs:=f.map V.str) (kindR (kx w)) (Same.refl _) (λ _ _ _ a b=>a.trans b) (λ _ _=>Same.refl _) ?_ (λ R h=>h) (λ M s'=>SqL.of (s' _ _ e5)) (by rw [F0];exact C0 d1 (by decide)) ?_ ?_
   ·rintro x y Ha Hb c3 ⟨p,k1,b1,D,z2,z3,z4⟩;exact ⟨p,k1,b1,D,z2,z3,c3 _ _ z4⟩
   ·intro v hv Z s6 KT a8 KF;obtain ⟨p,c5,rfl⟩:=List.mem_map.mp hv;refine ⟨[some (.str p)],rfl,rfl,iteT ?_⟩;have hs:(valV kvs (.inr p)).isSome=true:=valV_isSomeK.mpr (by rw [ek];exact List.mem_map.mpr ⟨p,C.mem_iff.mp c5,rfl⟩);obtain ⟨v1,a7⟩:=Option.isSome_iff_exists.mp hs;obtain ⟨z,hz,rfl⟩:=kv _ _ a7;have dg:DGet Z d (.str p) (some (.str z)):=by have:=DGet.k (k:=.inr p) (s6 _ _ a0);rw [a7] at this;exact this
    exact ⟨_,rfl,_,rfl,_,rfl,d,_,rfl,dg,w_2,λ p7 c8=>a8 _ _ (Same.upd c8) ⟨p,z,p7,rfl,rfl,hz,upd_same⟩⟩
   ·intro l7 H7 U s7 b6 b8;obtain ⟨ts,f1,f2,c6⟩:=z7t b8;have s8:=Same.upd (o:=.lst U) b6;refine ⟨l7,U,rfl,.inl ⟨SqL.of upd_same,λ p8 a2=>?_⟩⟩;have w8:=(w4.same (s5.trans s7)).same s8;have s9:=s8.trans (Same.upd (o:=.tup U) a2);have tl:ts.length=f.length:=by rw [<-f1,F0]
    have pl:=C.length_eq;have:=sp tp;exact q p8 ts _ ((w8.same (Same.upd a2)).le (by omega)) (w8.free a2) ⟨U,upd_same,z01 (λ _ _ z=>z.elim λ b y=>⟨b,y.1,s9 _ _ y.2⟩) c6⟩ ⟨by omega,by omega,by rw [f1];exact C.nodup_iff.mpr sn,f2⟩ (λ t ht=>so t.1 (C.mem_iff.mp (by rw [<-f1];exact List.mem_map.mpr ⟨t,ht,rfl⟩)))
def EvW (K:b0) (H:Hp) (z:Str) (y:V):Prop:=∃(p:Addr) (r:List V),y=.ref p/\SqT K H p (.str z :: r)
theorem EvW.tups {K:b0} {H H':Hp} {z:Str} {y:V} (t:Tups K H H') (h:EvW K H z y):EvW K H' z y:=by obtain ⟨p,r,e,s⟩:=h;exact ⟨p,r,e,t _ _ s⟩
theorem OwnAt.tt {K:b0} {H H':Hp} {ts:List (Str×Str)} {p:Addr} (t:Tt K H H') (e :∀o,H p=some o->H' p=some o) (h:OwnAt K H ts p):OwnAt K H' ts p:=by obtain ⟨j,b,x,a,k,d,c,g,m,f,l,i⟩:=h;exact ⟨j,b,x,a,k,d,e _ c,g,m,IsDt.mono' t.t d x f,l.tt t,i⟩
theorem OwnAt.mutAt {K:b0} {H:Hp} {ts:List (Str×Str)} {p:Addr} (h:OwnAt K H ts p):MutAt H p:=by obtain ⟨e,c,x,a,k,d,b,_⟩:=h;exact .inl ⟨_,b⟩
theorem DeckAt.mutAt {H:Hp} {r:Addr} {n:Nat} (h:DeckAt H r n):MutAt H r:=by obtain ⟨a,b,c,e,_⟩:=h;exact .inl ⟨_,e⟩
theorem Dw.keptL {r:Addr} {n:Nat} {H H':Hp} {L:List Addr} (h:Dw r n H H') (hr:r∈L):KeptL L H H':=λ b o n e=>h.k b o (λ z=>n (z ▸ hr)) e
theorem Dw.tt {K:b0} {r:Addr} {n m:Nat} {H H':Hp} (R:DeckAt H r m) (h:Dw r n H H'):Tt K H H':=KeptL.tt (h.keptL (List.mem_singleton.mpr rfl)) λ l a=>by rw [List.mem_singleton.mp a];exact R.mutAt
theorem z1c {L:List Addr} {H H1 H2:Hp} (s:Same H H1) (k:KeptL L H1 H2) (n :∀l∈L,H l=none):Same H H2:=λ c o e=>k c o (λ z=>by rw [n c z] at e;cases e) (s c o e)
theorem zel {kvs:List (Key×V)} {k j:Key} {v:V} (h:valV (dropK kvs k) j=some v):valV kvs j=some v:=by
 induction kvs with
 | nil=>cases h
 | cons p r ih=>
  obtain ⟨a,pv⟩:=p;by_cases z:a=k
  ·rw [zch z] at h;have c:j≠a:=λ y=>by
    have:(valV (dropK r k) j).isSome=true:=by rw [h];rfl
    have:=valV_isSomeK.mp this;obtain ⟨q,b,e⟩:=List.mem_map.mp this;have:=of_decide_eq_true (List.mem_filter.mp b).2;exact this (e.trans (y.trans z))
   rw [z0m (λ e=>c e.symm)];exact ih h
  ·rw [zcj z] at h;by_cases y:a=j
   ·subst y;rw [z0o rfl] at h⊢;exact h
   ·rw [z0m y] at h⊢;exact ih h
noncomputable def evH:Ev->Int
 | .beg h _ _ _=>h
 | .fin h _=>h
theorem zg4 {hs:List Int} {es:List Ev} {e:Ev} (h :∀e∈es,evH e∈hs) (he:evH e∈hs) :∀x∈es++[e],evH x∈hs:=λ x a=>by
 rcases List.mem_append.mp a with z|z
 ·exact h x z
 ·rw [List.mem_singleton.mp z];exact he
noncomputable def wordE:Ev->Str
 | .beg _ _ _ _=>"begin"
 | .fin _ _=>"end"
noncomputable def isBg (e:Ev):Bool:=decide (V.str (wordE e)=V.str "begin")
theorem zfv {h:Int} {n v x:V}:isBg (.beg h n v x)=true:=by show decide (V.str "begin" = V.str "begin")=true;decide +kernel
theorem zet {h:Int} {a:V}:isBg (.fin h a)=false:=by show decide (V.str "end" = V.str "begin")=false;decide +kernel
noncomputable def bgN (es:List Ev):Nat:=(es.filter isBg).length
theorem zla {es:List Ev} {h:Int} {a:V}:bgN (es++[.fin h a])=bgN es:=by unfold bgN;rw [Q6,K0];rw [u4 (by rw [zet];decide)];rfl
theorem zl9 {es:List Ev} {h:Int} {n v x:V}:bgN (es++[.beg h n v x])=bgN es + 1:=by unfold bgN;rw [Q6,K0,o4 zfv];rfl
theorem zjb {p:Ev->Bool} :∀{es:List Ev} {ys:List V},es.length=ys.length->((es.zip ys).filter λ a=>p a.1).length=(es.filter p).length
 | [],[],_=>rfl
 | e :: es,y :: ys,h=>by
  have b:=zjb (p:=p) (es:=es) (ys:=ys) (by simpa using h);rw [z9];cases c:p e with
  | true=>rw [o4 (by exact c),o4 c,P0,P0,b]
  | false=>rw [u4 (by show ¬ p e=true;rw [c];decide),u4 (by rw [c];decide),b]
theorem ziy :∀{es:List Ev} {i:Nat} {rs:List Rc},(dAll i rs es).length=rs.length + bgN es
 | [],_,_=>rfl
 | e :: es,i,rs=>by
  have b:=ziy (es:=es) (i:=i + 1) (rs:=dstep i rs e);show (dAll (i + 1) (dstep i rs e) es).length=_;rw [b];cases e with
  | beg hd n v x=>
   have c:(dstep i rs (.beg hd n v x)).length=rs.length + 1:=by show (rs++[_]).length=_;rw [K0];rfl
   have d:bgN (Ev.beg hd n v x :: es)=bgN es + 1:=by unfold bgN;rw [o4 zfv,P0]
   omega
  | fin hd a=>
   have c:(dstep i rs (.fin hd a)).length=rs.length:=by
    unfold dstep;dsimp only;cases lastI hd (rs.map Rc.h) with
    | none=>rfl
    | some j=>exact A5 ..
   have d:bgN (Ev.fin hd a :: es)=bgN es:=by unfold bgN;rw [u4 (by rw [zet];decide)]
   omega
structure EvQ (K:b0) (ts:List (Str×Str)) (H:Hp) (e:Ev) (y:V):Prop where
 a:EvAt K H e y
 w:EvW K H (wordE e) y
 n:EvGd K H ts e
theorem EvQ.tt {K:b0} {ts:List (Str×Str)} {H H':Hp} {e:Ev} {y:V} (t:Tt K H H') (h:EvQ K ts H e y):EvQ K ts H' e y:=⟨EvAt.tups t.t h.a,h.w.tups t.t,h.n.tt t⟩
theorem zec {K:b0} {ts:List (Str×Str)} {H:Hp} :∀{es:List Ev} {ys:List V},All2 (EvQ K ts H) es ys->All2 (λ (a:Ev×V) v=>a.2=v/\EvQ K ts H a.1 v) (es.zip ys) ys
 | _,_,.nil=>.nil
 | _,_,.cons a r=>.cons ⟨rfl,a⟩ (zec r)
def UwAt (K:b0) (H H0:Hp) (u l ha:Addr) (ts:List (Str×Str)) (m:Nat) (os:List Int):Prop:=∃kvs:List (Key×V),H u=some (.dK kvs)/\kvs.length<=m/\kvs.map (·.1)=os.map Sum.inl/\∀k v,valV kvs k=some v->∃p,v=.ref p/\OwnAt K H ts p/\p≠l/\p≠ha/\H0 p=none
structure TaJ (K:b0) (H H0:Hp) (pt ps u l ha:Addr) (ts:List (Str×Str)) (hs:List Int) (i:Nat) (os:List Int) (es:List Ev):Prop where
 th:ThAt H pt ts
 st:StsT K H ps ts i
 uw:UwAt K H H0 u l ha ts i os
 ev :∃ys,H l=some (.lst ys)/\All2 (EvQ K ts H) es ys
 hn:H ha=some (.lst (hs.map V.int))
 ln:es.length<=i
 wf:EWf [] es
 cn:bgN es<=5
 hb :∀e∈es,evH e∈hs
theorem TaJ.tt {K:b0} {H H' H0:Hp} {pt ps u l ha:Addr} {ts:List (Str×Str)} {hs:List Int} {i:Nat} {os:List Int} {es:List Ev} (t:Tt K H H') (L:List Addr) (k:KeptL L H H') (n:u∉L/\l∉L/\ha∉L) (po :∀p∈L,∀q:OwnAt K H ts p,OwnAt K H' ts p) (h:TaJ K H H0 pt ps u l ha ts hs i os es):TaJ K H' H0 pt ps u l ha ts hs i os es:=by
 refine ⟨h.th.tt t,h.st.tups t.t,?_,h.ev.elim λ g z=>⟨g,k _ _ n.2.1 z.1,z01 (λ _ _ y=>y.tt t) z.2⟩,k _ _ n.2.2 h.hn,h.ln,h.wf,h.cn,h.hb⟩;obtain ⟨r,e,m,c,f⟩:=h.uw;refine ⟨r,k _ _ n.1 e,m,c,λ a v j=>?_⟩;obtain ⟨p,d,b,s⟩:=f a v j;refine ⟨p,d,?_,s⟩;rcases Classical.em (p∈L) with z|z
 ·exact po p z b
 ·exact b.tt t λ o e=>k _ _ z e
theorem TaJ.same {K:b0} {H H' H0:Hp} {pt ps u l ha:Addr} {ts:List (Str×Str)} {hs:List Int} {i:Nat} {os:List Int} {es:List Ev} (s:Same H H') (h:TaJ K H H0 pt ps u l ha ts hs i os es):TaJ K H' H0 pt ps u l ha ts hs i os es:=h.tt (.of s) [] s.keptL ⟨A0,A0,A0⟩ (λ _ z=>absurd z A0)
theorem TaJ.le {K:b0} {H H0:Hp} {pt ps u l ha:Addr} {ts:List (Str×Str)} {hs:List Int} {i:Nat} {os:List Int} {es:List Ev} (h:TaJ K H H0 pt ps u l ha ts hs i os es):TaJ K H H0 pt ps u l ha ts hs (i + 1) os es:=⟨h.th,h.st.le (B3 _),h.uw.elim λ a z=>⟨a,z.1,S4 z.2.1,z.2.2⟩,h.ev,h.hn,S4 h.ln,h.wf,h.cn,h.hb⟩
theorem TaJ.dw {K:b0} {H H' H0:Hp} {pt ps u l ha r:Addr} {ts:List (Str×Str)} {hs:List Int} {i n m:Nat} {os:List Int} {es:List Ev} (R:DeckAt H r n) (w:Dw r m H H') (nr:u≠r/\l≠r/\ha≠r) (h:TaJ K H H0 pt ps u l ha ts hs i os es):TaJ K H' H0 pt ps u l ha ts hs i os es:=by refine h.tt (w.tt R) [r] (w.keptL (by simp)) ⟨by simp [nr.1],by simp [nr.2.1],by simp [nr.2.2]⟩ λ p e o=>?_;rw [List.mem_singleton.mp e] at o⊢;obtain ⟨s,f,x,a,k,d,c,_⟩:=o;obtain ⟨j,q,g,b,_⟩:=R;rw [c] at b;cases b
def z6m (K:b0):Sp:=λ vs H Q _=>∃(sc:Addr) (ns:List Int),vs=[.ref sc,.int 5]/\SqL K H sc (ns.map V.int)/\ns.length<=63/\
 ∀t pt te ys es ts H',Same H H'->H' t=some (.tup [.ref pt,.ref te])->H' te=some (.tup ys)->ThAt H' pt ts->ThOk ts->(∀t∈ts,L7 t.1=true/\t.1.length<=8)->All2 (EvQ K ts H') es ys->es.length<=20->EWf [] es->bgN es<=5->(∃hs:List Int,hs.length<=4/\∀e∈es,evH e∈hs)->Q (.ref t) H'
theorem zb9 (T:TX (kx w) mg) (c0:Ca P w mg base "_law_cell_at" ["script","k"] 1 (z3r (kx w))) (c2:Ca P w mg base "_law_take" ["deck","many"] 1 z1m) (c3:Ca P w mg base "_law_things" ["deck"] 2 z4q) (c4:Ca P w mg base "_law_first" ["things"] 1 (z2x (kx w))) (c5:Ca P w mg base "_law_applied" ["things","states","own"] 2 (z21 (kx w))) (c6:Ca P w mg base "_law_verb" ["deck","kind"] 3 (z72 (kx w))):Fo P w mg base CX0 4 421 y1d ["script","most"] (z6m (kx w)):=by
 refine (z5b w.params).ok sc__law_tale (λ vs H Q E h=>?_) (λ x1 A x5 s H vs Q E I h=>?_)
 ·obtain ⟨sc,M,rfl,_⟩:=h;rfl
 ·obtain ⟨sc,M,rfl,sq,hn,q⟩:=h;refine q_of (z0i (QS.mk (ps_set (i:=2) sc__law_tale.nd rfl (Y0 rfl) (pe_op op_mod (pe_cal c0 (I.mono (by decide)) rfl (z00 (pv 0) (z00 pe_int pa_nil))) pe_int)))
   (z0i (QS.mk (ps_set (i:=3) sc__law_tale.nd rfl (Y0 rfl) (pe_lst (z00 (pe_op z8j (pe_cal c0 (I.mono (by decide)) rfl (z00 (pv 0) (z00 pe_int pa_nil))) pe_int) (z00 (pv 2) (z00 pe_int pa_nil))))))
   (z0i (QS.mk (ps_set (i:=4) sc__law_tale.nd rfl (Y0 rfl) (pe_cal c3 (I.mono (by decide)) rfl (z00 (pv 3) pa_nil))))
   (z0i (QS.mk (ps_set (i:=5) sc__law_tale.nd rfl (Y0 rfl) (z1k slSeq (pe_ix ix_seq (pe_lst (z00 (pe_lst (z00 pe_int (z00 pe_int (z00 pe_int (z00 pe_int pa_nil))))) (z00 (pe_lst (z00 pe_int (z00 pe_int (z00 pe_int (z00 pe_int pa_nil))))) pa_nil))) (pe_cal c2 (I.mono (by decide)) rfl (z00 (pv 3) (z00 pe_int pa_nil))) (λ _ _=>rfl)) z3b (z1q (pe_op opAdd pe_int (pe_cal c2 (I.mono (by decide)) rfl (z00 (pv 3) (z00 pe_int pa_nil))))))))
   (z0i (qs_set (i:=6) sc__law_tale.nd rfl (Y0 rfl) (qe_ix ix_seq (qe_lst (z0e (QE.mk pe_int) (z0e (QE.mk pe_int) (z0e (QE.mk pe_int) (z0e (QE.mk pe_int) qa_nil))))) (QE.mk (pe_cal c2 (I.mono (by decide)) rfl (z00 (pv 3) (z00 pe_int pa_nil)))) (λ _ _=>rfl)))
   (z0i (QS.mk (ps_set (i:=7) sc__law_tale.nd rfl (Y0 rfl) (pe_cal c4 (I.mono (by decide)) rfl (z00 (pv 4) pa_nil))))
   (z0i (QS.mk (ps_set (i:=8) sc__law_tale.nd rfl (Y0 rfl) (pe_lst pa_nil)))
   (z0i (QS.mk (ps_set (i:=9) sc__law_tale.nd rfl (Y0 rfl) z91))
   (z0i (qs_for R1 rfl (z2e rfl (T.no (z69 _)) (z00 (z09 (zha rfl) rfl (T.no (n_min _)) boot_min (z00 (pe_op op_mul pe_int (pv 1)) (z00 (z09 (zhm rfl) rfl (T.no (n_max _)) boot_max (z00 pe_int (z00 (pe_op op_sub (z09 z0s rfl (T.no (n_len _)) E3 (z00 (pv 0) pa_nil)) pe_int) pa_nil))) pa_nil))) pa_nil)) (z0h (i:=10) sc__law_tale.nd rfl (Y0 rfl))
   (z0i (QS.mk (ps_set (i:=3) sc__law_tale.nd rfl (Y0 rfl) (pe_lst (z00 (z09 (zgx rfl) rfl (T.no (n_sum _)) boot_sum (z00 (zh5 (pv 0) (z1q (pe_op opAdd pe_int (pv 10))) (z1q pe_int) (z1q (pe_op op_mul pe_int (pv 1)))) pa_nil)) (z00 (pv 2) (z00 (pe_op opAdd pe_int (pe_op op_mul pe_int (pv 10))) pa_nil))))))
   (z0i (QS.mk (ps_set (i:=11) sc__law_tale.nd rfl (Y0 rfl) (pe_ix ix_seq (pv 5) (pe_cal c2 (I.mono (by decide)) rfl (z00 (pv 3) (z00 (z09 z0s rfl (T.no (n_len _)) E3 (z00 (pv 5) pa_nil)) pa_nil))) (λ _ _=>rfl))))
   (z4e (qs_if (pt_cmp (pc_din (hu_of I) (pv 11) (pv 9)) (by with_unfolding_all rfl))
   (z0i (QS.mk (ps_set (i:=12) sc__law_tale.nd rfl (Y0 rfl) (zk4 (pv 9) (pv 11) ⟨rfl,rfl,rfl,rfl⟩)))
   (z0i (QS.mk (ps_if (z07 op_isN (pe_ix ix_seq (pv 12) pe_int (λ _ _=>rfl)) pe_non (nomark _))
   (z04 (ps_set (i:=7) sc__law_tale.nd rfl (Y0 rfl) (pe_cal c5 (I.mono (by decide)) rfl (z00 (pv 4) (z00 (pv 7) (z00 (pv 12) pa_nil))))))
   z0b))
   (z0i (QS.mk (ps_set (i:=13) sc__law_tale.nd rfl (Y0 rfl) (pe_ix ix_seq (pv 12) pe_int (λ _ _=>rfl))))
   (z0i (qs_if (PW.pt (pw_or (pt_val (z09 z0l rfl (T.no (z0k _)) Z2 (z00 (pv 13) (z00 (z3g (v:=.ty "tuple") rfl (T.no (z25 _)) W3 rfl) pa_nil))) (λ _=>rfl)) (pw_or1 (z07 opEq (pe_cal c2 (I.mono (by decide)) rfl (z00 (pv 3) (z00 (pv 6) pa_nil))) pe_int (nomark _)))))
   (z4e (qs_set (i:=13) sc__law_tale.nd rfl (Y0 rfl) (qe_ix ix_seq (qe_lst (z0e (QE.mk pe_str) (z0e (QE.mk pe_str) (z0e (QE.mk pe_int) (z0e (QE.mk pe_int) (z0e (QE.mk pe_int) (z0e (QE.mk (pe_op op_pow pe_int pe_int)) (z0e (QE.mk (pe_un un_neg pe_int)) qa_nil)))))))) (QE.mk (pe_cal c2 (I.mono (by decide)) rfl (z00 (pv 3) (z00 pe_int pa_nil)))) (λ _ _=>rfl))))
   (QSs.mk z0b))
   (z4e (QS.mk (z33 (z1h (pv 8) (z00 (pe_tup (z00 pe_str (z00 (pv 11) (z00 (pv 13) pa_nil)))) pa_nil)))))))))
   (z4e (QS.mk (ps_if (z07 op_lt (z09 z0s rfl (T.no (n_len _)) E3 (z00 (pe_cg (xs:=["event"]) (g:=gName 0) (fr:=[]) (z2m (pv 8)) (λ _ _ _ _ _=>(pg_cn (N:=["event"]) 0)) (λ _ _ _ _ _=>(pf_one (z07 opEq (pe_ix (z7p (K:=KX w.params) rfl) (pv 0) pe_int (λ _ _=>rfl)) pe_str (nomark _)))) (λ _ _ _ _ _=>(pv 0))) pa_nil)) (pv 1) (nomark _))
   (z02 (ps_asg (pe_ix ix_seq (pv 4) (pe_cal c2 (I.mono (by decide)) rfl (z00 (pv 3) (z00 (z09 z0s rfl (T.no (n_len _)) E3 (z00 (pv 4) pa_nil)) pa_nil))) (λ _ _=>rfl)) (pg_tup rfl (z0d (z0h (i:=14) sc__law_tale.nd rfl (Y0 rfl)) (z0d (z0h (i:=15) sc__law_tale.nd rfl (Y0 rfl)) z1b))))
   (z02 (ps_asg (pe_cal c6 (I.mono (by decide)) rfl (z00 (pv 3) (z00 (pv 15) pa_nil))) (pg_tup rfl (z0d (z0h (i:=16) sc__law_tale.nd rfl (Y0 rfl)) (z0d (z0h (i:=17) sc__law_tale.nd rfl (Y0 rfl)) z1b))))
   (z02 (z33 (z1h (pv 8) (z00 (pe_tup (z00 pe_str (z00 (pv 11) (z00 (pv 14) (z00 (pv 16) (z00 (pv 17) pa_nil)))))) pa_nil)))
   (z02 (zcp (hu_of I) (pv 9) (pv 11) (pe_lst (z00 (pv 14) (z00 (pv 16) (z00 (pv 17) (z00 pe_non pa_nil))))) rfl)
   (z04 (ps_if (z07 opEq (pe_cal c2 (I.mono (by decide)) rfl (z00 (pv 3) (z00 pe_int pa_nil))) pe_int (nomark _))
   (z04 (ps_set (i:=7) sc__law_tale.nd rfl (Y0 rfl) (pe_cal c5 (I.mono (by decide)) rfl (z00 (pv 4) (z00 (pv 7) (z00 (z6w (hu_of I) (pv 9) (pv 11) (λ _ _=>rfl)) pa_nil))))))
   z0b))))))
   z0b))))))))
   (z4e (QS.mk (ps_ret (pe_tup (z00 (pv 4) (z00 (z0r z0j rfl (T.no (z25 _)) W3 (z00 (pv 8) pa_nil)) pa_nil))))))))))))))) ?_
  refine z0q ?_;refine ⟨_,rfl,sc,M,rfl,sq,λ i0=>⟨_,_,rfl,rfl,(show (0:Int) < 2 by decide),?_⟩⟩;refine g_name ?_;have y0:0<=i0 % 2:=B6 _ (by decide);have y1:i0 % 2 < 2:=E5 _ (by decide);refine z0q ?_;refine ⟨_,rfl,sc,M,rfl,sq,λ i1=>⟨_,_,rfl,rfl,⟨by decide,by decide⟩,_,rfl,w_3,λ dk k0=>?_⟩⟩;refine g_name ?_;have s1:=Same.upd (o:=.lst [.int (i1 / 2),.int (i0 % 2),.int 0]) k0;have D1:DeckAt (upd H dk (.lst [.int (i1 / 2),.int (i0 % 2),.int 0])) dk 0:=⟨_,_,_,upd_same,y0,y1,j08 _,j08 _⟩
  generalize upd H dk (.lst [.int (i1 / 2),.int (i0 % 2),.int 0])=H1 at s1 D1⊢;have only :∀{n:Nat} {Ha Hb:Hp},Same H Ha->Dw dk n Ha Hb->Same H Hb:=λ sa wa=>z1c sa (wa.keptL (L:=[dk]) (by simp)) λ c B=>by rw [List.mem_singleton.mp B];exact k0
  refine ⟨_,rfl,dk,0,rfl,D1,by decide,λ pt S H2 w2 x7 th ok p1=>?_⟩;have s2:=only s1 w2;refine g_name (t_nx ?_);refine z0q ?_;refine ⟨w_4,λ G h1=>⟨w_4,λ a2 h2=>⟨w_2,λ a3 h3=>?_⟩⟩⟩;have q1:=Same.upd (o:=.lst [V.int 0,.int 1,.int 2,.int 5]) h1;have q2:=Same.upd (o:=.lst [V.int 5,.int 4,.int 3,.int 0]) h2;have q3:=Same.upd (o:=.lst [.ref G,.ref a2]) h3;have f1:=q3 _ _ (q2 _ _ (upd_same (H:=H2) (a:=G) (o:=.lst [V.int 0,.int 1,.int 2,.int 5])));have f2:=q3 _ _ (upd_same (H:=upd H2 G (.lst [V.int 0,.int 1,.int 2,.int 5])) (a:=a2) (o:=.lst [V.int 5,.int 4,.int 3,.int 0]));have f3:=upd_same (H:=upd (upd H2 G (.lst [V.int 0,.int 1,.int 2,.int 5])) a2 (.lst [V.int 5,.int 4,.int 3,.int 0])) (a:=a3) (o:=.lst [.ref G,.ref a2]);have n1:G≠dk:=w2.r.fresh h1;have n2:a2≠dk:=(w2.r.same q1).fresh h2;have n3:a3≠dk:=(w2.r.same (q1.trans q2)).fresh h3;have f5:=(q1.trans q2).trans q3;generalize upd (upd (upd H2 G (.lst [V.int 0,.int 1,.int 2,.int 5])) a2 (.lst [V.int 5,.int 4,.int 3,.int 0])) a3 (.lst [.ref G,.ref a2])=H3 at f1 f2 f3 f5⊢;have D3:=w2.r.same f5;have r8:=th.tt (.of (K:=KX w.params) f5);have s3:=s2.trans f5;refine ⟨_,rfl,dk,2,_,rfl,D3,by decide,by decide,by decide,λ t4 H4 w4 v1 r6=>?_⟩;obtain ⟨v4,v2,m1⟩:=atI_of (xs:=[V.ref G,.ref a2]) v1 r6;obtain ⟨aX,a6,rfl,eX,nX,lX,bX⟩ :∃(aX:Addr) (a6:List Int),v4=.ref aX/\H3 aX=some (.lst (a6.map V.int))/\aX≠dk/\a6.length=4/\∀x∈a6,0<=x/\x<=5:=by
   simp only [F1,A0,or_false] at m1;rcases m1 with rfl|rfl
   ·exact ⟨G,[0,1,2,5],rfl,f1,n1,rfl,by decide⟩
   ·exact ⟨a2,[5,4,3,0],rfl,f2,n2,rfl,by decide⟩
  refine .inl ⟨a3,_,t4,_,rfl,rfl,SqL.of (w4.k _ _ n3 f3),v2,?_⟩;have o5:=w4.k _ _ nX eX;have s4:=only s3 w4;have q0:=r8.tt (w4.tt (K:=KX w.params) D3);refine ⟨_,rfl,dk,4,_,rfl,w4.r,by decide,by decide,by decide,λ t5 H5 w5 p7 x9=>.inl ⟨1,t5,rfl,rfl,_,rfl,.inl ⟨aX,_,rfl,SqL.of (w5.k _ _ nX o5),λ D i2=>?_⟩⟩⟩;have s5:=only s4 w5;have p3:=q0.tt (w5.tt (K:=KX w.params) w4.r);obtain ⟨m5,rfl⟩:=Int.eq_ofNat_of_zero_le p7;have ec:cutV (a6.map V.int) none (some (1 + (m5:Int)))=(a6.take (1 + m5)).map V.int:=by rw [show (1:Int) + (m5:Int)=((1 + m5:Nat):Int) by omega,(cut_to (ys:=a6.map V.int) (m:=1 + m5) (by rw [F0];omega)).1,List.map_take]
  rw [ec];have p6:(a6.take (1 + m5)).length=1 + m5:=by rw [Q2];omega
  have r3 :∀x∈a6.take (1 + m5),0<=x/\x<=5:=λ x hx=>bX x (j3c hx);generalize a6.take (1 + m5)=hs at p6 r3⊢;refine g_name ?_;have q6:=Same.upd (o:=.lst (hs.map V.int)) i2;have e6:upd H5 D (.lst (hs.map V.int)) D=some (.lst (hs.map V.int)):=upd_same;have v0:D≠dk:=w5.r.fresh i2;have x2:H D=none:=s5.free i2;generalize upd H5 D (.lst (hs.map V.int))=H6 at q6 e6⊢;have D6:=w5.r.same q6;have s6:=s5.trans q6;have r2:=p3.tt (.of (K:=KX w.params) q6);refine z0q ?_;refine ⟨w_4,λ a7 h7=>⟨_,rfl,dk,4,_,rfl,D6.same (Same.upd h7),by decide,by decide,by decide,λ t7 H7 w7 o8 t0=>?_⟩⟩;obtain ⟨v7,r5,m2⟩:=atI_of (xs:=[V.int 3,.int 8,.int 40,.int 40]) o8 t0;obtain ⟨b8,rfl,o4,x0⟩ :∃b8:Int,v7=.int b8/\0 < b8/\b8<=40:=by simp only [F1,A0,or_false] at m2;rcases m2 with rfl|rfl|rfl|rfl<;>exact ⟨_,rfl,by decide,by decide⟩
  refine .inl ⟨a7,_,t7,_,rfl,rfl,SqL.of (w7.k _ _ (D6.fresh h7) upd_same),r5,?_⟩;refine g_name ?_;have e7:=w7.k _ _ v0 ((Same.upd (o:=.lst [V.int 3,.int 8,.int 40,.int 40]) h7) _ _ e6);have k3:=(r2.tt (.of (K:=KX w.params) (Same.upd (o:=.lst [V.int 3,.int 8,.int 40,.int 40]) h7))).tt (w7.tt (K:=KX w.params) (D6.same (Same.upd h7)));have s7:=only (s6.trans (Same.upd (o:=.lst [V.int 3,.int 8,.int 40,.int 40]) h7)) w7;refine ⟨_,rfl,pt,S,rfl,k3,ok.n6,λ U O s8 f4=>?_⟩;have e8:=s8 _ _ e7;have u6:=k3.tt (.of (K:=KX w.params) s8);have s8:=s7.trans s8;refine ⟨w_0,λ l hl=>?_⟩;have q9:=Same.upd (o:=.lst []) hl;have d4:upd O l (.lst []) l=some (.lst []):=upd_same;have l1:l≠D:=λ z=>by rw [z,e8] at hl;cases hl
  have fl:H l=none:=s8.free hl;have e9:=q9 _ _ e8;have m7:=u6.tt (.of (K:=KX w.params) q9);have g9:=(f4.sts (K:=KX w.params)).tups (.of q9);have s9:=s8.trans q9;generalize upd O l (.lst [])=H9 at q9 d4 e9 m7 g9 s9⊢;intro u hu;have a0:=Same.upd (o:=.dK []) hu;have fu:H u=none:=s9.free hu;have c9:l≠u:=λ z=>by rw [<-z,d4] at hu;cases hu
  have j0:D≠u:=λ z=>by rw [<-z,e9] at hu;cases hu
  have J0:TaJ (kx w) (upd H9 u (.dK [])) H pt U u l D S hs 0 [] []:=⟨m7.tt (.of (K:=KX w.params) a0),g9.tups (.of a0),⟨[],upd_same,u0 _,rfl,λ k v e=>by cases e⟩,⟨[],a0 _ _ d4,.nil⟩,a0 _ _ e9,u0 _,trivial,S1 _,λ _ h=>absurd h A0⟩
  have e4:=s9.trans a0;generalize upd H9 u (.dK [])=a5 at J0 e4⊢;have hb :∀L:Int,0<=(if (if L > 0 then L else 0) < 2 * 5 then (if L > 0 then L else 0) else 2 * 5)/\(if (if L > 0 then L else 0) < 2 * 5 then (if L > 0 then L else 0) else 2 * 5)<=20:=λ L=>by split<;>split<;>omega
  obtain ⟨b1,b2⟩:=hb (((M.map V.int).length:Int) - 1);refine ⟨_,rfl,_,_,rfl,rfl,.inl ⟨by decide,by decide⟩,_,rfl,.inl ⟨sc,_,rfl,.inl (e4.seq sq),_,_,rfl,rfl,_,_,rfl,_,_,rfl,(if (if ((M.map V.int).length:Int) - 1 > 0 then ((M.map V.int).length:Int) - 1 else 0) < 2 * 5 then (if ((M.map V.int).length:Int) - 1 > 0 then ((M.map V.int).length:Int) - 1 else 0) else 2 * 5),rfl,by omega,by omega,?_⟩⟩;generalize (if (if ((M.map V.int).length:Int) - 1 > 0 then ((M.map V.int).length:Int) - 1 else 0) < 2 * 5 then (if ((M.map V.int).length:Int) - 1 > 0 then ((M.map V.int).length:Int) - 1 else 0) else 2 * 5)=JJ at b1 b2⊢;have tn:JJ.toNat<=20:=by omega
  generalize JJ.toNat=tt at tn⊢;refine z3m (lo:=0) (n:=tt) (λ i σ H'=>∃U es,TaJ (kx w) H' H pt U u l D S hs i (es.foldl oStep []) es/\Same H H'/\∃x3 Y x11 x12 x13 x14 x15 x16 x17,σ=[some (.ref sc),some (.int 5),some (.int (i0 % 2)),x3,some (.ref pt),some (.ref D),some (.int b8),some (.ref U),some (.ref l),some (.ref u),Y,x11,x12,x13,x14,x15,x16,x17])
   ⟨U,[],J0,e4,_,_,_,_,_,_,_,_,_,rfl⟩ ?_ ?_
  ·rintro i σ H3 hi ⟨U,es,J,s3,x3,Y,x11,x12,x13,x14,x15,x16,x17,rfl⟩;rw [P6];refine g_name ?_;obtain ⟨ms,em⟩ :∃ms:List Int,pickV (M.map V.int) (some (1 + (i:Int))) (some 63) (some (2 * 5))=ms.map V.int:=zjj λ y hy=>by obtain ⟨c,_,rfl⟩:=List.mem_map.mp (zim hy);exact ⟨c,rfl⟩
   have pl:(pickV (M.map V.int) (some (1 + (i:Int))) (some 63) (some (2 * 5))).length<=sizeLine:=C0 (zhi (by omega)) (by rw [F0];exact C0 hn (by decide));refine z0q ?_;refine ⟨_,rfl,_,rfl,.inl ⟨_,_,rfl,rfl,_,rfl,63,rfl,_,rfl,_,_,rfl,rfl,.inl ⟨by decide,by decide⟩,_,rfl,sc,_,rfl,s3.seq sq,(show (some (2 * 5:Int))≠some 0 from λ e=>by injection e with e;omega),pl,λ p4 u4=>?_⟩⟩;have q4:=Same.upd (o:=.lst (pickV (M.map V.int) (some (1 + (i:Int))) (some 63) (some (2 * 5)))) u4;refine ⟨p4,ms,rfl,SqL.of (by rw [<-em];exact upd_same),?_⟩;refine ⟨_,rfl,_,rfl,_,_,rfl,rfl,.inl ⟨by decide,by decide⟩,.inl ⟨_,_,rfl,rfl,w_3,λ C e2=>?_⟩⟩;refine g_name ?_;have q5:=Same.upd (o:=.lst [.int ms.sum,.int (i0 % 2),.int (9 + 5 * (i:Int))]) e2;have D5:DeckAt (upd (upd H3 p4 (.lst (pickV (M.map V.int) (some (1 + (i:Int))) (some 63) (some (2 * 5))))) C (.lst [.int ms.sum,.int (i0 % 2),.int (9 + 5 * (i:Int))])) C (9 + 5 * i):=⟨_,_,_,upd_same,y0,y1,by omega,by omega⟩
   have J5:=(J.same q4).same q5;have t1:H C=none:=(s3.trans q4).free e2;have s5:=(s3.trans q4).trans q5;generalize upd (upd H3 p4 (.lst (pickV (M.map V.int) (some (1 + (i:Int))) (some 63) (some (2 * 5))))) C (.lst [.int ms.sum,.int (i0 % 2),.int (9 + 5 * (i:Int))])=H5 at D5 J5 s5⊢;have nd:u≠C/\l≠C/\D≠C:=by
    obtain ⟨G,b1,c1,e1,_⟩:=D5;refine ⟨λ z=>?_,λ z=>?_,λ z=>?_⟩
    ·obtain ⟨kv,e,_⟩:=(J.same q4).uw;rw [z,e2] at e;cases e
    ·obtain ⟨kv,e,_⟩:=(J.same q4).ev;rw [z,e2] at e;cases e
    ·have e:=(J.same q4).hn;rw [z,e2] at e;cases e
   have g4 :∀{n:Nat} {Ha Hb:Hp},Same H Ha->Dw C n Ha Hb->Same H Hb:=λ sa wa=>z1c sa (wa.keptL (L:=[C]) (by simp)) λ c B=>by rw [List.mem_singleton.mp B];exact t1
   refine z0q ?_;refine ⟨_,rfl,_,rfl,_,rfl,.inl ⟨D,_,rfl,.inl (SqL.of J5.hn),C,_,_,rfl,D5,by omega,by rw [F0];omega,by rw [F0];omega,λ t6 H6 w6 n5 o1=>?_⟩⟩;obtain ⟨v6,r4,o3⟩:=atI_of (xs:=hs.map V.int) n5 o1;obtain ⟨b,j5,rfl⟩:=List.mem_map.mp o3;have Z:=J5.dw D5 w6 nd;have s6:=g4 s5 w6;have D6:=w6.r;refine .inl ⟨D,_,t6,_,rfl,rfl,SqL.of Z.hn,r4,?_⟩;refine g_name ?_;obtain ⟨a8,b7,v5,f7,l4⟩:=Z.uw;have dg:DGet H6 u (.int b) (valV a8 (.inl b)):=DGet.k (k:=.inl b) b7;refine ⟨_,rfl,_,rfl,u,_,rfl,dg,_,rfl,?_⟩;cases hv:valV a8 (.inl b) with
   | some v=>
    refine iteP rfl ?_;obtain ⟨f,rfl,ow,g5,g0,g2⟩:=l4 _ _ hv;refine z0q ?_;refine ⟨_,rfl,u,rfl,.inl ⟨_,.inl b7⟩,_,rfl,a8,.inl b,.ref f,b7,rfl,hv,?_⟩;refine g_name ?_;have k7:KeptL [u] H6 (upd H6 u (.dK (dropK a8 (.inl b)))):=KeptL.set (by simp);have T7:Tt (kx w) H6 (upd H6 u (.dK (dropK a8 (.inl b)))):=KeptL.tt k7 λ c B=>by rw [List.mem_singleton.mp B];exact .inr ⟨_,b7⟩
    have l6:upd H6 u (.dK (dropK a8 (.inl b))) u=some (.dK (dropK a8 (.inl b))):=upd_same;generalize upd H6 u (.dK (dropK a8 (.inl b)))=H7 at k7 T7 l6⊢;obtain ⟨ys,c7,f0⟩:=Z.ev;have c9:l≠u:=λ z=>by rw [z,b7] at c7;cases c7
    have j0:D≠u:=λ z=>by have:=Z.hn;rw [z,b7] at this;cases this
    have d8 :∀{p:Addr},OwnAt (kx w) H6 S p->p≠u:=λ o z=>by obtain ⟨_,_,_,_,_,_,e,_⟩:=o;rw [z,b7] at e;cases e
    have w3:b∈es.foldl oStep []:=by have:(Sum.inl b:Key)∈a8.map (·.1):=valV_isSomeK.mp (by rw [hv];rfl);rw [f7] at this;obtain ⟨k,hk,e⟩:=List.mem_map.mp this;exact g8 e ▸ hk
    have J7:TaJ (kx w) H7 H pt U u l D S hs i ((es.foldl oStep []).filter λ k=>decide (k≠b)) es:=⟨Z.th.tt T7,Z.st.tups T7.t,⟨_,l6,C0 (zf8 _ _) v5,zh7 f7,λ k v e=>by obtain ⟨p,h1,h2,h3⟩:=l4 k v (zel e);exact ⟨p,h1,h2.tt T7 λ o e=>k7 _ _ (by simp [d8 h2]) e,h3⟩⟩,⟨ys,k7 _ _ (by simp [c9]) c7,z01 (λ _ _ y=>y.tt T7) f0⟩,k7 _ _ (by simp [j0]) Z.hn,Z.ln,Z.wf,Z.cn,Z.hb⟩
    have f6:=ow.tt T7 λ o e=>k7 _ _ (by simp [d8 ow]) e;have D7:DeckAt H7 C (9 + 5 * i + 1):=by obtain ⟨G,b1,c1,e1,z1⟩:=D6;exact ⟨G,b1,c1,k7 _ _ (by simp [V3 nd.1]) e1,z1⟩
    have s7:Same H H7:=z1c s6 k7 λ c B=>by rw [List.mem_singleton.mp B];exact fu
    have h6:f≠C:=λ z=>by obtain ⟨_,_,_,_,_,_,e,_⟩:=f6;obtain ⟨G,b1,c1,e1,_⟩:=D7;rw [z,e1] at e;cases e
    obtain ⟨nm,vb,x,a,k,d,eo,hm,b6,ix,wi,an⟩:=id f6;refine z6z (λ σ1 O=>∃ps' a' xs,KeptL [f] H7 O/\OwnAt (kx w) O S f/\O f=some (.lst (xs++[a']))/\xs.length=3/\AnsI a'/\StsT (kx w) O ps' S (i + 1)/\σ1=[some (.ref sc),some (.int 5),some (.int (i0 % 2)),some (.ref C),some (.ref pt),some (.ref D),some (.int b8),some (.ref ps'),some (.ref l),some (.ref u),some (.int (i:Int)),some (.int b),some (.ref f),x13,x14,x15,x16,x17]) ?_ (λ tl=>?_);rotate_left
    ·refine ⟨_,rfl,.inl ⟨f,_,3,a,rfl,rfl,SqL.of eo,z05 (j:=3) rfl,rfl,_,rfl,?_⟩⟩;by_cases za:a=.non
     ·refine iteP (decide_eq_true za) ?_;obtain ⟨n7,p8⟩:=J7.st;refine ⟨_,rfl,_,rfl,_,rfl,pt,U,f,S,i,n7,nm,vb,x,a,k,d,rfl,J7.th,ok.thw,p8,by omega,eo,hm,b6,ix,wi,zd5 (by omega) eo hm b6 ix wi ?_⟩;rintro p' O k8 j1 ⟨a',xs,e8,l8,ai⟩ f4;exact tl _ _ ⟨p',a',xs,k8,j1,e8,l8,ai,f4,rfl⟩
     ·exact iteN (by rw [decide_eq_false za];decide) (tl _ _ ⟨U,a,[.str nm,.str vb,x],KeptL.refl,f6,eo,rfl,an.resolve_left za,J7.st.le (B3 _),rfl⟩)
    rintro σ8 O ⟨ps',a',xs8,k8,j1,e8,l8,ai,f4,rfl⟩;have T8:Tt (kx w) H7 O:=KeptL.tt k8 λ c B=>by rw [List.mem_singleton.mp B];exact f6.mutAt
    have J8:TaJ (kx w) O H pt U u l D S hs i ((es.foldl oStep []).filter λ k=>decide (k≠b)) es:=J7.tt T8 [f] k8 ⟨by simp [V3 (d8 ow)],by simp [V3 g5],by simp [V3 g0]⟩ λ p hp _=>by rw [List.mem_singleton.mp hp];exact j1
    have D8:DeckAt O C (9 + 5 * i + 1):=by obtain ⟨G,b1,c1,e1,z1⟩:=D7;exact ⟨G,b1,c1,k8 _ _ (by simp [V3 h6]) e1,z1⟩
    have s8:Same H O:=z1c s7 k8 λ c B=>by rw [List.mem_singleton.mp B];exact g2
    refine z0q ?_;refine ⟨_,rfl,.inl ⟨f,_,3,a',rfl,rfl,SqL.of e8,z05 (j:=3) (by rw [P1 (by omega),l8];rfl),?_⟩⟩;refine g_name ?_;refine z6z (λ σ1 H9=>∃a9 n9,Dw C n9 O H9/\AnsI a9/\σ1=[some (.ref sc),some (.int 5),some (.int (i0 % 2)),some (.ref C),some (.ref pt),some (.ref D),some (.int b8),some (.ref ps'),some (.ref l),some (.ref u),some (.int (i:Int)),some (.int b),some (.ref f),some a9,x14,x15,x16,x17]) ?_ (λ m3=>?_);rotate_left
    ·obtain ⟨T0,tg,nt⟩ :∃T0,TagOf O a' T0/\instB T0 "tuple" = false:=by
      rcases ai with ⟨i9,rfl⟩|rfl|rfl
      ·exact ⟨"int",rfl,by decide⟩
      ·exact ⟨"str",rfl,by decide⟩
      ·exact ⟨"str",rfl,by decide⟩
     refine ⟨_,rfl,_,_,T0,rfl,tg,by decide,_,rfl,?_⟩;rw [nt];refine iteF ?_;refine ⟨_,rfl,_,rfl,C,b8,_,rfl,D8,by omega,o4,by omega,λ t9 H9 w9 _ _=>⟨rfl,_,rfl,ite2 (λ _=>?_) λ _=>m3 _ _ ⟨a',_,w9,ai,rfl⟩⟩⟩;refine ⟨_,_,rfl,rfl,p9,_,rfl,w_7,λ l9 h5=>?_⟩;refine ⟨_,rfl,C,7,_,rfl,w9.r.same (Same.upd h5),by omega,by decide,by decide,λ u7 a5 e0 h0 h1=>?_⟩;obtain ⟨X,s0,i8⟩:=atI_of (xs:=[V.str "ok",.str "none",.int 0,.int 1,.int 2,.int (10 ^ (9:Int).toNat),.int (-1)]) h0 h1;refine .inl ⟨l9,_,u7,X,rfl,rfl,SqL.of (e0.k _ _ (w9.r.fresh h5) upd_same),s0,m3 _ _ ⟨X,_,(w9.same (Same.upd h5)).trans e0,?_,rfl⟩⟩;simp only [F1,A0,or_false] at i8;rcases i8 with rfl|rfl|rfl|rfl|rfl|rfl|rfl
     ·exact .inr (.inl rfl)
     ·exact .inr (.inr rfl)
     ·exact .inl ⟨_,rfl⟩
     ·exact .inl ⟨_,rfl⟩
     ·exact .inl ⟨_,rfl⟩
     ·exact .inl ⟨_,rfl⟩
     ·exact .inl ⟨_,rfl⟩
    rintro σ9 H9 ⟨a9,n9,w9,ai9,rfl⟩;have J9:=J8.dw D8 w9 nd;have g9:=f4.tups (w9.tt D8).t;have s9:=g4 s8 w9;obtain ⟨W,d4,k4⟩:=J9.ev;have h9:W.length<=20:=by rw [z03 k4];have:=J9.ln;omega
    refine ⟨_,rfl,.inl ⟨rfl,_,SqL.of d4⟩,_,rfl,_,rfl,w_3,λ a4 m8=>?_⟩;have a0:=Same.upd (o:=.tup [.str "end",.int b,a9]) m8;have f9:upd H9 a4 (.tup [.str "end",.int b,a9]) a4=some (.tup [.str "end",.int b,a9]):=upd_same;have F:=J9.same a0;have j7:=g9.tups (.of a0);generalize upd H9 a4 (.tup [.str "end",.int b,a9])=a5 at a0 f9 F j7⊢;have e5:=a0 _ _ d4;have g3:=z01 (λ _ _ z=>EvQ.tt (.of a0) z) k4;refine ⟨l,W,_,rfl,rfl,e5,O1 h9 (by decide),?_⟩;have d0:KeptL [l] a5 (upd a5 l (.lst (W++[.ref a4]))):=KeptL.set (by simp);have d5:Tt (kx w) a5 (upd a5 l (.lst (W++[.ref a4]))):=KeptL.tt d0 λ c B=>by rw [List.mem_singleton.mp B];exact .inl ⟨_,e5⟩
    have d9:upd a5 l (.lst (W++[.ref a4])) l=some (.lst (W++[.ref a4])):=upd_same;generalize upd a5 l (.lst (W++[.ref a4]))=b5 at d0 d5 d9⊢;obtain ⟨b3,f8,l5,g7,i3⟩:=F.uw;have g1:D≠l:=λ z=>l1 z.symm;have h8:u≠l:=λ z=>c9 z.symm;refine ⟨ps',es++[.fin b a9],⟨F.th.tt d5,j7.tups d5.t,⟨b3,d0 _ _ (by simp [h8]) f8,S4 l5,by rw [Q9];exact g7,λ k v e=>?_⟩,⟨_,d9,?_⟩,d0 _ _ (by simp [g1]) F.hn,?_,EWf.snoc (e:=.fin b a9) F.wf w3,C0 (P5 zla) F.cn,zg4 (e:=.fin b a9) F.hb j5⟩,z1c (s9.trans a0) d0 (λ c B=>by rw [List.mem_singleton.mp B];exact fl),_,_,_,_,_,_,_,_,_,rfl⟩
    ·obtain ⟨p,h1,h2,h3⟩:=i3 k v e;exact ⟨p,h1,h2.tt d5 λ o e=>d0 _ _ (by simp [h3.1]) e,h3⟩
    ·refine z18 (z01 (λ _ _ z=>EvQ.tt d5 z) g3) ?_;have se:=d5.l _ _ f9;refine ⟨⟨a4,rfl,SqT.of se⟩,⟨a4,_,rfl,SqT.of se⟩,?_⟩;rcases ai9 with ⟨i9,rfl⟩|rfl|rfl
     ·exact .inl ⟨_,rfl⟩
     ·exact .inr ⟨_,rfl⟩
     ·exact .inr ⟨_,rfl⟩
    ·rw [K0];exact Z5 F.ln
   | none=>
    refine iteN (by decide) ?_;obtain ⟨ys,c7,f0⟩:=Z.ev;have c9:l≠u:=λ z=>by rw [z,b7] at c7;cases c7
    have v3:ys.length<=20:=by rw [z03 f0];have:=Z.ln;omega
    refine z3s (zkn ?_);refine zdr (α:=Ev×V) (K:=KX w.params) (l:=l) (rs:=es.zip ys) (xs:=ys) (RA:=λ H a v=>a.2=v/\EvQ (kx w) S H a.1 v) (.fin 0 .non,.non) (λ a=>decide (V.str (wordE a.1)=V.str "begin")) (λ a=>a.2) (λ R h=>⟨_,rfl,h⟩) (SqL.of c7) (λ H H' a v s z=>⟨z.1,z.2.tt (.of s)⟩) (zec f0) ?_ ?_ ?_
    ·exact C0 (by rw [List.length_zip];exact Nat.min_le_right _ _) (C0 v3 (by decide))
    ·rintro ⟨z,v⟩ _ v' H7 s7 ⟨rfl,⟨_,⟨p,r,rfl,sqp⟩,_⟩⟩ KT KF h1 h2;refine ⟨[some (.ref p)],rfl,rfl,?_⟩;refine ⟨_,rfl,.inr (.inl ⟨p,_,0,.str (wordE z),rfl,rfl,sqp,z05 (j:=0) rfl,rfl,_,rfl,?_⟩)⟩;by_cases y:decide (V.str (wordE z)=V.str "begin")=true
     ·exact iteP y ⟨_,rfl,h1 y _ (Same.refl _)⟩
     ·exact iteN y (h2 (by simpa using y) _ (Same.refl _))
    intro l7 H7 q7 t8;have q8:=Same.upd (o:=.lst (((es.zip ys).filter λ a=>decide (V.str (wordE a.1)=V.str "begin")).map λ a=>a.2)) t8;refine .inl ⟨l7,_,rfl,.inl (SqL.of upd_same),_,rfl,_,_,rfl,rfl,_,rfl,?_⟩;have J8:=Z.same (q7.trans q8);have D8:=D6.same (q7.trans q8);have s8:=s6.trans (q7.trans q8);generalize upd H7 l7 (.lst (((es.zip ys).filter λ a=>decide (V.str (wordE a.1)=V.str "begin")).map λ a=>a.2))=O at J8 D8 s8⊢;refine ite2 (λ g6=>?_) λ _=>⟨U,es,J8.le,s8,_,_,_,_,_,_,_,_,_,rfl⟩
    have p2:bgN es + 1<=5:=by have g6:=of_decide_eq_true g6;have hz:((es.zip ys).filter λ a=>decide (V.str (wordE a.1)=V.str "begin")).length=bgN es:=zjb (p:=isBg) (z03 f0).symm;rw [F0,hz] at g6;exact Int.ofNat_lt.mp g6
    obtain ⟨yt,l0,k9⟩:=J8.th;have x8:yt.length=S.length:=z03 k9;have w8:=ok.n0;have x4:=ok.n6;refine ⟨_,rfl,_,rfl,_,rfl,.inl ⟨pt,yt,rfl,.inr (SqT.of l0),C,_,_,rfl,D8,by omega,by omega,by omega,λ t9 H9 w9 w0 r9=>?_⟩⟩;obtain ⟨v9,u8,p5⟩:=atI_of (xs:=yt) w0 r9;obtain ⟨j,hj⟩:=List.mem_iff_getElem?.mp p5;obtain ⟨t,ht,b9,rfl,e9⟩:=z0f k9 hj;have i7:=O0 ht;have T9:Tt (kx w) O H9:=w9.tt D8;refine .inr (.inl ⟨pt,yt,t9,_,rfl,rfl,SqT.of (T9.l _ _ l0),u8,b9,_,rfl,SqT.of (T9.l _ _ e9),rfl,_,_,rfl,_,_,rfl,rfl,?_⟩);refine ⟨_,rfl,_,rfl,C,t.2,_,rfl,w9.r,by omega,ok.ks t i7,λ a4 X Y m0 a5 w1 e0 i8 f9 _ b6 ix wi=>⟨a4,_,rfl,SqT.of f9,rfl,_,_,rfl,_,_,rfl,rfl,?_⟩⟩;have j3:=w9.trans e0;have F:=J8.dw D8 j3 nd;have r0:=e0.r;have e4:=g4 s8 j3;obtain ⟨W,e5,g3⟩:=F.ev;have h9:W.length<=20:=by rw [z03 g3];have:=F.ln;omega
    refine ⟨_,rfl,.inl ⟨rfl,_,SqL.of e5⟩,_,rfl,_,rfl,_,rfl,_,rfl,w_5,λ c8 v8=>?_⟩;obtain ⟨b5,v_,d1,u2⟩:=newA (.tup [.str "begin",.int b,.str t.1,.str X,Y]) v8;rw [<-v_];have d9:=d1 _ _ e5;refine ⟨l,W,_,rfl,rfl,d9,O1 h9 (by decide),?_⟩;have d2:KeptL [l] b5 (upd b5 l (.lst (W++[.ref c8]))):=KeptL.set (by simp);have k6:Tt (kx w) b5 (upd b5 l (.lst (W++[.ref c8]))):=KeptL.tt d2 λ c B=>by rw [List.mem_singleton.mp B];exact .inl ⟨_,d9⟩
    have i5:upd b5 l (.lst (W++[.ref c8])) l=some (.lst (W++[.ref c8])):=upd_same;generalize upd b5 l (.lst (W++[.ref c8]))=H12 at d2 k6 i5⊢;obtain ⟨b3,f8,l5,g7,i3⟩:=F.uw;have g1:D≠l:=λ z=>l1 z.symm;have h8:u≠l:=λ z=>c9 z.symm;have j4:Same H H12:=z1c (e4.trans d1) d2 λ c B=>by rw [List.mem_singleton.mp B];exact fl
    have j6:=d2 _ _ (show u∉[l] by simp [h8]) (d1 _ _ f8);have o0:=d2 _ _ (show D∉[l] by simp [g1]) (d1 _ _ F.hn);refine ⟨_,rfl,_,rfl,_,rfl,w_4,λ f b4=>?_⟩;have d3:=Same.upd (o:=.lst [.str t.1,.str X,Y,.non]) b4;have m6:upd H12 f (.lst [.str t.1,.str X,Y,.non]) f=some (.lst [.str t.1,.str X,Y,.non]):=upd_same;have g5:f≠l:=λ z=>by rw [z,i5] at b4;cases b4
    have g0:f≠D:=λ z=>by rw [z,o0] at b4;cases b4
    have d8:f≠u:=λ z=>by rw [z,j6] at b4;cases b4
    have g2:H f=none:=j4.free b4;generalize upd H12 f (.lst [.str t.1,.str X,Y,.non])=H13 at d3 m6⊢;have j8:=d3 _ _ j6;refine ⟨_,rfl,_,rfl,u,_,rfl,DPut.k (k:=.inl b) j8 (O1 (m:=100) (by omega) (by decide)),?_⟩;have d6:KeptL [u] H13 (upd H13 u (.dK (putK b3 (.inl b) (.ref f)))):=KeptL.set (by simp);have k1:Tt (kx w) H13 (upd H13 u (.dK (putK b3 (.inl b) (.ref f)))):=KeptL.tt d6 λ c B=>by rw [List.mem_singleton.mp B];exact .inr ⟨_,j8⟩
    have i4:upd H13 u (.dK (putK b3 (.inl b) (.ref f))) u=some (.dK (putK b3 (.inl b) (.ref f))):=upd_same;generalize upd H13 u (.dK (putK b3 (.inl b) (.ref f)))=H14 at d6 k1 i4⊢;have l2:Tt (kx w) b5 H14:=(k6.trans (.of d3)).trans k1;have T:Tt (kx w) a5 H14:=Tt.trans (.of d1) l2;have kk:KeptL [l,u] a5 H14:=λ c o n e=>by simp only [F1,A0,or_false,not_or] at n;exact d6 _ _ (by simp [n]) (d3 _ _ (d2 _ _ (by simp [n]) (d1 _ _ e)))
    have u3:Same H H14:=z1c (j4.trans d3) d6 λ c B=>by rw [List.mem_singleton.mp B];exact fu
    have j9:=d6 _ _ (show f∉[u] by simp [d8]) m6;have l3:OwnAt (kx w) H14 S f:=⟨t.1,X,Y,.non,t.2,m0,j9,i7,b6,IsDt.mono' T.t _ _ ix,wi.tt T,.inl rfl⟩
    have k2:(Sum.inl b:Key)∉a8.map (·.1):=λ z=>by have:=valV_isSomeK.mpr z;rw [hv] at this;cases this
    have o9:b∉es.foldl oStep []:=λ z=>k2 (by rw [f7];exact List.mem_map.mpr ⟨b,z,rfl⟩);have n8:TaJ (kx w) H14 H pt U u l D S hs (i + 1) ((es++[Ev.beg b (.str t.1) (.str X) Y]).foldl oStep []) (es++[.beg b (.str t.1) (.str X) Y]):=by
     refine ⟨F.th.tt T,(F.st.tups T.t).le (B3 _),⟨_,i4,C0 (zda _ _ _) (by omega),?_,λ k v e=>?_⟩,⟨_,d6 _ _ (show l∉[u] by simp [c9]) (d3 _ _ i5),?_⟩,kk _ _ (by simp [g1,j0]) F.hn,?_,EWf.snoc (e:=.beg b (.str t.1) (.str X) Y) F.wf o9,C0 (P5 zl9) p2,zg4 (e:=.beg b (.str t.1) (.str X) Y) F.hb j5⟩
     ·have o6:(Sum.inl b:Key)∉b3.map (·.1):=by rw [g7,<-f7];exact k2
      rw [Q9,zga o6,u1,g7];show _=((es.foldl oStep [])++[b]).map Sum.inl;rw [u1];rfl
     ·rw [z4d] at e;by_cases z:k=.inl b
      ·rw [if_pos z] at e;cases e;exact ⟨f,rfl,l3,g5,g0,g2⟩
      ·rw [if_neg z] at e;obtain ⟨p,h1,h2,h3⟩:=i3 k v e;refine ⟨p,h1,h2.tt T λ o e=>kk _ _ ?_ e,h3⟩;have:p≠u:=λ y=>by obtain ⟨_,_,_,_,_,_,e,_⟩:=h2;rw [y,f8] at e;cases e
       simp [h3.1,this]
     ·refine z18 (z01 (λ _ _ z=>EvQ.tt T z) g3) ?_;have se:=l2.l _ _ u2;exact ⟨⟨c8,rfl,SqT.of se⟩,⟨c8,_,rfl,SqT.of se⟩,⟨t.1,t.2,X,m0,rfl,rfl,i7,b6,IsDt.mono' T.t _ _ ix,wi.tt T⟩⟩
     ·rw [K0];exact Z5 F.ln
    have e3:DeckAt H14 C w1:=by obtain ⟨G,b1,c1,e1,z1⟩:=r0;exact ⟨G,b1,c1,kk _ _ (by simp [V3 nd.1,V3 nd.2.1]) e1,z1⟩
    have h6:f≠C:=λ z=>by obtain ⟨G,b1,c1,e1,_⟩:=e3;rw [<-z,j9] at e1;cases e1
    refine ⟨_,rfl,C,2,_,rfl,e3,by omega,by decide,by decide,λ x6 i6 d7 _ _=>⟨rfl,_,rfl,?_⟩⟩;have j2:=n8.dw e3 d7 nd;have m4:=g4 u3 d7;have t3:=d7.k _ _ nd.1 i4;have k5:OwnAt (kx w) i6 S f:=l3.tt (d7.tt e3) λ o e=>d7.k _ _ h6 e;refine ite2 (λ _=>?_) λ _=>⟨U,_,j2,m4,_,_,_,_,_,_,_,_,_,rfl⟩
    have o2:DGet i6 u (.int b) (some (.ref f)):=by have:=DGet.k (k:=.inl b) t3;rw [z4d,if_pos rfl] at this;exact this
    obtain ⟨nm,vb,x,a,k,d,eo,hm,b6,ix,wi,an⟩:=id k5;obtain ⟨m9,r1⟩:=F.st.tups (T.trans (d7.tt e3)).t;refine ⟨_,rfl,_,rfl,_,rfl,_,rfl,u,.ref f,rfl,o2,pt,U,f,S,i,m9,nm,vb,x,a,k,d,rfl,j2.th,ok.thw,r1,by omega,eo,hm,b6,ix,wi,zd5 (by omega) eo hm b6 ix wi ?_⟩;rintro p' o7 h4 r7 _ n4;have u5:Tt (kx w) i6 o7:=KeptL.tt h4 λ c B=>by rw [List.mem_singleton.mp B];exact k5.mutAt
    have b0:=j2.tt u5 [f] h4 ⟨by simp [V3 d8],by simp [V3 g5],by simp [V3 g0]⟩ λ p hp _=>by rw [List.mem_singleton.mp hp];exact r7
    exact ⟨p',_,⟨b0.th,n4,b0.uw,b0.ev,b0.hn,b0.ln,b0.wf,b0.cn,b0.hb⟩,z1c m4 h4 (λ c B=>by rw [List.mem_singleton.mp B];exact g2),_,_,_,_,_,_,_,_,_,rfl⟩
  ·rintro σ H3 ⟨U,es,J,s3,x3,Y,x11,x12,x13,x14,x15,x16,x17,rfl⟩;obtain ⟨ys,p0,t2⟩:=J.ev;refine ⟨_,rfl,_,rfl,l,ys,rfl,.inl ⟨SqL.of p0,λ te u9=>⟨w_2,λ t ht=>?_⟩⟩⟩;have sE:=Same.upd (o:=.tup ys) u9;have sF:=sE.trans (Same.upd (o:=.tup [.ref pt,.ref te]) ht);exact q t pt te ys es S _ (s3.trans sF) upd_same ((Same.upd ht) _ _ upd_same) (J.th.tt (.of (K:=KX w.params) sF)) ok p1 (z01 (λ _ _ z=>EvQ.tt (.of sF) z) t2) (C0 J.ln tn) J.wf J.cn ⟨hs,by omega,J.hb⟩
noncomputable def svD:Sv->PyData
 | .num i=>.int i
 | .row ns=>.tuple (ns.map PyData.int)
noncomputable def plD (pl:Pl):PyData:=.tuple [.tuple (pl.1.map λ (n:Nat)=>.int (n:Int)),.tuple (pl.2.map svD)]
theorem zfh {K:b0} {H:Hp} :∀ns:List Int,IsPds K H (ns.map PyData.int) (ns.map V.int)
 | []=>rfl
 | n :: ns=>⟨_,_,rfl,rfl,zfh ns⟩
theorem ziw {K:b0} {H:Hp} :∀ns:List Nat,IsPds K H (ns.map λ (n:Nat)=>.int (n:Int)) (nsV ns)
 | []=>rfl
 | n :: ns=>⟨_,_,rfl,rfl,ziw ns⟩
theorem stz_pd {K:b0} {H:Hp} :∀{s:Sv} {v:V},StZ K H s v->IsPd K H (svD s) v
 | .num _,_,h=>h
 | .row ns,_,h=>h.elim λ p z=>⟨p,_,z.1,z.2,zfh ns⟩
theorem zlq {K:b0} {H:Hp} {ss:List Sv} {vs:List V} (h:All2 (StZ K H) ss vs):IsPds K H (ss.map svD) vs:=by
 induction h with
 | nil=>exact (rfl:([]:List V)=[])
 | cons a r ih=>exact ⟨_,_,rfl,stz_pd a,ih⟩
theorem plz_pd {K:b0} {H:Hp} {p:Addr} {pl:Pl} (h:PlZ K H p pl):IsPd K H (plD pl) (.ref p):=by obtain ⟨e,b,g,a,d,f,c⟩:=h;exact ⟨p,_,rfl,a,_,_,rfl,⟨e,_,rfl,d,ziw _⟩,_,_,rfl,⟨b,_,rfl,f,zlq c⟩,rfl⟩
theorem z3k {α:Type} {f:α->PyData} :∀{xs:List α},(∀x∈xs,plainP (f x)=true)->z0z (xs.map f)=true
 | [],_=>rfl
 | x :: xs,h=>by show (plainP (f x) && z0z (xs.map f))=true;rw [h x R0,z3k λ y a=>h y (W0 _ a)];rfl
theorem z4w {α:Type} {f:α->PyData} {n:Nat} :∀{xs:List α},(∀x∈xs,(f x).depth<=n)->U1 (xs.map f)<=n
 | [],_=>S1 _
 | x :: xs,h=>by have b:=h x R0;have c:=z4w (f:=f) (n:=n) (xs:=xs) λ y a=>h y (W0 _ a);show max (f x).depth (U1 (xs.map f))<=n;omega
theorem zeb (s:Sv):plainP (svD s)=true/\(svD s).depth<=1:=by
 cases s with
 | num i=>exact ⟨rfl,S1 _⟩
 | row ns=>exact ⟨z3k λ _ _=>rfl,by have:=z4w (f:=PyData.int) (n:=0) (xs:=ns) (λ _ _=>u0 _);simp only [svD,j1g];omega⟩
theorem zjs (pl:Pl):plainP (plD pl)=true/\(plD pl).depth<=3:=by
 have b:z0z (pl.1.map λ (n:Nat)=>PyData.int (n:Int))=true:=z3k λ _ _=>rfl;have a:z0z (pl.2.map svD)=true:=z3k λ s _=>(zeb s).1;have c:=z4w (f:=λ (n:Nat)=>PyData.int (n:Int)) (n:=0) (xs:=pl.1) (λ _ _=>u0 _);have d:=z4w (f:=svD) (n:=1) (xs:=pl.2) (λ s _=>(zeb s).2);refine ⟨?_,?_⟩
 ·show (z0z _ && (z0z _ && true))=true;rw [b,a];rfl
 ·unfold plD;simp only [j1g,U1];omega
theorem zj2 {K:b0} {H:Hp} {c:Nat->Bool} {ts:List (Str×Str)} {rs:List Rc} {ps:List DD} {pl:Pl} {k N i:Nat} (gd:All2 (RcGd K H ts) rs ps) (ok:ThW ts) (po:PlOk ts N k pl) (rl:N<=63) (hN:N=rs.length) (hc :∀n,c n=true->n∉pl.1) (hi:i<=N) :∀s∈nexT c ts rs ps pl i,AnsV s.2.1/\∃n r p sv,n < N/\c n=true/\rs[n]? = some r/\ps[n]? = some p/\pl.2[ixT ts p.nm]? = some sv/\SvOk k p.k sv/\s=stq ts p n pl sv:=by
 intro s b;unfold nexT at b;obtain ⟨n,l,e⟩:=List.mem_filterMap.mp b;have l:=List.mem_range.mp l;unfold nexAt at e;cases h:c n with
 | false=>rw [h] at e;cases e
 | true=>
  have d:rs[n]? = some rs[n]:=B0 (by omega);obtain ⟨p,f,g⟩:=z0w gd d;rw [if_pos h,d,f] at e;generalize rs[n]=r at d g e;have q:=ixT_of ok g.2.2.1;obtain ⟨sv,b,m⟩:=z0w po.so q;have e:stp ts r p n pl=some s:=e;rw [stp_of b] at e;cases hb:r.e.isNone || decide ((dz p.k p.vb p.dt sv).2=r.a) with
  | false=>rw [hb] at e;cases e
  | true=>rw [hb] at e;have e:stq ts p n pl sv=s:=Q1 e;have o:=dz_ok g.2.2.2.1 m (po.n63 rl (j:=n) (by omega) (hc n h)).1;rw [<-e];exact ⟨o.2,n,r,p,sv,by omega,h,d,f,b,m,rfl⟩
theorem cP_no {m:Nat} {rs:List Rc} {ns:List Nat} {n:Nat} (h:cP m rs ns n=true):n∉ns:=of_decide_eq_true (Bool.and_eq_true_iff.mp (Bool.and_eq_true_iff.mp h).1).1
theorem new1 {H:Hp} {p:Addr} (o:HO) (h:H p=none) :∃H',H'=upd H p o/\Same H H'/\H' p=some o:=⟨_,rfl,Same.upd h,upd_same⟩
theorem zfd {K:b0} {H:Hp} {m:Nat} {ts:List (Str×Str)} {rs:List Rc} {ps:List DD} {pl:Pl} (gd:All2 (RcGd K H ts) rs ps) (ok:ThW ts) (po:PlOk ts rs.length pl.1.length pl) (rl:rs.length<=63) :∀s∈nexT (cP m rs pl.1) ts rs ps pl rs.length,PlOk ts rs.length s.2.2.1.length s.2.2/\s.2.2.1.length=pl.1.length + 1:=by
 intro s M;obtain ⟨_,n,r,p,w,q,A,D,N,G,y,rfl⟩:=zj2 (c:=cP m rs pl.1) gd ok po rl rfl (λ n h=>cP_no h) (u0 _) s M;have l:=cP_no A;have j:=z82 (pl.1++[n]);have v:(srtN (pl.1++[n])).length=pl.1.length + 1:=by rw [j.length_eq,K0];rfl
 obtain ⟨Q,o,g⟩:=z0w gd D;rw [N] at o;cases o;have E:=dz_ok g.2.2.2.1 y (po.n63 rl q l).1;show PlOk ts rs.length (srtN (pl.1++[n])).length (srtN (pl.1++[n]),pl.2.set (ixT ts p.nm) (dz p.k p.vb p.dt w).1)/\(srtN (pl.1++[n])).length=pl.1.length + 1;refine ⟨⟨?_,λ x F=>?_,?_,.inr (u0 _)⟩,v⟩
 ·refine j.nodup_iff.mpr ?_;rw [Y3];exact ⟨po.nd,by simp,λ a C b L e=>l (by rw [<-List.mem_singleton.mp L,<-e];exact C)⟩
 ·rcases List.mem_append.mp (j.mem_iff.mp F) with z|z
  ·exact po.lt x z
  ·rw [List.mem_singleton.mp z];exact q
 ·rw [v];have B:pl.2.length=ts.length:=z03 po.so;refine z27 (by rw [j07,B]) λ i t O f d=>?_;rw [List.getElem?_set] at d;by_cases z:ixT ts p.nm=i
  ·subst z;have J:=ixT_of ok g.2.2.1;rw [J] at f;cases f;rw [if_pos rfl,if_pos (List.getElem?_eq_some_iff.mp G).1] at d;cases d;exact E.1
  ·rw [if_neg z] at d;obtain ⟨P,u,I⟩:=z0f po.so d;rw [f] at u;cases u;exact I.le (B3 _)
theorem zhy {c:Nat->Bool} {ts:List (Str×Str)} {rs:List Rc} {ps:List DD} {pl:Pl} {i:Nat} {s:Stp} (h:nexAt c ts rs ps pl i=some s):s.1=i/\c i=true:=by
 unfold nexAt at h;cases e:c i with
 | false=>rw [e] at h;cases h
 | true=>
  rw [if_pos e] at h;refine ⟨?_,rfl⟩;cases hr:rs[i]? with
  | none=>rw [hr] at h;cases h
  | some r=>
   cases hp:ps[i]? with
   | none=>rw [hr,hp] at h;cases h
   | some p=>
    rw [hr,hp] at h;have h:stp ts r p i pl=some s:=h;unfold stp at h;cases hs:pl.2[ixT ts p.nm]? with
    | none=>rw [hs] at h;cases h
    | some sv=>
     rw [hs] at h;dsimp only at h;split at h
     ·cases h;rfl
     ·cases h
theorem zgt {m:Nat} {ts:List (Str×Str)} {rs:List Rc} {ps:List DD} {pl:Pl} (nd:pl.1.Nodup) (lt :∀x∈pl.1,x < rs.length):pl.1.length + (nexT (cP m rs pl.1) ts rs ps pl rs.length).length<=rs.length:=by
 have j :∀i,(((nexT (cP m rs pl.1) ts rs ps pl i).map (·.1)).Nodup/\∀x∈(nexT (cP m rs pl.1) ts rs ps pl i).map (·.1),x < i/\x∉pl.1):=λ i=>by
  induction i with
  | zero=>exact ⟨.nil,λ x c=>absurd c A0⟩
  | succ i ih=>
   rw [z4p,u1];cases h:nexAt (cP m rs pl.1) ts rs ps pl i with
   | none=>rw [W8,D4,D2];exact ⟨ih.1,λ x c=>⟨u2 (ih.2 x c).1,(ih.2 x c).2⟩⟩
   | some s=>
    obtain ⟨e,l⟩:=zhy h;rw [Option.toList_some,j1,D4,e];refine ⟨?_,λ x c=>?_⟩
    ·rw [Y3];refine ⟨ih.1,by simp,λ a d b f z=>?_⟩;have:=(ih.2 a d).1;rw [List.mem_singleton.mp f] at z;omega
    ·rcases List.mem_append.mp c with z|z
     ·exact ⟨u2 (ih.2 x z).1,(ih.2 x z).2⟩
     ·rw [List.mem_singleton.mp z];exact ⟨F2 i,cP_no l⟩
 obtain ⟨k,g⟩:=j rs.length;have:=z4i rs.length (pl.1++(nexT (cP m rs pl.1) ts rs ps pl rs.length).map (·.1)) (by
  rw [Y3];exact ⟨nd,k,λ a d b f e=>(g b f).2 (e ▸ d)⟩) λ x c=>by
   rcases List.mem_append.mp c with z|z
   ·exact lt x z
   ·exact (g x z).1
 rwa [K0,F0] at this
theorem z5y {α:Type} {f:α->PyData} :∀{xs:List α},(∀x∈xs,keyD (f x)=true)->keyDs (xs.map f)=true
 | [],_=>rfl
 | x :: xs,h=>by show (keyD (f x) && keyDs (xs.map f))=true;rw [h x R0,z5y λ y a=>h y (W0 _ a)];rfl
theorem sv_key (s:Sv):keyD (svD s)=true:=by
 cases s with
 | num i=>rfl
 | row ns=>exact z5y λ _ _=>rfl
theorem pl_key (pl:Pl):keyD (plD pl)=true:=by have a:keyDs (pl.1.map λ (n:Nat)=>PyData.int (n:Int))=true:=z5y λ _ _=>rfl;have b:keyDs (pl.2.map svD)=true:=z5y λ s _=>sv_key s;show (keyDs _ && (keyDs _ && true))=true;rw [a,b];rfl
theorem pl_dep (pl:Pl):(plD pl).depth<=7:=C0 (zjs pl).2 (by decide)
theorem z8w :∀{xs ys:List PyData},(∀(i:Nat) x y,xs[i]? = some x->ys[i]? = some y->(ltD x y).isSome=true)->(ltDs xs ys).isSome=true
 | [],_,_=>by unfold ltDs;rfl
 | _ :: _,[],_=>by unfold ltDs;rfl
 | x :: xs,y :: ys,h=>by
  unfold ltDs;dsimp only;split
  ·exact z8w λ i a b c d=>h (i + 1) a b c d
  ·exact h 0 x y rfl rfl
theorem zjg (xs ys:List Int):(ltD (.tuple (xs.map PyData.int)) (.tuple (ys.map PyData.int))).isSome=true:=by unfold ltD;refine z8w λ i x y d c=>?_;rw [V0] at d c;obtain ⟨a,_,rfl⟩:=Option.map_eq_some_iff.mp d;obtain ⟨b,_,rfl⟩:=Option.map_eq_some_iff.mp c;unfold ltD;rfl
theorem lt_sv {k:Str} {n n':Nat} {s s':Sv} (h:SvOk n k s) (h':SvOk n' k s'):(ltD (svD s) (svD s')).isSome=true:=by
 cases s with
 | num i=>
  cases s' with
  | num j=>show (ltD (.int i) (.int j)).isSome=true;unfold ltD;rfl
  | row ns=>exact absurd h'.1 h.1
 | row ns=>
  cases s' with
  | num j=>exact absurd h.1 h'.1
  | row ms=>exact zjg ns ms
theorem lt_pl {ts:List (Str×Str)} {N n n':Nat} {pl pl':Pl} (h:PlOk ts N n pl) (h':PlOk ts N n' pl'):(ltD (plD pl) (plD pl')).isSome=true:=by
 unfold plD ltD;refine z8w λ i x y c d=>?_
 match i,c,d with
 | 0,c,d=>
  cases c;cases d;have e :∀f:List Nat,(f.map λ (n:Nat)=>PyData.int (n:Int))=(f.map λ (n:Nat)=>(n:Int)).map PyData.int:=λ f=>by rw [v3];rfl
  rw [e,e];exact zjg _ _
 | 1,c,d=>cases c;cases d;unfold ltD;refine z8w λ i x y c d=>?_;rw [V0] at c d;obtain ⟨a,k,rfl⟩:=Option.map_eq_some_iff.mp c;obtain ⟨b,l,rfl⟩:=Option.map_eq_some_iff.mp d;obtain ⟨t,o,g⟩:=z0f h.so k;obtain ⟨p,j,m⟩:=z0f h'.so l;rw [o] at j;cases j;exact lt_sv g m
 | i + 2,c,d=>cases c
theorem pl_tup (pl:Pl) :∃xs ys,plD pl=.tuple (.tuple xs :: ys):=⟨_,_,rfl⟩
theorem zca (ts:List (Str×Str)) (N:Nat):PlOk ts N 0 ([],ts.map λ t=>zeroK t.2):=⟨.nil,λ _ h=>absurd h A0,by refine z27 (by rw [F0]) λ i t s b a=>?_;rw [V0,b] at a;cases a;exact zfr _,.inl (S1 _)⟩
noncomputable def wkN:Nat->Nat
 | 0=>1
 | n + 1=>1 + (n + 1) * (wkN n + 1)
noncomputable def wkP (N:Nat) (ws:List Pl):Nat:=(ws.map λ pl=>wkN (N - pl.1.length)).sum
theorem zfx {N:Nat} {xs ys:List Pl}:wkP N (xs++ys)=wkP N xs + wkP N ys:=by unfold wkP;rw [u1,List.sum_append]
theorem zge {N:Nat} {x:Pl}:wkP N [x]=wkN (N - x.1.length):=by unfold wkP;simp
theorem zlv :∀{a b:Sv},svD a=svD b->a=b
 | .num i,.num j,h=>by injection h with h;rw [h]
 | .num _,.row _,h=>by cases h
 | .row _,.num _,h=>by cases h
 | .row xs,.row c,h=>by
  injection h with h;have:xs=c:=by
   have inj :∀{xs c:List Int},xs.map PyData.int=c.map PyData.int->xs=c:=λ {xs}=>by
    induction xs with
    | nil=>intro c h;cases c with|nil=>rfl|cons y r=>cases h
    | cons x r ih=>
     intro c h;cases c with
     | nil=>cases h
     | cons y s=>rw [j1,j1] at h;injection h with h1 h2;injection h1 with h1;rw [h1,ih h2]
   exact inj h
  rw [this]
theorem zfi {α β:Type} {f:α->β} (hf :∀a b,f a=f b->a=b) :∀{xs ys:List α},xs.map f=ys.map f->xs=ys
 | [],[],_=>rfl
 | [],_ :: _,h=>by cases h
 | _ :: _,[],h=>by cases h
 | x :: xs,y :: ys,h=>by rw [j1,j1] at h;injection h with h1 h2;rw [hf _ _ h1,zfi hf h2]
theorem zlx {a b:Pl} (h:plD a=plD b):a=b:=by unfold plD at h;injection h with h;injection h with h1 h2;injection h2 with h2 _;injection h1 with h1;injection h2 with h2;have c:a.1=b.1:=zfi (λ x y z=>by injection z with z;omega) h1;have d:a.2=b.2:=zfi (λ x y z=>zlv z) h2;exact j0j c d
noncomputable abbrev Oa:=Nat×V
noncomputable abbrev nxT (m:Nat) (ts:List (Str×Str)) (rs:List Rc) (ps:List DD) (pl:Pl):List Stp:=nexT (cP m rs pl.1) ts rs ps pl rs.length
inductive Wk (m:Nat) (ts:List (Str×Str)) (rs:List Rc) (ps:List DD):List Oa->Pl->Prop
 | nil:Wk m ts rs ps [] ([],ts.map λ t=>zeroK t.2)
 | snoc {o:List Oa} {pl:Pl} {s:Stp}:Wk m ts rs ps o pl->s∈nxT m ts rs ps pl->Wk m ts rs ps (o++[(s.1,s.2.1)]) s.2.2
def FullP (rs:List Rc) (pl:Pl):Prop:=∀n r,rs[n]? = some r->r.e.isSome=true->n∈pl.1
theorem zal {m:Nat} {ts:List (Str×Str)} {rs:List Rc} {ps:List DD} {G:Pl->Prop} (h0:G ([],ts.map λ t=>zeroK t.2)) (hs :∀pl,G pl->∀s∈nxT m ts rs ps pl,G s.2.2) :∀{o:List Oa} {pl:Pl},Wk m ts rs ps o pl->G pl
 | _,_,.nil=>h0
 | _,_,.snoc w h=>hs _ (zal h0 hs w) _ h
theorem tn_x {D:Ends} {σ:L2.St} {H:Hp} (h:D.nx σ H):tNext D σ H:=h
theorem z8n {c:TT} {tb:TS} {D:Ends} {σ:L2.St} {H:Hp} (W B:Nat->L2.St->Hp->Prop) (m0:Nat) (w0:W m0 σ H)
  (body :∀m σ H1,B m σ H1->tb { D with nx:=λ σ' H'=>∃m',m' < m/\W m' σ' H',ct:=λ σ' H'=>∃m',m' < m/\W m' σ' H',bk:=D.nx } σ H1)
  (cond :∀m σ H,W m σ H->(∀H1,B m σ H1->∃N:L2.St->Hp->Prop,(∀σ' H',N σ' H'->∃m',m' < m/\W m' σ' H')/\tb { D with nx:=N,ct:=N,bk:=D.nx } σ H1)->c σ H λ b H1=>if b=true then∃N:L2.St->Hp->Prop,(∀σ' H',N σ' H'->∃m',m' < m/\W m' σ' H')/\tb { D with nx:=N,ct:=N,bk:=D.nx } σ H1 else D.nx σ H1):tWhile c tb D σ H:=
 ⟨W,⟨m0,w0⟩,λ m σ H h=>cond m σ H h λ H1 b=>⟨_,λ _ _ z=>z,body m σ H1 b⟩⟩
def KeyI (K:b0) (H:Hp) (G:Pl->Prop) (ks:List (PyData×Addr)):Prop:=∀k∈ks,∃pl,k.1=plD pl/\PlZ K H k.2 pl/\G pl
theorem KeyI.same {K:b0} {H H':Hp} {G:Pl->Prop} {ks:List (PyData×Addr)} (s:Same H H') (h:KeyI K H G ks):KeyI K H' G ks:=λ k b=>(h k b).elim λ a z=>⟨a,z.1,z.2.1.tups (.of s),z.2.2⟩
theorem KeyI.put {K:b0} {H:Hp} {G:Pl->Prop} {ks:List (PyData×Addr)} {pl:Pl} {b:Addr} (h:KeyI K H G ks) (z:PlZ K H b pl) (g:G pl):KeyI K H G (putN ks (plD pl) b):=λ k a=>by
 unfold L2.putN at a;split at a
 ·exact h k a
 ·rcases List.mem_append.mp a with y|y
  ·exact h k y
  ·rw [List.mem_singleton.mp y];exact ⟨pl,rfl,z,g⟩
theorem KeyI.at_ {K:b0} {H:Hp} {G:Pl->Prop} {ks:List (PyData×Addr)} {a:Addr} (r:Rd H a (NsO a ks)) (h:KeyI K H G ks):NsAt K H a ks:=⟨r,λ k c=>by obtain ⟨b,e,z,_⟩:=h k c;rw [e];exact ⟨pl_key b,pl_dep b,plz_pd z⟩⟩
theorem zhx {K:b0} {H:Hp} {r:Addr} {f:Heap->Prop} (e:H r=some (.ext f)):Tups K H (hide r H):=λ a b h=>by
 rcases h with (h|⟨ob,h⟩)|h
 ·exact .inl (.inl (z1f (λ z=>by rw [z,e] at h;cases h) h))
 ·exact .inl (.inr ⟨ob,z1f (λ z=>by rw [z,e] at h;cases h) h⟩)
 ·exact .inr h
theorem zb3 {c:TT} {tb rest:TS} {D:Ends} {σ:L2.St} {H:Hp} (h:tWhile c tb { D with nx:=rest D } σ H):tSeq (tWhile c tb) rest D σ H:=h
noncomputable def hid2 (a b:Addr) (H:Hp):Hp:=hide a (hide b H)
theorem zd6 {a b:Addr} {H H':Hp} (s:Same H H'):Same (hid2 a b H) (hid2 a b H'):=z4z (z4z s)
theorem hid2_same {a b:Addr} {H:Hp}:Same (hid2 a b H) H:=hide_same.trans hide_same
theorem hid2_b {a b:Addr} {H:Hp} {o:HO}:hid2 a b (upd H b o)=hid2 a b H:=by unfold hid2;rw [z6b]
theorem hid2_a {a b:Addr} {H:Hp} {o:HO}:hid2 a b (upd H a o)=hid2 a b H:=by
 funext p;unfold hid2 hide;by_cases z:p=a
 ·rw [if_pos z,if_pos z]
 ·rw [if_neg z,if_neg z,upd_ne z]
theorem z51 {a b p:Addr} {H:Hp} {o:HO} (n1:p≠a) (n2:p≠b) (e:H p=some o):hid2 a b H p=some o:=z1f n1 (z1f n2 e)
theorem zks {a b:Addr} {H H':Hp} (n1:H a=none) (n2:H b=none) (s:Same H H'):Same H (hid2 a b H'):=λ p o e=>z51 (λ z=>by rw [z,n1] at e;cases e) (λ z=>by rw [z,n2] at e;cases e) (s _ _ e)
theorem zi7 {K:b0} {a b:Addr} {H:Hp} {f:Heap->Prop} {xs:List V} (ea:H a=some (.ext f)) (eb:H b=some (.lst xs)):Tups K H (hid2 a b H):=λ p xs h=>by
 rcases h with (h|⟨ob,h⟩)|h
 ·exact .inl (.inl (z51 (λ z=>by rw [z,ea] at h;cases h) (λ z=>by rw [z,eb] at h;cases h) h))
 ·exact .inl (.inr ⟨ob,z51 (λ z=>by rw [z,ea] at h;cases h) (λ z=>by rw [z,eb] at h;cases h) h⟩)
 ·exact .inr h
theorem wk_pos :∀n,1<=wkN n
 | 0=>u0 _
 | n + 1=>by unfold wkN;omega
theorem zix {N:Nat} :∀ws:List Pl,ws.length<=wkP N ws
 | []=>S1 _
 | w :: ws=>by
  have a:=zix (N:=N) ws;have c:wkP N (w :: ws)=wkN (N - w.1.length) + wkP N ws:=by
   have:=zfx (N:=N) (xs:=[w]) (ys:=ws)
   rwa [zge] at this
  have b:=wk_pos (N - w.1.length);rw [P0];omega
theorem zlg :∀{n j:Nat},j<=n->j * wkN (n - 1) + j < wkN n
 | 0,j,h=>by rw [Nat.le_zero.mp h];decide
 | n + 1,j,h=>by have:=r6 (wkN n + 1) h;have e:j * (wkN n + 1)=j * wkN n + j:=Nat.mul_succ _ _;show j * wkN n + j < 1 + (n + 1) * (wkN n + 1);omega
theorem zka {α β:Type} {R:α->β->Prop} {xs:List α} {ys:List β} (h:All2 R xs ys):All2 R xs.reverse ys.reverse:=by
 induction h with
 | nil=>exact .nil
 | cons a r ih=>rw [List.reverse_cons,List.reverse_cons];exact z18 ih a
theorem KeyI.mono {K:b0} {H:Hp} {G G':Pl->Prop} {ks:List (PyData×Addr)} (g :∀pl,G pl->G' pl) (h:KeyI K H G ks):KeyI K H G' ks:=λ k a=>(h k a).elim λ pl z=>⟨pl,z.1,z.2.1,g pl z.2.2⟩
theorem zie {ks:List (PyData×Addr)} {d:PyData} {b:Addr}:d∈(putN ks d b).map (·.1):=by
 unfold L2.putN;split
 ·assumption
 ·rw [u1];exact List.mem_append.mpr (.inr (List.mem_singleton.mpr rfl))
theorem zfq {ks:List (PyData×Addr)} {d e:PyData} {b:Addr} (h:e∈ks.map (·.1)):e∈(putN ks d b).map (·.1):=by
 unfold L2.putN;split
 ·exact h
 ·rw [u1];exact List.mem_append.mpr (.inl h)
def z32 (K:b0):Sp:=λ vs H Q _=>∃(b pp:Addr) (m:Nat) (rs:List Rc) (ts:List (Str×Str)) (ps:List DD) (pl:Pl),vs=[.ref b,.ref pp]/\BoAt K H m rs ts ps b/\rs.length<=63/\PlZ K H pp pl/\∀b H',Same H H'->(b=true↔FullP rs pl)->Q (.bl b) H'
theorem z62 (T:TX (kx w) mg) (c0:Ca P w mg base "holds_all" ["done","numbers"] 1 (z66 (kx w))):Fo P w mg base CX0 2 283 y04 ["self","place"] (z32 (kx w)):=by
 refine (z3q w.params).ok z6c (λ f H Q E h=>?_) (λ N A K s H f Q E x h=>?_)
 ·obtain ⟨b,e,m,l,u,z,i,rfl,_⟩:=h;rfl
 ·obtain ⟨b,e,m,l,u,z,i,rfl,⟨k,fs,y,D⟩,O,⟨g,M,f,C,I,L,sz⟩,q⟩:=h;refine ⟨_,(z04 (ps_ret (pe_cal c0 (x.mono (by decide)) rfl (z00 (pe_ix ix_seq (pv 1) pe_int (λ _ _=>rfl)) (z00 (pe_fld (pv 0) rfl) pa_nil))))),?_⟩;obtain ⟨le,G,J,o,c⟩:=D.ended;refine ⟨_,rfl,.inr (.inl ⟨e,_,0,.ref g,rfl,rfl,C,z05 (j:=0) rfl,?_⟩)⟩;refine ⟨_,rfl,b,_,k,fs,_,rfl,y,z15 _,z4f _,J,?_⟩;refine ⟨g,le,i.1,G,rfl,I,o,by have:=c.1;omega,λ t v p F=>q t v p (F.trans ⟨λ h n r d a=>h n ((c.2 n).mpr ⟨r,d,a⟩),λ h n B=>?_⟩)⟩;obtain ⟨r,d,a⟩:=(c.2 n).mp B;exact h n r d a
def TlP (K:b0) (H:Hp) (t:Addr) (ts:List (Str×Str)) (es:List Ev) (ps:List DD):Prop:=TaleAt K H t ts es/\ThW ts/\es.length<=63/\EWf [] es/\All2 (RcGd K H ts) (dAll 0 [] es) ps/\(dAll 0 [] es).length<=5
theorem TlP.same {K:b0} {H H':Hp} {t:Addr} {ts:List (Str×Str)} {es:List Ev} {ps:List DD} (s:Same H H') (h:TlP K H t ts es ps):TlP K H' t ts es ps:=⟨h.1.tt (.of s),h.2.1,h.2.2.1,h.2.2.2.1,z01 (λ _ _ z=>RcGd.tt (.of s) z) h.2.2.2.2.1,h.2.2.2.2.2⟩
theorem zeq {i:Nat} {rest:TS} {D:Ends} {σ:L2.St} {H:Hp} {tA:TA} {t:Addr} {ts:List (Str×Str)} {es:List Ev} {ps:List DD} {m:Nat} (tp:TlP (kx w) H t ts es ps) (ha :∀R:List V->Hp->Prop,R [.ref t,.str (z1a m)] H->tA σ H R)
  (q :∀x dx fs H1,Same H H1->(dAll 0 [] es).length<=5->ThW ts->All2 (RcGd (kx w) H1 ts) (dAll 0 [] es) ps->H1 x=some (.ins 293 dx fs)->BoF (kx w) H1 m (dAll 0 [] es) ts ps fs->rest D (σ.set i (some (.ref x))) H1):tSeq (tAsg (tMake 293 (z0u (kx w)) [] E0 tA) (gName i)) rest D σ H:=by
 obtain ⟨p,ok,l,j,b,n⟩:=tp;refine ha _ λ x dx d a o=>?_;have h:Same H (upd (upd H dx (.own x)) x (.ins 293 dx [])):=(Same.upd a).trans (Same.upd (by rw [upd_ne o.symm];exact d));have e:Tt (kx w) H (upd (upd H dx (.own x)) x (.ins 293 dx [])):=.of h;refine ⟨x,dx,t,ts,es,ps,m,rfl,upd_same,p.tt e,ok,l,j,z01 (λ _ _ z=>RcGd.tt e z) b,λ fs H1 g k f=>⟨rfl,?_⟩⟩;have c:Same H H1:=zd3 d a g;exact q x dx fs H1 c n ok (z01 (λ _ _ z=>RcGd.tt (.of c) z) b) k f
def OaAt (H:Hp) (o:Oa) (y:V):Prop:=∃p,y=.ref p/\H p=some (.tup [.int (o.1:Nat),o.2])
theorem OaAt.same {H H':Hp} {o:Oa} {y:V} (s:Same H H') (h:OaAt H o y):OaAt H' o y:=h.elim λ p z=>⟨p,z.1,s _ _ z.2⟩
def WtAt (K:b0) (H:Hp) (q:List Oa×Pl) (y:V):Prop:=∃p l p2 xs,y=.ref p/\H p=some (.tup [.ref l,.ref p2])/\H l=some (.lst xs)/\All2 (OaAt H) q.1 xs/\PlZ K H p2 q.2
theorem WtAt.same {K:b0} {H H':Hp} {q:List Oa×Pl} {y:V} (s:Same H H') (h:WtAt K H q y):WtAt K H' q y:=by obtain ⟨p,l,e,d,a,c,g,b,f⟩:=h;exact ⟨p,l,e,d,a,s _ _ c,s _ _ g,z01 (λ _ _ z=>z.same s) b,f.tups (.of s)⟩
theorem zhw {α β:Type} {R:α->β->Prop} {xs:List α} {ys:List β} {y:β} (h:All2 R xs (ys++[y])) :∃xr x,xs=xr++[x]/\All2 R xr ys/\R x y:=by
 induction ys generalizing xs with
 | nil=>
  cases h with
  | cons a r=>cases r;exact ⟨[],_,rfl,.nil,a⟩
 | cons z ys ih=>
  cases h with
  | cons a r=>obtain ⟨xr,x,rfl,b,c⟩:=ih r;exact ⟨_ :: xr,x,rfl,.cons a b,c⟩
theorem wkN_5 {n:Nat} (h:n<=5):wkN n<=651:=(by decide :∀n,n < 6->wkN n<=651) n (by omega)
def WqOk (m:Nat) (ts:List (Str×Str)) (rs:List Rc) (ps:List DD) (q:List Oa×Pl):Prop:=PlOk ts rs.length q.2.1.length q.2/\Wk m ts rs ps q.1 q.2/\q.1.length=q.2.1.length
structure Lk (m:Nat) (ts:List (Str×Str)) (rs:List Rc) (ps:List DD) (vis:List Pl) (ds:List PyData):Prop where
 c :∀pl∈vis,¬ FullP rs pl/\∀s∈nxT m ts rs ps pl,plD s.2.2∈ds
def z5x (K:b0):Sp:=λ vs H Q _=>∃(t:Addr) (ts:List (Str×Str)) (es:List Ev) (ps:List DD) (m:Nat),vs=[.ref t,.str (z1a m)]/\TlP K H t ts es ps/\
 (∀H',Same H H'->(∀o pl,Wk m ts (dAll 0 [] es) ps o pl->¬ FullP (dAll 0 [] es) pl)->Q .non H')/\∀l xs o pl H',Same H H'->H' l=some (.lst xs)->All2 (OaAt H') o xs->Wk m ts (dAll 0 [] es) ps o pl->FullP (dAll 0 [] es) pl->Q (.ref l) H'
theorem zhv (T:TX (kx w) mg) (c0:Fo P w mg base (CXE P w base) 5 269 y03 ["self","tale","strictness"] (z0u (kx w))) (c1:Fo P w mg base CX0 2 283 y04 ["self","place"] (z32 (kx w))) (c2:Fo P w mg base CX0 7 276 y00 ["self","place"] (z11 (kx w))):Fo P w mg base CX0 8 340 y2d ["tale","strictness"] (z5x (kx w)):=by
 refine (zbw w.params).ok sc_judged (λ vs H Q E h=>?_) (λ i9 A j0 s H vs Q E hr h=>?_)
 ·obtain ⟨t,ts,es,ps,m,rfl,_⟩:=h;rfl
 ·obtain ⟨t,ts,es,ps,m,rfl,tp,qn,q⟩:=h;refine ⟨_,(z02 (ps_set (i:=2) sc_judged.nd rfl (Y0 rfl) (zgk (zeo _) c0 (hr.mono (by decide)) rfl (T.of (zje _)) (z3e _) .nil passN (z00 (pv 0) (z00 (pv 1) pa_nil))))
   (z02 (ps_set (i:=3) sc_judged.nd rfl (Y0 rfl) zer)
   (z02 (ps_set (i:=4) sc_judged.nd rfl (Y0 rfl) (pe_lst (z00 (pe_tup (z00 (pe_lst pa_nil) (z00 (pe_fld (pv 2) rfl) pa_nil))) pa_nil)))
   (z02 (zbq R1 (z07 op_gt (z09 z0s rfl (T.no (n_len _)) E3 (z00 (pv 4) pa_nil)) pe_int (nomark _))
   (z02 (ps_set (i:=5) sc_judged.nd rfl (Y0 rfl) (zlk (pv 4)))
   (z02 (ps_if (pt_val (zcd (pv 2) (z15 _) (z64 _) c1 (hr.mono (by decide)) (z79 _) .nil pass0 (z00 (pe_ix ix_seq (pv 5) pe_int (λ _ _=>rfl)) pa_nil)) (λ _=>rfl))
   (z04 (ps_ret (pe_ix ix_seq (pv 5) pe_int (λ _ _=>rfl))))
   z0b)
   (z04 (ps_for R1 rfl (zlt rfl (T.no (zfb _)) (zcd (pv 2) (z15 _) (z1r _) c2 (hr.mono (by decide)) (z2a _) .nil pass0 (z00 (pe_ix ix_seq (pv 5) pe_int (λ _ _=>rfl)) pa_nil))) (pg_tup rfl (z0d (z0h (i:=6) sc_judged.nd rfl (Y0 rfl)) (z0d (z0h (i:=7) sc_judged.nd rfl (Y0 rfl)) (z0d (z0h (i:=8) sc_judged.nd rfl (Y0 rfl)) z1b))))
   (z04 (ps_if (z07 (zhs hr) (pv 8) (pv 3) (by with_unfolding_all rfl))
   (z02 (zjc hr (pv 3) (pv 8) pe_bl rfl)
   (z04 (z33 (z1h (pv 4) (z00 (pe_tup (z00 (pe_op opAdd (pe_ix ix_seq (pv 5) pe_int (λ _ _=>rfl)) (pe_lst (z00 (pe_tup (z00 (pv 6) (z00 (pv 7) pa_nil))) pa_nil))) (z00 (pv 8) pa_nil))) pa_nil)))))
   z0b)))))))
   (z04 (ps_ret pe_non)))))),?_⟩
  refine zeq tp (λ R h=>⟨_,rfl,_,rfl,h⟩) λ x dx fs O s1 rl ok c6 e1 bf=>?_;have bo:BoAt (kx w) O m (dAll 0 [] es) ts ps x:=⟨dx,fs,e1,bf⟩
  obtain ⟨p0,g9,h3⟩:=bf.first;generalize dAll 0 [] es=rs at rl c6 bo bf qn q;refine z0q ?_;intro f c3;refine g_name ?_;have s2:=Same.upd (o:=NsO f []) c3;have e2:upd O f (NsO f []) f=some (NsO f []):=upd_same;have f8:Same O (hide f (upd O f (NsO f []))):=λ p o e=>z1f (λ z=>by rw [z,c3] at e;cases e) (s2 _ _ e);generalize upd O f (NsO f [])=H2 at s2 e2 f8⊢;refine z0q ?_;refine ⟨w_0,λ K a6=>⟨_,rfl,x,_,dx,fs,_,rfl,(s2.trans (Same.upd a6)) _ _ e1,z15 _,z2b _,g9,w_2,λ I b7=>⟨w_1,λ n W=>?_⟩⟩⟩;refine g_name ?_;have f1:O n=none:=((s2.trans (Same.upd a6)).trans (Same.upd b7)).free W;have D:=Same.upd (o:=.lst []) a6;have q1:=Same.upd (o:=.tup [.ref K,.ref p0]) b7;have q2:=Same.upd (o:=.lst [.ref I]) W;have i4:K≠f:=λ z=>by rw [z,e2] at a6;cases a6
  have f3:I≠f:=λ z=>by rw [z,D _ _ e2] at b7;cases b7
  have d2:f≠n:=λ z=>by rw [<-z,q1 _ _ (D _ _ e2)] at W;cases W
  have i2:K≠n:=λ z=>by rw [<-z,q1 _ _ upd_same] at W;cases W
  have h2:I≠n:=λ z=>by rw [<-z,upd_same] at W;cases W
  have g0:=q2 _ _ (q1 _ _ (upd_same (H:=H2) (a:=K) (o:=.lst [])));have g1:=q2 _ _ (upd_same (H:=upd H2 K (.lst [])) (a:=I) (o:=.tup [.ref K,.ref p0]));have g2:=upd_same (H:=upd (upd H2 K (.lst [])) I (.tup [.ref K,.ref p0])) (a:=n) (o:=.lst [.ref I]);have g3:=q2 _ _ (q1 _ _ (D _ _ e2));have s3:=zks c3 f1 (s2.trans ((D.trans q1).trans q2));generalize upd (upd (upd H2 K (.lst [])) I (.tup [.ref K,.ref p0])) n (.lst [.ref I])=H3 at g0 g1 g2 g3 s3⊢;refine zb3 (z8n (λ k σ C=>∃ks zs ws vis x5 x6 x7 x8,k=wkP rs.length (ws.map (·.2))/\Same O (hid2 f n C)/\C f=some (NsO f ks)/\C n=some (.lst zs)/\KeyI (kx w) (hid2 f n C) (λ u=>u∈vis\/u∈ws.map (·.2)) ks/\All2 (WtAt (kx w) (hid2 f n C)) ws zs/\(∀q∈ws,WqOk m ts rs ps q)/\Lk m ts rs ps vis (ks.map (·.1))/\(([],ts.map λ t=>zeroK t.2)∈vis\/([],ts.map λ t=>zeroK t.2)∈ws.map (·.2))/\ks.length + wkP rs.length (ws.map (·.2))<=651/\σ=[some (.ref t),some (.str (z1a m)),some (.ref x),some (.ref f),some (.ref n),x5,x6,x7,x8])
   (λ k σ C=>∃ks zs y ws D vis x5 x6 x7 x8,k=wkP rs.length ((ws++[D]).map (·.2))/\Same O (hid2 f n C)/\C f=some (NsO f ks)/\C n=some (.lst (zs++[y]))/\KeyI (kx w) (hid2 f n C) (λ u=>u∈vis\/u∈(ws++[D]).map (·.2)) ks/\All2 (WtAt (kx w) (hid2 f n C)) ws zs/\WtAt (kx w) (hid2 f n C) D y/\(∀q∈ws++[D],WqOk m ts rs ps q)/\Lk m ts rs ps vis (ks.map (·.1))/\(([],ts.map λ t=>zeroK t.2)∈vis\/([],ts.map λ t=>zeroK t.2)∈(ws++[D]).map (·.2))/\ks.length + wkP rs.length ((ws++[D]).map (·.2))<=651/\σ=[some (.ref t),some (.str (z1a m)),some (.ref x),some (.ref f),some (.ref n),x5,x6,x7,x8])
   (wkP rs.length [([],ts.map λ t=>zeroK t.2)]) ⟨[],[.ref I],[([],([],ts.map λ t=>zeroK t.2))],[],_,_,_,_,rfl,s3,g3,g2,λ k hk=>absurd hk A0,.cons ⟨I,K,p0,[],rfl,z51 f3 h2 g1,z51 i4 i2 g0,.nil,h3.tups (.of s3)⟩ .nil,λ u hp=>by rw [List.mem_singleton.mp hp];exact ⟨zca ts _,.nil,rfl⟩,⟨λ _ h=>absurd h A0⟩,.inr (List.mem_singleton.mpr rfl),by show 0 + wkP rs.length [([],ts.map λ t=>zeroK t.2)]<=651;rw [zge,m8];exact wkN_5 (C0 (Nat.sub_le _ _) rl),rfl⟩ ?_ ?_)
  ·rintro k σ Z ⟨ks,zs,y,ws,⟨o,u⟩,vis,x5,x6,x7,x8,rfl,s4,es4,ew4,ki,aw,⟨p,l,p2,xs,rfl,ep,el,ax,pz⟩,po,lk,fv,kw,rfl⟩;obtain ⟨X,wk,ol⟩:=po _ (List.mem_append.mpr (.inr (List.mem_singleton.mpr rfl)));change PlOk ts rs.length u.1.length u at X;change o.length=u.1.length at ol;have po :∀q∈ws,WqOk m ts rs ps q:=λ q hq=>po q (List.mem_append.mpr (.inl hq));have mm :∀{a:Pl},a∈vis\/a∈(ws++[(o,u)]).map (·.2)->a∈u :: vis\/a∈ws.map (·.2):=λ {a} h=>by
    rcases h with h|h
    ·exact .inl (W0 _ h)
    ·rw [u1] at h;rcases List.mem_append.mp h with h|h
     ·exact .inr h
     ·rw [List.mem_singleton.mp h];exact .inl R0
   refine z0q ?_;refine ⟨_,rfl,.inl ⟨rfl,_,SqL.of ew4⟩,n,zs++[.ref p],.ref p,rfl,rfl,ew4,by simp,?_⟩;refine g_name ?_;rw [List.dropLast_concat];have h5:hid2 f n (upd Z n (.lst zs))=hid2 f n Z:=hid2_b;have c9:upd Z n (.lst zs) f=some (NsO f ks):=by rw [upd_ne d2];exact es4
   have d0:upd Z n (.lst zs) n=some (.lst zs):=upd_same;generalize upd Z n (.lst zs)=H5 at h5 c9 d0⊢;rw [<-h5] at s4 ki aw ep el pz ax;have s5:Same O H5:=s4.trans hid2_same;have b8 :∀{C:Hp} {R:VK} {x6 x7 x8:Option V} {j:Nat} {v:V},Same (hid2 f n H5) C->([.ref l,.ref p2]:List V)[j]? = some v->R v C->tOp (rIx (kx w)) (tVar 5) (tC (.int j)) [some (.ref t),some (.str (z1a m)),some (.ref x),some (.ref f),some (.ref n),some (.ref p),x6,x7,x8] C R:=λ s' hj h=>⟨_,rfl,.inr (.inl ⟨p,_,_,_,rfl,rfl,SqT.of (s' _ _ ep),z05 hj,h⟩)⟩
   refine sq_if ?_;refine ⟨_,rfl,x,dx,fs,rfl,s5 _ _ e1,bf.nm _ (by simp),b8 (j:=1) hid2_same rfl ⟨x,p2,m,rs,ts,ps,u,rfl,bo.same s5,by omega,pz.tups (.of hid2_same),λ b6 H6 U d8=>⟨_,rfl,?_⟩⟩⟩;have a8:Same (hid2 f n H5) H6:=hid2_same.trans U;refine ite2 (λ hb=>?_) λ hb=>?_
   ·exact b8 (j:=0) a8 rfl (q l xs o u _ (s1.trans (s5.trans U)) (a8 _ _ el) (z01 (λ _ _ z=>z.same a8) ax) wk (d8.mp hb))
   have nf:¬ FullP rs u:=λ z=>hb (d8.mpr z);refine tn_x (t_nx ?_);have i0:=bo.same (s5.trans U);have g7:=z01 (λ _ _ z=>RcGd.tt (.of (s5.trans U)) z) c6;refine ⟨_,rfl,x,dx,fs,rfl,(s5.trans U) _ _ e1,bf.nm _ (by simp),b8 (j:=1) a8 rfl ⟨x,p2,m,_,rs,ts,ps,u,rfl,i0,g7,ok,pz.tups (.of a8),X,by omega,λ l7 y7 H7 s7 b2 e9 c5=>⟨l7,y7,rfl,e9,?_⟩⟩⟩;have c8:=U.trans s7;have e3:=c8 _ _ c9;have e7:=c8 _ _ d0;have b1:Same (hid2 f n H5) (hid2 f n H7):=zd6 c8;have f7:l7≠f:=λ z=>by rw [z,U _ _ c9] at b2;cases b2
   have f0:l7≠n:=λ z=>by rw [z,U _ _ d0] at b2;cases b2
   have g6:=zka (z01 (λ _ _ z=>StpZ.tups (zi7 e3 e7) z) c5);have nx:=zfd c6 ok X (by omega) (m:=m);have i7:=zgt (m:=m) (ts:=ts) (ps:=ps) X.nd X.lt;have f4:y7.length<=rs.length - u.1.length:=by rw [z03 c5];omega
   have c4:wkN (rs.length - u.1.length - 1)<=651:=wkN_5 (by omega);have i1:wkP rs.length ((ws++[(o,u)]).map (·.2))=wkP rs.length (ws.map (·.2)) + wkN (rs.length - u.1.length):=by rw [u1,zfx];congr 1
   refine zl2 (a:=l7) (xs:=y7) (λ j σ C=>∃ks' zs' ws' jj,jj<=j/\Same (hid2 f n H7) (hid2 f n C)/\C f=some (NsO f ks')/\C n=some (.lst zs')/\KeyI (kx w) (hid2 f n C) (λ a=>a∈u :: vis\/a∈ws'.map (·.2)) ks'/\All2 (WtAt (kx w) (hid2 f n C)) ws' zs'/\(∀q∈ws',WqOk m ts rs ps q)/\(∀d∈ks.map (·.1),d∈ks'.map (·.1))/\(∀s∈(nxT m ts rs ps u).reverse.take j,plD s.2.2∈ks'.map (·.1))/\(([],ts.map λ t=>zeroK t.2)∈u :: vis\/([],ts.map λ t=>zeroK t.2)∈ws'.map (·.2))/\ks'.length<=ks.length + jj/\wkP rs.length (ws'.map (·.2))=wkP rs.length (ws.map (·.2)) + jj * wkN (rs.length - u.1.length - 1)/\∃x6 x7 x8,σ=[some (.ref t),some (.str (z1a m)),some (.ref x),some (.ref f),some (.ref n),some (.ref p),x6,x7,x8])
    ⟨ks,zs,ws,0,u0 _,Same.refl _,e3,e7,(ki.same b1).mono λ a h=>mm h,z01 (λ _ _ z=>z.same b1) aw,po,λ _ h=>h,λ _ h=>absurd h (by rw [List.take_zero];exact A0),mm fv,u0 _,by rw [Nat.zero_mul];rfl,_,_,_,rfl⟩ (λ j σ C h=>?_) ?_ ?_
   ·obtain ⟨_,_,_,_,_,h,_⟩:=h;exact hid2_same _ _ (h _ _ (z51 f7 f0 e9))
   ·rintro j y σ Y hy ⟨ks',zs',ws',jj,lj,s8,es8,ew8,ki8,aw8,po8,ko8,pr8,fv8,kl8,wk8,x6,x7,x8,rfl⟩;have jl:j < y7.length:=by have:=(List.getElem?_eq_some_iff.mp hy).1;rwa [List.length_reverse] at this
    obtain ⟨B,d4,b9,F,rfl,i6,i5⟩:=z0f g6 hy;have e4:B∈nxT m ts rs ps u:=List.mem_reverse.mp (O0 d4);have c7:=nx B e4;have tk :∀s∈(nxT m ts rs ps u).reverse.take (j + 1),s∈(nxT m ts rs ps u).reverse.take j\/s=B:=λ s J=>by
     rw [List.take_add_one,d4] at J;rcases List.mem_append.mp J with z|z
     ·exact .inl z
     ·exact .inr (List.mem_singleton.mp z)
    have f6:Same (hid2 f n H7) Y:=s8.trans hid2_same;have b3:=i5.tups (.of s8);have j1:jj * wkN (rs.length - u.1.length - 1)<=5 * 651:=j18 (by omega) c4;have zl:zs'.length < 10000:=by have h1:=zix (N:=rs.length) (ws'.map (·.2));rw [F0] at h1;rw [z03 aw8];omega
    refine ⟨b9,_,rfl,f6.seqT i6,rfl,_,_,rfl,_,_,rfl,_,_,rfl,rfl,?_⟩;have d9:=(ki8.same hid2_same).at_ (.inl es8);have d6:=plz_pd (b3.tups (.of hid2_same));refine ⟨_,rfl,_,rfl,f,F,ks',plD B.2.2,rfl,rfl,d9,pl_key _,pl_dep _,d6,_,rfl,?_⟩;refine ite2 (λ _=>?_) λ h8=>⟨ks',zs',ws',jj,by omega,s8,es8,ew8,ki8,aw8,po8,ko8,λ s J=>?_,fv8,kl8,wk8,_,_,_,rfl⟩
    rotate_left
    ·rcases tk s J with z|z
     ·exact pr8 s z
     ·rw [z];by_cases L:plD B.2.2∈ks'.map (·.1)
      ·exact L
      ·exact absurd (by rw [decide_eq_false L];rfl) h8
    refine ⟨_,rfl,_,rfl,f,F,ks',plD B.2.2,rfl,rfl,rfl,es8,d9,O1 kl8 (L1 (m:=1000) (by omega) (by decide)),pl_key _,pl_dep _,d6,t_nx ?_⟩;have h9:hid2 f n (upd Y f (NsO f (putN ks' (plD B.2.2) F)))=hid2 f n Y:=hid2_a;have b0:upd Y f (NsO f (putN ks' (plD B.2.2) F)) f=some (NsO f (putN ks' (plD B.2.2) F)):=upd_same;have a0:upd Y f (NsO f (putN ks' (plD B.2.2) F)) n=some (.lst zs'):=by rw [upd_ne d2.symm];exact ew8
    generalize upd Y f (NsO f (putN ks' (plD B.2.2) F))=H9 at h9 b0 a0⊢;rw [<-h9] at s8 ki8 aw8 b3;have e5:Same (hid2 f n H5) (hid2 f n H9):=b1.trans s8;have d7:Same (hid2 f n H5) H9:=e5.trans hid2_same;have i3:=d7 _ _ el;refine ⟨_,rfl,.inl ⟨rfl,_,SqL.of a0⟩,b8 (j:=0) d7 rfl ?_⟩;refine ⟨_,rfl,_,rfl,w_2,λ S a7=>?_⟩;obtain ⟨Ha,va,f9,ea⟩:=new1 (.tup [.int (B.1:Nat),B.2.1]) a7;rw [<-va];refine ⟨w_1,λ f2 h7=>?_⟩;obtain ⟨d1,vb,e6,g5⟩:=new1 (.lst [.ref S]) h7;rw [<-vb];have a3:=f9.trans e6;have xl:xs.length<=5:=by rw [z03 ax,ol];have:=z4i _ _ X.nd X.lt;omega
    refine .inr (.inr (.inl ⟨l,f2,xs,[.ref S],rfl,rfl,a3 _ _ i3,g5,C0 (m:=100) (by show xs.length + 1<=100;omega) (by decide),λ M a9=>⟨_,rfl,w_2,λ a4 a5=>?_⟩⟩));have b4:=Same.upd (o:=.lst (xs++[.ref S])) a9;have d3:=Same.upd (o:=.tup [.ref M,.ref F]) a5;have e0:=d3 _ _ (upd_same (H:=d1) (a:=M) (o:=.lst (xs++[.ref S])));have e8:=upd_same (H:=upd d1 M (.lst (xs++[.ref S]))) (a:=a4) (o:=.tup [.ref M,.ref F]);have h0:S≠f:=λ z=>by rw [z,b0] at a7;cases a7
    have g8:S≠n:=λ z=>by rw [z,a0] at a7;cases a7
    have g4:M≠f:=λ z=>by rw [z,a3 _ _ b0] at a9;cases a9
    have h6:M≠n:=λ z=>by rw [z,a3 _ _ a0] at a9;cases a9
    have f5:a4≠f:=λ z=>by rw [z,b4 _ _ (a3 _ _ b0)] at a5;cases a5
    have h4:a4≠n:=λ z=>by rw [z,b4 _ _ (a3 _ _ a0)] at a5;cases a5
    have d5:=d3 _ _ (b4 _ _ (e6 _ _ ea));have b5:=(a3.trans b4).trans d3;generalize upd (upd d1 M (.lst (xs++[.ref S]))) a4 (.tup [.ref M,.ref F])=H13 at d5 e0 e8 b5⊢;have L:=zd6 (a:=f) (b:=n) b5;refine ⟨n,zs',_,rfl,rfl,b5 _ _ a0,L1 zl (by decide),?_⟩;refine ⟨putN ks' (plD B.2.2) F,zs'++[.ref a4],ws'++[(o++[(B.1,B.2.1)],B.2.2)],jj + 1,by omega,?_,by rw [upd_ne d2];exact b5 _ _ b0,upd_same,?_,?_,λ q' hp=>?_,λ d hd=>zfq (ko8 d hd),λ s J=>?_,?_,C0 ze5 (by omega),?_,_,_,_,rfl⟩
    ·rw [hid2_b];exact s8.trans L
    ·rw [hid2_b];refine ((ki8.same L).mono λ a h=>h.imp id λ z=>?_).put (b3.tups (.of L)) (.inr ?_)
     ·rw [u1];exact List.mem_append.mpr (.inr (List.mem_singleton.mpr rfl))
     ·rw [u1];exact List.mem_append.mpr (.inl z)
    ·rw [hid2_b];exact z18 (z01 (λ _ _ z=>z.same L) aw8) ⟨a4,M,F,_,rfl,z51 f5 h4 e8,z51 g4 h6 e0,z18 (z01 (λ _ _ z=>z.same (e5.trans L)) ax) ⟨S,rfl,z51 h0 g8 d5⟩,b3.tups (.of L)⟩
    ·rcases List.mem_append.mp hp with z|z
     ·exact po8 q' z
     ·rw [List.mem_singleton.mp z];exact ⟨c7.1,.snoc wk e4,by show (o++[(B.1,B.2.1)]).length=B.2.2.1.length;rw [K0,c7.2];show o.length + 1=_;rw [ol]⟩
    ·rcases tk s J with z|z
     ·exact zfq (pr8 s z)
     ·rw [z];exact zie
    ·exact fv8.imp id λ z=>by rw [u1];exact List.mem_append.mpr (.inl z)
    ·rw [u1,zfx,wk8,Nat.succ_mul];have:wkP rs.length ([(o++[(B.1,B.2.1)],B.2.2)].map (·.2))=wkN (rs.length - u.1.length - 1):=by show wkP rs.length [B.2.2]=_;rw [zge,c7.2,show rs.length - (u.1.length + 1)=rs.length - u.1.length - 1 by omega]
     omega
   ·rintro σ Y ⟨ks',zs',ws',jj,lj,s8,es8,ew8,ki8,aw8,po8,ko8,pr8,fv8,kl8,wk8,x6,x7,x8,rfl⟩;have B:=zlg (C0 lj f4);rw [show y7.length=(nxT m ts rs ps u).reverse.length by rw [List.length_reverse,z03 c5],G3] at pr8;refine ⟨wkP rs.length (ws'.map (·.2)),by rw [i1,wk8];omega,ks',zs',ws',u :: vis,_,_,_,_,rfl,(s4.trans b1).trans s8,es8,ew8,ki8,aw8,po8,⟨λ a ha=>?_⟩,fv8,by rw [wk8];omega,rfl⟩;rcases List.mem_cons.mp ha with z|z
    ·rw [z];exact ⟨nf,λ s J=>pr8 s (List.mem_reverse.mpr J)⟩
    ·exact ⟨(lk.c a z).1,λ s J=>ko8 _ ((lk.c a z).2 s J)⟩
  ·rintro k σ Z ⟨ks,zs,ws,vis,x5,x6,x7,x8,rfl,s4,es4,ew4,ki,aw,po,lk,fv,kw,rfl⟩ body;refine ⟨_,rfl,.inl ⟨n,zs,rfl,.inl (SqL.of ew4),_,_,rfl,rfl,_,rfl,?_⟩⟩;refine ite2 (λ h=>?_) λ h=>?_
   ·have h:(0:Int) < (zs.length:Int):=of_decide_eq_true h;have hz:zs≠[]:=λ z=>by rw [z] at h;exact absurd h (by decide)
    have ez:=(G4 hz).symm;rw [ez] at aw ew4;obtain ⟨wr,D,rfl,I,a2⟩:=zhw aw;exact body _ ⟨ks,_,_,wr,D,vis,x5,x6,x7,x8,rfl,s4,es4,ew4,ki,I,a2,po,lk,fv,kw,rfl⟩
   ·have zn:zs=[]:=by
     cases zs with
     | nil=>rfl
     | cons z r=>exact absurd (decide_eq_true (show (0:Int) < ((z :: r).length:Int) by rw [P0];omega)) h
    subst zn;cases aw;refine qn _ (s1.trans (s4.trans hid2_same)) λ o u wk=>(lk.c u ?_).1;refine zal (G:=λ u=>u∈vis) (fv.resolve_right A0) (λ u hp s J=>?_) wk;obtain ⟨k,hk,e⟩:=List.mem_map.mp ((lk.c u hp).2 s J);obtain ⟨i8,e',_,g⟩:=ki k hk;rw [zlx (e.symm.trans e')];exact g.resolve_right A0
theorem t_and {t u:TT} {σ:L2.St} {H:Hp} {Q:Bool->Hp->Prop} (h:t σ H λ c H1=>if c=true then u σ H1 Q else Q false H1):tAnd t u σ H Q:=h
def TaP (K:b0) (H:Hp) (t:Addr) (es:List Ev):Prop:=∃ts,TaleAt K H t ts es/\es.length<=63/\EWf [] es
def ActAt (H:Hp) (r:Rc) (y:V):Prop:=∃p,y=.ref p/\H p=some (.lst [.int r.h,r.n,r.v,r.x,r.a,.int r.b,endV r.e])
theorem ActAt.same {H H':Hp} {r:Rc} {y:V} (s:Same H H') (h:ActAt H r y):ActAt H' r y:=h.elim λ p z=>⟨p,z.1,s _ _ z.2⟩
theorem ActAt.wrote {H:Hp} {l:Addr} {o:HO} {r:Rc} {y:V} (n:y≠.ref l) (h:ActAt H r y):ActAt (upd H l o) r y:=h.elim λ p z=>⟨p,z.1,by rw [upd_ne (λ e=>n (by rw [z.1,e]))];exact z.2⟩
def z5o (K:b0):Sp:=λ vs H Q _=>∃(t:Addr) (es:List Ev),vs=[.ref t]/\TaP K H t es/\∀l zs H',Same H H'->H' l=some (.lst zs)->All2 (ActAt H') (dAll 0 [] es) zs->Q (.ref l) H'
theorem zad (T:TX (kx w) mg):Fo P w mg base CX0 1 428 y12 ["tale"] (z5o (kx w)):=by
 refine (z3x w.params).ok sc__law_deeds (λ vs H Q E h=>?_) (λ c8 A c9 s H vs Q E hr h=>?_)
 ·obtain ⟨t,u,rfl,_⟩:=h;rfl
 ·obtain ⟨t,u,rfl,⟨ts,⟨pt,K,F,et,th,c4,al⟩,c6,b6⟩,q⟩:=h;have st:SqT (kx w) H t [.ref pt,.ref K]:=SqT.of et;have se:SqT (kx w) H K F:=SqT.of c4;have hl:u.length<=100:=by omega
  obtain ⟨wf,_⟩:=DInv.all DInv.nil b6;refine ⟨_,(z02 (ps_set (i:=1) sc__law_deeds.nd rfl (Y0 rfl) (pe_lst pa_nil))
   (z02 (ps_set (i:=2) sc__law_deeds.nd rfl (Y0 rfl) z91)
   (z02 (ps_for R1 rfl (z2e rfl (T.no (z69 _)) (z00 (z09 z0s rfl (T.no (n_len _)) E3 (z00 (pe_ix ix_seq (pv 0) pe_int (λ _ _=>rfl)) pa_nil)) pa_nil)) (z0h (i:=3) sc__law_deeds.nd rfl (Y0 rfl))
   (z02 (ps_set (i:=4) sc__law_deeds.nd rfl (Y0 rfl) (pe_ix ix_seq (pe_ix ix_seq (pv 0) pe_int (λ _ _=>rfl)) (pv 3) (λ _ _=>rfl)))
   (z04 (ps_if (z07 opEq (pe_ix ix_seq (pv 4) pe_int (λ _ _=>rfl)) pe_str (nomark _))
   (z02 (zcp (hu_of hr) (pv 2) (pe_ix ix_seq (pv 4) pe_int (λ _ _=>rfl)) (z09 z0s rfl (T.no (n_len _)) E3 (z00 (pv 1) pa_nil)) rfl)
   (z04 (z33 (z1h (pv 1) (z00 (pe_lst (z00 (pe_ix ix_seq (pv 4) pe_int (λ _ _=>rfl)) (z00 (pe_ix ix_seq (pv 4) pe_int (λ _ _=>rfl)) (z00 (pe_ix ix_seq (pv 4) pe_int (λ _ _=>rfl)) (z00 (pe_ix ix_seq (pv 4) pe_int (λ _ _=>rfl)) (z00 pe_non (z00 (pv 3) (z00 pe_non pa_nil)))))))) pa_nil)))))
   (z02 (ps_asg (pe_ix ix_seq (pv 4) pe_int (λ _ _=>rfl)) (pg_sub (pe_ix ix_seq (pv 1) (z6w (hu_of hr) (pv 2) (pe_ix ix_seq (pv 4) pe_int (λ _ _=>rfl)) (λ _ _=>rfl)) (λ _ _=>rfl)) pe_int z5k))
   (z04 (ps_asg (pv 3) (pg_sub (pe_ix ix_seq (pv 1) (z6w (hu_of hr) (pv 2) (pe_ix ix_seq (pv 4) pe_int (λ _ _=>rfl)) (λ _ _=>rfl)) (λ _ _=>rfl)) pe_int z5k))))))))
   (z04 (ps_ret (pv 1)))))),?_⟩
  refine ⟨w_0,λ l a5=>?_⟩;intro d a1;have Y:l≠d:=z08 upd_same a1;have c2:H d=none:=by rwa [upd_ne Y.symm] at a1
  have s2:Same H (upd (upd H l (.lst [])) d (.dK [])):=(Same.upd a5).trans (Same.upd a1);have N:upd (upd H l (.lst [])) d (.dK []) l=some (.lst []):=by rw [upd_ne Y];exact upd_same
  have D:upd (upd H l (.lst [])) d (.dK []) d=some (.dK []):=upd_same;generalize upd (upd H l (.lst [])) d (.dK [])=H2 at s2 N D⊢;have c0:=z03 al;have d0:100<=sizeLine:=by decide
  refine ⟨_,rfl,.inr (.inl ⟨t,_,1,.ref K,rfl,rfl,s2.seqT st,z05 (j:=1) rfl,.inl ⟨K,F,rfl,.inr (s2.seqT se),F.length,rfl,by omega,by omega,?_⟩⟩)⟩;refine z3m (lo:=0) (n:=F.length) (λ i σ X=>∃rs zs kvs,X l=some (.lst zs)/\All2 (ActAt X) rs zs/\zs.Nodup/\(∀p,V.ref p∈zs->p≠l/\H p=none)/\X d=some (.dK kvs)/\kvs.length<=i/\rs.length<=i/\(∀h,valV kvs (.inl h)=(lastI h (rs.map Rc.h)).map λ j=>V.int (j:Nat))/\dAll i rs (u.drop i)=dAll 0 [] u/\dWf i rs (u.drop i)/\Same H X/\∃x3 x4,σ=[some (.ref t),some (.ref l),some (.ref d),x3,x4])
   ⟨[],[],[],N,.nil,.nil,λ _ z=>absurd z A0,D,u0 _,u0 _,λ h=>rfl,by rw [K5],by rw [K5];exact wf,s2,_,_,rfl⟩ ?_ ?_
  ·rintro i σ g hi ⟨rs,zs,kvs,el4,ar4,nd,nzl,ed4,hk,hr',hv,B,dw,s4,x3,x4,rfl⟩;rw [P6];have b3:i < u.length:=by omega
   have hy:F[i]? = some F[i]:=B0 hi;obtain ⟨e,he,ev⟩:=z0f al hy;obtain ⟨_,ee⟩:=List.getElem?_eq_some_iff.mp he;have dr:u.drop i=e :: u.drop (i + 1):=by rw [j19 b3,ee]
   rw [dr] at B dw;have a4:=EvAt.tups (.of s4) ev;have c7:i < 100:=L1 b3 hl;have lz:zs.length=rs.length:=z03 ar4;refine g_name ?_;refine ⟨_,rfl,.inr (.inl ⟨t,_,1,.ref K,rfl,rfl,s4.seqT st,z05 (j:=1) rfl,_,rfl,.inr (.inl ⟨K,F,i,F[i],rfl,rfl,s4.seqT se,z05 hy,?_⟩)⟩)⟩;generalize F[i]=y at a4⊢;cases e with
   | beg h n v x=>
    obtain ⟨C,rfl,G⟩:=a4;refine ⟨_,rfl,.inr (.inl ⟨C,_,0,.str "begin",rfl,rfl,G,z05 (j:=0) rfl,rfl,_,rfl,iteP (decide_eq_true rfl) ?_⟩)⟩;refine ⟨_,rfl,.inl ⟨l,zs,rfl,.inl (SqL.of el4),⟨_,rfl,⟨_,rfl,.inr (.inl ⟨C,_,1,.int h,rfl,rfl,G,z05 (j:=1) rfl,d,_,rfl,DPut.k (k:=.inl h) ed4 (O1 (m:=100) (by omega) (by decide)),?_⟩)⟩⟩⟩⟩;have R:Tups (kx w) g (upd g d (.dK (putK kvs (.inl h) (.int (zs.length:Nat))))):=Tups.dict ed4;have s5:=Same.keep (o:=.dK (putK kvs (.inl h) (.int (zs.length:Nat)))) s4 c2;have I:upd g d (.dK (putK kvs (.inl h) (.int (zs.length:Nat)))) l=some (.lst zs):=by rw [upd_ne Y];exact el4
    have S:upd g d (.dK (putK kvs (.inl h) (.int (zs.length:Nat)))) d=some (.dK (putK kvs (.inl h) (.int (zs.length:Nat)))):=upd_same;have a3:All2 (ActAt (upd g d (.dK (putK kvs (.inl h) (.int (zs.length:Nat)))))) rs zs:=z01 (λ a b z=>z.wrote (λ e=>by obtain ⟨p,N,D⟩:=z;rw [N] at e;cases e;rw [ed4] at D;cases D)) ar4;generalize upd g d (.dK (putK kvs (.inl h) (.int (zs.length:Nat))))=H5 at R s5 I S a3⊢;have M:=R _ _ G;refine ⟨_,rfl,.inl ⟨rfl,zs,SqL.of I⟩,?_⟩;refine ⟨_,rfl,.inr (.inl ⟨C,_,1,.int h,rfl,rfl,M,z05 (j:=1) rfl,_,rfl,.inr (.inl ⟨C,_,2,n,rfl,rfl,M,z05 (j:=2) rfl,_,rfl,.inr (.inl ⟨C,_,3,v,rfl,rfl,M,z05 (j:=3) rfl,_,rfl,.inr (.inl ⟨C,_,4,x,rfl,rfl,M,z05 (j:=4) rfl,_,rfl,w_7,λ J U=>?_⟩)⟩)⟩)⟩)⟩;have O:=Same.upd (o:=.lst [.int h,n,v,x,.non,.int (i:Nat),.non]) U;have e6:upd H5 J (.lst [.int h,n,v,x,.non,.int (i:Nat),.non]) J=some (.lst [.int h,n,v,x,.non,.int (i:Nat),.non]):=upd_same;have fr :∀z∈zs,z≠.ref J:=λ z hz e=>by obtain ⟨m,hm⟩:=List.mem_iff_getElem?.mp hz;obtain ⟨_,_,p,N,D⟩:=z0f a3 hm;rw [N] at e;cases e;rw [U] at D;cases D
    have a6:J≠l:=λ z=>by rw [z,I] at U;cases U
    generalize upd H5 J (.lst [.int h,n,v,x,.non,.int (i:Nat),.non])=H6 at O e6⊢;have b9:=O _ _ I;have b7:=O _ _ S;have c1:=z01 (λ a b z=>ActAt.same O z) a3;refine ⟨l,zs,_,rfl,rfl,b9,O1 (m:=100) (by omega) (by decide),?_⟩;refine ⟨rs++[⟨h,n,v,x,.non,i,none⟩],zs++[.ref J],putK kvs (.inl h) (.int (zs.length:Nat)),upd_same,?_,?_,?_,?_,?_,?_,?_,(show dAll (i + 1) (dstep i rs (.beg h n v x)) _=_ from B),dw.2,Same.keep (s5.trans O) a5,_,_,rfl⟩
    ·refine z18 ?_ ⟨J,rfl,by rw [upd_ne a6];exact e6⟩;refine z7y (λ a b hb z=>ActAt.wrote (λ e=>(nzl l (e ▸ hb)).1 rfl) z) c1
    ·rw [Y3];refine ⟨nd,by simp,λ a ha b hb=>?_⟩;rw [List.mem_singleton.mp hb];exact fr a ha
    ·intro p hz;rcases List.mem_append.mp hz with y|y
     ·exact nzl p y
     ·have e:=List.mem_singleton.mp y;cases e;exact ⟨a6,s5.free U⟩
    ·rw [upd_ne Y.symm];exact b7
    ·exact C0 zew (by omega)
    ·rw [K0];show rs.length + 1<=i + 1;omega
    ·intro k;rw [z4d,u1];show _=j06 _ (lastI k (rs.map Rc.h++[h]));rw [z3c,F0,lz];by_cases z:h=k
     ·rw [if_pos z,if_pos (by rw [z])];rfl
     ·rw [if_neg z,if_neg (λ y=>z (g8 y).symm)];exact hv k
   | fin h a=>
    obtain ⟨C,rfl,G⟩:=a4;obtain ⟨j,hj⟩:=Option.isSome_iff_exists.mp (dw.1 h a rfl);have c3:valV kvs (.inl h)=some (.int (j:Nat)):=by rw [hv h,hj];rfl
    have b8:j < rs.length:=by have:=z6p hj;rwa [F0] at this
    have b4:rs[j]? = some rs[j]:=B0 b8;obtain ⟨yj,L,c,rfl,ej⟩:=z0w ar4 b4;have b2 :∀{H5:Hp},H5 d=some (.dK kvs)->DGet H5 d (.int h) (some (.int (j:Nat))):=λ e5=>c3 ▸ DGet.k (k:=.inl h) e5;refine ⟨_,rfl,.inr (.inl ⟨C,_,0,.str "end",rfl,rfl,G,z05 (j:=0) rfl,rfl,_,rfl,iteK ?_⟩)⟩;obtain ⟨b5,c5⟩:=nzl c (O0 L);have a7:c≠d:=λ z=>by rw [z,ed4] at ej;cases ej
    refine ⟨_,rfl,.inr (.inl ⟨C,_,2,a,rfl,rfl,G,z05 (j:=2) rfl,?_⟩)⟩;refine ⟨_,rfl,_,rfl,_,rfl,.inr (.inl ⟨C,_,1,.int h,rfl,rfl,G,z05 (j:=1) rfl,d,_,rfl,b2 ed4,.inl ⟨l,zs,j,.ref c,rfl,rfl,SqL.of el4,z05 L,c,_,4,4,rfl,rfl,ej,rfl,?_⟩⟩)⟩;rw [show [V.int rs[j].h,rs[j].n,rs[j].v,rs[j].x,rs[j].a,.int rs[j].b,endV rs[j].e].set 4 a=[.int rs[j].h,rs[j].n,rs[j].v,rs[j].x,a,.int rs[j].b,endV rs[j].e] from rfl];have Z:KeptL [c] g (upd g c (.lst [.int rs[j].h,rs[j].n,rs[j].v,rs[j].x,a,.int rs[j].b,endV rs[j].e])):=KeptL.set (by simp);have R:Tups (kx w) g (upd g c (.lst [.int rs[j].h,rs[j].n,rs[j].v,rs[j].x,a,.int rs[j].b,endV rs[j].e])):=Tups.lst ej;have b1:upd g c (.lst [.int rs[j].h,rs[j].n,rs[j].v,rs[j].x,a,.int rs[j].b,endV rs[j].e]) c=some (.lst [.int rs[j].h,rs[j].n,rs[j].v,rs[j].x,a,.int rs[j].b,endV rs[j].e]):=upd_same;generalize upd g c (.lst [.int rs[j].h,rs[j].n,rs[j].v,rs[j].x,a,.int rs[j].b,endV rs[j].e])=H5 at Z R b1⊢;have I:=Z _ _ (show l∉[c] by simp [b5.symm]) el4;have S:=Z _ _ (show d∉[c] by simp [a7.symm]) ed4;have M:=R _ _ G;refine ⟨_,rfl,?_⟩;refine ⟨_,rfl,_,rfl,_,rfl,.inr (.inl ⟨C,_,1,.int h,rfl,rfl,M,z05 (j:=1) rfl,d,_,rfl,b2 S,.inl ⟨l,zs,j,.ref c,rfl,rfl,SqL.of I,z05 L,c,_,6,6,rfl,rfl,b1,rfl,?_⟩⟩)⟩;rw [show [V.int rs[j].h,rs[j].n,rs[j].v,rs[j].x,a,.int rs[j].b,endV rs[j].e].set 6 (.int (i:Nat))=[.int rs[j].h,rs[j].n,rs[j].v,rs[j].x,a,.int rs[j].b,.int (i:Nat)] from rfl];have hd:dstep i rs (.fin h a)=rs.modify j (λ r=>{ r with a:=a,e:=some i }):=by unfold dstep;dsimp only;rw [hj]
    have B:dAll (i + 1) (dstep i rs (.fin h a)) (u.drop (i + 1))=_:=B;have b0:dWf (i + 1) (dstep i rs (.fin h a)) (u.drop (i + 1)):=dw.2;rw [hd] at B b0;have k7:KeptL [c] H5 (upd H5 c (.lst [.int rs[j].h,rs[j].n,rs[j].v,rs[j].x,a,.int rs[j].b,.int (i:Nat)])):=KeptL.set (by simp);have j7:upd H5 c (.lst [.int rs[j].h,rs[j].n,rs[j].v,rs[j].x,a,.int rs[j].b,.int (i:Nat)]) c=some (.lst [.int rs[j].h,rs[j].n,rs[j].v,rs[j].x,a,.int rs[j].b,.int (i:Nat)]):=upd_same;generalize upd H5 c (.lst [.int rs[j].h,rs[j].n,rs[j].v,rs[j].x,a,.int rs[j].b,.int (i:Nat)])=H7 at k7 j7⊢;have a8:=Z.trans k7;refine ⟨rs.modify j (λ r=>{ r with a:=a,e:=some i }),zs,kvs,k7 _ _ (by simp [b5.symm]) I,?_,nd,nzl,k7 _ _ (by simp [a7.symm]) S,by omega,by rw [A5];omega,?_,B,b0,?_,_,_,rfl⟩
    ·refine z27 (by rw [A5];exact z03 ar4) λ k r y hk a0=>?_;rw [G2] at hk;obtain ⟨r',a2,W⟩:=Option.map_eq_some_iff.mp hk;obtain ⟨y2,a9,p2,rfl,D⟩:=z0w ar4 a2;rw [a0] at a9;cases a9;by_cases z:j=k
     ·subst z;rw [L] at a0;cases a0;rw [if_pos rfl] at W;rw [b4] at a2;cases a2;subst W;exact ⟨c,rfl,j7⟩
     ·rw [if_neg z] at W;subst W;refine ⟨p2,rfl,a8 _ _ (λ e=>z ?_) D⟩;have e:=List.mem_singleton.mp e;subst e;have h1:j < zs.length:=(List.getElem?_eq_some_iff.mp L).1;exact (P9 h1 nd).mp (L.trans a0.symm)
    ·intro k;rw [zb7 (f:=λ r=>{ r with a:=a,e:=some i }) (λ r=>rfl)];exact hv k
    ·intro b o e;exact a8 b o (λ z=>by rw [List.mem_singleton.mp z,c5] at e;cases e) (s4 b o e)
  ·rintro σ H3 ⟨rs,zs,kvs,el,ar,_,_,_,_,_,_,B,_,s3,x3,x4,rfl⟩;have:u.drop F.length=[]:=by rw [c0];exact List.drop_length
   rw [this] at B;have B:rs=dAll 0 [] u:=B;rw [<-B] at q;exact ⟨_,rfl,q l zs H3 s3 el ar⟩
def z3h:Sp:=λ vs H Q _=>∃(y z:V) (r q:Rc),vs=[.str "strict",y,z]/\ActAt H r y/\ActAt H q z/\Q (.bl (ltO r.e q.b)) H
theorem z71 (T:TX (kx w) mg):Fo P w mg base CX0 1 435 y0c ["strictness","one","other"] z3h:=by
 refine (z1x w.params).ok z6e (λ g H Q E h=>?_) (λ l A k s H g Q E i h=>?_)
 ·obtain ⟨y,z,r,q,rfl,_⟩:=h;rfl
 ·obtain ⟨y,z,r,q,rfl,⟨a,rfl,c⟩,⟨f,rfl,d⟩,h⟩:=h;refine ⟨_,(z02 (ps_if (z07 opEq (pv 0) pe_str (nomark _))
   (z04 (ps_ret (pe_and (z0v z3v (pe_ix ix_seq (pv 1) pe_int (λ _ _=>rfl)) pe_non (nomark _)) (pe_one (z0v op_lt (pe_ix ix_seq (pv 1) pe_int (λ _ _=>rfl)) (pe_ix ix_seq (pv 2) pe_int (λ _ _=>rfl)) (nomark _))))))
   z0b)
   (z04 (ps_ret (pe_and (z0v opEq (pv 0) pe_str (nomark _)) (pe_and (z0v opEq (pe_ix ix_seq (pv 1) pe_int (λ _ _=>rfl)) (pe_ix ix_seq (pv 2) pe_int (λ _ _=>rfl)) (nomark _)) (pe_one (z0v op_lt (pe_ix ix_seq (pv 1) pe_int (λ _ _=>rfl)) (pe_ix ix_seq (pv 2) pe_int (λ _ _=>rfl)) (nomark _)))))))),?_⟩
  refine ⟨_,rfl,rfl,_,rfl,iteP (decide_eq_true rfl) ?_⟩;refine ⟨_,rfl,.inl ⟨a,_,6,endV r.e,rfl,rfl,SqL.of c,z05 (j:=6) rfl,rfl,_,rfl,?_⟩⟩;cases re:r.e with
  | none=>refine iteN (by show ¬ (!decide (V.non=V.non))=true;decide) ?_;rw [re] at h;exact h
  | some b=>refine iteP rfl ?_;refine ⟨_,rfl,.inl ⟨a,_,6,.int (b:Nat),rfl,rfl,SqL.of c,z05 (j:=6) (by rw [re];rfl),?_⟩⟩;refine ⟨_,rfl,.inl ⟨f,_,5,.int (q.b:Nat),rfl,rfl,SqL.of d,z05 (j:=5) rfl,b,q.b,rfl,rfl,?_⟩⟩;rw [re] at h;exact (show Q (.bl (decide ((b:Int) < (q.b:Int)))) H by rw [dec_lt];exact h)
def okM (rs:List Rc) (ns:List Nat) (n x:Nat):Prop:=(x∈ns->z0g 0 rs n x=false)/\(x∉ns->(∃r,rs[x]? = some r/\r.e.isSome=true)->z0g 0 rs x n=false)
theorem cM_of {rs:List Rc} {ns:List Nat} {n:Nat} (lt :∀x∈ns,x < rs.length) (h :∀x,x < rs.length->okM rs ns n x):cM 0 rs ns n = !decide (n∈ns):=by
 unfold cM;rw [decide_eq_true (p:=∀a∈C1 rs.length,z0g 0 rs a n=true->(∃r,rs[a]? = some r/\r.e.isSome=true)->a∈ns) (λ a f c g=>j01 λ z=>by rw [(h a (List.mem_range.mp f)).2 z g] at c;cases c),decide_eq_true (p:=∀b∈ns,z0g 0 rs n b=false) (λ b d=>(h b (lt b d)).1 d),Bool.and_true,Bool.and_true];by_cases z:n∈ns
 ·rw [decide_eq_true z,decide_eq_false (λ h=>h z)];rfl
 ·rw [decide_eq_false z,decide_eq_true z];rfl
theorem cM_not {rs:List Rc} {ns:List Nat} {n x:Nat} (hx:x < rs.length) (h:¬ okM rs ns n x):cM 0 rs ns n=false:=by
 cases e:cM 0 rs ns n with
 | false=>rfl
 | true=>
  refine absurd ?_ h;unfold cM at e;simp only [j2,decide_eq_true_iff] at e;refine ⟨λ z=>e.2 x z,λ z a=>?_⟩;cases e2:z0g 0 rs x n with
  | false=>rfl
  | true=>exact absurd (e.1.2 x (List.mem_range.mpr hx) e2 a) z
def z1t (K:b0):Sp:=λ vs H Q _=>∃(la pa:Addr) (zs:List V) (rs:List Rc) (ns:List Nat) (n:Nat),vs=[.ref la,.str "strict",.ref pa,.int (n:Nat)]/\H la=some (.lst zs)/\All2 (ActAt H) rs zs/\rs.length<=63/\SqT K H pa (nsV ns)/\(∀x∈ns,x < rs.length)/\n < rs.length/\Q (.bl (cM 0 rs ns n)) H
theorem z4t (T:TX (kx w) mg) (c0:Ca P w mg base "_law_is_ahead" ["strictness","one","other"] 1 z3h):Fo P w mg base CX0 2 442 y06 ["some","strictness","done","number"] (z1t (kx w)):=by
 refine (z14 w.params).ok sc__law_may_be_next (λ O H Q E h=>?_) (λ a0 A Z s H O Q E J h=>?_)
 ·obtain ⟨f,c,d,a,g,n,rfl,_⟩:=h;rfl
 ·obtain ⟨f,c,d,a,g,n,rfl,v,I,rl,p,lt,S,q⟩:=h;refine ⟨_,(z02 (ps_for R1 rfl (z2e rfl (T.no (z69 _)) (z00 (z09 z0s rfl (T.no (n_len _)) E3 (z00 (pv 0) pa_nil)) pa_nil)) (z0h (i:=4) sc__law_may_be_next.nd rfl (Y0 rfl))
   (z02 (ps_if (PW.pt (pw_and (z07 z1u (pv 4) (pv 2) (by with_unfolding_all rfl)) (z5v (pt_val (pe_cal c0 (J.mono (by decide)) rfl (z00 (pv 1) (z00 (pe_ix ix_seq (pv 0) (pv 3) (λ _ _=>rfl)) (z00 (pe_ix ix_seq (pv 0) (pv 4) (λ _ _=>rfl)) pa_nil)))) (λ _=>rfl)))))
   (z04 (ps_ret pe_bl))
   z0b)
   (z04 (ps_if (PW.pt (pw_and (z07 z16 (pv 4) (pv 2) (by with_unfolding_all rfl)) (pw_and (z07 z3v (pe_ix ix_seq (pe_ix ix_seq (pv 0) (pv 4) (λ _ _=>rfl)) pe_int (λ _ _=>rfl)) pe_non (nomark _)) (z5v (pt_val (pe_cal c0 (J.mono (by decide)) rfl (z00 (pv 1) (z00 (pe_ix ix_seq (pv 0) (pv 4) (λ _ _=>rfl)) (z00 (pe_ix ix_seq (pv 0) (pv 3) (λ _ _=>rfl)) pa_nil)))) (λ _=>rfl))))))
   (z04 (ps_ret pe_bl))
   z0b))))
   (z04 (ps_ret (z0v z16 (pv 3) (pv 2) (by with_unfolding_all rfl))))),?_⟩
  have lz:d.length=a.length:=z03 I;have q:=λ b (h:b=cM 0 a g n)=>(show Q (.bl b) H from h ▸ q)
  have o:a[n]? = some a[n]:=B0 S;obtain ⟨t,N,u⟩:=z0w I o;generalize a[n]=r0 at o u;refine ⟨_,rfl,.inl ⟨f,d,rfl,.inl (SqL.of v),d.length,rfl,by omega,by omega,?_⟩⟩;refine z3m (lo:=0) (n:=d.length) (λ i σ M=>M=H/\(∀x,x < i->okM a g n x)/\∃x4,σ=[some (.ref f),some (.str "strict"),some (.ref c),some (.int (n:Nat)),x4]) ⟨rfl,λ x B=>absurd B (z5 _),_,rfl⟩ ?_ ?_
  ·rintro i σ m hi ⟨rfl,fi,x4,rfl⟩;rw [P6];refine g_name ?_;have C:i < a.length:=by omega
   have l:a[i]? = some a[i]:=B0 C;obtain ⟨y,X,r⟩:=z0w I l;generalize a[i]=r1 at l r;have L :∀{R:VK} {x4:Option V},R t m->tOp (rIx (kx w)) (tVar 0) (tVar 3) [some (.ref f),some (.str "strict"),some (.ref c),some (.int (n:Nat)),x4] m R:=λ h=>⟨_,rfl,_,rfl,.inl ⟨f,d,n,t,rfl,rfl,SqL.of v,z05 N,h⟩⟩
   have G :∀{R:VK},R y m->tOp (rIx (kx w)) (tVar 0) (tVar 4) [some (.ref f),some (.str "strict"),some (.ref c),some (.int (n:Nat)),some (.int (i:Nat))] m R:=λ h=>⟨_,rfl,_,rfl,.inl ⟨f,d,i,y,rfl,rfl,SqL.of v,z05 X,h⟩⟩
   have K:z0g 0 a n i=ltO r0.e r1.b:=z1j o l;have F:z0g 0 a i n=ltO r1.e r0.b:=z1j l o;have D:okM a g n i->∀x,x < i + 1->okM a g n x:=λ h x B=>by
    by_cases z:x=i
    ·rw [z];exact h
    ·exact fi x (by omega)
   refine sq_if (t_and ?_);refine ⟨_,rfl,_,rfl,c,_,rfl,.inr p,rfl,z4m _,_,rfl,?_⟩;by_cases z:i∈g
   ·refine iteP (by rw [inV_ns];exact decide_eq_true z) ?_;refine ⟨_,rfl,L (G ⟨t,y,r0,r1,rfl,u,r,_,rfl,?_⟩)⟩;cases h:ltO r0.e r1.b with
    | true=>refine iteT (q _ (cM_not C λ k=>?_).symm);have:=k.1 z;rw [K,h] at this;cases this
    | false=>refine iteF (t_nx (z3s (t_and ?_)));refine ⟨_,rfl,_,rfl,c,_,rfl,.inr p,rfl,z4m _,_,rfl,iteN (by rw [inV_ns,decide_eq_true z];decide) (iteF ?_)⟩;exact ⟨rfl,D ⟨λ _=>K.trans h,λ U=>absurd z U⟩,_,rfl⟩
   ·refine iteN (λ h=>z (of_decide_eq_true (by rw [inV_ns] at h;exact h))) (iteF (t_nx (z3s (t_and ?_))));refine ⟨_,rfl,_,rfl,c,_,rfl,.inr p,rfl,z4m _,_,rfl,iteP (by rw [inV_ns,decide_eq_false z];rfl) (t_and ?_)⟩;obtain ⟨W,rfl,Y⟩:=id r;refine G (.inl ⟨W,_,6,endV r1.e,rfl,rfl,SqL.of Y,z05 (j:=6) rfl,rfl,_,rfl,?_⟩);cases he:r1.e with
    | none=>refine iteN (by show ¬ (!decide (V.non=V.non))=true;decide) (iteF ⟨rfl,D ⟨λ h=>absurd h z,λ _ h=>?_⟩,_,rfl⟩);rw [F,he];rfl
    | some e=>
     refine iteP rfl ?_;refine ⟨_,rfl,G (L ⟨_,t,r1,r0,rfl,r,u,_,rfl,?_⟩)⟩;cases h:ltO r1.e r0.b with
     | true=>refine iteT (q _ (cM_not C λ k=>?_).symm);have:=k.2 z ⟨r1,l,by rw [he];rfl⟩;rw [F,h] at this;cases this
     | false=>exact iteF ⟨rfl,D ⟨λ h=>absurd h z,λ _ _=>F.trans h⟩,_,rfl⟩
  ·rintro σ m ⟨rfl,fi,x4,rfl⟩;refine ⟨_,rfl,_,rfl,c,_,rfl,.inr p,rfl,z4m _,q _ ?_⟩;rw [cM_of lt λ x B=>fi x (by omega),inV_ns];rfl
theorem zaa {X:Cx} {K:b0} (hK:X.K=K):OpR X (B2 .NotIn) (rIn K true):=hK ▸ z16
theorem zfk {c:Nat->Bool} {ts:List (Str×Str)} {rs:List Rc} {ps:List DD} {pl:Pl} {i:Nat} {r:Rc} {p:DD} (hr:rs[i]? = some r) (hp:ps[i]? = some p) (h:c i=false\/stp ts r p i pl=none):nexAt c ts rs ps pl i=none:=by
 unfold nexAt;rcases h with h|h
 ·rw [h];rfl
 ·rw [hr,hp];split<;>first|exact h|rfl
theorem zf1 {c:Nat->Bool} {ts:List (Str×Str)} {rs:List Rc} {ps:List DD} {pl:Pl} {i:Nat} {r:Rc} {p:DD} {s:Stp} (hr:rs[i]? = some r) (hp:ps[i]? = some p) (hc:c i=true) (h:stp ts r p i pl=some s):nexAt c ts rs ps pl i=some s:=by unfold nexAt;rw [if_pos hc,hr,hp];exact h
theorem tup2 {A B:TE} {σ:L2.St} {H:Hp} {Q:VK} (h:A σ H λ x H1=>B σ H1 λ y H2=>(2:Nat)<=sizeLine/\∀p,H2 p=none->Q (.ref p) (upd H2 p (.tup [x,y]))):tTup (tCons A (tCons B tNil)) σ H Q:=h
theorem srt_in {K:b0} {σ:L2.St} {H:Hp} {Q:VK} {tp tn:TE} {pa:Addr} {ns:List Nat} {n:Nat} (hp :∀R:VK,R (.ref pa) H->tp σ H R) (hn :∀R:VK,R (.int (n:Nat)) H->tn σ H R) (sa:SqT K H pa (nsV ns)) (l63:ns.length < 63) (q :∀b4 H',Same H H'->H' b4=some (.tup (nsV (srtN (ns++[n]))))->Q (.ref b4) H') :
  tCB (λ xs H Q=>∃p ys,xs=[.ref p]/\((SqL K H p ys/\∀l,H l=none->Q (.ref l) (upd H l (.tup ys)))\/(SqT K H p ys/\Q (.ref p) H))) (tCons (tCB (λ xs H Q=>∃a ns,xs=[.ref a]/\(SqL K H a (ns.map V.int)\/SqT K H a (ns.map V.int))/\ns.length < 64/\srt ns H Q) (tCons (tOp (rCatS K) tp (tTup (tCons tn tNil))) tNil)) tNil) σ H Q:=by
 refine hp _ (hn _ ⟨w_1,λ r j=>?_⟩);obtain ⟨y,b,d,g⟩:=newA (.tup [.int (n:Nat)]) j;rw [<-b];refine ⟨pa,r,nsV ns,[.int (n:Nat)],rfl,rfl,d.seqT sa,SqT.of g,by simp,C0 (m:=100) (by rw [z7u];show _ + 1<=100;omega) (by decide),λ s w h c=>?_⟩;rw [show nsV ns++[.int (n:Nat)]=((ns++[n]).map λ (n:Nat)=>(n:Int)).map V.int by unfold nsV;rw [v3,u1];rfl] at c;refine ⟨s,_,rfl,.inr c,by rw [F0,K0];show _ + 1 < 64;omega,λ f v t u e=>?_⟩;rw [zj9 u e];obtain ⟨x,b,k,i⟩:=newA (.lst (nsV (srtN (ns++[n])))) t;rw [<-b];exact ⟨f,_,rfl,.inl ⟨SqL.of i,λ b4 o=>q b4 _ (((d.trans h).trans k).trans (Same.upd o)) upd_same⟩⟩
def z3u (K:b0):Sp:=λ vs H Q _=>∃(l p pa:Addr) (zs:List V) (rs:List Rc) (ns:List Nat) (x:V),vs=[.ref l,.ref p]/\H l=some (.lst zs)/\All2 (ActAt H) rs zs/\rs.length<=63/\SqT K H p [.ref pa,x]/\SqT K H pa (nsV ns)/\∀b H',Same H H'->(b=true↔∀n r,rs[n]? = some r->r.e.isSome=true->n∈ns)->Q (.bl b) H'
theorem z7e (T:TX (kx w) mg):Fo P w mg base CX0 1 454 y0i ["some","place"] (z3u (kx w)):=by
 refine (z2k w.params).ok z7d (λ vs H Q E h=>?_) (λ a3 A a1 s H vs Q E hr h=>?_)
 ·obtain ⟨l,p,F,o,c,ns,x,rfl,_⟩:=h;rfl
 ·obtain ⟨l,p,F,o,c,ns,x,rfl,J,O,rl,sp,sa,q⟩:=h;refine ⟨_,(z04 (ps_ret (z0v (zj0 hr) (zgd (xs:=["number"]) (g:=gName 0) (fr:=[(1,"place"),(0,"some")]) rfl (z2e rfl (T.no (z69 _)) (z00 (z09 z0s rfl (T.no (n_len _)) E3 (z00 (pv 0) pa_nil)) pa_nil)) (by intro p v;simp only [F1,A0,or_false] at v;rcases v with rfl|rfl<;>first|exact ⟨rfl,.inl rfl⟩|exact ⟨rfl,.inr rfl⟩) (zln (ns:=["place","some"]) (by decide +kernel) (by intro n t k;simp only [F1,A0,or_false] at t;rcases t with rfl|rfl<;>first|exact .inl rfl|exact .inr rfl)) (by intro p v;simp only [F1,A0,or_false] at v;rcases v with rfl|rfl<;>exact ⟨by decide +kernel,by first|exact .inl rfl|exact .inr rfl⟩) (by decide +kernel) rfl (by decide +kernel) (λ _ _ _ _ _=>(pg_cn (N:=["number","place","some"]) 0)) (λ _ _ _ _ _=>(pf_one (PW.pt (pw_and (z07 z3v (pe_ix (z7p (K:=KX w.params) rfl) (pe_ix (z7p (K:=KX w.params) rfl) (pv 2) (pv 0) (λ _ _=>rfl)) pe_int (λ _ _=>rfl)) pe_non (nomark _)) (z5v (z07 (zaa (K:=KX w.params) rfl) (pv 0) (pe_ix (z7p (K:=KX w.params) rfl) (pv 1) pe_int (λ _ _=>rfl)) (by with_unfolding_all rfl))))))) (λ _ _ _ _ _=>(pv 0))) (pe_lst pa_nil) (nomark _)))),?_⟩;have lz:o.length=c.length:=z03 O;refine sq_ret ?_;refine zf2 (S:=Same) (n:=o.length) (λ k=>((c[k]?.map λ r=>r.e.isSome).getD false) && !decide (k∈ns)) (λ k y _=>True) (Same.refl _) (λ _ _ _ a b=>a.trans b) (λ _ _=>Same.refl _) (λ _ _ _ _ _ z=>z) (λ R h=>⟨_,rfl,.inl ⟨l,o,rfl,.inl (SqL.of J),h⟩⟩) (C0 (m:=63) (by omega) (by decide)) (λ k D H7 d KT KF u i=>?_) λ l7 H7 us d a0 Z=>?_
  ·have L:k < c.length:=by omega
   obtain ⟨y,W,I,rfl,Y⟩:=z0w O (B0 L);have B:c[k]? = some c[k]:=B0 L;generalize c[k]=r at *;rw [B] at u i;refine ⟨[some (.int (k:Nat))],rfl,rfl,?_⟩;refine ⟨_,rfl,_,rfl,.inl ⟨l,o,k,.ref I,rfl,rfl,SqL.of (d _ _ J),z05 W,.inl ⟨I,_,6,endV r.e,rfl,rfl,SqL.of (d _ _ Y),z05 (j:=6) rfl,rfl,_,rfl,?_⟩⟩⟩;cases re:r.e with
   | none=>refine iteN (by show ¬ (!decide (V.non=V.non))=true;decide) (iteF (i ?_ _ (Same.refl _)));show (r.e.isSome && _)=false;rw [re];rfl
   | some e=>
    refine iteP rfl ?_;refine ⟨_,rfl,_,rfl,.inr (.inl ⟨p,_,0,.ref F,rfl,rfl,d.seqT sp,z05 (j:=0) rfl,F,_,rfl,.inr (d.seqT sa),rfl,z4m _,_,rfl,?_⟩)⟩;rw [inV_ns];have u:=λ z=>u (show (r.e.isSome && _)=true from z);have i:=λ z=>i (show (r.e.isSome && _)=false from z);rw [re] at u i;cases hb:decide (k∈ns) with
    | true=>exact iteF (i (by rw [hb];rfl) _ (Same.refl _))
    | false=>exact iteT ⟨_,rfl,u (by rw [hb];rfl) _ _ (Same.refl _) trivial⟩
  ·refine ⟨w_0,λ U M=>?_⟩;refine ⟨l7,U,us,rfl,rfl,SqL.of ((Same.upd M) _ _ upd_same),SqL.of upd_same,q _ _ (d.trans ((Same.upd a0).trans (Same.upd M))) ?_⟩;have C:=z03 Z;rw [decide_eq_true_iff];constructor
   ·intro e n r t X;rw [e] at C;have lf:=List.eq_nil_of_length_eq_zero C.symm;have a2:=(List.getElem?_eq_some_iff.mp t).1;have:=List.filter_eq_nil_iff.mp lf n (List.mem_range.mpr (by omega));rw [t] at this;have this:¬ (r.e.isSome && !decide (n∈ns))=true:=this;rw [X,u9] at this;by_cases z:n∈ns
    ·exact z
    ·exact absurd (by rw [decide_eq_false z];rfl) this
   ·intro f;refine List.eq_nil_of_length_eq_zero (C.trans ?_);rw [List.length_eq_zero_iff,List.filter_eq_nil_iff];intro k D z;rw [j2] at z;have D:=List.mem_range.mp D;have B:c[k]? = some c[k]:=B0 (by omega);rw [B] at z;have G:=z.2;rw [decide_eq_true (f k _ B z.1)] at G;cases G
def z5r (K:b0):Sp:=λ vs H Q _=>∃(t la p pt te:Addr) (zs:List V) (ts:List (Str×Str)) (rs:List Rc) (ps:List DD) (di:Nat) (os:List Int) (pl:Pl),vs=[.ref t,.ref la,.str "strict",.ref p]/\H t=some (.tup [.ref pt,.ref te])/\ThAt H pt ts/\ThW ts/\H la=some (.lst zs)/\All2 (ActAt H) rs zs/\All2 (RcGd K H ts) rs ps/\rs.length<=63/\DInv di rs os/\PlZ K H p pl/\PlOk ts rs.length pl.1.length pl/\
 ∀l ys H',Same H H'->H l=none->H' l=some (.lst ys)->All2 (StpZ K H') (nxT 0 ts rs ps pl) ys->Q (.ref l) H'
theorem zah (T:TX (kx w) mg) (c0:Ca P w mg base "_law_may_be_next" ["some","strictness","done","number"] 2 (z1t (kx w))) (c1:Ca P w mg base "_law_applied" ["things","states","own"] 2 (z21 (kx w))):Fo P w mg base CX0 3 449 y13 ["tale","some","strictness","place"] (z5r (kx w)):=by
 refine (z42 w.params).ok sc__law_nexts (λ S H Q E h=>?_) (λ d3 A d4 s H S Q E hr h=>?_)
 ·obtain ⟨t,C,p,pt,te,D,ts,l,ps,di,os,pl,rfl,_⟩:=h;rfl
 ·obtain ⟨t,C,p,pt,te,D,ts,l,ps,di,os,⟨u,B⟩,rfl,et,th,ok,el,aa,gd,rl,DI,⟨F,I,S,sp,N,sb,sz⟩,M,q⟩:=h;refine ⟨_,(z02 (ps_set (i:=4) sc__law_nexts.nd rfl (Y0 rfl) (pe_lst pa_nil))
   (z02 (ps_asg (pv 3) (pg_tup rfl (z0d (z0h (i:=5) sc__law_nexts.nd rfl (Y0 rfl)) (z0d (z0h (i:=6) sc__law_nexts.nd rfl (Y0 rfl)) z1b))))
   (z02 (ps_for R1 rfl (z2e rfl (T.no (z69 _)) (z00 (z09 z0s rfl (T.no (n_len _)) E3 (z00 (pv 1) pa_nil)) pa_nil)) (z0h (i:=7) sc__law_nexts.nd rfl (Y0 rfl))
   (z04 (ps_if (pt_val (pe_cal c0 (hr.mono (by decide)) rfl (z00 (pv 1) (z00 (pv 2) (z00 (pv 5) (z00 (pv 7) pa_nil))))) (λ _=>rfl))
   (z02 (ps_set (i:=8) sc__law_nexts.nd rfl (Y0 rfl) (pe_lst (z00 (pe_ix ix_seq (pe_ix ix_seq (pv 1) (pv 7) (λ _ _=>rfl)) pe_int (λ _ _=>rfl)) (z00 (pe_ix ix_seq (pe_ix ix_seq (pv 1) (pv 7) (λ _ _=>rfl)) pe_int (λ _ _=>rfl)) (z00 (pe_ix ix_seq (pe_ix ix_seq (pv 1) (pv 7) (λ _ _=>rfl)) pe_int (λ _ _=>rfl)) (z00 pe_non pa_nil))))))
   (z02 (ps_set (i:=9) sc__law_nexts.nd rfl (Y0 rfl) (pe_cal c1 (hr.mono (by decide)) rfl (z00 (pe_ix ix_seq (pv 0) pe_int (λ _ _=>rfl)) (z00 (pv 6) (z00 (pv 8) pa_nil)))))
   (z04 (ps_if (PW.pt (pw_or (z07 op_isN (pe_ix ix_seq (pe_ix ix_seq (pv 1) (pv 7) (λ _ _=>rfl)) pe_int (λ _ _=>rfl)) pe_non (nomark _)) (pw_or1 (z07 opEq (pe_ix ix_seq (pv 8) pe_int (λ _ _=>rfl)) (pe_ix ix_seq (pe_ix ix_seq (pv 1) (pv 7) (λ _ _=>rfl)) pe_int (λ _ _=>rfl)) (nomark _)))))
   (z04 (z33 (z1h (pv 4) (z00 (pe_tup (z00 (pv 7) (z00 (pe_ix ix_seq (pv 8) pe_int (λ _ _=>rfl)) (z00 (pe_tup (z00 (z0r z0j rfl (T.no (z25 _)) W3 (z00 (z09 z2g rfl (T.no (z5c _)) X7 (z00 (pe_op op_catS (pv 5) (pe_tup (z00 (pv 7) pa_nil))) pa_nil)) pa_nil)) (z00 (pv 9) pa_nil))) pa_nil)))) pa_nil))))
   z0b))))
   z0b)))
   (z04 (ps_ret (pv 4)))))),?_⟩
  have lz:D.length=l.length:=z03 aa;have N:SqT (kx w) H F (nsV u):=N;have sz:All2 (StZ (kx w) H) B S:=sz;have b1 :∀n,cM 0 l u n=cP 0 l u n:=λ n=>cM_cP DI M.lt;refine ⟨w_0,λ lt a0=>?_⟩;obtain ⟨H1,v1,s1,e1⟩:=new1 (.lst []) a0;rw [<-v1];refine g_name (t_nx ?_);refine ⟨_,rfl,p,_,rfl,s1.seqT sp,rfl,.ref F,_,rfl,.ref I,_,rfl,rfl,t_nx ?_⟩;refine ⟨_,rfl,.inl ⟨C,D,rfl,.inl (SqL.of (s1 _ _ el)),D.length,rfl,by omega,by omega,?_⟩⟩;refine z3m (lo:=0) (n:=D.length) (λ i σ f=>∃ys,Same H f/\f lt=some (.lst ys)/\All2 (StpZ (kx w) f) (nexT (cP 0 l u) ts l ps (u,B) i) ys/\∃x7 x8 x9,σ=[some (.ref t),some (.ref C),some (.str "strict"),some (.ref p),some (.ref lt),some (.ref F),some (.ref I),x7,x8,x9]) ⟨[],s1,e1,.nil,_,_,_,rfl⟩ ?_ ?_
  ·rintro j σ H7 hj ⟨ys,s7,e7,al7,x7,x8,x9,rfl⟩;rw [P6];refine g_name ?_;have a2:j < l.length:=by omega
   have J:l[j]? = some l[j]:=B0 a2;obtain ⟨y,hy,pk,rfl,ek⟩:=z0w aa J;obtain ⟨d,a4,a3⟩:=z0w gd J;generalize l[j]=r at J ek a3;have skip:cP 0 l u j=false\/stp ts r d j (u,B)=none->∀{y8 y9:Option V} {f:Hp},Same H7 f->∃ys,Same H f/\f lt=some (.lst ys)/\All2 (StpZ (kx w) f) (nexT (cP 0 l u) ts l ps (u,B) (j + 1)) ys/\∃x7 x8 x9,[some (.ref t),some (.ref C),some (.str "strict"),some (.ref p),some (.ref lt),some (.ref F),some (.ref I),some (.int (j:Nat)),y8,y9]=[some (.ref t),some (.ref C),some (.str "strict"),some (.ref p),some (.ref lt),some (.ref F),some (.ref I),x7,x8,x9]:=λ h {y8 y9 f} G=>by refine ⟨ys,s7.trans G,G _ _ e7,?_,_,_,_,rfl⟩;rw [z4p,zfk J a4 h,W8,D2];exact z01 (λ _ _ z=>StpZ.tups (.of G) z) al7
   refine z3s ⟨_,rfl,_,rfl,_,rfl,_,rfl,C,F,D,l,u,j,rfl,s7 _ _ el,z01 (λ _ _ z=>z.same s7) aa,rl,s7.seqT N,M.lt,a2,_,rfl,?_⟩;rw [b1];cases hc:cP 0 l u j with
   | false=>exact iteF (skip (.inl hc) (Same.refl _))
   | true=>
   refine iteT ?_;have c3:=cP_no hc;obtain ⟨g1,g2,hm,dk,ix,wi,ga⟩:=a3;rw [g1,g2] at ek;have K :∀{f:Hp} {R:VK} {x8 x9:Option V} {i:Nat} {v:V},Same H f->([.int r.h,.str d.nm,.str d.vb,r.x,r.a,.int r.b,endV r.e]:List V)[i]? = some v->R v f->tOp (rIx (kx w)) (tOp (rIx (kx w)) (tVar 1) (tVar 7)) (tC (.int i)) [some (.ref t),some (.ref C),some (.str "strict"),some (.ref p),some (.ref lt),some (.ref F),some (.ref I),some (.int (j:Nat)),x8,x9] f R:=λ G hi h=>⟨_,rfl,_,rfl,.inl ⟨C,D,j,.ref pk,rfl,rfl,SqL.of (G _ _ el),z05 hy,.inl ⟨pk,_,_,_,rfl,rfl,SqL.of (G _ _ ek),z05 hi,h⟩⟩⟩
   refine K (i:=1) s7 rfl (K (i:=2) s7 rfl (K (i:=3) s7 rfl ⟨w_4,λ oa a6=>?_⟩));obtain ⟨H8,v8,q8,e8⟩:=new1 (.lst [.str d.nm,.str d.vb,r.x,.non]) a6;rw [<-v8];refine g_name (t_nx ?_);have Z:=s7.trans q8;have O:Tt (kx w) H H8:=.of Z;obtain ⟨a7,c8⟩:=M.n63 rl a2 c3;refine ⟨_,rfl,.inr (.inl ⟨t,_,0,.ref pt,rfl,rfl,SqT.of (Z _ _ et),z05 (j:=0) rfl,_,rfl,_,rfl,?_⟩)⟩;refine ⟨pt,I,oa,ts,_,B,d.nm,d.vb,r.x,.non,d.k,d.dt,rfl,th.tt O,ok,⟨S,Z.seqT sb,z01 (λ _ _ z=>StZ.tups O.t z) sz,M.so⟩,a7,e8,hm,dk,IsDt.mono' O.t _ _ ix,wi.tt O,λ p9 H9 sv c9 k9 e9 b8 so=>?_⟩;refine g_name (t_nx ?_);have L:Same H7 H9:=λ c o e=>k9 c o (λ z=>by rw [List.mem_singleton.mp z,a6] at e;cases e) (q8 c o e);have X:=s7.trans L;have c4:=dz_ok dk so a7;have U:=stp_of (ts:=ts) (r:=r) (n:=j) (pl:=(u,B)) c9;refine if_any (λ f=>H9=f/\stp ts r d j (u,B)=some (stq ts d j (u,B) sv)) ?_ λ put=>?_;rotate_left
   ·refine t_or (K (i:=6) X rfl ⟨rfl,_,rfl,?_⟩);cases re:r.e with
    | none=>refine iteP rfl (iteT (put _ ⟨rfl,?_⟩));rw [U,re];rfl
    | some e=>
    refine iteN (by simp [endV]) ?_;have rA:IsA r.a:=by
     rcases ga with ⟨g,_⟩|⟨_,g⟩
     ·rw [re] at g;cases g
     ·exact g
    refine ⟨_,rfl,.inl ⟨oa,_,3,_,rfl,rfl,SqL.of e9,z05 (j:=3) rfl,K (i:=4) X rfl ⟨IsA.scal (.inl c4.2.isA) (.inl rA),_,rfl,?_⟩⟩⟩;by_cases za:(dz d.k d.vb d.dt sv).2=r.a
    ·refine iteP (decide_eq_true za) (put _ ⟨rfl,?_⟩);rw [U,decide_eq_true za,Bool.or_true];rfl
    ·refine iteN (λ h=>za (of_decide_eq_true h)) (skip (.inr ?_) L);rw [U,re,decide_eq_false za];rfl
   rintro f ⟨rfl,hst⟩;refine ⟨_,rfl,.inl ⟨rfl,_,SqL.of (L _ _ e7)⟩,_,rfl,_,rfl,.inl ⟨oa,_,3,_,rfl,rfl,SqL.of e9,z05 (j:=3) rfl,?_⟩⟩;refine zbs (tup2 (srt_in (n:=j) (λ R h=>⟨_,rfl,h⟩) (λ R h=>⟨_,rfl,h⟩) (X.seqT N) c8 λ b4 d2 c5 c7=>⟨_,rfl,w_2,λ b5 b3=>?_⟩));obtain ⟨d5,c6,a8,d0⟩:=new1 (.tup [.ref b4,.ref p9]) b3;rw [<-c6];refine ⟨w_3,λ b6 c2=>?_⟩;obtain ⟨a5,b2,a1,b9⟩:=new1 (.tup [.int (j:Nat),(dz d.k d.vb d.dt sv).2,.ref b5]) c2;rw [<-b2];have Y:=(c5.trans a8).trans a1;have W:=L.trans Y;have a9:=W _ _ e7;have yl:ys.length<=j:=by rw [z03 al7];exact zbg
   refine ⟨lt,ys,_,rfl,rfl,a9,O1 (m:=100) (by omega) (by decide),?_⟩;have tu:Tups (kx w) a5 (upd a5 lt (.lst (ys++[.ref b6]))):=Tups.lst a9;refine ⟨ys++[.ref b6],Same.keep (s7.trans W) a0,upd_same,?_,_,_,_,rfl⟩;rw [z4p,zf1 J a4 hc hst];obtain ⟨b7,d1,b0,_⟩:=b8;exact ze3 (z01 (λ _ _ z=>(StpZ.tups (.of W) z).tups tu) al7) (.cons (StpZ.tups tu ⟨b6,b5,rfl,SqT.of b9,b4,p9,b7,SqT.of (a1 _ _ d0),SqT.of ((a8.trans a1) _ _ c7),Y.seqT d1,z01 (λ _ _ z=>StZ.tups (.of Y) z) b0⟩) .nil)
  ·rintro σ H7 ⟨ys,s7,e7,al7,x7,x8,x9,rfl⟩;rw [lz] at al7;exact ⟨_,rfl,q _ _ _ s7 a0 e7 al7⟩
end
section
theorem EWf.take :∀{es:List Ev} {os:List Int} (m:Nat),EWf os es->EWf os (es.take m)
 | [],_,m,_=>by rw [g9];exact trivial
 | _ :: _,_,0,_=>trivial
 | _ :: es,_,m + 1,h=>⟨h.1,EWf.take m h.2⟩
theorem zek {es:List Ev} (m:Nat):bgN (es.take m)<=bgN es:=by unfold bgN;exact ((List.take_sublist m es).filter _).length_le
theorem z96 {α β:Type} {R:α->β->Prop} :∀{xs:List α} {ys:List β},All2 R xs ys->∀m,All2 R (xs.take m) (ys.take m)
 | _,_,.nil,m=>by rw [g9,g9];exact .nil
 | _,_,.cons _ _,0=>.nil
 | _,_,.cons a r,m + 1=>.cons a (z96 r m)
theorem cP_iff {m:Nat} {rs:List Rc} {ns:List Nat} {n:Nat}:cP m rs ns n=true↔n∉ns/\(∀a,z0g m rs a n=true->a∈ns)/\∀b,z0g m rs n b=true->b∉ns:=by unfold cP cO;simp only [j2,decide_eq_true_iff];exact ⟨λ h=>⟨h.1.1,λ a c=>h.1.2 a (List.mem_range.mpr (z1l c).1) c,λ b d=>h.2 b (List.mem_range.mpr (z1l d).2) d⟩,λ h=>⟨⟨h.1,λ a _ c=>h.2.1 a c⟩,λ b _ d=>h.2.2 b d⟩⟩
theorem mem_nx {m:Nat} {ts:List (Str×Str)} {rs:List Rc} {ps:List DD} {pl:Pl} {s:Stp}:s∈nxT m ts rs ps pl↔∃n r p,cP m rs pl.1 n=true/\rs[n]? = some r/\ps[n]? = some p/\stp ts r p n pl=some s:=by
 unfold nxT nexT;rw [List.mem_filterMap];constructor
 ·rintro ⟨n,_,e⟩;unfold nexAt at e;split at e
  ·rename_i h;split at e
   ·rename_i r p hr hp;exact ⟨n,r,p,h,hr,hp,e⟩
   ·cases e
  ·cases e
 ·rintro ⟨n,r,p,h,hr,hp,e⟩;refine ⟨n,List.mem_range.mpr (List.getElem?_eq_some_iff.mp hr).1,?_⟩;unfold nexAt;rw [if_pos h,hr,hp];exact e
theorem stp_le {ts:List (Str×Str)} {r r':Rc} {p:DD} {n:Nat} {pl:Pl} {s:Stp} (h:r'.e=none\/r'=r) (e:stp ts r p n pl=some s):stp ts r' p n pl=some s:=by
 rcases h with h|h
 ·unfold stp at e⊢;rw [h];split at e
  ·split at e
   ·exact e
   ·cases e
  ·cases e
 ·rw [h];exact e
theorem stp_to {ts:List (Str×Str)} {r:Rc} {p:DD} {n:Nat} {pl:Pl} {s:Stp} (e:stp ts r p n pl=some s) :∀x,x∈s.2.2.1↔x∈pl.1\/x=n:=by
 unfold stp at e;split at e
 ·split at e
  ·cases e;intro x;show x∈srtN (pl.1++[n])↔_;rw [(z82 _).mem_iff,List.mem_append,List.mem_singleton]
  ·cases e
 ·cases e
def Gd (ts:List (Str×Str)) (ps:List DD) (es:List Ev):Prop:=∃o pl,Wk 0 ts (dAll 0 [] es) ps o pl/\FullP (dAll 0 [] es) pl
def Opn (rs:List Rc) (os:List Int):Prop:=∀h∈os,∀j,lastI h (rs.map Rc.h)=some j->∃r,rs[j]? = some r/\r.e=none
theorem Opn.step {i:Nat} {rs:List Rc} {os:List Int} {e:Ev} (I:Opn rs os) (ok:oOk os e):Opn (dstep i rs e) (oStep os e):=by
 cases e with
 | beg h0 n v x=>
  intro h d j b;change lastI h ((rs++[_]).map Rc.h)=some j at b;rw [u1,j1,D4,z3c] at b;show∃r,(rs++[_])[j]? = some r/\_;by_cases z:h0=h
  ·rw [if_pos z,F0] at b;cases b;exact ⟨_,by rw [P1 (u0 _),j36];rfl,rfl⟩
  ·rw [if_neg z] at b;have lt:=z6p b;rw [F0] at lt;rw [K1 lt];refine I h ?_ j b;rcases List.mem_append.mp d with y|y
   ·exact y
   ·exact absurd (List.mem_singleton.mp y).symm z
 | fin h0 a=>
  intro h d j b;obtain ⟨g,c⟩:=List.mem_filter.mp (show h∈os.filter λ k=>decide (k≠h0) from d);have c:h≠h0:=of_decide_eq_true c;unfold dstep at b⊢;dsimp only at b⊢;cases hl:lastI h0 (rs.map Rc.h) with
  | none=>rw [hl] at b;exact I h g j b
  | some j0=>
   rw [hl] at b;dsimp only at b⊢;rw [zb7 (f:=λ r=>{ r with a:=a,e:=some i }) (λ r=>rfl)] at b;obtain ⟨r,m,o⟩:=I h g j b;refine ⟨r,?_,o⟩;rw [G2,m];have ne:j0≠j:=λ z=>by have l:=(z8t _ hl).1;have p:=(z8t _ b).1;rw [z,p] at l;exact c (Q1 l)
   show some (if j0=j then _ else r)=_;rw [if_neg ne]
theorem zit :∀{es:List Ev} {e:Ev} {i:Nat} {rs:List Rc} {os:List Int},DInv i rs os->Opn rs os->EWf os (es++[e])->∃os',DInv (i + es.length) (dAll i rs es) os'/\Opn (dAll i rs es) os'/\oOk os' e/\dAll i rs (es++[e])=dstep (i + es.length) (dAll i rs es) e
 | [],e,i,rs,os,I,O,w=>⟨os,I,O,w.1,rfl⟩
 | x :: es,e,i,rs,os,I,O,w=>by
  obtain ⟨os',a,c,f,b⟩:=zit (I.step w.1).1 (O.step (i:=i) w.1) w.2;have d:i + (x :: es).length=i + 1 + es.length:=by rw [P0];omega
  rw [d];exact ⟨os',a,c,f,b⟩
section
variable {ts:List (Str×Str)} {ps:List DD} {rs:List Rc} {k:Nat}
theorem ah_app {r0:Rc} {a b:Nat} (ha:a < rs.length) (hb:b < rs.length):z0g 0 (rs++[r0]) a b=z0g 0 rs a b:=by unfold z0g;rw [K1 ha,K1 hb]
theorem lt_app {r0:Rc} {a:Nat} (h:a < (rs++[r0]).length):a < rs.length\/a=rs.length:=by rw [K0] at h;have h:a < rs.length + 1:=h;omega
theorem zm4 {r0:Rc} (h0:r0.e=none) (hb :∀r∈rs,∀e,r.e=some e->e < r0.b) {o:List Oa} {pl:Pl} (wk:Wk 0 ts (rs++[r0]) ps o pl):(rs.length∉pl.1/\Wk 0 ts rs ps o pl)\/∃o pl,Wk 0 ts rs ps o pl/\FullP rs pl:=by
 induction wk with
 | nil=>exact .inl ⟨A0,.nil⟩
 | @snoc o pl s _ h ih=>
  rcases ih with ⟨w,i⟩|ih;rotate_left
  ·exact .inr ih
  obtain ⟨n,r,p,q,d,u,j⟩:=mem_nx.mp h;obtain ⟨m,l,v⟩:=cP_iff.mp q;rcases lt_app (List.getElem?_eq_some_iff.mp d).1 with z|z
  ·rw [K1 z] at d;refine .inl ⟨λ y=>?_,.snoc i (mem_nx.mpr ⟨n,r,p,cP_iff.mpr ⟨m,λ a g=>l a ?_,λ b hb=>v b ?_⟩,d,u,j⟩)⟩
   ·rcases (stp_to j _).mp y with y|y
    ·exact w y
    ·omega
   ·rw [ah_app (z1l g).1 z];exact g
   ·rw [ah_app z (z1l hb).2];exact hb
  ·subst z;refine .inr ⟨o,pl,i,λ n k f c=>l n ?_⟩;obtain ⟨e,c⟩:=Option.isSome_iff_exists.mp c;have t:=(List.getElem?_eq_some_iff.mp f).1;rw [z1j (by rw [K1 t];exact f) (show (rs++[r0])[rs.length]? = some r0 by rw [P1 (u0 _),j36];rfl)];show ltO k.e r0.b=true;rw [c];exact decide_eq_true (hb k (O0 f) e c)
theorem zlp {j:Nat} {a:V} {r1:Rc} (h1:rs[j]? = some r1) (he:r1.e=none) (hb :∀r∈rs,r.b < k) {o:List Oa} {pl:Pl} (wk:Wk 0 ts (rs.modify j λ r=>{ r with a:=a,e:=some k }) ps o pl):Wk 0 ts rs ps o pl:=by
 have f :∀x y,z0g 0 (rs.modify j λ r=>{ r with a:=a,e:=some k }) x y=z0g 0 rs x y:=λ x y=>by
  unfold z0g;rw [G2,G2];cases hx:rs[x]? with
  | none=>rfl
  | some r=>
   cases hy:rs[y]? with
   | none=>rfl
   | some q=>
    show ltO (if j=x then { r with a:=a,e:=some k } else r).e (if j=y then { q with a:=a,e:=some k } else q).b=ltO r.e q.b;have m:(if j=y then { q with a:=a,e:=some k } else q).b=q.b:=by split<;>rfl
    rw [m];by_cases z:j=x
    ·subst z;rw [if_pos rfl];rw [h1] at hx;cases hx;rw [he];exact decide_eq_false (by have:=hb q (O0 hy);omega)
    ·rw [if_neg z]
 induction wk with
 | nil=>exact .nil
 | @snoc o pl s _ h ih=>
  obtain ⟨n,r,p,l,d,u,t⟩:=mem_nx.mp h;obtain ⟨i,A,v⟩:=cP_iff.mp l;rw [G2] at d;obtain ⟨w,c,e⟩:=Option.map_eq_some_iff.mp d;refine .snoc ih (mem_nx.mpr ⟨n,w,p,cP_iff.mpr ⟨i,λ a g=>A a (by rw [f];exact g),λ b hb=>v b (by rw [f];exact hb)⟩,c,u,stp_le ?_ t⟩);by_cases z:j=n
  ·subst z;rw [h1] at c;cases c;exact .inl he
  ·rw [if_neg z] at e;exact .inr e
end
theorem gd_pre {ts:List (Str×Str)} {ps:List DD} {es:List Ev} {e:Ev} (wf:EWf [] (es++[e])) (h:Gd ts ps (es++[e])):Gd ts ps es:=by
 obtain ⟨l,I,O,ok,p⟩:=zit (i:=0) DInv.nil (λ _ h=>absurd h A0) wf;obtain ⟨o,k,c,d⟩:=h;rw [p] at c d;rw [m8] at I c d;unfold Gd;generalize dAll 0 [] es=rs at *;cases e with
 | beg h n v x=>
  rcases zm4 rfl (λ r f e g=>I.e r f e g) c with z|z
  ·refine ⟨o,k,z.2,λ n r f g=>d n r ?_ g⟩;show (rs++[_])[n]? = _;rw [K1 (List.getElem?_eq_some_iff.mp f).1];exact f
  ·exact z
 | fin h a=>
  have s:h∈l:=ok;unfold dstep at c d;dsimp only at c d;cases hl:lastI h (rs.map Rc.h) with
  | none=>rw [hl] at c d;exact ⟨o,k,c,d⟩
  | some j=>
   rw [hl] at c d;dsimp only at c d;obtain ⟨t,m,g⟩:=O h s j hl;refine ⟨o,k,zlp m g I.b c,λ n r f q=>?_⟩;refine d n (if j=n then { r with a:=a,e:=some es.length } else r) (by rw [G2,f];rfl) ?_;by_cases z:j=n
   ·rw [if_pos z];rfl
   ·rw [if_neg z];exact q
theorem gd_nil {ts:List (Str×Str)} {ps:List DD}:Gd ts ps []:=⟨[],_,.nil,λ n r a=>by cases a⟩
theorem gd_all {ts:List (Str×Str)} {ps:List DD} {es:List Ev} (wf:EWf [] es) {a b:Nat} (hab:a<=b) (h:Gd ts ps (es.take b)):Gd ts ps (es.take a):=by
 induction b with
 | zero=>rw [Nat.le_zero.mp hab];exact h
 | succ b ih=>
  rcases Nat.lt_or_eq_of_le hab with z|z
  ·refine ih (by omega) ?_;by_cases y:b < es.length
   ·rw [G5 y] at h;refine gd_pre ?_ h;rw [<-G5 y];exact EWf.take _ wf
   ·rw [N3 (by omega)] at h⊢;exact h
  ·rw [z];exact h
theorem nx_take {m:Nat} {ts:List (Str×Str)} {rs:List Rc} {ps:List DD} {pl:Pl} {s:Stp}:s∈nxT m ts rs (ps.take rs.length) pl↔s∈nxT m ts rs ps pl:=by
 rw [mem_nx,mem_nx];constructor
 ·rintro ⟨n,r,p,h1,h2,h3,h4⟩;rw [A7 (List.getElem?_eq_some_iff.mp h2).1] at h3;exact ⟨n,r,p,h1,h2,h3,h4⟩
 ·rintro ⟨n,r,p,h1,h2,h3,h4⟩;exact ⟨n,r,p,h1,h2,by rw [A7 (List.getElem?_eq_some_iff.mp h2).1];exact h3,h4⟩
theorem wk_take {m:Nat} {ts:List (Str×Str)} {rs:List Rc} {ps:List DD} {o:List Oa} {pl:Pl}:Wk m ts rs (ps.take rs.length) o pl↔Wk m ts rs ps o pl:=by
 constructor
 ·intro h;induction h with
  | nil=>exact .nil
  | snoc _ h ih=>exact .snoc ih (nx_take.mp h)
 ·intro h;induction h with
  | nil=>exact .nil
  | snoc _ h ih=>exact .snoc ih (nx_take.mpr h)
end
section
variable {P:Program} {w:S0} {mg:Str->Option Value} {base:Heap}
theorem cut_ev {K:b0} {H:Hp} {te:Addr} {ys:List V} {m:Nat} {Q:VK} (e:H te=some (.tup ys)) (hm:m<=ys.length) (q :∀p H',Same H H'->H' p=some (.tup (ys.take m))->Q (.ref p) H'):(rSlL K (.ref te) none (some (m:Int)) H Q\/rSlT K (.ref te) none (some (m:Int)) H Q\/rSlS (.ref te) none (some (m:Int)) H Q)\/rSlW K (.ref te) none (some (m:Int)) H Q:=by
 obtain ⟨b,d,a⟩:=cut_to hm;by_cases z:m=ys.length
 ·refine .inr ⟨te,ys,rfl,SqT.of e,⟨d,a.trans z⟩,q te H (Same.refl _) ?_⟩;rw [z,G3];exact e
 ·refine .inl (.inr (.inl ⟨te,ys,rfl,SqT.of e,λ h=>z (a.symm.trans h.2),λ p c=>q p _ (Same.upd c) ?_⟩));rw [b];exact upd_same
structure TlA (K:b0) (H:Hp) (t pt te:Addr) (ys:List V) (ts:List (Str×Str)) (es:List Ev) (ps:List DD):Prop where
 t:H t=some (.tup [.ref pt,.ref te])
 th:ThAt H pt ts
 te:H te=some (.tup ys)
 al:All2 (EvAt K H) es ys
 ok:ThW ts
 l:es.length<=63
 wf:EWf [] es
 gd :∀m,m<=es.length->All2 (RcGd K H ts) (dAll 0 [] (es.take m)) (ps.take (dAll 0 [] (es.take m)).length)
 bg:bgN es<=5
theorem TlA.same {K:b0} {H H':Hp} {t pt te:Addr} {ys:List V} {ts:List (Str×Str)} {es:List Ev} {ps:List DD} (s:Same H H') (h:TlA K H t pt te ys ts es ps):TlA K H' t pt te ys ts es ps:=⟨s _ _ h.t,h.th.tt (.of (K:=K) s),s _ _ h.te,z01 (λ _ _ z=>EvAt.tups (.of s) z) h.al,h.ok,h.l,h.wf,λ m a=>z01 (λ _ _ z=>RcGd.tt (.of s) z) (h.gd m a),h.bg⟩
theorem TlA.cut {K:b0} {H H':Hp} {t pt te p q:Addr} {ys:List V} {ts:List (Str×Str)} {es:List Ev} {ps:List DD} {m:Nat} (h:TlA K H t pt te ys ts es ps) (hm:m<=es.length) (s:Same H H') (e:H' p=some (.tup [.ref pt,.ref q])) (e2:H' q=some (.tup (ys.take m))):TlP K H' p ts (es.take m) (ps.take (dAll 0 [] (es.take m)).length):=
 have g:=h.same s
 ⟨⟨pt,q,_,e,g.th,e2,z96 g.al m⟩,h.ok,by rw [Q2];have:=h.l;omega,EWf.take m h.wf,g.gd m hm,by rw [ziy,t8,m8];exact C0 (zek m) h.bg⟩
theorem gd_take {ts:List (Str×Str)} {ps:List DD} {es:List Ev}:Gd ts ps es↔∃o pl,Wk 0 ts (dAll 0 [] es) (ps.take (dAll 0 [] es).length) o pl/\FullP (dAll 0 [] es) pl:=
 ⟨λ ⟨o,pl,h1,h2⟩=>⟨o,pl,wk_take.mpr h1,h2⟩,λ ⟨o,pl,h1,h2⟩=>⟨o,pl,wk_take.mp h1,h2⟩⟩
def z4c (K:b0):Sp:=λ vs H Q _=>∃(t te:Addr) (th:V) (ys:List V) (m:Nat),vs=[.ref t,.int (m:Nat)]/\SqT K H t [th,.ref te]/\H te=some (.tup ys)/\m<=ys.length/\∀p q H',Same H H'->H' p=some (.tup [th,.ref q])->H' q=some (.tup (ys.take m))->Q (.ref p) H'
theorem zc0 (T:TX (kx w) mg) (c0:Ca P w mg base "is_whole" ["value"] 1 z53):Fo P w mg base CX0 2 347 y19 ["tale","many"] (z4c (kx w)):=by
 refine (z5d w.params).ok zbj (λ k H Q E h=>?_) (λ x A u s H k Q E l h=>?_)
 ·obtain ⟨t,a,e,c,m,rfl,_⟩:=h;rfl
 ·obtain ⟨t,a,e,c,m,rfl,b,d,g,q⟩:=h;have i:SqT (kx w) H a c:=SqT.of d;refine ⟨_,(z02 (ps_if (PW.pt (pw_or (pt_not (pt_val (pe_cal c0 (l.mono (by decide)) rfl (z00 (pv 1) pa_nil)) (λ _=>rfl))) (pw_or1 (pt_not (zkp op_le op_le pe_int (pv 1) (z09 z0s rfl (T.no (n_len _)) E3 (z00 (pe_ix ix_seq (pv 0) pe_int (λ _ _=>rfl)) pa_nil)))))))
   (z04 z8o)
   z0b)
   (z04 (ps_ret (pe_tup (z00 (pe_ix ix_seq (pv 0) pe_int (λ _ _=>rfl)) (z00 (z1k slSeqW (pe_ix ix_seq (pv 0) pe_int (λ _ _=>rfl)) z3b (z1q (pv 1))) pa_nil)))))),?_⟩
  refine ⟨_,rfl,.int (m:Nat),"int",rfl,rfl,_,rfl,iteN (by decide) ?_⟩;refine ⟨_,rfl,0,(m:Nat),rfl,rfl,_,rfl,iteP (decide_eq_true (by omega)) ?_⟩;refine ⟨_,rfl,.inr (.inl ⟨t,_,1,.ref a,rfl,rfl,b,z05 (j:=1) rfl,.inl ⟨a,c,rfl,.inr i,(m:Nat),_,rfl,rfl,_,rfl,iteN (by rw [decide_eq_true (by omega)];decide) ?_⟩⟩)⟩;refine ⟨_,rfl,.inr (.inl ⟨t,_,0,e,rfl,rfl,b,z05 (j:=0) rfl,_,rfl,.inr (.inl ⟨t,_,1,.ref a,rfl,rfl,b,z05 (j:=1) rfl,_,rfl,_,rfl,cut_ev d g λ o v n r=>?_⟩)⟩)⟩;exact ⟨w_2,λ p f=>q p o _ (n.trans (Same.upd f)) upd_same ((Same.upd f) _ _ r)⟩
def zcn (K:b0):Sp:=λ vs H Q _=>∃(t pt te:Addr) (ys:List V) (ts:List (Str×Str)) (es:List Ev) (ps:List DD) (m:Nat),vs=[.ref t,.int (m:Nat)]/\TlA K H t pt te ys ts es ps/\m<=es.length/\∀b H',Same H H'->(b=true↔¬ Gd ts ps (es.take m))->Q (.bl b) H'
theorem zii (T:TX (kx w) mg) (c0:Ca P w mg base "beginning" ["tale","many"] 2 (z4c (kx w))) (c1:Ca P w mg base "judged" ["tale","strictness"] 8 (z5x (kx w))):Fo P w mg base CX0 9 354 y2f ["tale","many"] (zcn (kx w)):=by
 refine (zbh w.params).ok zh0 (λ u H Q E h=>?_) (λ M A G s H u Q E j h=>?_)
 ·obtain ⟨t,pt,k,d,i,b,v,m,rfl,_⟩:=h;rfl
 ·obtain ⟨t,pt,k,d,i,b,v,m,rfl,a,n,q⟩:=h;refine ⟨_,(z04 (ps_ret (z0v op_isN (pe_cal c1 (j.mono (by decide)) rfl (z00 (pe_cal c0 (j.mono (by decide)) rfl (z00 (pv 0) (z00 (pv 1) pa_nil))) (z00 pe_str pa_nil))) pe_non (nomark _)))),?_⟩;have I:d.length=b.length:=z03 a.al;refine ⟨_,rfl,_,rfl,t,k,.ref pt,d,m,rfl,SqT.of a.t,a.te,by omega,λ x K L e F y=>?_⟩;refine ⟨x,i,b.take m,_,0,rfl,a.cut n e F y,λ C c z=>⟨rfl,q _ _ (e.trans c) ⟨λ _ g=>?_,λ _=>decide_eq_true rfl⟩⟩,λ l J o f C c _ _ p D=>⟨rfl,q _ _ (e.trans c) ⟨λ h=>?_,λ h=>absurd (gd_take.mpr ⟨o,f,p,D⟩) h⟩⟩⟩
  ·obtain ⟨o,f,B,r⟩:=gd_take.mp g;exact z o f B r
  ·cases of_decide_eq_true h
def z2r (K:b0):Sp:=λ vs H Q _=>∃(t pt te:Addr) (ys:List V) (ts:List (Str×Str)) (es:List Ev) (ps:List DD),vs=[.ref t]/\TlA K H t pt te ys ts es ps/\(∀H',Same H H'->Gd ts ps es->Q .non H')/\∀(d:Nat) H',Same H H'->d < es.length->Gd ts ps (es.take d)->¬ Gd ts ps (es.take (d + 1))->Q (.int ((d + 1:Nat))) H'
theorem z73 (T:TX (kx w) mg) (c0:Ca P w mg base "is_bad" ["tale","many"] 9 (zcn (kx w))):Fo P w mg base CX0 10 361 y0b ["tale"] (z2r (kx w)):=by
 refine (z20 w.params).ok sc_bad_beginning (λ G H Q E h=>?_) (λ O A M s H G Q E y h=>?_)
 ·obtain ⟨t,pt,m,f,d,a,e,rfl,_⟩:=h;rfl
 ·obtain ⟨t,pt,m,f,d,a,e,rfl,o,J,q⟩:=h;refine ⟨_,(z02 (ps_set (i:=1) sc_bad_beginning.nd rfl (Y0 rfl) (z09 z0s rfl (T.no (n_len _)) E3 (z00 (pe_ix ix_seq (pv 0) pe_int (λ _ _=>rfl)) pa_nil)))
   (z02 (ps_if (pt_not (pt_val (pe_cal c0 (y.mono (by decide)) rfl (z00 (pv 0) (z00 (pv 1) pa_nil))) (λ _=>rfl)))
   (z04 (ps_ret pe_non))
   z0b)
   (z02 (ps_set (i:=2) sc_bad_beginning.nd rfl (Y0 rfl) pe_int)
   (z02 (zbq R1 (z07 op_gt (pe_op op_sub (pv 1) (pv 2)) pe_int (nomark _))
   (z02 (ps_set (i:=3) sc_bad_beginning.nd rfl (Y0 rfl) (pe_op z8j (pe_op opAdd (pv 2) (pv 1)) pe_int))
   (z04 (ps_if (pt_val (pe_cal c0 (y.mono (by decide)) rfl (z00 (pv 0) (z00 (pv 3) pa_nil))) (λ _=>rfl))
   (z04 (ps_set (i:=1) sc_bad_beginning.nd rfl (Y0 rfl) (pv 3)))
   (z04 (ps_set (i:=2) sc_bad_beginning.nd rfl (Y0 rfl) (pv 3)))))))
   (z04 (ps_ret (pv 1))))))),?_⟩
  have D:f.length=a.length:=z03 o.al;refine ⟨_,rfl,.inr (.inl ⟨t,_,1,.ref m,rfl,rfl,SqT.of o.t,z05 (j:=1) rfl,.inl ⟨m,f,rfl,.inr (SqT.of o.te),?_⟩⟩)⟩;rw [D];refine g_name (t_nx ?_);refine sq_if ?_;refine ⟨_,rfl,_,rfl,t,pt,m,f,d,a,e,a.length,rfl,o,u0 _,λ b B u n=>⟨_,rfl,?_⟩⟩;rw [G3] at n;cases b with
  | false=>exact iteP rfl (J _ u (C6 λ z=>by have:=n.mpr z;cases this))
  | true=>
  refine iteN (by decide) (t_nx ?_);have p:=n.mp rfl;refine g_name (t_nx ?_);have K:Gd d e (a.take 0):=gd_nil;have I:0 < a.length:=by
   rcases Nat.eq_zero_or_pos a.length with z|z
   ·rw [List.eq_nil_of_length_eq_zero z] at p;exact absurd gd_nil p
   ·exact z
  rw [<-G3 (l:=a)] at p;refine zb3 (z8n (λ k σ r=>∃(g b:Nat) (x3:Option V),k=b - g/\g < b/\b<=a.length/\Same B r/\Gd d e (a.take g)/\¬ Gd d e (a.take b)/\σ=[some (.ref t),some (.int (b:Nat)),some (.int (g:Nat)),x3]) (λ k σ r=>∃(g b:Nat) (x3:Option V),k=b - g/\g + 1 < b/\b<=a.length/\Same B r/\Gd d e (a.take g)/\¬ Gd d e (a.take b)/\σ=[some (.ref t),some (.int (b:Nat)),some (.int (g:Nat)),x3]) a.length ⟨0,a.length,_,rfl,I,u0 _,Same.refl _,K,p,rfl⟩ ?_ ?_)
  ·rintro k σ L ⟨g,b,x3,rfl,hg,hl,s2,gg,gb,rfl⟩;refine ⟨_,rfl,_,rfl,.inl ⟨_,_,rfl,rfl,?_⟩⟩;have F:((g:Nat):Int) + ((b:Nat):Int)=((g + b:Nat):Int):=by omega
   rw [F];have C:((g + b:Nat):Int) / 2=(((g + b) / 2:Nat):Int):=by omega
   refine ⟨_,_,rfl,rfl,⟨by decide,by decide⟩,?_⟩;rw [show ((λ i j:Int=>V.int (i / j)) (((g + b:Nat):Int)) 2)=V.int (((g + b) / 2:Nat):Int) from congrArg V.int C];refine g_name (t_nx ?_);refine z3s ⟨_,rfl,_,rfl,t,pt,m,f,d,a,e,(g + b) / 2,rfl,o.same (u.trans s2),by omega,λ c N v x=>⟨_,rfl,?_⟩⟩;refine ite2 (λ h=>?_) λ h=>?_
   ·refine ⟨_,rfl,g_name ?_⟩;exact ⟨(g + b) / 2 - g,by omega,g,(g + b) / 2,_,rfl,by omega,by omega,s2.trans v,gg,x.mp h,rfl⟩
   ·refine ⟨_,rfl,g_name ?_⟩;exact ⟨b - (g + b) / 2,by omega,(g + b) / 2,b,_,rfl,by omega,hl,s2.trans v,C6 λ z=>h (x.mpr z),gb,rfl⟩
  ·rintro k σ L ⟨g,b,x3,rfl,hg,hl,s2,gg,gb,rfl⟩ body;refine ⟨_,rfl,_,rfl,_,_,rfl,rfl,_,1,rfl,rfl,_,rfl,?_⟩;refine ite2 (λ h=>?_) λ h=>?_
   ·exact body _ ⟨g,b,x3,rfl,by have:=of_decide_eq_true h;omega,hl,s2,gg,gb,rfl⟩
   ·have n:b=g + 1:=j01 λ z=>h (decide_eq_true (by omega));subst n;exact ⟨_,rfl,q g _ (u.trans s2) hl gg gb⟩
end
section
theorem za1 :∀{es:List Ev} {i:Nat} {rs:List Rc} {r:Rc},r∈dAll i rs es->(∃r'∈rs,r'.h=r.h)\/∃e∈es,evH e=r.h
 | [],_,_,r,h=>.inl ⟨r,h,rfl⟩
 | e :: es,i,rs,r,h=>by
  rcases za1 (es:=es) (i:=i + 1) (rs:=dstep i rs e) h with ⟨r',b,c⟩|⟨e',he,c⟩
  ·cases e with
   | beg hd n v x=>
    rcases List.mem_append.mp b with z|z
    ·exact .inl ⟨r',z,c⟩
    ·rw [List.mem_singleton.mp z] at c;exact .inr ⟨_,R0,c⟩
   | fin hd a=>
    unfold dstep at b;dsimp only at b;cases hj:lastI hd (rs.map Rc.h) with
    | none=>rw [hj] at b;exact .inl ⟨r',b,c⟩
    | some j=>
     rw [hj] at b;obtain ⟨m,d⟩:=List.mem_iff_getElem?.mp b;rw [G2] at d;obtain ⟨q,f,g⟩:=Option.map_eq_some_iff.mp d;refine .inl ⟨q,O0 f,?_⟩;rw [<-c,<-g];by_cases z:j=m
     ·rw [if_pos z]
     ·rw [if_neg z]
  ·exact .inr ⟨e',W0 _ he,c⟩
theorem zfo {ts:List (Str×Str)} {r:Rc} {p:DD} {n:Nat} {pl:Pl} {s:Stp} (e:stp ts r p n pl=some s):s.1=n:=by
 unfold stp at e;split at e
 ·split at e
  ·cases e;rfl
  ·cases e
 ·cases e
theorem zj1 {m:Nat} {ts:List (Str×Str)} {rs:List Rc} {ps:List DD} {pl:Pl} {s s':Stp} (h:s∈nxT m ts rs ps pl) (h':s'∈nxT m ts rs ps pl) (e:s.1=s'.1):s=s':=by
 obtain ⟨n,r,p,_,f,i,c⟩:=mem_nx.mp h;obtain ⟨g,k,j,_,b,d,a⟩:=mem_nx.mp h';have:n=g:=by rw [<-zfo c,<-zfo a,e]
 subst this;rw [f] at b;cases b;rw [i] at d;cases d;rw [c] at a;exact Q1 a
theorem wk_inv {m:Nat} {ts:List (Str×Str)} {rs:List Rc} {ps:List DD} {o:List Oa} {a:Oa} {pl:Pl} (h:Wk m ts rs ps (o++[a]) pl) :∃pl' s,Wk m ts rs ps o pl'/\s∈nxT m ts rs ps pl'/\a=(s.1,s.2.1)/\pl=s.2.2:=by
 generalize ho:o++[a]=o' at h;cases h with
 | nil=>exact absurd (congrArg m6 ho) (by simp)
 | @snoc o1 pl1 s w hs=>obtain ⟨b,c⟩:=List.append_inj' ho rfl;subst b;exact ⟨pl1,s,w,hs,List.singleton_inj.mp c,rfl⟩
theorem zgn {α:Type} {n:Nat} {l:List α} (h:l.length=n + 1) :∃r x,l=r++[x]/\r.length=n:=by
 have ne:l≠[]:=λ z=>by rw [z] at h;cases h
 refine ⟨l.dropLast,l.getLast ne,(G4 ne).symm,?_⟩;rw [j3d];omega
theorem zcc {m:Nat} {ts:List (Str×Str)} {rs:List Rc} {ps:List DD} :∀(n:Nat) {o o':List Oa} {pl pl':Pl},o.length=n->Wk m ts rs ps o pl->Wk m ts rs ps o' pl'->o.map (·.1)=o'.map (·.1)->pl=pl'
 | 0,o,o',pl,pl',hn,h,h',e=>by
  rw [List.eq_nil_of_length_eq_zero hn] at h e;have d:o'=[]:=by
   cases o' with
   | nil=>rfl
   | cons a r=>cases e
  rw [d] at h';have nil :∀{pl:Pl} {o:List Oa},Wk m ts rs ps o pl->o=[]->pl=([],ts.map λ t=>zeroK t.2):=λ h=>by
   cases h with
   | nil=>intro _;rfl
   | snoc _ _=>intro z;exact absurd (congrArg m6 z) (by simp)
  rw [nil h rfl,nil h' rfl]
 | n + 1,o,o',pl,pl',hn,h,h',e=>by
  obtain ⟨w,a,rfl,v⟩:=zgn hn;have g:o'.length=n + 1:=by have:=congrArg m6 e;rw [F0,F0] at this;omega
  obtain ⟨x,b,rfl,A⟩:=zgn g;rw [u1,u1] at e;obtain ⟨p,k⟩:=List.append_inj' e rfl;obtain ⟨y,s,u,q,l,rfl⟩:=wk_inv h;obtain ⟨B,i,f,c,j,rfl⟩:=wk_inv h';have:=zcc n v u f p;subst this;have:s.1=i.1:=by have:=List.singleton_inj.mp k;rw [l,j] at this;exact this
  rw [zj1 q c this]
theorem wk_at {m:Nat} {ts:List (Str×Str)} {rs:List Rc} {ps:List DD} :∀(n:Nat) {o:List Oa} {pl:Pl},o.length=n->Wk m ts rs ps o pl->∀i,i < n->∃pl' s,Wk m ts rs ps (o.take i) pl'/\s∈nxT m ts rs ps pl'/\o[i]? = some (s.1,s.2.1)/\Wk m ts rs ps (o.take (i + 1)) s.2.2
 | 0,_,_,_,_,i,hi=>absurd hi (z5 _)
 | n + 1,o,pl,hn,h,i,hi=>by
  obtain ⟨g,a,rfl,p⟩:=zgn hn;obtain ⟨l,s,b,k,c,rfl⟩:=wk_inv h;rcases Nat.lt_succ_iff_lt_or_eq.mp hi with z|z
  ·obtain ⟨pl',d,e,j,q,f⟩:=wk_at n p b i z;refine ⟨pl',d,?_,j,?_,?_⟩
   ·rw [g6 (by omega)];exact e
   ·rw [K1 (by omega)];exact q
   ·rw [g6 (by omega)];exact f
  ·refine ⟨l,s,?_,k,?_,?_⟩
   ·rw [g6 (by omega),N3 (by omega)];exact b
   ·rw [P1 (by omega),show i - g.length=0 by omega,c];rfl
   ·rw [N3 (by rw [hn];omega)];exact h
theorem zgf {α β:Type} [DecidableEq β] {R:α->β->Prop} :∀{L:List α} {E:List β},L.Nodup->(∀x∈L,∃y∈E,R x y)->(∀x x' y,R x y->R x' y->x=x')->L.length<=E.length
 | [],_,_,_,_=>S1 _
 | x :: L,E,nd,h,u=>by
  rw [List.nodup_cons] at nd;obtain ⟨y,b,r⟩:=h x R0;have:=zgf (L:=L) (E:=E.erase y) nd.2 (λ x' c=>by obtain ⟨e,d,a⟩:=h x' (W0 _ c);refine ⟨e,(List.mem_erase_of_ne λ z=>?_).mpr d,a⟩;rw [z] at a;exact nd.1 (u _ _ _ r a ▸ c)) u;rw [j1h b] at this;have f:=Y7 b;rw [P0];omega
noncomputable def okS (a b:Nat) (r:List Nat) (x:Nat):Bool:=!r.contains x && (x != b || r.contains a)
noncomputable def enS (a b:Nat):Nat->List (List Nat)
 | 0=>[[]]
 | n + 1=>(enS a b n).flatMap λ r=>((C1 5).filter (okS a b r)).map (· :: r)
theorem enS_0 {a b:Nat} (h:enS a b 6=[]) :∀n,enS a b (n + 6)=[]
 | 0=>h
 | n + 1=>by show (enS a b (n + 6)).flatMap _=[];rw [enS_0 h n];rfl
theorem enS_le {a b:Nat} (hab:a < b) (hb:b < 5) (n:Nat):(enS a b n).length<=60:=by
 have d :∀b,b < 5->∀a,a < b->(∀n,n < 6->(enS a b n).length<=60)/\enS a b 6=[]:=by decide +kernel
 obtain ⟨e,c⟩:=d b hb a hab;rcases Nat.lt_or_ge n 6 with z|z
 ·exact e n z
 ·obtain ⟨k,rfl⟩:=Nat.exists_eq_add_of_le' z;rw [enS_0 c];exact S1 _
theorem zhc {es:List Ev} (wf:EWf [] es) (n5:(dAll 0 [] es).length<=5) {hs:List Int} (h4:hs.length<=4) (hh :∀e∈es,evH e∈hs) :∃a b,a < b/\b < 5/\(b < (dAll 0 [] es).length->z0g 0 (dAll 0 [] es) a b=true):=by
 rcases Nat.lt_or_ge (dAll 0 [] es).length 5 with z|z
 ·exact ⟨0,4,by decide,by decide,λ h=>by omega⟩
 have D:(dAll 0 [] es).length=5:=by omega
 obtain ⟨_,C,I⟩:=DInv.all DInv.nil wf;have s:¬ ((dAll 0 [] es).map Rc.h).Nodup:=λ t=>by
  have:=zgf (R:=λ x y=>x=y) (E:=hs) t (λ x f=>by
   obtain ⟨r,u,e⟩:=List.mem_map.mp f;rcases za1 u with ⟨A,n,_⟩|⟨e',he',e2⟩
   ·exact absurd n A0
   ·exact ⟨x,by rw [<-e,<-e2];exact hh e' he',rfl⟩) (λ x B y h v=>h.trans v.symm)
  rw [F0] at this;omega
 have o :∃i j,i < j/\j < ((dAll 0 [] es).map Rc.h).length/\((dAll 0 [] es).map Rc.h)[i]? = ((dAll 0 [] es).map Rc.h)[j]?:=C6 λ z=>s (List.nodup_iff_pairwise_ne.mpr (List.pairwise_iff_getElem.mpr λ i j w k q h4=>z ⟨i,j,q,k,by rw [B0 w,B0 k,h4]⟩));obtain ⟨i,j,l,g,e⟩:=o;rw [F0] at g;have m:i < (dAll 0 [] es).length:=by omega
 have c:=B0 m;have d:=B0 g;rw [V0,V0,c,d] at e;obtain ⟨x,f,lt⟩:=(I.p i j _ _ l c d).2 (Q1 e);refine ⟨i,j,l,by omega,λ _=>?_⟩;rw [z1j c d];show ltO _ _=true;rw [f];exact decide_eq_true lt
def CmN (m:Nat) (ts:List (Str×Str)) (rs:List Rc) (ps:List DD) (n:Nat) (pl:Pl):Prop:=∃o,Wk m ts rs ps o pl/\o.length=n
theorem wk_row {ts:List (Str×Str)} {rs:List Rc} {ps:List DD} {a b:Nat} (n5:rs.length<=5) (ab:b < rs.length->z0g 0 rs a b=true) {o:List Oa} {pl:Pl} (h:Wk 0 ts rs ps o pl):(o.map (·.1)).reverse∈enS a b o.length/\∀x,x∈pl.1↔x∈(o.map (·.1)).reverse:=by
 induction h with
 | nil=>exact ⟨List.mem_singleton.mpr rfl,λ x=>Iff.rfl⟩
 | @snoc o pl s _ h ih=>
  obtain ⟨n,r,p,g,d,k,c⟩:=mem_nx.mp h;obtain ⟨f,j,l⟩:=cP_iff.mp g;have i:=(List.getElem?_eq_some_iff.mp d).1;have e:((o++[(s.1,s.2.1)]).map (·.1)).reverse=n :: (o.map (·.1)).reverse:=by rw [u1,List.reverse_append,<-zfo c];rfl
  rw [e,K0];refine ⟨List.mem_flatMap.mpr ⟨_,ih.1,List.mem_map.mpr ⟨n,List.mem_filter.mpr ⟨List.mem_range.mpr (by omega),?_⟩,rfl⟩⟩,λ x=>?_⟩
  ·unfold okS;rw [j2];constructor
   ·rw [Bool.not_eq_true'];refine Bool.eq_false_iff.mpr λ z=>f ((ih.2 n).mpr (List.contains_iff_mem.mp z))
   ·rw [Bool.or_eq_true];by_cases z:n=b
    ·subst z;exact .inr (List.contains_iff_mem.mpr ((ih.2 a).mp (j a (ab i))))
    ·exact .inl (bne_iff_ne.mpr z)
  ·rw [stp_to c x,ih.2 x,F1];exact Or.comm
theorem lay_le {ts:List (Str×Str)} {ps:List DD} {es:List Ev} (wf:EWf [] es) (n5:(dAll 0 [] es).length<=5) {hs:List Int} (h4:hs.length<=4) (hh :∀e∈es,evH e∈hs) {n:Nat} {L:List Pl} (nd:L.Nodup) (h :∀pl∈L,CmN 0 ts (dAll 0 [] es) ps n pl):L.length<=60:=by
 obtain ⟨a,b,d,f,k⟩:=zhc wf n5 h4 hh;refine C0 (zgf (R:=λ pl row=>∃o,Wk 0 ts (dAll 0 [] es) ps o pl/\row=(o.map (·.1)).reverse) nd (λ pl g=>?_) λ x m y r i=>?_) (enS_le d f n)
 ·obtain ⟨o,w,e⟩:=h pl g;rw [<-e];exact ⟨_,(wk_row n5 k w).1,o,w,rfl⟩
 ·obtain ⟨o,w,e⟩:=r;obtain ⟨l,j,c⟩:=i;exact zcc _ rfl w j (List.reverse_inj.mp (e.symm.trans c))
end
section
variable {P:Program} {w:S0} {mg:Str->Option Value} {base:Heap}
def PlG (ts:List (Str×Str)) (N d:Nat) (pl:Pl):Prop:=PlOk ts N pl.1.length pl/\pl.1.length=d
def PlV (K:b0) (H:Hp) (pl:Pl) (y:V):Prop:=∃p,y=.ref p/\PlZ K H p pl
theorem PlV.same {K:b0} {H H':Hp} {pl:Pl} {y:V} (s:Same H H') (h:PlV K H pl y):PlV K H' pl y:=h.elim λ p z=>⟨p,z.1,z.2.tups (.of s)⟩
theorem zee {K:b0} {H:Hp} {G:Pl->Prop} {ks:List (PyData×Addr)} (h:KeyI K H G ks) :∀(is:List Nat),(∀i∈is,i < ks.length)->∃pls,All2 (PlV K H) pls (is.map λ i=>V.ref (ks.getD i (.none,0)).2)/\(∀pl∈pls,G pl)/\pls.length=is.length
 | [],_=>⟨[],.nil,λ _ z=>absurd z A0,rfl⟩
 | i :: is,hi=>by
  obtain ⟨pls,a,b,e⟩:=zee h is λ j d=>hi j (W0 _ d);have l:=hi i R0;obtain ⟨pl,_,z,g⟩:=h ks[i] (V5 l);refine ⟨pl :: pls,.cons ⟨_,rfl,?_⟩ a,λ p c=>?_,by rw [P0,P0,e]⟩
  ·rw [A2,B0 l];exact z
  ·rcases List.mem_cons.mp c with y|y
   ·rw [y];exact g
   ·exact b p y
theorem ze4 {K:b0} {H:Hp} {r:Addr} {us:List V} (e:H r=some (.lst us)):Tups K H (hide r H):=λ a b h=>by
 rcases h with (h|⟨ob,h⟩)|h
 ·exact .inl (.inl (z1f (λ z=>by rw [z,e] at h;cases h) h))
 ·exact .inl (.inr ⟨ob,z1f (λ z=>by rw [z,e] at h;cases h) h⟩)
 ·exact .inr h
theorem zh3 {α β:Type} {f:α->β} {l:List α} (h:(l.map f).Nodup):l.Nodup:=by rw [List.nodup_iff_pairwise_ne] at h⊢;exact (List.pairwise_map.mp h).imp λ h e=>h (congrArg f e)
theorem zls {ks:List (PyData×Addr)} {d:PyData} {b:Addr} (h:(ks.map (·.1)).Nodup):((putN ks d b).map (·.1)).Nodup:=by
 unfold L2.putN;split
 ·exact h
 ·rename_i z;rw [u1,Y3];exact ⟨h,by simp,λ a f c g e=>z (by have h:c=d:=List.mem_singleton.mp g;rw [<-h,<-e];exact f)⟩
def LBd (ts:List (Str×Str)) (rs:List Rc) (ps:List DD):Prop:=∀(n:Nat) (L:List Pl),L.Nodup->(∀pl∈L,CmN 0 ts rs ps n pl)->L.length<=60
def LyP (ts:List (Str×Str)) (rs:List Rc) (ps:List DD) (d:Nat) (pl:Pl):Prop:=PlG ts rs.length d pl/\CmN 0 ts rs ps d pl
theorem key_le {K:b0} {H:Hp} {ts:List (Str×Str)} {rs:List Rc} {ps:List DD} {d:Nat} {ks:List (PyData×Addr)} (lb:LBd ts rs ps) (ki:KeyI K H (LyP ts rs ps d) ks) (nd:(ks.map (·.1)).Nodup):ks.length<=60:=by
 have :∀ks:List (PyData×Addr),KeyI K H (LyP ts rs ps d) ks->∃L:List Pl,L.map plD=ks.map (·.1)/\∀b∈L,CmN 0 ts rs ps d b:=λ ks=>by
  induction ks with
  | nil=>intro _;exact ⟨[],rfl,λ _ h=>absurd h A0⟩
  | cons k ks ih=>
   intro h;obtain ⟨L,e,g⟩:=ih λ x j=>h x (W0 _ j);obtain ⟨b,l,_,i⟩:=h k R0;refine ⟨b :: L,by rw [j1,j1,e,l],λ a c=>?_⟩;rcases List.mem_cons.mp c with z|z
   ·rw [z];exact i.2
   ·exact g a z
 obtain ⟨L,e,g⟩:=this ks ki;have m:=lb d L (zh3 (f:=plD) (by rw [e];exact nd)) g;have:=congrArg m6 e;rw [F0,F0] at this;omega
def z5m (K:b0):Sp:=λ vs H Q _=>∃(b l:Addr) (d:Nat) (rs:List Rc) (ts:List (Str×Str)) (ps:List DD) (pls:List Pl) (ys:List V),vs=[.ref b,.ref l]/\BoAt K H 0 rs ts ps b/\All2 (RcGd K H ts) rs ps/\ThW ts/\rs.length<=5/\LBd ts rs ps/\H l=some (.lst ys)/\All2 (PlV K H) pls ys/\(∀pl∈pls,LyP ts rs ps d pl)/\
 ∀l' ys' pls' H',Same H H'->H l'=none->H' l'=some (.lst ys')->All2 (PlV K H') pls' ys'->(∀pl∈pls',LyP ts rs ps (d + 1) pl)->pls'.length<=60->Q (.ref l') H'
theorem zaf (T:TX (kx w) mg) (c0:Fo P w mg base CX0 7 276 y00 ["self","place"] (z11 (kx w))):Fo P w mg base CX0 8 333 y0z ["board","layer"] (z5m (kx w)):=by
 refine (z48 w.params).ok sc_next_layer (λ vs H Q E h=>?_) (λ b8 A b9 s H vs Q E G h=>?_)
 ·obtain ⟨b,l,d,x,B,C,b1,ys,rfl,_⟩:=h;rfl
 ·obtain ⟨b,l,d,x,B,C,b1,ys,rfl,bo,gd,ok,rl,S,el,al,pg,q⟩:=h;refine ⟨_,(z02 (ps_set (i:=2) sc_next_layer.nd rfl (Y0 rfl) zer)
   (z02 (ps_for R1 rfl (z2m (pv 1)) (z0h (i:=3) sc_next_layer.nd rfl (Y0 rfl))
   (z04 (ps_for R1 rfl (z2m (zcd (pv 0) (z15 _) (z1r _) c0 (G.mono (by decide)) (z2a _) .nil pass0 (z00 (pv 3) pa_nil))) (z0h (i:=4) sc_next_layer.nd rfl (Y0 rfl))
   (z04 (zjc G (pv 2) (pe_ix ix_seq (pv 4) pe_int (λ _ _=>rfl)) pe_bl rfl)))))
   (z04 (ps_ret (z09 (zc4 G) rfl (T.no (z5c _)) X7 (z00 (pv 2) pa_nil)))))),?_⟩
  obtain ⟨dx,fs,eb,bf⟩:=id bo;refine z0q ?_;intro c X;refine g_name ?_;have D:=Same.upd (o:=NsO c []) X;have e1:upd H c (NsO c []) c=some (NsO c []):=upd_same;have Y:Same H (hide c (upd H c (NsO c []))):=λ p o e=>z1f (λ z=>by rw [z,X] at e;cases e) (D _ _ e);generalize upd H c (NsO c [])=H1 at D e1 Y⊢;refine ⟨_,rfl,l,rfl,⟨_,SqL.of (D _ _ el)⟩,?_⟩;refine z5a (K:=KX w.params) (a:=l) (xs:=ys) (λ i σ f=>∃ks,Same H (hide c f)/\f c=some (NsO c ks)/\KeyI (kx w) (hide c f) (LyP B x C (d + 1)) ks/\(ks.map (·.1)).Nodup/\∃x3 x4,σ=[some (.ref b),some (.ref l),some (.ref c),x3,x4])
   ⟨[],Y,e1,(λ k v=>absurd v A0),.nil,_,_,rfl⟩ (λ i σ f _ h=>SqL.of (hide_same _ _ (h.choose_spec.1 _ _ el))) ?_ ?_
  ·rintro i y σ I hy ⟨ks,s2,e2,ki,kl,x3,x4,rfl⟩;obtain ⟨u,a9,p,rfl,pz⟩:=z0f al hy;have g:=pg u (O0 a9);have n:Same H I:=s2.trans hide_same;refine g_name ?_;refine ⟨_,rfl,b,dx,fs,rfl,n _ _ eb,bf.nm _ (by simp),_,rfl,b,p,0,_,x,B,C,u,rfl,bo.same n,z01 (λ _ _ z=>RcGd.tt (.of n) z) gd,ok,pz.tups (.of n),g.1.1,by omega,λ F y3 O t R a0 a7=>⟨F,rfl,⟨_,SqL.of a0⟩,?_⟩⟩;have e3:=t _ _ e2;have a5:F≠c:=λ z=>by rw [z,e2] at R;cases R
   have L:=z4z (r:=c) t;have a8:=z01 (λ _ _ z=>StpZ.tups (zhx e3) z) a7;have nx:=zfd gd ok g.1.1 (by omega) (m:=0);refine z5a (K:=KX w.params) (a:=F) (xs:=y3) (λ j σ f=>∃ks,Same (hide c O) (hide c f)/\f c=some (NsO c ks)/\KeyI (kx w) (hide c f) (LyP B x C (d + 1)) ks/\(ks.map (·.1)).Nodup/\∃x4,σ=[some (.ref b),some (.ref l),some (.ref c),some (.ref p),x4])
    ⟨ks,Same.refl _,e3,ki.same L,kl,_,rfl⟩ (λ j σ f _ h=>SqL.of (hide_same _ _ (h.choose_spec.1 _ _ (z1f a5 a0)))) ?_ ?_
   ·rintro j y σ M b6 ⟨ks4,s4,e4,ki4,kl4,x4,rfl⟩;obtain ⟨N,J,b5,q5,rfl,b3,b0⟩:=z0f a8 b6;have Z:=nx N (O0 J);have b4:Same (hide c O) M:=s4.trans hide_same;have U:=b0.tups (.of s4);refine g_name ?_;refine ⟨_,rfl,_,rfl,.inr (.inl ⟨b5,_,2,.ref q5,rfl,rfl,b4.seqT b3,z05 (j:=2) rfl,c,q5,ks4,plD N.2.2,rfl,rfl,rfl,e4,(ki4.same hide_same).at_ (.inl e4),O1 (key_le S ki4 kl4) (by decide),pl_key _,pl_dep _,plz_pd (U.tups (.of hide_same)),?_⟩)⟩;refine ⟨_,?_,upd_same,?_,zls kl4,_,rfl⟩
    ·rw [z6b];exact s4
    ·rw [z6b];exact ki4.put U ⟨⟨Z.1,by rw [Z.2,g.1.2]⟩,g.2.elim λ o z=>⟨_,.snoc z.1 (O0 J),by rw [K0,z.2];rfl⟩⟩
   ·rintro σ M ⟨ks4,s4,e4,ki4,kl4,x4,rfl⟩;exact ⟨ks4,(s2.trans L).trans s4,e4,ki4,kl4,_,_,rfl⟩
  ·rintro σ I ⟨ks,s2,e2,ki,kl,x3,x4,rfl⟩;have lk:=key_le S ki kl;have b2:ks.length < 64:=by omega
   refine ⟨_,rfl,c,ks,rfl,(ki.same hide_same).at_ (.inl e2),b2,λ k v=>?_,λ k v k' a4 _=>?_,λ l' W=>?_⟩
   ·obtain ⟨u,e,_⟩:=ki k v;rw [e];exact pl_tup u
   ·obtain ⟨u,e,_,g⟩:=ki k v;obtain ⟨b7,e',_,g'⟩:=ki k' a4;rw [e,e'];exact lt_pl g.1.1 g'.1.1
   ·have pm:=z8k (ks.map (·.1));obtain ⟨a6,a1,a2,a3⟩:=zee (ki.same hide_same) (srtD (ks.map (·.1))) λ i hi=>by
     have:=List.mem_range.mp (pm.mem_iff.mp hi)
     rwa [F0] at this
    have t:=Same.upd (o:=.lst ((srtD (ks.map (·.1))).map λ i=>V.ref (ks.getD i (.none,0)).2)) W;have n:Same H I:=s2.trans hide_same;refine q l' _ a6 _ (n.trans t) (n.free W) upd_same (z01 (λ _ _ z=>z.same t) a1) a2 ?_;rw [a3,pm.length_eq,Y1,F0];exact lk
def z5n (K:b0):Sp:=λ vs H Q _=>∃(t:Addr) (ts:List (Str×Str)) (es:List Ev) (ps:List DD),vs=[.ref t,.str (z1a 0)]/\TlP K H t ts es ps/\LBd ts (dAll 0 [] es) ps/\∀l H',Same H H'->Q (.ref l) H'
theorem z9i (T:TX (kx w) mg) (c0:Fo P w mg base (CXE P w base) 5 269 y03 ["self","tale","strictness"] (z0u (kx w))) (c1:Ca P w mg base "next_layer" ["board","layer"] 8 (z5m (kx w))):Fo P w mg base CX0 9 326 y0y ["tale","strictness"] (z5n (kx w)):=by
 refine (z44 w.params).ok sc_all_places (λ vs H Q E h=>?_) (λ b1 A b0 s H vs Q E S h=>?_)
 ·obtain ⟨t,f,F,r,rfl,_⟩:=h;rfl
 ·obtain ⟨t,f,F,r,rfl,tp,lb,q⟩:=h;refine ⟨_,(z02 (ps_set (i:=2) sc_all_places.nd rfl (Y0 rfl) (zgk (zeo _) c0 (S.mono (by decide)) rfl (T.of (zje _)) (z3e _) .nil passN (z00 (pv 0) (z00 (pv 1) pa_nil))))
   (z02 (ps_set (i:=3) sc_all_places.nd rfl (Y0 rfl) (pe_lst pa_nil))
   (z02 (ps_set (i:=4) sc_all_places.nd rfl (Y0 rfl) (pe_lst (z00 (pe_fld (pv 2) rfl) pa_nil)))
   (z02 (zbq R1 (z07 op_gt (z09 z0s rfl (T.no (n_len _)) E3 (z00 (pv 4) pa_nil)) pe_int (nomark _))
   (z02 (z33 (zez (pv 3) (z00 (pv 4) pa_nil)))
   (z04 (ps_set (i:=4) sc_all_places.nd rfl (Y0 rfl) (pe_cal c1 (S.mono (by decide)) rfl (z00 (pv 2) (z00 (pv 4) pa_nil)))))))
   (z04 (ps_ret (pv 3))))))),?_⟩
  refine zeq tp (λ R h=>⟨_,rfl,_,rfl,h⟩) λ x L fs v s1 O ok M e1 I=>?_;have X:BoAt (kx w) v 0 (dAll 0 [] F) f r x:=⟨L,fs,e1,I⟩
  obtain ⟨c,a8,a0⟩:=I.first;generalize dAll 0 [] F=rs at O M X I lb;refine z0q ?_;refine ⟨w_0,λ a Y=>?_⟩;refine g_name ?_;obtain ⟨J,v_,Z,u⟩:=newA (.lst []) Y;rw [<-v_];refine z0q ?_;refine ⟨_,rfl,x,_,L,fs,_,rfl,Z _ _ e1,z15 _,z2b _,a8,w_1,λ j G=>?_⟩;refine g_name ?_;have W:=Same.upd (o:=.lst [.ref c]) G;have U:upd J j (.lst [.ref c]) j=some (.lst [.ref c]):=upd_same;have a9:j≠a:=λ z=>by rw [z,u] at G;cases G
  have u:=W _ _ u;have D:Same v (hide a (upd J j (.lst [.ref c]))):=λ p o e=>z1f (λ z=>by rw [z,Y] at e;cases e) ((Z.trans W) _ _ e);generalize upd J j (.lst [.ref c])=H3 at u U D⊢;refine zb3 (z8n (λ k σ b=>∃d pls ys fz l1,k=7 - d/\d<=6/\Same v (hide a b)/\b a=some (.lst fz)/\fz.length<=60 * d/\hide a b l1=some (.lst ys)/\All2 (PlV (kx w) (hide a b)) pls ys/\(∀l∈pls,LyP f rs r d l)/\pls.length<=60/\σ=[some (.ref t),some (.str (z1a 0)),some (.ref x),some (.ref a),some (.ref l1)])
   (λ k σ b=>∃d pls ys fz l1,d<=5/\k=7 - d/\Same v (hide a b)/\b a=some (.lst fz)/\fz.length<=60 * d/\hide a b l1=some (.lst ys)/\All2 (PlV (kx w) (hide a b)) pls ys/\(∀l∈pls,LyP f rs r d l)/\pls.length<=60/\σ=[some (.ref t),some (.str (z1a 0)),some (.ref x),some (.ref a),some (.ref l1)])
   7 ⟨0,[([],f.map λ t=>zeroK t.2)],[.ref c],[],j,rfl,S1 _,D,u,u0 _,z1f a9 U,.cons ⟨c,rfl,a0.tups (.of D)⟩ .nil,λ l K=>by rw [List.mem_singleton.mp K];exact ⟨⟨zca f _,rfl⟩,[],.nil,rfl⟩,(by decide:1<=60),rfl⟩ ?_ ?_)
  ·rintro k σ n ⟨d,pls,ys,fz,l1,d4,rfl,s4,ef,fl,el,al,pg,pn,rfl⟩;have yl:ys.length<=60:=by rw [z03 al];exact pn
   have a2:=hide_same _ _ el;refine ⟨_,rfl,.inl ⟨rfl,_,SqL.of ef⟩,_,rfl,a,l1,fz,ys,rfl,rfl,ef,a2,C0 (m:=1000) (by omega) (by decide),t_nx ?_⟩;have h5:hide a (upd n a (.lst (fz++ys)))=hide a n:=z6b;have B:upd n a (.lst (fz++ys)) a=some (.lst (fz++ys)):=upd_same;generalize upd n a (.lst (fz++ys))=H5 at h5 B⊢;rw [<-h5] at s4 el al;have V:Same v H5:=s4.trans hide_same;refine ⟨_,rfl,_,rfl,x,l1,d,rs,f,r,pls,ys,rfl,X.same V,z01 (λ _ _ z=>RcGd.tt (.of V) z) M,ok,O,lb,hide_same _ _ el,z01 (λ _ _ z=>z.same hide_same) al,pg,λ l' a5 a1 H6 C N a7 a6 a4 a3=>?_⟩;have nl:l'≠a:=λ z=>by rw [z,B] at N;cases N
   exact ⟨7 - (d + 1),by omega,d + 1,a1,a5,_,l',rfl,by omega,s4.trans (z4z C),C _ _ B,by rw [K0];omega,z1f nl a7,z01 (λ _ _ z=>z.elim λ p y=>⟨p,y.1,y.2.tups (ze4 (C _ _ B))⟩) a6,a4,a3,rfl⟩
  ·rintro k σ n ⟨d,pls,ys,fz,l1,rfl,d5,s4,ef,fl,el,al,pg,pn,rfl⟩ body;refine ⟨_,rfl,.inl ⟨l1,ys,rfl,.inl (SqL.of (hide_same _ _ el)),_,_,rfl,rfl,_,rfl,?_⟩⟩;refine ite2 (λ h=>?_) λ _=>⟨_,rfl,q a _ (s1.trans (s4.trans hide_same))⟩
   have h:(0:Int) < (ys.length:Int):=of_decide_eq_true h;refine body _ ⟨d,pls,ys,fz,l1,?_,rfl,s4,ef,fl,el,al,pg,pn,rfl⟩;obtain ⟨l,K⟩:=List.exists_mem_of_length_pos (show 0 < pls.length by have:=z03 al;omega);have g:=(pg l K).1;have:=z4i _ _ g.1.nd g.1.lt;have:=g.2;omega
def z4l (K:b0):Sp:=λ vs H Q _=>∃(t:Addr) (ts:List (Str×Str)) (es:List Ev) (ps:List DD),vs=[.ref t,.str (z1a 0)]/\TlP K H t ts es ps/\LBd ts (dAll 0 [] es) ps/\(∀o pl,Wk 0 ts (dAll 0 [] es) ps o pl->¬ FullP (dAll 0 [] es) pl)/\∀l H',Same H H'->Q (.ref l) H'
theorem z89 (T:TX (kx w) mg) (c0:Ca P w mg base "judged" ["tale","strictness"] 8 (z5x (kx w))) (c1:Ca P w mg base "all_places" ["tale","strictness"] 9 (z5n (kx w))):Fo P w mg base CX0 10 368 y0q ["tale","strictness"] (z4l (kx w)):=by
 refine (z31 w.params).ok z8z (λ g H Q E h=>?_) (λ x A u s H g Q E d h=>?_)
 ·obtain ⟨t,b,a,c,rfl,_⟩:=h;rfl
 ·obtain ⟨t,b,a,c,rfl,tp,r,j,q⟩:=h;refine ⟨_,(z02 (ps_if (z07 z3v (pe_cal c0 (d.mono (by decide)) rfl (z00 (pv 0) (z00 (pv 1) pa_nil))) pe_non (nomark _))
   (z04 (ps_ret pe_non))
   z0b)
   (z04 (ps_ret (pe_cal c1 (d.mono (by decide)) rfl (z00 (pv 0) (z00 (pv 1) pa_nil)))))),?_⟩
  refine ⟨_,rfl,_,rfl,t,b,a,c,0,rfl,tp,λ k e _=>⟨rfl,_,rfl,iteN (by decide) ?_⟩,λ l v o m k _ _ _ f p=>absurd p (j o m f)⟩;exact ⟨_,rfl,_,rfl,t,b,a,c,rfl,tp.same e,r,λ l n i=>q l n (e.trans i)⟩
theorem zlz {X:Cx} {K:b0} (h:X.K=K) {k:Nat} (hr:Room k X.A):OpR X (B2 .Eq) (rEqP K):=h ▸ op_eqP hr
theorem slSeqK {X:Cx} {K:b0} (hK:X.K=K):SlR X (λ x lo hi H Q=>rSlL K x lo hi H Q\/rSlT K x lo hi H Q\/rSlS x lo hi H Q):=hK ▸ slSeq
noncomputable def ansDt:V->PyData
 | .int i=>.int i
 | .str z=>.str z
 | _=>.none
noncomputable def oaD (q:Oa):PyData:=.tuple [.int (q.1:Nat),ansDt q.2]
theorem ans_pd {K:b0} {H:Hp} {a:V} (h:AnsV a):IsPd K H (ansDt a) a:=by rcases h with rfl|rfl|⟨i,rfl,_⟩<;>rfl
theorem zi4 {a b:V} (ha:AnsV a) (hb:AnsV b) (h:ansDt a=ansDt b):a=b:=by rcases ha with rfl|rfl|⟨i,rfl,_⟩<;>rcases hb with rfl|rfl|⟨j,rfl,_⟩<;>first|rfl|(injection h with h;rw [h])|(injection h with h;exact absurd h (by decide))|cases h
theorem zh2 {a:V} (h:AnsV a):plainP (ansDt a)=true/\(ansDt a).depth=0:=by rcases h with rfl|rfl|⟨i,rfl,_⟩<;>first|exact ⟨rfl,rfl⟩|exact ⟨by decide +kernel,rfl⟩
theorem z63 {q:Oa} (h:AnsV q.2):plainP (oaD q)=true/\(oaD q).depth<=60:=by
 obtain ⟨a,b⟩:=zh2 h;constructor
 ·show (true && (plainP (ansDt q.2) && true))=true;rw [a];rfl
 ·show max 0 (max (ansDt q.2).depth 0) + 1<=60;rw [b];decide
theorem zl8 {q q':Oa} (h:AnsV q.2) (h':AnsV q'.2):oaD q=oaD q'↔q=q':=by
 constructor
 ·intro e;unfold oaD at e;injection e with e;injection e with e1 e2;injection e2 with e2 _;injection e1 with e1;exact j0j (by omega) (zi4 h h' e2)
 ·intro e;rw [e]
theorem oa_pd {K:b0} {H:Hp} {p:Addr} {q:Oa} (h:AnsV q.2) (e:H p=some (.tup [.int (q.1:Nat),q.2])):IsPd K H (oaD q) (.ref p):=⟨p,_,rfl,SqT.of e,_,_,rfl,rfl,_,_,rfl,ans_pd h,rfl⟩
def z37 (K:b0):Sp:=λ vs H Q _=>∃(t l:Addr) (xs:List V) (o:List Oa) (pl:Pl) (ts:List (Str×Str)) (es:List Ev) (ps:List DD),vs=[.ref t,.str "strict",.ref l]/\TlP K H t ts es ps/\H l=some (.lst xs)/\All2 (OaAt H) o xs/\Wk 0 ts (dAll 0 [] es) ps o pl/\FullP (dAll 0 [] es) pl/\∀H',Same H H'->Q (.bl true) H'
theorem z68 (T:TX (kx w) mg) (c0:Ca P w mg base "_law_deeds" ["tale"] 1 (z5o (kx w))) (c1:Ca P w mg base "_law_first" ["things"] 1 (z2x (kx w))) (c2:Ca P w mg base "_law_nexts" ["tale","some","strictness","place"] 3 (z5r (kx w))) (c3:Ca P w mg base "_law_is_full" ["some","place"] 1 (z3u (kx w))):Fo P w mg base CX0 4 471 y0d ["tale","strictness","order"] (z37 (kx w)):=by
 refine (z1w w.params).ok sc__law_explains (λ vs H Q E h=>?_) (λ d8 A d9 s H vs Q E G h=>?_)
 ·obtain ⟨t,l,xs,o,pl,f,L,u,rfl,_⟩:=h;rfl
 ·obtain ⟨t,l,xs,o,pl,f,L,u,rfl,⟨ta,ok,c4,wf,gd,rl⟩,el,ax,wk,fu,q⟩:=h;refine ⟨_,(z02 (ps_set (i:=3) sc__law_explains.nd rfl (Y0 rfl) (pe_cal c0 (G.mono (by decide)) rfl (z00 (pv 0) pa_nil)))
   (z02 (ps_if (pt_not (pt_val (z09 z0l rfl (T.no (z0k _)) Z2 (z00 (pv 2) (z00 (z3g (v:=.ty "list") rfl (T.no (n_list _)) boot_list rfl) pa_nil))) (λ _=>rfl)))
   (z04 (ps_ret pe_bl))
   z0b)
   (z02 (ps_set (i:=4) sc__law_explains.nd rfl (Y0 rfl) (pe_tup (z00 (pe_tup pa_nil) (z00 (pe_cal c1 (G.mono (by decide)) rfl (z00 (pe_ix ix_seq (pv 0) pe_int (λ _ _=>rfl)) pa_nil)) pa_nil))))
   (z02 (ps_for R1 rfl (z2m (pv 2)) (z0h (i:=5) sc__law_explains.nd rfl (X0 rfl))
   (z02 (ps_if (PW.pt (pw_or (pt_not (pt_val (z09 z0l rfl (T.no (z0k _)) Z2 (z00 (pv 5) (z00 (z3g (v:=.ty "tuple") rfl (T.no (z25 _)) W3 rfl) pa_nil))) (λ _=>rfl))) (pw_or (z07 opNe (z09 z0s rfl (T.no (n_len _)) E3 (z00 (pv 5) pa_nil)) pe_int (nomark _)) (pw_or (pt_val (z09 z0l rfl (T.no (z0k _)) Z2 (z00 (pe_ix ix_seq (pv 5) pe_int (λ _ _=>rfl)) (z00 (z3g (v:=.ty "bool") rfl (T.no (n_bool _)) boot_bool rfl) pa_nil))) (λ _=>rfl)) (pw_or1 (pt_val (z09 z0l rfl (T.no (z0k _)) Z2 (z00 (pe_ix ix_seq (pv 5) pe_int (λ _ _=>rfl)) (z00 (z3g (v:=.ty "bool") rfl (T.no (n_bool _)) boot_bool rfl) pa_nil))) (λ _=>rfl)))))))
   (z04 (ps_ret pe_bl))
   z0b)
   (z02 (zis (i:=6) sc__law_explains.nd rfl (Y0 rfl) (xs:=["one"]) (g:=gName 0) (fr:=[(5,"step")]) rfl (z2m (pe_cal c2 (G.mono (by decide)) rfl (z00 (pv 0) (z00 (pv 3) (z00 (pv 1) (z00 (pv 4) pa_nil)))))) (by intro p hp;obtain rfl:=List.mem_singleton.mp hp;first|exact ⟨rfl,.inl rfl⟩|exact ⟨rfl,.inr rfl⟩) (zkl (n:="step") (by decide +kernel) (λ _=>by first|exact .inl rfl|exact .inr rfl)) (by intro p hp;obtain rfl:=List.mem_singleton.mp hp;exact ⟨by decide +kernel,by first|exact .inl rfl|exact .inr rfl⟩) (by decide +kernel) rfl (by decide +kernel) (λ _ _ _ _ _=>(pg_cn (N:=["one","step"]) 0)) (λ _ _ _ _ _=>(pf_one (z07 (zlz (K:=KX w.params) rfl G) (z1k (slSeqK (K:=KX w.params) rfl) (pv 0) z3b (z1q pe_int)) (pv 1) (nomark _)))) (λ _ _ _ _ _=>(pe_ix (z7p (K:=KX w.params) rfl) (pv 0) pe_int (λ _ _=>rfl))))
   (z02 (ps_if (z07 (zj0 G) (pv 6) (pe_lst pa_nil) (nomark _))
   (z04 (ps_ret pe_bl))
   z0b)
   (z04 (ps_set (i:=4) sc__law_explains.nd rfl (Y0 rfl) (pe_ix ix_seq (pv 6) pe_int (λ _ _=>rfl))))))))
   (z04 (ps_ret (pe_cal c3 (G.mono (by decide)) rfl (z00 (pv 3) (z00 (pv 4) pa_nil))))))))),?_⟩
  obtain ⟨_,os,DI⟩:=DInv.all DInv.nil wf;refine z0q ⟨_,rfl,t,L,rfl,⟨f,ta,c4,wf⟩,λ la zs H0 s0 a6 aa=>?_⟩;refine g_name ?_;obtain ⟨pt,te,ys,et,th,e0,al⟩:=ta;generalize dAll 0 [] L=rs at gd rl DI aa wk fu;refine sq_if ⟨_,rfl,_,_,"list",rfl,.inl ⟨⟨_,s0 _ _ el⟩,rfl⟩,by decide,_,rfl,iteN (by decide) (t_nx ?_)⟩;refine z0q ?_;refine ⟨w_0,λ a0 b9=>?_⟩;obtain ⟨Ha,va,sa,ea⟩:=new1 (.tup []) b9;rw [<-va];have a2:=s0.trans sa;refine ⟨_,rfl,.inr (.inl ⟨t,_,0,.ref pt,rfl,rfl,SqT.of (a2 _ _ et),z05 (j:=0) rfl,pt,f,rfl,th.tt (.of (K:=KX w.params) a2),ok.n6,λ pb Hb sb zb=>?_⟩)⟩;refine ⟨w_2,λ p0 b7=>?_⟩;obtain ⟨H1,v1,s1,e1⟩:=new1 (.tup [.ref a0,.ref pb]) b7;rw [<-v1];refine g_name ?_;have Z:=sb.trans s1;have I:=a2.trans Z;obtain ⟨c8,q0,z0,_⟩:=zb.stz (K:=KX w.params);have c9:PlZ (kx w) H1 p0 ([],f.map λ t=>zeroK t.2):=⟨a0,pb,c8,SqT.of e1,SqT.of (Z _ _ ea),s1.seqT q0,z01 (λ _ _ z=>StZ.tups (.of s1) z) z0⟩
  have b3:=(sa.trans Z) _ _ a6;have b4:=z01 (λ _ _ z=>z.same (sa.trans Z)) aa;have a1:=z01 (λ _ _ z=>RcGd.tt (.of I) z) gd;have b6:=th.tt (.of (K:=KX w.params) I);have d2:=I _ _ et;have b1:=I _ _ el;have a8:=z01 (λ _ _ z=>z.same I) ax;clear a6 aa th et gd el ax;have xl:xs.length=o.length:=z03 a8;refine ⟨_,rfl,l,rfl,⟨_,SqL.of b1⟩,?_⟩;refine z5a (K:=KX w.params) (a:=l) (xs:=xs) (λ i σ F=>∃p pl' x5 x6,Same H1 F/\PlZ (kx w) F p pl'/\Wk 0 f rs u (o.take i) pl'/\PlOk f rs.length pl'.1.length pl'/\σ=[some (.ref t),some (.str "strict"),some (.ref l),some (.ref la),some (.ref p),x5,x6]) ⟨p0,_,_,_,Same.refl _,c9,.nil,zca f _,rfl⟩ (λ i σ F _ h=>by obtain ⟨_,_,_,_,d,_⟩:=h;exact SqL.of (d _ _ b1)) ?_ ?_
  ·rintro i y σ H2 hy ⟨p,pl',x5,x6,s2,pz,w',po,rfl⟩;obtain ⟨⟨n,a⟩,ho,D,rfl,e5⟩:=z0f a8 hy;obtain ⟨x,e,w1,W,a7,w2⟩:=wk_at _ rfl wk i (by rw [<-xl];exact (List.getElem?_eq_some_iff.mp hy).1);have:=zcc _ rfl w1 w' rfl;subst this;rw [ho] at a7;cases a7;have d0:=z01 (λ _ _ z=>RcGd.tt (.of s2) z) a1;have nx:=zfd a1 ok po (by omega) (m:=0);have a3 :∀d∈nxT 0 f rs u x,AnsV d.2.1:=λ d h=>(zj2 (c:=cP 0 rs x.1) a1 ok po (by omega) rfl (λ n h=>cP_no h) (u0 _) d h).1;have C:=s2 _ _ e5;change H2 D=some (.tup [.int (e.1:Nat),e.2.1]) at C;obtain ⟨tg,c7,hb⟩ :∃T,TagOf H2 e.2.1 T/\instB T "bool" = false:=by
    rcases a3 e W with h|h|⟨j,h,_⟩<;>rw [h]
    ·exact ⟨"str",rfl,by decide⟩
    ·exact ⟨"str",rfl,by decide⟩
    ·exact ⟨"int",rfl,by decide⟩
   refine g_name ?_;refine sq_if (t_or ?_);refine ⟨_,rfl,_,_,"tuple",rfl,.inr (.inl ⟨⟨_,C⟩,rfl⟩),by decide,_,rfl,iteN (by decide) (t_or ?_)⟩;refine ⟨_,rfl,.inl ⟨D,_,rfl,.inr (SqT.of C),rfl,_,rfl,iteN (show ¬ (!decide (V.int ((2:Nat):Int)=V.int 2))=true by decide) (t_or ?_)⟩⟩;refine ⟨_,rfl,.inr (.inl ⟨D,_,0,.int (e.1:Nat),rfl,rfl,SqT.of C,z05 (j:=0) rfl,_,_,"int",rfl,rfl,by decide,_,rfl,iteN (by decide) ?_⟩)⟩;refine ⟨_,rfl,.inr (.inl ⟨D,_,1,e.2.1,rfl,rfl,SqT.of C,z05 (j:=1) rfl,_,_,tg,rfl,c7,by decide,_,rfl,iteN (by rw [hb];decide) (t_nx ?_)⟩)⟩;refine z0q ?_;refine zjt (K:=KX w.params) (λ b U r=>Same H2 r/\r b=some (.lst U)/\All2 (StpZ (kx w) r) (nxT 0 f rs u x) U) (λ R h=>⟨_,rfl,_,rfl,_,rfl,_,rfl,t,la,p,pt,te,zs,f,rs,u,_,os,x,rfl,s2 _ _ d2,b6.tt (.of (K:=KX w.params) s2),ok,s2 _ _ b3,z01 (λ _ _ z=>z.same s2) b4,d0,by omega,DI,pz,po,λ l3 y3 r B _ d1 O=>h l3 y3 r ⟨B,d1,O⟩⟩) (λ b U r h=>⟨SqL.of h.2.1,C0 (m:=63) (by rw [z03 h.2.2];exact C0 zbg (by omega)) (by decide)⟩) (λ k=>((nxT 0 f rs u x)[k]?.map λ d=>decide ((d.1,d.2.1)=(e.1,e.2.1))).getD false) (λ k y F=>∃d q',(nxT 0 f rs u x)[k]? = some d/\y=.ref q'/\PlZ (kx w) F q' d.2.2) (λ k y F d6 d ⟨a,b,Y,h2,h3⟩=>⟨a,b,Y,h2,h3.tups (.of d)⟩) ?_ ?_
   ·rintro b U r ⟨B,eb,O⟩ k S v H4 s4 hv KT KF k1 k2;obtain ⟨d,a9,b',q',rfl,b2,a4⟩:=z0f O hv;rw [a9] at k1 k2;have M:=a3 d (O0 a9);refine ⟨[some (.ref b')],rfl,rfl,?_⟩;refine ⟨_,rfl,_,rfl,.inr (.inl ⟨b',_,rfl,s4.seqT b2,λ h=>absurd (show HT.sIx 3 3 (some 2)=3 from h.2) (by decide),λ p6 d3=>?_⟩)⟩;obtain ⟨H6,v6,J,e6⟩:=new1 (.tup [.int (d.1:Nat),d.2.1]) d3;have aT:=a3 e W;have c5:H6 D=some (.tup [.int (e.1:Nat),e.2.1]):=J _ _ (s4 _ _ (B _ _ C));have i1:IsPd (kx w) H6 (oaD (d.1,d.2.1)) (.ref p6):=oa_pd M e6;have i2:IsPd (kx w) H6 (oaD (e.1,e.2.1)) (.ref D):=oa_pd aT c5;have b0:=zd2 (z63 (q:=(d.1,d.2.1)) M).1 (z63 (q:=(e.1,e.2.1)) aT).1 (zl8 (q:=(d.1,d.2.1)) (q':=(e.1,e.2.1)) M aT);rw [show cutV [V.int (d.1:Nat),d.2.1,V.ref q'] none (some 2)=[V.int (d.1:Nat),d.2.1] from rfl,<-v6];refine ⟨_,rfl,_,_,i1,i2,(z63 (q:=(d.1,d.2.1)) M).1,(z63 (q:=(e.1,e.2.1)) aT).1,(z63 (q:=(d.1,d.2.1)) M).2,_,rfl,?_⟩;by_cases z:(d.1,d.2.1)=(e.1,e.2.1)
    ·exact iteP (b0.trans (decide_eq_true z)) ⟨_,rfl,.inr (.inl ⟨b',_,2,.ref q',rfl,rfl,(s4.trans J).seqT b2,z05 (j:=2) rfl,k1 (decide_eq_true z) _ _ J ⟨d,q',rfl,rfl,a4.tups (.of (s4.trans J))⟩⟩)⟩
    ·exact iteN (λ h=>z (of_decide_eq_true (b0.symm.trans h))) (k2 (decide_eq_false z) _ J)
   rintro b U r ⟨B,eb,O⟩ l7 H7 bs s7 hl7 fa;obtain ⟨H8,v8,q8,e8⟩:=new1 (.lst bs) hl7;rw [<-v8];refine g_name ?_;rw [z03 O] at fa;have d5:=(B.trans s7).trans q8;obtain ⟨k0,a5⟩:=List.mem_iff_getElem?.mp W;have m0:k0∈(C1 (nxT 0 f rs u x).length).filter λ k=>((nxT 0 f rs u x)[k]?.map λ d=>decide ((d.1,d.2.1)=(e.1,e.2.1))).getD false:=List.mem_filter.mpr ⟨List.mem_range.mpr (List.getElem?_eq_some_iff.mp a5).1,by rw [a5];exact decide_eq_true rfl⟩;have lb:=z03 fa;cases bs with
   | nil=>have:=Y7 m0;rw [<-lb] at this;exact absurd this (O3 _)
   | cons y0 bs=>
   obtain ⟨k,S,d,q',Y,rfl,a4⟩:=z0f (i:=0) fa rfl;have S:=(List.mem_filter.mp (O0 S)).2;rw [Y] at S;have L:=of_decide_eq_true (show decide ((d.1,d.2.1)=(e.1,e.2.1))=true from S);have:=zj1 (O0 Y) W (Prod.mk.inj L).1;subst this;refine sq_if ⟨_,rfl,w_0,λ l9 b5=>?_⟩;obtain ⟨H9,v9,X,e9⟩:=new1 (.lst []) b5;rw [<-v9];refine ⟨l7,l9,_,rfl,rfl,SqL.of (X _ _ e8),SqL.of e9,_,rfl,iteN (by rw [decide_eq_false (λ z=>by cases z)];decide) (t_nx ?_)⟩;refine ⟨_,rfl,.inl ⟨l7,_,0,.ref q',rfl,rfl,SqL.of (X _ _ e8),z05 (j:=0) rfl,g_name ?_⟩⟩;exact ⟨q',d.2.2,_,_,s2.trans (d5.trans X),a4.tups (.of (q8.trans X)),w2,(nx d W).1,rfl⟩
  ·rintro σ H2 ⟨p,pl',x5,x6,s2,pz,w',po,rfl⟩;rw [xl,G3] at w';have:=zcc _ rfl wk w' rfl;subst this;obtain ⟨pa,c6,d7,d4,b8,_⟩:=pz;exact ⟨_,rfl,_,rfl,la,p,pa,zs,rs,pl.1,.ref c6,rfl,s2 _ _ b3,z01 (λ _ _ z=>z.same s2) b4,by omega,d4,b8,λ b r B hb=>by rw [hb.mpr fu];exact q _ (I.trans (s2.trans B))⟩
def z3f (K:b0):Sp:=λ vs H Q _=>∃(a:Addr) (ns:List Int) (k:Nat),vs=[.ref a,.int (k:Nat)]/\SqL K H a (ns.map V.int)/\∀i,Q (.int i) H
theorem z6t (T:TX (kx w) mg):Fo P w mg base CX0 1 375 y07 ["script","k"] (z3f (kx w)):=by
 refine (z10 w.params).ok z3p (λ e H Q E h=>?_) (λ i A g s H e Q E f h=>?_)
 ·obtain ⟨a,b,k,rfl,_⟩:=h;rfl
 ·obtain ⟨a,b,k,rfl,c,q⟩:=h;refine ⟨_,(z02 (ps_if (z07 op_lt (pv 1) (z09 z0s rfl (T.no (n_len _)) E3 (z00 (pv 0) pa_nil)) (nomark _))
   (z04 (ps_ret (pe_ix ix_seq (pv 0) (pv 1) (λ _ _=>rfl))))
   z0b)
   (z04 (ps_ret pe_int))),?_⟩
  refine ⟨_,rfl,_,rfl,.inl ⟨a,_,rfl,.inl c,_,_,rfl,rfl,_,rfl,?_⟩⟩;refine ite2 (λ h=>?_) λ _=>q 0;have h:=of_decide_eq_true h;rw [F0] at h;have d:k < b.length:=by omega
  exact ⟨_,rfl,_,rfl,.inl ⟨a,_,k,.int b[k],rfl,rfl,c,z05 (by rw [V0,B0 d];rfl),q _⟩⟩
theorem zfw {K:b0} {H:Hp} {ts:List (Str×Str)} :∀{es:List Ev} {i:Nat} {rs:List Rc} {ps:List DD},(∀e∈es,EvGd K H ts e)->All2 (RcGd K H ts) rs ps->∃qs,∀m,m<=es.length->All2 (RcGd K H ts) (dAll i rs (es.take m)) ((ps++qs).take (dAll i rs (es.take m)).length)
 | [],i,rs,ps,_,h=>⟨[],λ m _=>by rw [g9,D2];show All2 _ rs (ps.take rs.length);rw [<-z03 h,G3];exact h⟩
 | e :: es,i,rs,ps,g,h=>by
  have q :∃r,All2 (RcGd K H ts) (dstep i rs e) (ps++r):=by
   have b:=g e R0;cases e with
   | beg hd n v x=>obtain ⟨f,k,d,l,t,B,c,w,p,s⟩:=b;exact ⟨[⟨f,k,d,l⟩],z18 (x:=(⟨hd,n,v,x,.non,i,none⟩:Rc)) (y:=(⟨f,k,d,l⟩:DD)) h ⟨t,B,c,w,p,s,.inl ⟨rfl,rfl⟩⟩⟩
   | fin hd a=>
    have b:IsA a:=b;refine ⟨[],?_⟩;rw [D2];unfold dstep;dsimp only;cases lastI hd (rs.map Rc.h) with
    | none=>exact h
    | some j=>exact zg3 (λ x y z=>⟨z.1,z.2.1,z.2.2.1,z.2.2.2.1,z.2.2.2.2.1,z.2.2.2.2.2.1,.inr ⟨rfl,b⟩⟩) j h
  obtain ⟨r,o⟩:=q;obtain ⟨qs,A⟩:=zfw (es:=es) (i:=i + 1) (λ x u=>g x (W0 _ u)) o;refine ⟨r++qs,λ m c=>?_⟩;cases m with
  | zero=>show All2 _ rs ((ps++(r++qs)).take rs.length);rw [<-z03 h,List.take_left];exact h
  | succ m=>rw [<-o7];exact A m (Nat.le_of_succ_le_succ c)
theorem TlA.cutA {K:b0} {H H':Hp} {t pt te p q:Addr} {ys:List V} {ts:List (Str×Str)} {es:List Ev} {ps:List DD} {m:Nat} (h:TlA K H t pt te ys ts es ps) (hm:m<=es.length) (s:Same H H') (e:H' p=some (.tup [.ref pt,.ref q])) (e2:H' q=some (.tup (ys.take m))):TlA K H' p pt q (ys.take m) ts (es.take m) ps:=
 have g:=h.same s
 ⟨e,g.th,e2,z96 g.al m,h.ok,by rw [Q2];have:=h.l;omega,EWf.take m h.wf,λ a b=>by rw [Q2] at b;rw [List.take_take,A6 (by omega)];exact g.gd a (by omega),C0 (zek m) h.bg⟩
theorem zk8 {ts:List (Str×Str)} {ps:List DD} {es:List Ev} (wf:EWf [] es) {m d d':Nat} (hd':d' < (es.take m).length) (g':Gd ts ps ((es.take m).take d')) (b':¬ Gd ts ps ((es.take m).take (d' + 1))) (g:Gd ts ps (es.take d)) (b:¬ Gd ts ps (es.take (d + 1))):d'=d:=by
 rw [Q2] at hd';rw [List.take_take,A6 (by omega)] at g' b';rcases Nat.lt_trichotomy d' d with z|z|z
 ·exact absurd (gd_all wf (show d' + 1<=d by omega) g) b'
 ·exact z
 ·exact absurd (gd_all wf (show d + 1<=d' by omega) g') b
def sp_law (K:b0):Sp:=λ vs H Q _=>∃(a:Addr) (ns:List Int),vs=[.ref a]/\SqL K H a (ns.map V.int)/\ns.length<=63/\∀H',Q (.bl true) H'
theorem ok_law (T:TX (kx w) mg) (c0:Ca P w mg base "_law_tale" ["script","most"] 4 (z6m (kx w))) (c1:Ca P w mg base "_law_cell_at" ["script","k"] 1 (z3f (kx w))) (c2:Ca P w mg base "beginning" ["tale","many"] 2 (z4c (kx w))) (c3:Ca P w mg base "judged" ["tale","strictness"] 8 (z5x (kx w))) (c4:Ca P w mg base "bad_beginning" ["tale"] 10 (z2r (kx w))) (c5:Ca P w mg base "_law_explains" ["tale","strictness","order"] 4 (z37 (kx w))) (c6:Ca P w mg base "stuck_paper" ["tale","strictness"] 10 (z4l (kx w))):Fo P w mg base CX0 11 478 fd_law ["script"] (sp_law (kx w)):=by
 refine (F_law w.params).ok sc_law (λ vs H Q E h=>?_) (λ a8 A a9 s H vs Q E F h=>?_)
 ·obtain ⟨a,ns,rfl,_⟩:=h;rfl
 ·obtain ⟨x,ns,rfl,sq,nl,q⟩:=h;refine ⟨_,(z02 (ps_set (i:=1) sc_law.nd rfl (Y0 rfl) (pe_cal c0 (F.mono (by decide)) rfl (z00 (pv 0) (z00 pe_int pa_nil))))
   (z02 (ps_set (i:=2) sc_law.nd rfl (Y0 rfl) (pe_cal c4 (F.mono (by decide)) rfl (z00 (pv 1) pa_nil)))
   (z02 (ps_for R1 rfl (z2e rfl (T.no (z69 _)) (z00 (pe_op opAdd (z09 z0s rfl (T.no (n_len _)) E3 (z00 (pe_ix ix_seq (pv 1) pe_int (λ _ _=>rfl)) pa_nil)) pe_int) pa_nil)) (z0h (i:=3) sc_law.nd rfl (Y0 rfl))
   (z02 (ps_set (i:=4) sc_law.nd rfl (Y0 rfl) (pe_cal c2 (F.mono (by decide)) rfl (z00 (pv 1) (z00 (pv 3) pa_nil))))
   (z02 (ps_set (i:=5) sc_law.nd rfl (Y0 rfl) (pe_cal c3 (F.mono (by decide)) rfl (z00 (pv 4) (z00 pe_str pa_nil))))
   (z02 (ps_set (i:=6) sc_law.nd rfl (Y0 rfl) pe_non)
   (z02 (ps_if (PW.pt (pw_and (z07 z3v (pv 2) pe_non (nomark _)) (z5v (z07 op_ge (pv 3) (pv 2) (nomark _)))))
   (z04 (ps_set (i:=6) sc_law.nd rfl (Y0 rfl) (pv 2)))
   z0b)
   (z02 (ps_if (z07 opNe (z0v op_isN (pv 5) pe_non (nomark _)) (z0v z3v (pv 6) pe_non (nomark _)) (nomark _))
   (z04 (ps_ret pe_bl))
   z0b)
   (z02 (ps_if (PW.pt (pw_and (z07 opEq (pe_op op_mod (pv 3) pe_int) (pe_op op_mod (pe_cal c1 (F.mono (by decide)) rfl (z00 (pv 0) (z00 pe_int pa_nil))) pe_int) (nomark _)) (z5v (z07 opNe (pe_cal c4 (F.mono (by decide)) rfl (z00 (pv 4) pa_nil)) (pv 6) (nomark _)))))
   (z04 (ps_ret pe_bl))
   z0b)
   (z02 (ps_if (PW.pt (pw_and (z07 z3v (pv 5) pe_non (nomark _)) (z5v (pt_not (pt_val (pe_cal c5 (F.mono (by decide)) rfl (z00 (pv 4) (z00 pe_str (z00 (pv 5) pa_nil)))) (λ _=>rfl))))))
   (z04 (ps_ret pe_bl))
   z0b)
   (z04 (ps_if (PW.pt (pw_and (z07 z3v (pv 6) pe_non (nomark _)) (pw_and (z07 op_lt (pv 3) (pe_op opAdd (pv 2) pe_int) (nomark _)) (z5v (z07 op_isN (pe_cal c6 (F.mono (by decide)) rfl (z00 (pv 4) (z00 pe_str pa_nil))) pe_non (nomark _))))))
   (z04 (ps_ret pe_bl))
   z0b))))))))))
   (z04 (ps_ret pe_bl))))),?_⟩
  refine ⟨_,rfl,x,ns,rfl,sq,nl,λ t pt S C f m H1 s1 et a1 th ok a7 al el K bg hb=>?_⟩;refine g_name (t_nx ?_);have eg :∀e∈f,EvGd (kx w) H1 m e:=λ e he=>by obtain ⟨i,R⟩:=List.mem_iff_getElem?.mp he;obtain ⟨y,_,z⟩:=z0w al R;exact z.n
  have yl:C.length=f.length:=z03 al;obtain ⟨ps,gd⟩:=zfw (i:=0) (rs:=[]) (ps:=[]) eg .nil;have ta:TlA (kx w) H1 t pt S C m f ps:=⟨et,th,a1,z01 (λ _ _ z=>z.a) al,ok.thw,by omega,K,gd,bg⟩
  obtain ⟨hs,h4,hh⟩:=hb;clear al gd eg th a7;have a2:=s1.seq sq;refine z6z (λ σ1 W=>∃bad,Same H1 W/\((bad=.non/\Gd m ps f)\/∃d:Nat,bad=.int ((d + 1:Nat))/\d < f.length/\Gd m ps (f.take d)/\¬ Gd m ps (f.take (d + 1)))/\σ1=[some (.ref x),some (.ref t),some bad,none,none,none,none]) ?_ (λ p=>?_);rotate_left
  ·exact ⟨_,rfl,t,pt,S,C,m,f,ps,rfl,ta,λ H2 N g=>g_name (p _ _ ⟨_,N,.inl ⟨rfl,g⟩,rfl⟩),λ d H2 N dl g b=>g_name (p _ _ ⟨_,N,.inr ⟨d,rfl,dl,g,b⟩,rfl⟩)⟩
  rintro σ1 H2 ⟨bad,N,hbad,rfl⟩;refine ⟨_,rfl,.inr (.inl ⟨t,_,1,.ref S,rfl,rfl,SqT.of (N _ _ et),z05 (j:=1) rfl,.inl ⟨S,C,rfl,.inr (SqT.of (N _ _ a1)),.inl ⟨_,_,rfl,rfl,C.length + 1,rfl,by omega,by omega,?_⟩⟩⟩)⟩;refine z3m (lo:=0) (n:=C.length + 1) (λ i σ W=>∃x3 x4 x5 x6,Same H1 W/\σ=[some (.ref x),some (.ref t),some bad,x3,x4,x5,x6]) ⟨_,_,_,_,N,rfl⟩ ?_ (λ σ W _=>q W);rintro i σ H3 R ⟨x3,x4,x5,x6,s3,rfl⟩;rw [P6];have R:i<=f.length:=by omega
  refine g_name ?_;refine z0q ⟨_,rfl,_,rfl,t,S,.ref pt,C,i,rfl,SqT.of (s3 _ _ et),s3 _ _ a1,by omega,λ B q4 H4 s4 e4 a3=>?_⟩;refine g_name ?_;have a0:=s3.trans s4;have tp:=ta.cut R a0 e4 a3;have tA:=ta.cutA R a0 e4 a3;have lb:LBd m (dAll 0 [] (f.take i)) (ps.take (dAll 0 [] (f.take i)).length):=λ n L nd h=>lay_le (EWf.take i K) tp.2.2.2.2.2 h4 (λ e he=>hh e (j3c he)) nd h;refine z6z (λ σ5 G=>∃ord,Same H4 G/\((ord=.non/\¬ Gd m ps (f.take i))\/∃l J o r,ord=.ref l/\G l=some (.lst J)/\All2 (OaAt G) o J/\Wk 0 m (dAll 0 [] (f.take i)) (ps.take (dAll 0 [] (f.take i)).length) o r/\FullP (dAll 0 [] (f.take i)) r)/\σ5=[some (.ref x),some (.ref t),some bad,some (.int (i:Nat)),some (.ref B),some ord,x6]) ?_ (λ p=>?_);rotate_left
  ·exact ⟨_,rfl,B,m,f.take i,_,0,rfl,tp,λ G v no=>g_name (p _ _ ⟨_,v,.inl ⟨rfl,λ g=>(gd_take.mp g).elim λ o z=>z.elim λ r y=>no o r y.1 y.2⟩,rfl⟩),λ l J o r G v e5 a5 I M=>g_name (p _ _ ⟨_,v,.inr ⟨l,J,o,r,rfl,e5,a5,I,M⟩,rfl⟩)⟩
  rintro σ5 G ⟨ord,v,hord,rfl⟩;have a6:=a0.trans v;refine z0q (g_name ?_);refine z6z (λ σ6 H6=>∃due,Same G H6/\((due=.non/\Gd m ps (f.take i))\/∃d:Nat,bad=.int ((d + 1:Nat))/\due=.int ((d + 1:Nat))/\d < f.length/\d + 1<=i/\¬ Gd m ps (f.take i)/\Gd m ps (f.take d)/\¬ Gd m ps (f.take (d + 1)))/\σ6=[some (.ref x),some (.ref t),some bad,some (.int (i:Nat)),some (.ref B),some ord,some due]) ?_ (λ p=>?_);rotate_left
  ·refine z3s (t_and ⟨_,rfl,rfl,_,rfl,?_⟩);rcases hbad with ⟨rfl,g⟩|⟨d,rfl,dl,g,b⟩
   ·rw [<-G3 (l:=f)] at g;exact iteN (by decide) (iteF (p _ _ ⟨_,Same.refl _,.inl ⟨rfl,gd_all K R g⟩,rfl⟩))
   ·refine iteP (by rw [decide_eq_false (λ z=>by cases z)];rfl) ?_;refine ⟨_,rfl,_,rfl,_,_,rfl,rfl,_,rfl,?_⟩;refine ite2 (λ h=>?_) λ h=>?_
    ·have h:((d + 1:Nat):Int)<=(i:Nat):=of_decide_eq_true h;exact ⟨_,rfl,g_name (p _ _ ⟨_,Same.refl _,.inr ⟨d,rfl,rfl,dl,by omega,λ O=>b (gd_all K (by omega) O),g,b⟩,rfl⟩)⟩
    ·have h:¬ ((d + 1:Nat):Int)<=(i:Nat):=λ z=>h (decide_eq_true z);exact p _ _ ⟨_,Same.refl _,.inl ⟨rfl,gd_all K (show i<=d by omega) g⟩,rfl⟩
  rintro σ6 H6 ⟨due,s6,hdue,rfl⟩;have U:=a6.trans s6;rcases hdue with ⟨rfl,g⟩|⟨d,rfl,rfl,dl,di,nb,gd,bd⟩
  ·obtain ⟨l,J,o,r,rfl,e5,a5,I,M⟩:=hord.resolve_left λ z=>z.2 g;have X:decide (V.ref l=V.non)=false:=decide_eq_false (λ z=>by cases z);refine sq_if ⟨_,rfl,rfl,_,rfl,rfl,rfl,_,rfl,iteN (by rw [X];decide) (t_nx ?_)⟩;refine z6z (λ Z D=>Same H6 D/\Z=[some (.ref x),some (.ref t),some bad,some (.int (i:Nat)),some (.ref B),some (.ref l),some .non]) ?_ (λ p=>?_);rotate_left
   ·refine z3s (t_and ?_);refine ⟨_,rfl,_,_,rfl,rfl,(show (0:Int) < 3 by decide),_,rfl,x,ns,1,rfl,U.seq a2,λ c=>⟨_,_,rfl,rfl,(show (0:Int) < 3 by decide),rfl,_,rfl,?_⟩⟩;refine ite2 (λ _=>?_) λ _=>iteF (p _ _ ⟨Same.refl _,rfl⟩);refine ⟨_,rfl,B,pt,q4,C.take i,m,f.take i,ps,rfl,tA.same (v.trans s6),λ D u _=>⟨_,rfl,rfl,_,rfl,iteN (by decide) (p _ _ ⟨u,rfl⟩)⟩,λ d' D u a4 O b'=>absurd (gd_all (EWf.take i K) (show d' + 1<=(f.take i).length by omega) (by rw [G3];exact g)) b'⟩
   rintro Z D ⟨u,rfl⟩;have Y:=s6.trans u;refine sq_if (t_and ⟨_,rfl,rfl,_,rfl,iteP (by rw [X];rfl) ?_⟩);refine ⟨_,rfl,_,rfl,B,l,J,o,r,m,f.take i,_,rfl,tp.same (v.trans Y),Y _ _ e5,z01 (λ _ _ z=>z.same Y) a5,I,M,λ H8 s8=>⟨_,rfl,iteN (by decide) (t_nx ?_)⟩⟩;exact z3s (t_and ⟨_,rfl,rfl,_,rfl,iteN (by decide) (iteF ⟨_,_,_,_,U.trans (u.trans s8),rfl⟩)⟩)
  ·obtain ⟨rfl,_⟩:=hord.resolve_right λ ⟨l,J,o,r,_,_,_,I,M⟩=>nb (gd_take.mpr ⟨o,r,I,M⟩);have X:decide (V.int ((d + 1:Nat):Int)=V.non)=false:=decide_eq_false (λ z=>by cases z);refine sq_if ⟨_,rfl,rfl,_,rfl,rfl,rfl,_,rfl,iteN (by rw [X];decide) (t_nx ?_)⟩;refine z6z (λ Z D=>Same H6 D/\Z=[some (.ref x),some (.ref t),some (.int ((d + 1:Nat))),some (.int (i:Nat)),some (.ref B),some .non,some (.int ((d + 1:Nat)))]) ?_ (λ p=>?_);rotate_left
   ·refine z3s (t_and ?_);refine ⟨_,rfl,_,_,rfl,rfl,(show (0:Int) < 3 by decide),_,rfl,x,ns,1,rfl,U.seq a2,λ c=>⟨_,_,rfl,rfl,(show (0:Int) < 3 by decide),rfl,_,rfl,?_⟩⟩;refine ite2 (λ _=>?_) λ _=>iteF (p _ _ ⟨Same.refl _,rfl⟩);refine ⟨_,rfl,B,pt,q4,C.take i,m,f.take i,ps,rfl,tA.same (v.trans s6),λ D _ O=>absurd O nb,λ d' D u a4 O b'=>?_⟩;have:=zk8 K a4 O b' gd bd;subst this;exact ⟨_,rfl,rfl,_,rfl,iteN (by rw [decide_eq_true rfl];decide) (p _ _ ⟨u,rfl⟩)⟩
   rintro Z D ⟨u,rfl⟩;have Y:=s6.trans u;refine sq_if (t_and ⟨_,rfl,rfl,_,rfl,iteN (by decide) (iteF (t_nx ?_))⟩);refine z3s (t_and ⟨_,rfl,rfl,_,rfl,iteP (by rw [X];rfl) (t_and ?_)⟩);refine ⟨_,rfl,_,rfl,.inl ⟨_,_,rfl,rfl,_,_,rfl,rfl,_,rfl,?_⟩⟩;refine ite2 (λ _=>?_) λ _=>iteF ⟨_,_,_,_,U.trans u,rfl⟩;exact ⟨_,rfl,B,m,f.take i,_,rfl,tp.same (v.trans Y),lb,λ o r I M=>nb (gd_take.mpr ⟨o,r,I,M⟩),λ l H8 s8=>⟨rfl,_,rfl,iteN (by rw [decide_eq_false (λ z=>by cases z)];decide) ⟨_,_,_,_,U.trans (u.trans s8),rfl⟩⟩⟩
end
theorem all_law {P:Program} {w:S0} {mg:Str->Option Value} {base:Heap} (T:TX (kx w) mg):Fo P w mg base CX0 11 478 fd_law ["script"] (sp_law (kx w)):=by have m:=@cal_mk P w (kx w) mg base;have g:=m T (z70 _) (ze8 _) (zgi _) (zdb T );have J:=m T (z5g _) (zde _) (zdx _) (zby T g);have R:=m T (z6l _) (zep _) (zg9 _) (zdl T J);have M:=m T (z38 _) (z9h _) (zag _) (z8r T );have i:=m T (z83 _) (zi3 _) (zh4 _) (zef T );have t:=m T (z8q _) (zgv _) (zhk _) (zfa T i R M);have K:=m T (z41 _) (z6x _) (zbf _) (z9r T );have o:=m T (z36 _) (z5p _) (za7 _) (z8u T );have k:=m T (z1z _) (z3t _) (z74 _) (z6o T );have x:=m T (z47 _) (z6i _) (zc1 _) (z9d T );have F:=m T (z3y _) (z6y _) (zaw _) (z9q T );have S:=m T (z4b _) (z6r _) (zbv _) (zac T );have y:=m T (z2h _) (z4n _) (z81 _) (z7f T );have V:=m T (z2j _) (z4o _) (z8x _) (z7g T );have E:=m T (z4a _) (z6d _) (zb4 _) (z9p T );have W:=m T (F_do _) (g_do _) (b_do _) (ok_do T t K o k F S y V E x);have z:=m T (z3d _) (zas _) (zao _) (z8b T i);have d:=m T (zft _) (zly _) (zlo _) (zju T );have a3:=m T (z49 _) (zbn _) (zc5 _) (zat T );have p:=m T (z17 _) (z57 _) (z5i _) (z4g T );have Q:=m T (zav _) (zke _) (zkr _) (zi0 T d p a3);have r:=zbt (P:=P) (w:=w) (base:=base) T;have Z:=z2u (P:=P) (w:=w) (base:=base) T;have q:=m T (z92 _) (zi1 _) (zh1 _) (zgb T W);have C:=m T (z1y _) (z7l _) (z7b _) (z60 T );have A:=m T (z5j _) (zds _) (zdh _) (zc9 T );have X:=m T (z2z _) (zab _) (zai _) (z93 T z);have e:=zk6 (P:=P) (w:=w) (base:=base) T Q d X C r;have f:=z4s (P:=P) (w:=w) (base:=base) T Z q;have H:=m T (z10 _) (z50 _) (z4j _) (z77 T );have a:=m T (z55 _) (zdy _) (zdn _) (zbl T );have v:=m T (z45 _) (zb0 _) (zaz _) (za9 T a);have O:=m T (z5h _) (zdu _) (zdo _) (zbu T a v);have L:=m T (z90 _) (zil _) (zhr _) (zg8 T );have h:=m T (z46 _) (zax _) (zay _) (z9a T );have c:=m T (z2f _) (z8f _) (z8g _) (z7h T L);have U:=m T (z2v _) (z9o _) (za6 _) (z87 T a);have n:=m T (z5b _) (zdj _) (zdd _) (zb9 T H a U h c O);have G:=z62 (P:=P) (w:=w) (base:=base) T A;have b:=m T (zbw _) (zk3 _) (zkj _) (zhv T e G f);have a1:=m T (z3x _) (zb6 _) (zc8 _) (zad T );have a2:=m T (z1x _) (z7m _) (z7n _) (z71 T );have l:=m T (z14 _) (z5f _) (z56 _) (z4t T a2);have B:=m T (z2k _) (z8p _) (z8e _) (z7e T );have a0:=m T (z42 _) (zau _) (zc2 _) (zah T l c);have j:=m T (z5d _) (zdk _) (zdv _) (zc0 T g);have a4:=m T (zbh _) (zkf _) (zjr _) (zii T j b);have s:=m T (z20 _) (z75 _) (z7j _) (z73 T a4);have I:=m T (z48 _) (zbr _) (zc6 _) (zaf T f);have N:=m T (z44 _) (zbb _) (zbp _) (z9i T e I);have Y:=m T (z31 _) (z9n _) (zak _) (z89 T b N);have u:=m T (z1w _) (z7k _) (z76 _) (z68 T a1 h a0 B);have D:=m T (z10 _) (z50 _) (z4j _) (z6t T );exact ok_law T n D j b s u Y
end K70
open PySem PySem.W PyProof.Rows
set_option maxRecDepth 100000 in
set_option maxHeartbeats 0 in
theorem PySem.Challenge.cw_talejudge_k70_whole_beginnings_alike_holds : PySem.Challenge.rw_talejudge_k70_whole_beginnings_alike.Holds := by
 w_on;o_law
 refine holds_open (q:=K70.viewX) (loose:=K70.looseX) (Xt:=K70.XtX) (XP:=XL K70.viewX []) (Yf:=Hook.obs K70.HX) (Ya:=Hook.val K70.HX) (YP:=Hook.says K70.HX) (N:=200000) K70.leftX (Hook.of K70.HX) (Hook.keeps K70.HX) (λ s e=>xl_of s (Bool.and_eq_true_iff.mp e).1) XL.keeps (by rfl) (by rfl) (by rfl) (λ s e=>recFacts_of (Bool.and_eq_true_iff.mp e).2) (by rfl) (by assumption) (by decide +kernel) ⟨rfl,rfl,rfl,rfl,rfl,by decide +kernel⟩ ?hw ?hc
 case hw=>w_witness2
 case hc=>
  refine L2.walk_of (l:=PySem.Challenge.rw_talejudge_k70_whole_beginnings_alike) (n:=63) (k:=11) (x:="script") (K:=K70.KX) (CX:=λ _=>L2.CX0) (sp:=λ w=>K70.sp_law (K70.KX w.params)) rfl (by decide) rfl ⟨rfl,by decide,by decide,rfl⟩ (λ w h Y=>PySem.W.kIn_of Y) ?F ?S ?C
  case F=>intro w i j h KX G c;have T:=L2.TX.mk' KX G;have f:=c.symm.trans (T.of (K70.g_law _));cases f;exact ⟨K70.fd_law,λ s u=>.of_eq rfl,λ r p m=>K70.all_law T⟩
  case S=>exact λ w H a d b o g=>⟨a,d,rfl,g,b,λ _=>rfl⟩
  case C=>exact λ _ _ _ _ _ z=>z
