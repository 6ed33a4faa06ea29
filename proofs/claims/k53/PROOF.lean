import PyProof.Rows.All
import Wide.All
import OpenK.AllK
import Wide.FinOn
import Lean
import PyProof.EqAt
import PyProof.EqKinds
import PyProof.TupleCall
import Open.Tops
import KE.KIntText
import PyProof.ZipIter
import PyProof.ReprRoads
import PyProof.Draws
import KE.KDictSum
import KE.KSortedM
import OpenK.KRaise
import OpenK.KOwn
import PyProof.ExcBaseAll.ValueError
import KE.KTryMore
import PyProof.NsDelKeeps
import KE.KDictOf
import KE.KEqDict
import PyProof.DictWalks
import PyProof.TupleKey
import PyProof.MinMaxWalk
import KE.KSortTup
import PyProof.StrWalks
import KE.KRevIter
import KE.KListMore
import PyProof.StrLawsTight
import PyProof.StrLawsChain
import PySem.Challenge.RW_talejudge_k53_what_may_be_next
open PySem renaming wpAny_bind->c0,Shared->B0,wpAny_pure->C0,Params->J0,mainGlobals->O0,wpAny->R0,World->j1,model->v1,starEach->F1,reduceHash->K1,Around->V1,wpAny_holding->X1,wpAny_callSpecial?_slot->J2,wpAny_call_entry->O2,compareOp->P2,wpAny_newObj_type->Q2,OsState->A3,codeAny_builtin->F3,treeTable->K3,eval->L3,SetTable->M3,wpAny_pyIter_tuple->O3,wpAny_Call_Name_kw->P3,wpAny_field->S3,wpAny_seqItems->X3,boot_len->Y3,wpAny_mono->y4,rawInt->F4,wpAny_attempt->J4,wpAny_typeOf->O4,wpAny_truthy_bool->P4,codeAny->Q4,bootBuiltins->R4,Builtin->S4,sysModules->Y4,pyNext->Z4,backTo->c5,wpAny_setField->u5,wpAny_isInstance->v5,binaryOp->A5,wpAny_setField_rec->G5,wpAny_rule->J5,intKind->K5,codeAny_mono->L5,wpAny_passesOwn->V5,attributeBase->X5,wpAny_setState_of->c6,mem_of_lookup->d6,NameKind->r6,wpAny_setEntries_of->B6,eqIsQuiet->N6,wpAny_pyIter_list->R6,placesWithHash->S6,isSubtype_type->T6,Keyword->W6,tupleKind->m7,sliceBounds->D7,keywordEach->E7,callSpecialIfBoundUnlessNone?->F7,importedModules->U7,swapsWith->j8,tupleKind_room_in1->o8,getattributeRaised->u8,IsPair->z8,wpAny_pyIter_enum->K8,getItem->L8,foldedSetIterable->M8,wpAny_onRaise->Q8,behindInMarks->S8,wpAny_pyNext_tuple_item->a9,wpAny_pyIter_zip->c9,wpAny_pyNext_tuple_end->q9,wpAny_pyNext_list_item->u9,strKind_is->z9,assignEach->B9,Paired->C9,IsPart->E9,wpAny_execs_nil->F9,letOwnedTupleGo->G9,getAttrByItsOwn->J9,wpAny_pyNext_list_end->M9,wpAny_updateSeq_pair->X9,wpAny_of_eq->Y9,wpAny_fieldsOf->Z9,firstArgMember->j00,codeAny_call_builtin->j01,boundAndCalled->j02,backToKw->j03,atKey->j04,valueAt->j07,setNext->j08,relabel->j09,holding->j0a,Fin->j0f,plainId_quiet->j0h,call_meets->j10,Result->j11,getAttr?->j18,fits_of_scanBound->j19,concat_meets->j1a,callerA->j1b,IsZip->j1d,wpAny_askSetting->j20,pyIter->j21,noFill_tuple_add->j22,isSubtype->j23,wpAny_throw->j28,subscripted->j29,sizeLine_eq->j2a,wpAny_ite_split->j2i,Within->j2j,standAt->j34,spliced->j35,dictSet->j36,wpAny_runValue->j3e,wpAny_letOwnedTupleGo_enum->j3f,wpAny_call->j3g,typeLookup->j3h,relayAll->j3i,isInstance->j3j,intKind_is->j40,hookBehind->j41,Thread->j46,wpAny_letOwnedTupleGo_zip->j4a
open PySem.W renaming Frag->j0,nsIn->P0,kia_one->C3,keepIn->Q3,findIn->R3,instObj->K4,fnOf->C6,callWith_K->v7,plainGet->a8,lookIn->U8,codeIn->V8,plainGet_of->d9,methodObj->N9,hasDictIn->O9,takerIn->j0e,isFn->j24,cellsFrom_some->j25,kitx_tuple->j47,specialIn->j4c,plainOver->j4d,kitx_list->j4e,kitx_dict->j4f
open PySem.PyData renaming keyHash->o0,int->d5,depthAll->o6,depth->A8
open List renaming not_mem_nil->x0,getElem?_eq_getElem->K0,length_map->M0,mem_cons->N0,length_append->S0,mem_of_getElem?->T0,size_toArray->V0,getElem?_map->W0,length_cons->y1,map_cons->A1,mem_cons_self->B1,mem_cons_of_mem->D1,mem_append_right->G1,range->J1,forall_mem_cons->W1,length_range->Z1,map_append->j2,replicate->D2,getElem?_append_right->E2,length_filter_le->G2,getElem?_append_left->K2,append_nil->W2,getElem?_cons_succ->X2,length_nil->m3,getElem?_cons_zero->N3,length_replicate->Z3,map_map->B4,drop_zero->D4,find?_cons->M4,lookup_cons->V4,filter_cons->X4,getElem?_eq_none->E5,append_assoc->M5,filterMap_cons->m6,range_succ->u6,length->D6,foldl_append->F6,length_take->P6,mem_append_left->a7,lookup->b7,getElem?_modify->c7,nodup_cons->d7,forIn_cons->i7,getElem?_range->z7,map_nil->C7,length_modify->O7,forIn_nil->P7,nodup_append->d8,getElem?_inj->e8,ext_getElem?->i8,any_cons->m8,length_drop->B8,getElem_mem->C8,getElem?_replicate->D8,ext_getElem->E8,any_eq_true->F8,all_eq_true->G8,take_of_length_le->N8,nodup_nil->i9,length_eraseIdx->j9,of_mem_zip->j13,mem_filter->j14,length_set->j15,foldl_cons->j16,dropLast_concat_getLast->j17,mem_range->j1g,length_eraseIdx_of_lt->j1h,drop_eq_getElem_cons->j26,length_filterMap_le->j2f,tail->j31,pairwise_mergeSort->j32,pairwise_lt_range->j38,getElem?_set_self->j39,any_map->j3a,getElem?_toArray->j48,getElem?_set_ne->j4g
open PySem.Builtin.Tuple renaming tupleHashOf->A0,tupleExact->N5,tupleItemsOf->Q9
open PySem.Heap renaming get?_push_of_some->D0,lt_size->L0,get?_push_size->Q0,size_push->A2,get?_update_self->v3,DictOf->W3,SameBut->o5,get?_update_other->G6,IsTuple->j3b,ExtBut->j4h
open Nat renaming le_refl->F0,le_trans->G0,ne_of_lt->X0,lt_of_le_of_lt->E1,lt_of_lt_of_le->L1,lt_succ_of_lt->P1,lt_succ_self->C2,le_succ->T2,ne_of_gt->V2,zero_le->d3,le_of_lt->V3,zero_add->j4,lt_irrefl->o4,le_add_right->C4,not_lt_zero->C5,succ_le_succ->g6,le_succ_of_le->M6,le_of_not_lt->V6,lt_trans->K7,le_of_eq->L7,mul_le_mul_right->D9,lt_of_succ_lt->j0g
open Bool renaming false_ne_true->U0,and_eq_true->u3,and_false->L6,true_and->Y6,false_and->S7,not_eq_true->j0j,false_or->j2h
open Or renaming inr->Y0,inl->Z0
open PySem.Value renaming ref->C1,none->Z2,type->J3,int->O6,str->B7,bool->J7,isStrOf->Z7,isInt->j44,float->j45
open Option.some renaming inj->N1
open PySem.SetTable renaming below->O1,grown->D5,insertAt->K9,advance->j4b
open PySem.Str renaming ofString->Q1
open PySem.PassesOwn renaming never->U1
open PySem.NameKind renaming free->Y1,cell->g9
open Array renaming length_toList->v2,getElem?_eq_none->E3,getElem?_toList->E4,getElem?_eq_getElem->L4
open PySem.Builtin.SmallTypes renaming nextOf->B2,ownedTupleIsFree->d4,ownedTupleFields->i4,ownedTupleHandOut->Q7
open PyProof.Rows renaming boot_isinstance->F2,callWith_type1->j3,boot_tuple->B3,IntsAre->D3,slot_tuple_getitem->G4,callWith_builtin1->A6,boot_sorted->G7,AllBare->O8,envOfC->A9,boot_str->j42,boot_int->j43
open Ne renaming symm->N2
open PySem.Obj renaming mapFields->Y2,mapSeq->X7,mapDictKeys->Z8,putSet->j05
open PySem.Heap.SameBut renaming update->i3
open Pure renaming pure->G3,pure->j30
open ForInStep renaming yield->v4
open False renaming elim->A4
open List.Perm renaming refl->N4
open Sum.inl renaming inj->T4
open PySem.Calls renaming spliced_cons->m5,spliced_nil->F5,Name_function_global->j1e,call_function_entry->j1j,callWith_builtin->j33,evalArgs_plain->j49
open PySem.Builtin.Slice renaming slicePlaces->B5,sliceAdjust->X6,sliceApplied->S9
open PySem.W.Fast renaming tw16697807410369149715->O5,tw13926502685295537346->P5,tw13383273872528276517->Q5,te14364793385576792824->S5,tw4214721358667687652->Y5,tw14364793385576792824->J8
open Int renaming toNat_natCast->T5,emod_lt_of_pos->E6,emod_nonneg->A7,zero_add->M7,lt_of_le_of_lt->j06
open PySem.Builtin.Dict renaming updateFrom->Z5,selfAndRest->j0c,addKeywords->j0d,pairItems->j0i
open PySem.F renaming slot_tuple_iterator_next->i6,args_tuple_add_2->V7,plainAttrs_list->b8,entry_tuple_add->c8,slot_tuple_add->v8,slot_zip_next->m9,plain_list_iadd->j1f,args_tuple_iterator_next_1->j27,slot_dict_pop->j2e,entry_tuple_iterator_next->j2g
open PySem.Shared renaming TypeIs->j6,heap->j37
open PyProof.Rows.F renaming entry_set_update_loop->J6
open PySem.Code renaming builtin->K6,isFrame->j0b,frames->j4i
open PySem.Data renaming cell->Q6,fields->o9,seq->j1i
open PySem.SetTable.below renaming go->U6
open Option renaming map_some->Z6,isSome_map->W7,toList_none->L9,map->j12
open Sum.inr renaming inj->N7
open PySem.Paired renaming length->Y7
open List.Pairwise renaming nil->W8,map->X8
open PySem.Builtin.Frozenset renaming updateFrom->Y8
open PUnit renaming unit->P9
open PySem.Builtin.List renaming listLengthHint->U9,listExtendWith->V9
open PySem.Around renaming under->W9,under_plainId->j3d,under_plain->j4j
open PySem.SetTable.probe renaming go->j1c
open PySem.SeqAt.EqAt renaming str_str->j2b,str_int->j2c,int_str->j2d
open PySem.Heap.DictOf renaming new->j3c
set_option maxRecDepth 100000
set_option maxHeartbeats 0
namespace K53
open_shared pre for PySem.Challenge.pw_talejudge_k53_what_may_be_next leaving 45
end K53
set_option maxHeartbeats 200000
-- CHANGE: your row's module here,as the last of these rows
set_option Elab.async false
set_option linter.all false
namespace L2
open PySem PySem.Spec PyProof.Rows
noncomputable abbrev Key:=Sum Int Str
noncomputable def keyIs:Key->Value->Bool
 | .inl k,v=>j44 k v
 | .inr x,v=>Z7 x v
noncomputable def keyH (w:j1):Key->Int
 | .inl k=>hashInt k
 | .inr x=>hashStr w x
theorem z0o :∀{k:Key} {v:Value},keyIs k v=true->(∃i t,k=Sum.inl i/\v=O6 i t)\/(∃x t,k=Sum.inr x/\v=B7 x t)
 | .inl i,v,h=>by obtain ⟨t,e⟩:=Value.isInt_shape (k:=i) (v:=v) h;exact .inl ⟨i,t,rfl,e⟩
 | .inr x,v,h=>by obtain ⟨t,e⟩:=Value.isStrOf_shape (x:=x) (v:=v) h;exact .inr ⟨x,t,rfl,e⟩
theorem zii (i:Int) (t:Tok):keyIs (.inl i) (.int i t)=true:=by simp [keyIs,j44]
theorem zhe (x:Str) (t:Tok):keyIs (.inr x) (.str x t)=true:=by simp [keyIs,Z7]
theorem key_ll (a b:Int):decide ((Sum.inl a:Key)=Sum.inl b)=(a == b):=by
 by_cases e:a=b
 ·subst e;simp
 ·have h:¬ (Sum.inl a:Key)=Sum.inl b:=λ q=>e (T4 q);rw [decide_eq_false h];exact (beq_eq_false_iff_ne.mpr e).symm
theorem key_rr (a b:Str):decide ((Sum.inr a:Key)=Sum.inr b)=decide (a=b):=by
 by_cases e:a=b
 ·subst e;simp
 ·have h:¬ (Sum.inr a:Key)=Sum.inr b:=λ q=>e (N7 q);rw [decide_eq_false h,decide_eq_false e]
theorem key_lr (a:Int) (b:Str):decide ((Sum.inl a:Key)=Sum.inr b)=false:=decide_eq_false (λ q=>nomatch q)
theorem key_rl (a:Str) (b:Int):decide ((Sum.inr a:Key)=Sum.inl b)=false:=decide_eq_false (λ q=>nomatch q)
noncomputable def z0l (prog:Program) (w:j1):PySem.KeyKind prog w Key where
 is:=keyIs
 hash:=keyH w
 inj:=λ v a b ha hb=>by
  rcases z0o ha with ⟨i,t,rfl,rfl⟩|⟨x,t,rfl,rfl⟩
  ·rcases z0o hb with ⟨j,u,rfl,e⟩|⟨y,u,rfl,e⟩
   ·injection e with e1 _;rw [e1]
   ·exact nomatch e
  ·rcases z0o hb with ⟨j,u,rfl,e⟩|⟨y,u,rfl,e⟩
   ·exact nomatch e
   ·injection e with e1 _;rw [e1]
 byValue:=λ k v h=>by rcases z0o h with ⟨i,t,rfl,rfl⟩|⟨x,t,rfl,rfl⟩<;>rfl
 pyHash:=λ hv h=>by
  rcases z0o hv with ⟨i,t,rfl,rfl⟩|⟨x,t,rfl,rfl⟩
  ·exact wpAny_pyHash_int h
  ·exact wpAny_pyHash_str h
 eqBool:=λ hu hv h=>by
  rcases z0o hu with ⟨i,t,rfl,rfl⟩|⟨x,t,rfl,rfl⟩
  ·rcases z0o hv with ⟨j,u,rfl,rfl⟩|⟨y,u,rfl,rfl⟩
   ·rw [key_ll] at h;exact wpAny_eqBool_int h
   ·rw [key_lr] at h;exact j2d i t y u _ _ _ _ h
  ·rcases z0o hv with ⟨j,u,rfl,rfl⟩|⟨y,u,rfl,rfl⟩
   ·rw [key_rl] at h;exact j2c x t j u _ _ _ _ h
   ·rw [key_rr] at h;exact wpAny_eqBool_str h
 «strs»:=λ k x t v h=>by
  rcases z0o h with ⟨i,u,rfl,e⟩|⟨y,u,rfl,e⟩
  ·exact nomatch e
  ·injection e with e1 _;subst e1;cases v<;>rfl
theorem zek (prog:Program) (w:j1) (i:Int) (t:Tok):(z0l prog w).is (.inl i) (.int i t)=true:=zii i t
theorem zef (prog:Program) (w:j1) (x:Str) (t:Tok):(z0l prog w).is (.inr x) (.str x t)=true:=zhe x t
inductive V where
 | non|bl (b:Bool)|int (i:Int)|str (x:Str)|byt (b:Array UInt8)|flt (b:UInt64)|ref (a:Addr)|ty (n:String)
 deriving DecidableEq
noncomputable def RelV:V->Value->Prop
 | .non,u=>u=Z2
 | .bl b,u=>u=J7 b
 | .int i,u=>∃t,u=O6 i t
 | .str x,u=>∃t,u=B7 x t
 | .byt b,u=>∃t,u=Value.bytes b t
 | .flt b,u=>∃t,u=j45 b t
 | .ref a,u=>u=C1 a
 | .ty n,u=>u=J3 n
abbrev Vals:List V->List Value->Prop:=C9 RelV
theorem Vals.length {xs:List V} {us:List Value} (r:Vals xs us):xs.length=us.length:=Y7 r
theorem Vals.get :∀{xs:List V} {us:List Value} {i:Nat} {x:V},Vals xs us->xs[i]? = some x->∃u,us[i]? = some u/\RelV x u
 | _,_,_,_,.nil,e=>by simp at e
 | _,_,0,_,.cons r _,e=>by simp at e;subst e;exact ⟨_,rfl,r⟩
 | _,_,i + 1,x,.cons _ t,e=>by obtain ⟨u,b,a⟩:=Vals.get (i:=i) (x:=x) t (by simpa using e);exact ⟨u,by simpa using b,a⟩
theorem Vals.set {x:V} {u:Value} (r:RelV x u) :∀{xs:List V} {us:List Value} (i:Nat),Vals xs us->Vals (xs.set i x) (us.set i u)
 | _,_,_,.nil=>.nil
 | _,_,0,.cons _ t=>.cons r t
 | _,_,i + 1,.cons q t=>.cons q (Vals.set r i t)
theorem Vals.append :∀{xs ys:List V} {us ws:List Value},Vals xs us->Vals ys ws->Vals (xs++ys) (us++ws)
 | _,_,_,_,.nil,s=>s
 | _,_,_,_,.cons r t,s=>.cons r (Vals.append t s)
theorem Vals.take :∀{xs:List V} {us:List Value} (n:Nat),Vals xs us->Vals (xs.take n) (us.take n)
 | _,_,0,_=>.nil
 | _,_,_ + 1,.nil=>.nil
 | _,_,n + 1,.cons r t=>.cons r (Vals.take n t)
theorem Vals.drop :∀{xs:List V} {us:List Value} (n:Nat),Vals xs us->Vals (xs.drop n) (us.drop n)
 | _,_,0,r=>r
 | _,_,_ + 1,.nil=>.nil
 | _,_,n + 1,.cons _ t=>Vals.drop n t
noncomputable def RelO:Option V->Option Value->Prop
 | some v,some u=>RelV v u
 | none,none=>True
 | _,_=>False
def KV {κ:Type}:List (κ×V)->List (κ×Value)->Prop:=C9 λ (p:κ×V) (q:κ×Value)=>p.1=q.1/\RelV p.2 q.2
noncomputable def kV:Key->V
 | .inl i=>.int i
 | .inr x=>.str x
inductive HO where
 | lst (xs:List V)
 | tup (xs:List V)
 | dK (kvs:List (Key×V))|dT (kvs:List (List Key×V))
 | set (S:Int->Bool) (n:Nat)
 | ins (C dx:Addr) (fs:List (Str×V))
 | own (x:Addr)
 | xd (fs:List (Str×V))
 | met (f x:Addr)
 | rng (lo hi:Int)
 | frz (o:Obj) (u:HO)
 | tbl (ps:Array Value)
 | ext (φ:Heap->Prop)
noncomputable abbrev Hp:=Addr->Option HO
noncomputable def upd (H:Hp) (a:Addr) (o:HO):Hp:=λ b=>if b=a then some o else H b
theorem upd_same {H:Hp} {a:Addr} {o:HO}:upd H a o a=some o:=by unfold upd;rw [if_pos rfl]
theorem upd_ne {H:Hp} {a b:Addr} {o:HO} (h:b≠a):upd H a o b=H b:=by unfold upd;rw [if_neg h]
theorem ne_of {H:Hp} {a b:Addr} {o u:HO} (h:H a=some o) (h':H b=some u) (d:o≠u):a≠b:=by intro e;subst e;rw [h] at h';exact d (N1 h')
theorem z0a {H:Hp} {a b:Addr} {o:HO} (h:H a=some o) (h':H b=none):a≠b:=by intro e;subst e;rw [h] at h';cases h'
section
variable (P:Program) (w:j1)
def IsTupN (h:Heap) (a:Addr) (items:Array Value):Prop:=IsTup h a items/\∃o,h.get? a=some o/\o.dict=none
theorem IsTupN.new (h:Heap) (items:Array Value):IsTupN (h.push { cls:=.type "tuple",data:=.seq items }) h.objs.size items:=⟨IsTup.new _ _,_,Q0 _ rfl,rfl⟩
noncomputable def ObjOk (H:Hp) (h:Heap) (a:Addr):HO->Prop
 | .lst xs=>xs.length<=sizeLine/\∃(its:List Value) (n:Nat),Vals xs its/\h.get? a=some { cls:=.type "list",data:=.seq its.toArray n }
 | .tup xs=>xs.length<=sizeLine/\∃its:List Value,Vals xs its/\IsTupN h a its.toArray
 | .dK kvs=>kvs.length<=sizeLine/\(a == Y4)=false/\∃vs,KV kvs vs/\h.DictOf (z0l P w) a vs
 | .dT kvs=>kvs.length<=sizeLine/\(a == Y4)=false/\∃xs:List (List Key×Addr×Value),
   C9 (λ (p:List Key×V) (q:List Key×Addr×Value)=>p.1=q.1/\H q.2.1=some (.tup (p.1.map kV))/\RelV p.2 q.2.2) kvs xs/\
   ∃o es ep,h.get? a=some o/\o.ExactDict/\o.data=.dict es ep/\es.toList=xs.map (entryOfKey (m7 (z0l P w)))/\(xs.map (·.1)).Nodup
 | .set S n=>h.SetOf (K5 P w) a S n
 | .ins C dx fs=>H dx=some (.own a)/\fs.length<=1000/\dx≠a/\h.get? a=some (K4 C dx)/\
   ∃mA,h.Ns1 dx mA/\(∀f,RelO (fs.lookup f) (mA f))/\j2j mA (fs.map (·.1))
 | .own _=>∃o,h.get? a=some o
 | .xd fs=>∃mA,h.Ns1 a mA/\∀f,RelO (fs.lookup f) (mA f)
 | .rng lo hi=>∃t u v,h.get? a=some { cls:=.type "range",data:=.fields #[.int lo t,.int hi u,.int 1 v] }
 | .frz o u=>h.get? a=some o/\ObjOk H h a u
 | .tbl ps=>h.get? a=some { cls:=.none,data:=.fields ps }
 | .met f x=>h.get? a=some (N9 (.ref f) (.ref x))
 | .ext φ=>φ h/\(∃o,h.get? a=some o)/\∀h1 h2:Heap,φ h1->(∀o,h1.get? a=some o->h2.get? a=some o)->φ h2
def HOk (H:Hp) (h:Heap):Prop:=∀a o,H a=some o->ObjOk P w H h a o
end
section
variable {P:Program} {w:j1} {H H':Hp} {h h':Heap} {a:Addr} {o:HO}
theorem ObjOk.lt (x:ObjOk P w H h a o):a < h.objs.size:=by
 cases o with
 | lst xs=>obtain ⟨_,_,_,_,e⟩:=x;exact L0 e
 | tup xs=>obtain ⟨_,_,_,p⟩:=x;exact p.1.lt
 | dK kvs=>obtain ⟨_,_,_,_,o,_,_,e,_⟩:=x;exact L0 e
 | dT kvs=>obtain ⟨_,_,_,_,o,_,_,e,_⟩:=x;exact L0 e
 | set S n=>obtain ⟨o,_,_,_,e,_⟩:=x;exact L0 e
 | ins C dx fs=>obtain ⟨_,_,_,e,_⟩:=x;exact L0 e
 | own y=>obtain ⟨_,e⟩:=x;exact L0 e
 | xd fs=>obtain ⟨_,⟨_,_,_,e,_⟩,_⟩:=x;exact L0 e
 | rng lo hi=>obtain ⟨_,_,_,e⟩:=x;exact L0 e
 | frz ob u=>obtain ⟨e,_⟩:=x;exact L0 e
 | tbl ps=>exact L0 (show h.get? a=some _ from x)
 | met f y=>exact L0 (show h.get? a=some _ from x)
 | ext φ=>obtain ⟨_,⟨_,e⟩,_⟩:=x;exact L0 e
theorem Paired.mapP {α β:Type} {F G:α->β->Prop} :∀{l₁:List α} {l₂:List β},C9 F l₁ l₂->(∀a b,F a b->G a b)->C9 G l₁ l₂
 | _,_,.nil,_=>.nil
 | _,_,.cons r t,f=>.cons (f _ _ r) (Paired.mapP t f)
theorem ObjOk.stay (x:ObjOk P w H h a o) (k :∀b u,(b=a\/H b=some (.own a))->h.get? b=some u->h'.get? b=some u)
  (ho :∀b,H b=some (.own a)->H' b=some (.own a)) (ht :∀b xs,H b=some (.tup xs)->H' b=some (.tup xs)):ObjOk P w H' h' a o:=by
 induction o with
 | lst xs=>obtain ⟨z,A,n,r,e⟩:=x;exact ⟨z,A,n,r,k _ _ (.inl rfl) e⟩
 | tup xs=>obtain ⟨z,A,r,⟨g,e,c⟩,D,s,E⟩:=x;exact ⟨z,A,r,⟨g,k _ _ (.inl rfl) e,c⟩,D,k _ _ (.inl rfl) s,E⟩
 | dK kvs=>obtain ⟨z,y,F,r,g,i,j,e,c⟩:=x;exact ⟨z,y,F,r,g,i,j,k _ _ (.inl rfl) e,c⟩
 | dT kvs=>obtain ⟨z,y,xs,r,g,i,j,e,c⟩:=x;exact ⟨z,y,xs,Paired.mapP r λ p q z=>⟨z.1,ht _ _ z.2.1,z.2.2⟩,g,i,j,k _ _ (.inl rfl) e,c⟩
 | set S n=>obtain ⟨g,i,j,t,e,c⟩:=x;exact ⟨g,i,j,t,k _ _ (.inl rfl) e,c⟩
 | ins C dx fs=>obtain ⟨d,z,ne,e,l,⟨m,i,j,s,c⟩,r⟩:=x;exact ⟨ho _ d,z,ne,k _ _ (.inl rfl) e,l,⟨m,i,j,k _ _ (.inr d) s,c⟩,r⟩
 | own y=>obtain ⟨g,e⟩:=x;exact ⟨g,k _ _ (.inl rfl) e⟩
 | xd fs=>obtain ⟨l,⟨m,i,j,e,c⟩,r⟩:=x;exact ⟨l,⟨m,i,j,k _ _ (.inl rfl) e,c⟩,r⟩
 | rng lo hi=>obtain ⟨t,u,v,e⟩:=x;exact ⟨t,u,v,k _ _ (.inl rfl) e⟩
 | frz g u ih=>obtain ⟨e,q⟩:=x;exact ⟨k _ _ (.inl rfl) e,ih q⟩
 | tbl ps=>have e:h.get? a=some { cls:=.none,data:=.fields ps }:=x;show h'.get? a=some { cls:=.none,data:=.fields ps };exact k a _ (.inl rfl) e
 | met f y=>have e:h.get? a=some (N9 (.ref f) (.ref y)):=x;show h'.get? a=some (N9 (.ref f) (.ref y));exact k a _ (.inl rfl) e
 | ext φ=>obtain ⟨p,⟨o,e⟩,B⟩:=x;exact ⟨B _ _ p λ o q=>k _ _ (.inl rfl) q,⟨o,k _ _ (.inl rfl) e⟩,B⟩
theorem HOk.lt (x:HOk P w H h) (e:H a=some o):a < h.objs.size:=(x a o e).lt
theorem HOk.fresh (x:HOk P w H h) (e:h.objs.size<=a):H a=none:=by
 cases q:H a with
 | none=>rfl
 | some u=>exact absurd (L1 (x.lt q) e) (o4 _)
theorem HOk.kept (x:HOk P w H h) (k :∀b u,h.get? b=some u->h'.get? b=some u):HOk P w H h':=λ a o e=>(x a o e).stay (λ b u _ q=>k b u q) (λ _ q=>q) λ _ _ q=>q
theorem HOk.laid (x:HOk P w H h) (k :∀b u,h.get? b=some u->h'.get? b=some u) (hp:h.objs.size<=a) (new:ObjOk P w (upd H a o) h' a o):HOk P w (upd H a o) h':=λ b u e=>by
 have d:=x.fresh hp;by_cases hb:b=a
 ·subst hb;rw [upd_same] at e;cases e;exact new
 ·rw [upd_ne hb] at e;exact (x b u e).stay (λ c v _ q=>k c v q) (λ c q=>by rw [upd_ne (z0a q d)];exact q) λ c f q=>by rw [upd_ne (z0a q d)];exact q
end
def Rd (H:Hp) (a:Addr) (u:HO):Prop:=H a=some u\/∃o,H a=some (.frz o u)
theorem Rd.ok {P:Program} {w:j1} {H:Hp} {h:Heap} {a:Addr} {u:HO} (r:Rd H a u) (x:HOk P w H h):ObjOk P w H h a u:=by
 rcases r with r|⟨o,r⟩
 ·exact x a u r
 ·obtain ⟨_,q⟩:=x a _ r;exact q
noncomputable def Mut:Option HO->Prop
 | some (.lst _)=>True
 | some (.dK _)=>True
 | some (.dT _)=>True
 | some (.set _ _)=>True
 | some (.ins _ _ _)=>True
 | some (.ext _)=>True
 | _=>False
section
variable {P:Program} {w:j1} {H:Hp} {h h':Heap} {x e:Addr} {o':HO}
theorem HOk.write (ok:HOk P w H h) (mu:Mut (H x)) (he:e=x\/H e=some (.own x)) (k :∀b u,b≠e->h.get? b=some u->h'.get? b=some u) (heo :∃u,h'.get? e=some u)
  (new:ObjOk P w (upd H x o') h' x o'):HOk P w (upd H x o') h':=λ b u q=>by
 have f :∀c y,H c=some (.own y)->c≠x:=λ c y r z=>by subst z;rw [r] at mu;exact mu
 have j :∀c a,H c=some (.tup a)->c≠x:=λ c a r z=>by subst z;rw [r] at mu;exact mu
 by_cases hb:b=x
 ·subst hb;rw [upd_same] at q;cases q;exact new
 ·rw [upd_ne hb] at q;by_cases hbe:b=e
  ·have g:H b=some (.own x):=by
    rcases he with z|z
    ·exact absurd (hbe.trans z) hb
    ·rw [hbe];exact z
   rw [q] at g;cases g;obtain ⟨v,i⟩:=heo;exact ⟨v,by rw [hbe];exact i⟩
  ·refine (ok b u q).stay (λ c v d r=>k c v ?_ r) (λ c r=>by rw [upd_ne (f c b r)];exact r) λ c a r=>by rw [upd_ne (j c a r)];exact r
   rcases d with rfl|d
   ·exact hbe
   ·rintro rfl;rcases he with z|z
    ·exact f c b d z
    ·rw [d] at z;cases z;exact hb rfl
end
structure Un (fs ex:List Addr) (H H':Hp) (h h':Heap):Prop where
 keep :∀b o,h.get? b=some o->H b=none->b∉fs->b∉ex->h'.get? b=some o
 slot :∀b o,h.get? b=some o->H b=none->b∈fs->b∉ex->∃sl,h'.get? b=some { o with slots:=sl }
 free :∀b o,h.get? b=some o->H b=none->b∉ex->H' b=none
 there :∀b o,h.get? b=some o->b∉ex->∃o',h'.get? b=some o'
 tups :∀b xs,H b=some (.tup xs)->H' b=some (.tup xs)
 frzs :∀b o u,H b=some (.frz o u)->H' b=some (.frz o u)
 tbls :∀b ps,H b=some (.tbl ps)->∃more,H' b=some (.tbl (ps++more))
section
variable {fs fs' ex ex':List Addr} {H H1 H2:Hp} {h h1 h2 h':Heap} {a x e:Addr} {o:HO}
theorem Un.any (u:Un fs ex H H1 h h1) {b:Addr} {ob:Obj} (q:h.get? b=some ob) (n:H b=none) (hx:b∉ex) :∃sl,h1.get? b=some { ob with slots:=sl }:=by
 by_cases hb:b∈fs
 ·exact u.slot b ob q n hb hx
 ·exact ⟨ob.slots,u.keep b ob q n hb hx⟩
theorem Un.kept (k :∀b u,h.get? b=some u->h'.get? b=some u):Un fs ex H H h h':=
 ⟨λ b a q _ _ _=>k b a q,λ b a q _ _ _=>⟨a.slots,k b a q⟩,λ _ _ _ n _=>n,λ b a q _=>⟨a,k b a q⟩,λ _ _ q=>q,λ _ _ _ q=>q,λ _ c q=>⟨#[],by rw [q];simp⟩⟩
theorem Un.refl:Un fs ex H H h h:=Un.kept λ _ _ q=>q
theorem Un.laid (k :∀b u,h.get? b=some u->h'.get? b=some u) (hp:h.objs.size<=a) (hn:H a=none):Un fs ex H (upd H a o) h h' where
 keep:=λ b u q _ _ _=>k b u q
 slot:=λ b u q _ _ _=>⟨u.slots,k b u q⟩
 free:=λ b u q n _=>by rw [upd_ne (X0 (L1 (L0 q) hp))];exact n
 there:=λ b u q _=>⟨u,k b u q⟩
 tups:=λ b c q=>by rw [upd_ne (z0a q hn)];exact q
 frzs:=λ b u c q=>by rw [upd_ne (z0a q hn)];exact q
 tbls:=λ b d q=>⟨#[],by rw [upd_ne (z0a q hn),q];simp⟩
theorem Un.write (mu:Mut (H x)) (he:e=x\/H e=some (.own x)) (k :∀b u,b≠e->h.get? b=some u->h'.get? b=some u) (heo :∃u,h'.get? e=some u):Un fs ex H (upd H x o) h h':=by
 have d :∀b,H b=none->b≠x:=λ b n z=>by subst z;rw [n] at mu;exact mu
 have c :∀b,H b=none->b≠e:=λ b n z=>by
  subst z;rcases he with r|r
  ·exact d b n r
  ·rw [n] at r;cases r
 have a :∀b u,H b=some u->¬ Mut (some u)->b≠x:=λ b u q g z=>by subst z;rw [q] at mu;exact g mu
 refine ⟨λ b u q n _ _=>k b u (c b n) q,λ b u q n _ _=>⟨u.slots,k b u (c b n) q⟩,λ b u q n _=>by rw [upd_ne (d b n)];exact n,λ b u q _=>?_,
  λ b f q=>by rw [upd_ne (a b _ q λ z=>z)];exact q,λ b u f q=>by rw [upd_ne (a b _ q λ z=>z)];exact q,λ b i q=>⟨#[],by rw [upd_ne (a b _ q λ z=>z),q];simp⟩⟩
 by_cases hbe:b=e
 ·subst hbe;exact heo
 ·exact ⟨u,k b u hbe q⟩
end
noncomputable def trk (h:Heap) (H:Hp):List Addr:=(J1 h.objs.size).filter λ a=>(H a).isSome
noncomputable def hidT (h:Heap) (H:Hp):Heap:=PySem.W.hideAll h (trk h H)
theorem zhn (h:Heap) (H:Hp):(hidT h H).objs.size=h.objs.size:=PySem.W.hideAll_size _ _
theorem zjf {h:Heap} {H:Hp} {b:Addr} {o:Obj} (e:h.get? b=some o) (n:H b=none):(hidT h H).get? b=some o:=
 PySem.W.hideAll_get _ e λ a=>by have q:(H b).isSome=true:=(List.mem_filter.mp a).2;rw [n] at q;simp at q
theorem zkm {h:Heap} {H:Hp} {b:Addr} {o:Obj} (e:(hidT h H).get? b=some o):h.get? b=some o/\H b=none:=by
 have a:h.get? b=some o:=PySem.W.of_hideAll (trk h H) e;refine ⟨a,?_⟩;cases q:H b with
 | none=>rfl
 | some x=>have c:b∈trk h H:=List.mem_filter.mpr ⟨List.mem_range.mpr (L0 a),by simp [q]⟩;have z:(hidT h H).get? b=none:=PySem.W.hideAll_none (trk h H) c;rw [z] at e;cases e
noncomputable def zlo (g h:Heap) (L:Addr):List (Addr×Obj):=(J1 h.objs.size).filterMap λ a=>if a=L\/(g.get? a).isSome=true then none else (h.get? a).map λ o=>(a,o)
noncomputable def rest (g h:Heap) (L d:Addr):List (Addr×Obj):=(zlo g h L).filter λ p=>decide (p.1≠d)
structure Mod (K:j0) (mg:Str->Option Value) (base:Heap):Prop where
 kin:K.In base
 glob:base.Ns O0 mg
 blt :∃mb,base.Ns builtinsNs mb/\∀x:Str,x≠"__name__"->mb x=R4 x
 nolimit:base.NoLimit
structure Cx where
 prog:Program
 w:j1
 K:j0
 mg:Str->Option Value
 base:Heap
 A:V1
 N:List Str
 s₀:B0
 H₀:Hp
 env:Env
 outer:List Env
 stack:List Env
 ex:List Addr
 fn:Str->Bool
 calm:Bool
 pn:List (Addr×Obj)
 xe:Value->B0->Prop
noncomputable def frs (l:List Env):List Addr:=l.filterMap (·.frame)
noncomputable abbrev Cx.fs (X:Cx):List Addr:=frs X.outer
def Vis (sc:Scope) (x:Str):Prop:=sc.names.lookup x=some .local\/sc.names.lookup x=some .cell\/sc.names.lookup x=some .free
def Loc (sc:Scope) (x:Str):Prop:=sc.names.lookup x=some .local\/sc.names.lookup x=some .cell
def Look (env:Env) (h:Heap) (m:Str->Option Value) (x:Str) (u:Value):Prop:=
 (env.kindOf x=some .local/\m x=some u)\/((env.kindOf x=some .cell\/env.kindOf x=some .free)/\∃c,env.cells.lookup x=some c/\h.IsCell c (some u))
structure Cx.Ok (X:Cx):Prop where
 mod:Mod X.K X.mg X.base
 kind:X.env.scope.kind=.function
 glob:X.env.globals=O0
 blt:X.env.builtins=builtinsNs
 above:X.s₀.heap.objs.size<=X.env.locals
 inj :∀x y c,X.env.cells.lookup x=some c->X.env.cells.lookup y=some c->x=y
 has :∀x,(X.env.kindOf x=some .cell\/X.env.kindOf x=some .free)->∃c,X.env.cells.lookup x=some c
 cab :∀x c,X.fn x=true->X.env.cells.lookup x=some c->X.s₀.heap.objs.size<=c
 hd:X.calm=true->X.A.handled=none
 frames:X.A.frames=some X.stack
 stk:X.stack=X.outer\/(X.stack=X.env :: X.outer/\X.env.frame=some X.env.locals)
 exf :∀b∈X.ex,b≠X.env.locals/\∀x c,X.env.cells.lookup x=some c->c≠b
 bs :∀b o,X.base.get? b=some o->X.s₀.heap.get? b=some o/\X.H₀ b=none
 bsz:X.base.objs.size<=X.s₀.heap.objs.size
 noex :∀b o,X.base.get? b=some o->b∉X.ex
 exfs :∀b∈X.ex,b∉X.fs
 funs:X.s₀.heap.FunFrames X.base X.outer
 frf :∀b∈X.fs,X.H₀ b=none
structure Inv (X:Cx) (pins:List (Addr×Obj)) (σ:List (Option V)) (H:Hp) (s:B0):Prop where
 ok:X.Ok
 os:s.os=X.s₀.os
 bare:O8 s.gens
 base:Un X.fs X.ex X.H₀ H X.s₀.heap s.heap
 loc :∃m,s.heap.Ns X.env.locals m/\∀(i:Nat) (x:Str) (v:V),X.N[i]? = some x->σ[i]? = some (some v)->Vis X.env.scope x->∃u,RelV v u/\Look X.env s.heap m x u
 cell :∀x c,X.env.cells.lookup x=some c->∃v,s.heap.IsCell c v
 free:H X.env.locals=none
 freeC :∀x c,X.env.cells.lookup x=some c->H c=none
 pin :∀p∈X.pn++pins,s.heap.get? p.1=some p.2/\H p.1=none/\p.1≠X.env.locals/\p.1∉X.fs/\∀v,p.2.data≠.cell v
 hok:HOk X.prog X.w H s.heap
 len:σ.length=X.N.length
section
variable {X:Cx} {pins:List (Addr×Obj)} {σ:List (Option V)} {H H':Hp} {s:B0} {h':Heap}
theorem Cx.Ok.nofr (ok:X.Ok) {b:Addr} {o:Obj} (e:X.base.get? b=some o):b∉X.fs:=λ a=>by have:=(ok.funs.mem a).1;rw [e] at this;cases this
theorem Inv.bs (I:Inv X pins σ H s) :∀b o,X.base.get? b=some o->s.heap.get? b=some o/\H b=none:=λ b o e=>⟨I.base.keep b o (I.ok.bs b o e).1 (I.ok.bs b o e).2 (I.ok.nofr e) (I.ok.noex b o e),I.base.free b o (I.ok.bs b o e).1 (I.ok.bs b o e).2 (I.ok.noex b o e)⟩
theorem Inv.bk (I:Inv X pins σ H s) :∀b o,X.base.get? b=some o->s.heap.get? b=some o:=λ b o e=>(I.bs b o e).1
theorem Inv.mod (I:Inv X pins σ H s):Mod X.K X.mg X.base:=I.ok.mod
theorem Inv.kIn (I:Inv X pins σ H s):X.K.In s.heap:=I.ok.mod.kin.keeps I.bk
theorem Inv.lt (I:Inv X pins σ H s):X.env.locals < s.heap.objs.size:=let ⟨_,hn,_⟩:=I.loc;hn.lt
theorem Inv.sz (I:Inv X pins σ H s):X.s₀.heap.objs.size<=s.heap.objs.size:=G0 I.ok.above (V3 I.lt)
theorem Inv.nofs (I:Inv X pins σ H s) {a:Addr} (h:s.heap.objs.size<=a):a∉X.fs:=λ b=>by obtain ⟨_,o,c,_⟩:=I.ok.funs.mem b;exact absurd (L1 (L0 c) (G0 I.sz h)) (o4 _)
theorem Inv.cne (I:Inv X pins σ H s) :∀x c,X.env.cells.lookup x=some c->c≠X.env.locals:=λ x c e z=>by obtain ⟨v,o,a,b⟩:=I.cell x c e;obtain ⟨m,⟨g,i,h,f,d,_⟩,_⟩:=I.loc;rw [z,f] at a;cases a;rw [d] at b;cases b
theorem Inv.funs (I:Inv X pins σ H s):s.heap.FunFrames X.base X.outer:=by
 have all :∀(l:List Env),(∀b∈frs l,b∈X.fs)->X.s₀.heap.FunFrames X.base l->s.heap.FunFrames X.base l:=by
  intro l;induction l with
  | nil=>intro _ _;trivial
  | cons env r ih=>intro f g;obtain ⟨h,⟨L,o,a,m,j,k⟩,i⟩:=g;have d:L∈X.fs:=f L (by unfold frs;rw [m6,a];exact B1);obtain ⟨n,e⟩:=I.base.slot L o j (I.ok.frf L d) d λ z=>I.ok.exfs L z d;exact ⟨h,⟨L,_,a,m,e,k⟩,ih (λ b c=>f b (by unfold frs;rw [m6,a];exact D1 _ c)) i⟩
 exact all X.outer (λ _ c=>c) I.ok.funs
theorem Inv.stack (I:Inv X pins σ H s):s.heap.FunFrames X.base X.stack:=by
 rcases I.ok.stk with e|⟨e,hf⟩
 ·rw [e];exact I.funs
 ·rw [e];obtain ⟨m,a,_⟩:=I.loc;refine .cons (by rw [I.ok.kind];decide) hf a ?_ I.funs;exact Heap.get?_none_of_le (G0 I.ok.bsz I.ok.above)
theorem Inv.stkSub (I:Inv X pins σ H s) :∀b∈frs X.stack,b∈X.env.locals :: X.fs:=λ b a=>by
 rcases I.ok.stk with e|⟨e,hf⟩
 ·rw [e] at a;exact D1 _ a
 ·rw [e] at a;unfold frs at a;rw [m6,hf] at a;exact a
theorem Inv.stkFree (I:Inv X pins σ H s) :∀b∈frs X.stack,H b=none:=λ b a=>by
 rcases List.mem_cons.mp (I.stkSub b a) with e|a
 ·rw [e];exact I.free
 ·obtain ⟨_,o,c,_⟩:=I.ok.funs.mem a;exact I.base.free b o c (I.ok.frf b a) λ z=>I.ok.exfs b z a
theorem Inv.step {g':Array GenState} {t':Nat} {d':Drawn} {ch:List Addr} (I:Inv X pins σ H s)
  (hch :∀b∈ch,(b∈X.ex\/X.s₀.heap.objs.size<=b)/\b≠X.env.locals/\(∀x c,X.env.cells.lookup x=some c->c≠b)/\∀p∈X.pn++pins,p.1≠b)
  (keep :∀b o,b≠X.env.locals->b∉X.fs->b∉ch->s.heap.get? b=some o->H b=none->h'.get? b=some o)
  (slot :∀b o,b≠X.env.locals->b∈X.fs->b∉ch->s.heap.get? b=some o->H b=none->∃sl,h'.get? b=some { o with slots:=sl }) (free :∀b o,b∉ch->s.heap.get? b=some o->H b=none->H' b=none)
  (there :∀b o,b∉ch->s.heap.get? b=some o->∃o',h'.get? b=some o')
  (tups :∀b xs,H b=some (.tup xs)->H' b=some (.tup xs)) (frzs :∀b o u,H b=some (.frz o u)->H' b=some (.frz o u)) (tbls :∀b ps,H b=some (.tbl ps)->∃more,H' b=some (.tbl (ps++more)))
  (ns :∀m,s.heap.Ns X.env.locals m->h'.Ns X.env.locals m) (hok:HOk X.prog X.w H' h') (hg:O8 g') :
  Inv X pins σ H' { s with heap:=h',gens:=g',drawn:=d',toks:=t' }:=by
 have B :∀b o,X.s₀.heap.get? b=some o->b≠X.env.locals:=λ b o e=>X0 (L1 (L0 e) I.ok.above);have y :∀b o,X.s₀.heap.get? b=some o->b∉X.ex->b∉ch:=λ b o e a g=>by
  rcases (hch b g).1 with z|z
  ·exact a z
  ·exact absurd (L1 (L0 e) z) (o4 _)
 have E :∀x c,X.env.cells.lookup x=some c->∀v,s.heap.IsCell c v->h'.IsCell c v:=λ x c e v ⟨o,h,A⟩=>by
  have j:c∉ch:=λ z=>(hch c z).2.2.1 x c e rfl;by_cases hc:c∈X.fs
  ·obtain ⟨sl,q⟩:=slot c o (I.cne x c e) hc j h (I.freeC x c e);exact ⟨_,q,A⟩
  ·exact ⟨o,keep c o (I.cne x c e) hc j h (I.freeC x c e),A⟩
 refine ⟨I.ok,I.os,hg,⟨λ b o e n g a=>?_,λ b o e n g a=>?_,λ b o e n a=>?_,λ b o e a=>?_,λ b xs e=>tups b xs (I.base.tups b xs e),λ b o xs e=>frzs b o xs (I.base.frzs b o xs e),λ b ps e=>?_⟩,?_,λ x c e=>?_,?_,λ x c e=>?_,λ p D=>?_,hok,I.len⟩
 ·exact keep b o (B b o e) g (y b o e a) (I.base.keep b o e n g a) (I.base.free b o e n a)
 ·obtain ⟨sl,f⟩:=I.base.slot b o e n g a;obtain ⟨K,t⟩:=slot b _ (B b o e) g (y b o e a) f (I.base.free b o e n a);exact ⟨K,t⟩
 ·obtain ⟨o',f⟩:=I.base.there b o e a;exact free b o' (y b o e a) f (I.base.free b o e n a)
 ·obtain ⟨o',f⟩:=I.base.there b o e a;exact there b o' (y b o e a) f
 ·obtain ⟨M,f⟩:=I.base.tbls b ps e;obtain ⟨J,t⟩:=tbls b _ f;exact ⟨M++J,by rw [t,Array.append_assoc]⟩
 ·obtain ⟨m,F,G⟩:=I.loc;refine ⟨m,ns m F,λ i x v f t L=>?_⟩;obtain ⟨u,r,l⟩:=G i x v f t L;refine ⟨u,r,?_⟩;rcases l with l|⟨k,c,e,z⟩
  ·exact .inl l
  ·exact .inr ⟨k,c,e,E x c e _ z⟩
 ·obtain ⟨v,z⟩:=I.cell x c e;exact ⟨v,E x c e v z⟩
 ·obtain ⟨m,⟨o,_,_,h,_⟩,_⟩:=I.loc;exact free _ o (λ z=>(hch _ z).2.1 rfl) h I.free
 ·obtain ⟨v,o,h,A⟩:=I.cell x c e;exact free c o (λ z=>(hch c z).2.2.1 x c e rfl) h (I.freeC x c e)
 ·obtain ⟨e,n,ne,C,d⟩:=I.pin p D;have j:p.1∉ch:=λ z=>(hch p.1 z).2.2.2 p D rfl;exact ⟨keep p.1 p.2 ne C j e n,free p.1 p.2 j e n,ne,C,d⟩
theorem Inv.un {t':Nat} (I:Inv X pins σ H s) (u:Un X.fs [] H H' s.heap h') (hok:HOk X.prog X.w H' h'):Inv X pins σ H' { s with heap:=h',toks:=t' }:=by obtain ⟨m,⟨o,k,l,c,r⟩,_⟩:=id I.loc;obtain ⟨t,f⟩:=u.any c I.free (by simp);exact I.step (g':=s.gens) (d':=s.drawn) (ch:=[]) (λ _ z=>nomatch z) (λ b o _ a _ e n=>u.keep b o e n a (by simp)) (λ b o _ a _ e n=>u.slot b o e n a (by simp)) (λ b o _ e n=>u.free b o e n (by simp)) (λ b o _ e=>u.there b o e (by simp)) u.tups u.frzs u.tbls (λ p h=>by obtain ⟨q,j,i,d,g⟩:=h;rw [c] at d;cases d;exact ⟨_,j,i,f,g⟩) hok I.bare
theorem Inv.call {g':Array GenState} {t':Nat} {d':Drawn} {ch:List Addr} (I:Inv X pins σ H s) (u:Un (frs X.stack) ch H H' s.heap h') (hok:HOk X.prog X.w H' h') (hg:O8 g')
  (hch :∀b∈ch,(b∈X.ex\/X.s₀.heap.objs.size<=b)/\b≠X.env.locals/\(∀x c,X.env.cells.lookup x=some c->c≠b)/\∀p∈X.pn++pins,p.1≠b) :
  Inv X pins σ H' { s with heap:=h',gens:=g',drawn:=d',toks:=t' }:=by
 obtain ⟨m,⟨o,q,t,f,r⟩,_⟩:=id I.loc;obtain ⟨A,d⟩:=u.any f I.free λ z=>(hch _ z).2.1 rfl;exact I.step (ch:=ch) hch (λ b o d j a e n=>u.keep b o e n (λ z=>(List.mem_cons.mp (I.stkSub b z)).elim d j) a) (λ b o _ _ a e n=>u.any e n a) (λ b o a e n=>u.free b o e n a) (λ b o a e=>u.there b o e a) u.tups u.frzs u.tbls (λ v i=>by obtain ⟨y,l,k,g,h⟩:=i;rw [f] at g;cases g;exact ⟨_,l,k,d,h⟩) hok hg
theorem Inv.turned {t':Nat} {it:Addr} (I:Inv X pins σ H s) (k :∀b o,b≠it->s.heap.get? b=some o->h'.get? b=some o) (hn:H it=none) (hL:it≠X.env.locals)
  (h1:it∈X.ex\/X.s₀.heap.objs.size<=it) (h2 :∀x c,X.env.cells.lookup x=some c->c≠it) (h3 :∀p∈X.pn++pins,p.1≠it):Inv X pins σ H { s with heap:=h',toks:=t' }:=by
 have d :∀b u,H b=some u->b≠it:=λ b u e z=>by rw [z,hn] at e;cases e
 refine I.step (g':=s.gens) (d':=s.drawn) (ch:=[it]) (λ b i=>?_) (λ b o _ _ a e _=>k b o (λ z=>a (by simp [z])) e) (λ b o _ _ a e _=>⟨o.slots,k b o (λ z=>a (by simp [z])) e⟩) (λ _ _ _ _ n=>n)
  (λ b o a e=>⟨o,k b o (λ z=>a (by simp [z])) e⟩) (λ _ _ e=>e) (λ _ _ _ e=>e) (λ b l e=>⟨#[],by rw [e];simp⟩) (λ m g=>?_) (λ b u e=>?_) I.bare
 ·have e:b=it:=by simpa using i
  subst e;exact ⟨h1,hL,h2,h3⟩
 ·obtain ⟨o,j,f,h,r⟩:=g;exact ⟨o,j,f,k _ o (N2 hL) h,r⟩
 ·refine (I.hok b u e).stay (λ c v a q=>k c v ?_ q) (λ _ q=>q) λ _ _ q=>q;rcases a with z|z
  ·rw [z];exact d b u e
  ·exact d c _ z
theorem Inv.tok (I:Inv X pins σ H s) (t:Nat):Inv X pins σ H { s with toks:=t }:=I.un (h':=s.heap) (t':=t) Un.refl I.hok
theorem Inv.kept {t':Nat} (I:Inv X pins σ H s) (k :∀b u,s.heap.get? b=some u->h'.get? b=some u):Inv X pins σ H { s with heap:=h',toks:=t' }:=I.un (Un.kept k) (I.hok.kept k)
theorem Inv.laid {a:Addr} {o:HO} {t':Nat} (I:Inv X pins σ H s) (k :∀b u,s.heap.get? b=some u->h'.get? b=some u) (hp:s.heap.objs.size<=a) (new:ObjOk X.prog X.w (upd H a o) h' a o) :
  Inv X pins σ (upd H a o) { s with heap:=h',toks:=t' }:=I.un (Un.laid k hp (I.hok.fresh hp)) (I.hok.laid k hp new)
theorem Inv.write {x e:Addr} {o:HO} {t':Nat} (I:Inv X pins σ H s) (mu:Mut (H x)) (he:e=x\/H e=some (.own x)) (k :∀b u,b≠e->s.heap.get? b=some u->h'.get? b=some u) (heo :∃u,h'.get? e=some u)
  (new:ObjOk X.prog X.w (upd H x o) h' x o):Inv X pins σ (upd H x o) { s with heap:=h',toks:=t' }:=I.un (Un.write mu he k heo) (I.hok.write mu he k heo new)
theorem Inv.weak {σ':List (Option V)} (I:Inv X pins σ H s) (hl:σ'.length=σ.length) (w :∀(i:Nat) v,σ'[i]? = some (some v)->σ[i]? = some (some v)):Inv X pins σ' H s:=
 ⟨I.ok,I.os,I.bare,I.base,let ⟨m,hn,hl'⟩:=I.loc;⟨m,hn,λ i x v b c a=>hl' i x v b (w i v c) a⟩,I.cell,I.free,I.freeC,I.pin,I.hok,hl.trans I.len⟩
theorem Inv.pins_of {pins':List (Addr×Obj)} (I:Inv X pins σ H s) (h :∀p∈pins',s.heap.get? p.1=some p.2/\H p.1=none/\p.1≠X.env.locals/\p.1∉X.fs/\∀v,p.2.data≠.cell v):Inv X pins' σ H s:=
 ⟨I.ok,I.os,I.bare,I.base,I.loc,I.cell,I.free,I.freeC,λ p a=>(List.mem_append.mp a).elim (λ z=>I.pin p (a7 _ z)) (h p),I.hok,I.len⟩
theorem zfg {N:List Str} (hN:N.Nodup) {i j:Nat} {x:Str} (a:N[i]? = some x) (b:N[j]? = some x):i=j:=by obtain ⟨e,c⟩:=List.getElem?_eq_some_iff.mp a;obtain ⟨f,d⟩:=List.getElem?_eq_some_iff.mp b;exact (List.getElem_inj hN).mp (c.trans d.symm)
theorem zi6 {M:Model} {A:V1} {E:Value->B0->Prop} {i:Nat} {x:Str} {v:V} {u:Value} {Q:Unit->B0->Prop} (I:Inv X pins σ H s) (hN:X.N.Nodup) (hi:X.N[i]? = some x) (hx:Loc X.env.scope x) (r:RelV v u)
  (h :∀s',Inv X pins (σ.set i (some v)) H s'->(∃a,o5 a s.heap s'.heap/\(a=X.env.locals\/X.env.cells.lookup x=some a))->Q () s') (hf:X.fn x=true\/X.env.scope.names.lookup x=some .local:=by first|exact .inl rfl|exact .inr rfl|assumption):R0 M A (storeName X.env x u) Q E s:=by
 obtain ⟨m,K,Z⟩:=id I.loc;have a4:(X.env.scope.kind == .class || (X.env.scope.kind == .module && X.env.locals != X.env.globals))=false:=by rw [I.ok.kind];rfl
 have a3:i < σ.length:=by rw [I.len];exact (List.getElem?_eq_some_iff.mp hi).1
 have cne:=I.cne;have W :∀{a:Addr} {C:Heap},(∃o,s.heap.get? a=some o/\H a=none)->o5 a s.heap C->HOk X.prog X.w H C:=λ {a C} ha f b ob e=>by
  obtain ⟨_,_,a0⟩:=ha;refine (I.hok b ob e).stay (λ c D l q=>(f.2 c ?_).trans q) (λ _ q=>q) λ _ _ q=>q;rintro rfl;rcases l with rfl|l
  ·rw [a0] at e;cases e
  ·rw [a0] at l;cases l
 rcases hx with hk|hk
 ·refine wpAny_storeName_local hk K (λ C a7 f=>?_) a4;obtain ⟨oL,_,_,a5,_⟩:=id K;refine h _ ⟨I.ok,I.os,I.bare,⟨λ b o e n B hx=>?_,λ b o e n B hx=>?_,I.base.free,λ b o e hx=>?_,I.base.tups,I.base.frzs,I.base.tbls⟩,⟨_,a7,λ j y P g t R=>?_⟩,λ y c e=>?_,I.free,I.freeC,λ p L=>?_,W ⟨oL,a5,I.free⟩ f,by simpa using I.len⟩ ⟨_,f,.inl rfl⟩
  ·exact (f.2 b (X0 (L1 (L0 e) I.ok.above))).trans (I.base.keep b o e n B hx)
  ·obtain ⟨T,g⟩:=I.base.slot b o e n B hx;exact ⟨T,(f.2 b (X0 (L1 (L0 e) I.ok.above))).trans g⟩
  ·obtain ⟨S,g⟩:=I.base.there b o e hx;exact ⟨S,(f.2 b (X0 (L1 (L0 e) I.ok.above))).trans g⟩
  ·by_cases hj:j=i
   ·subst hj;rw [hi] at g;cases g;rw [j39 a3] at t;cases t;exact ⟨u,r,.inl ⟨hk,by simp⟩⟩
   ·rw [j4g (N2 hj)] at t;obtain ⟨U,O,q⟩:=Z j y P g t R;refine ⟨U,O,?_⟩;rcases q with ⟨k,e⟩|⟨k,c,e,z⟩
    ·refine .inl ⟨k,?_⟩;have:y≠x:=λ e=>hj (zfg hN g (e ▸ hi));simp [this,e]
    ·exact .inr ⟨k,c,e,z.sameBut f (cne y c e)⟩
  ·obtain ⟨D,z⟩:=I.cell y c e;exact ⟨D,z.sameBut f (cne y c e)⟩
  ·obtain ⟨e,n,ne,J,d⟩:=I.pin p L;exact ⟨(f.2 p.1 ne).trans e,n,ne,J,d⟩
 ·have G:X.fn x=true:=by
   rcases hf with z|z
   ·exact z
   ·rw [z] at hk;cases hk
  obtain ⟨c,l⟩:=I.ok.has x (.inl hk);obtain ⟨D,z⟩:=I.cell x c l;refine wpAny_storeName_cell I.ok.kind hk l z (λ C a2 f=>?_);obtain ⟨Y,a1,a6⟩:=id z;refine h { s with heap:=C } ⟨I.ok,I.os,I.bare,⟨λ b o e n B hx=>?_,λ b o e n B hx=>?_,I.base.free,λ b o e hx=>?_,I.base.tups,I.base.frzs,I.base.tbls⟩,⟨m,K.sameBut f (N2 (cne x c l)),λ j y P g t R=>?_⟩,λ y F e=>?_,I.free,I.freeC,λ p L=>?_,W ⟨Y,a1,I.freeC x c l⟩ f,by simpa using I.len⟩ ⟨c,f,.inr l⟩
  ·exact (f.2 b (X0 (L1 (L0 e) (I.ok.cab x c G l)))).trans (I.base.keep b o e n B hx)
  ·obtain ⟨T,g⟩:=I.base.slot b o e n B hx;exact ⟨T,(f.2 b (X0 (L1 (L0 e) (I.ok.cab x c G l)))).trans g⟩
  ·obtain ⟨S,g⟩:=I.base.there b o e hx;exact ⟨S,(f.2 b (X0 (L1 (L0 e) (I.ok.cab x c G l)))).trans g⟩
  ·by_cases hj:j=i
   ·subst hj;rw [hi] at g;cases g;rw [j39 a3] at t;cases t;exact ⟨u,r,.inr ⟨.inl hk,c,l,a2⟩⟩
   ·rw [j4g (N2 hj)] at t;obtain ⟨U,O,q⟩:=Z j y P g t R;refine ⟨U,O,?_⟩;rcases q with q|⟨k,F,e,z'⟩
    ·exact .inl q
    ·refine .inr ⟨k,F,e,z'.sameBut f ?_⟩;rintro rfl;exact hj (zfg hN g (I.ok.inj _ _ _ e l ▸ hi))
  ·by_cases hcc:F=c
   ·subst hcc;exact ⟨_,a2⟩
   ·obtain ⟨w2,z2⟩:=I.cell y F e;exact ⟨w2,z2.sameBut f hcc⟩
  ·obtain ⟨e,n,ne,J,d⟩:=I.pin p L;refine ⟨(f.2 p.1 ?_).trans e,n,ne,J,d⟩;intro q;rw [q,a1] at e;have q':Y=p.2:=N1 e;exact d D (by rw [<-q'];exact a6)
theorem zez {M:Model} {A:V1} {E:Value->B0->Prop} {i:Nat} {x:Str} {v:V} {u:Value} {Q:Unit->B0->Prop} (I:Inv X pins σ H s) (hN:X.N.Nodup) (hi:X.N[i]? = some x) (hx:Loc X.env.scope x) (r:RelV v u)
  (h :∀s',Inv X pins (σ.set i (some v)) H s'->Q () s') (hf:X.fn x=true\/X.env.scope.names.lookup x=some .local:=by first|exact .inl rfl|exact .inr rfl|assumption):R0 M A (storeName X.env x u) Q E s:=
 zi6 I hN hi hx r (λ s' a _=>h s' a) hf
theorem Inv.call' {s':B0} {ch:List Addr} (I:Inv X pins σ H s) (ho:s'.os=s.os) (u:Un (frs X.stack) ch H H' s.heap s'.heap) (hok:HOk X.prog X.w H' s'.heap) (hg:O8 s'.gens)
  (hch :∀b∈ch,(b∈X.ex\/X.s₀.heap.objs.size<=b)/\b≠X.env.locals/\(∀x c,X.env.cells.lookup x=some c->c≠b)/\∀p∈X.pn++pins,p.1≠b):Inv X pins σ H' s':=by
 obtain ⟨d,g',d',t',a⟩:=s';have e:a=s.os:=ho;subst e;exact I.call (g':=g') (t':=t') (d':=d') u hok hg hch
end
noncomputable abbrev XK:=Value->Option Addr->Hp->Prop
noncomputable abbrev St:=List (Option V)
noncomputable abbrev VK:=V->Hp->Prop
noncomputable abbrev TE:=St->Hp->VK->Prop
noncomputable abbrev TT:=St->Hp->(Bool->Hp->Prop)->Prop
noncomputable abbrev TA:=St->Hp->(List V->Hp->Prop)->Prop
structure Ends where
 nx:St->Hp->Prop
 rt:VK
 bk:St->Hp->Prop:=λ _ _=>False
 ct:St->Hp->Prop:=λ _ _=>False
noncomputable abbrev TS:=Ends->St->Hp->Prop
def EP (X:Cx) (pins:List (Addr×Obj)) (σ:St) (Q:VK) (u:Value) (s':B0):Prop:=∃v H',Inv X pins σ H' s'/\RelV v u/\Q v H'
def TP (X:Cx) (pins:List (Addr×Obj)) (σ:St) (Q:Bool->Hp->Prop) (b:Bool) (s':B0):Prop:=∃H',Inv X pins σ H' s'/\Q b H'
def AP (X:Cx) (pins:List (Addr×Obj)) (σ:St) (Q:List V->Hp->Prop) (us:List Value) (s':B0):Prop:=∃vs H',Inv X pins σ H' s'/\Vals vs us/\Q vs H'
def SP (X:Cx) (pins:List (Addr×Obj)) (D:Ends) (f:Flow) (s':B0):Prop:=
 match f with
 | .next=>∃σ' H',Inv X pins σ' H' s'/\D.nx σ' H'
 | .brk=>∃σ' H',Inv X pins σ' H' s'/\D.bk σ' H'
 | .cont=>∃σ' H',Inv X pins σ' H' s'/\D.ct σ' H'
 | .ret u=>∃v σ' H',Inv X pins σ' H' s'/\RelV v u/\D.rt v H'
def PE (X:Cx) (e:Expr) (t:TE):Prop:=
 ∀(pins:List (Addr×Obj)) (s:B0) (σ:St) (H:Hp) (Q:VK),Inv X pins σ H s->t σ H Q->R0 (v1 X.prog X.w) X.A (L3 e X.env) (EP X pins σ Q) X.xe s
def PT (X:Cx) (e:Expr) (t:TT):Prop:=
 ∀(pins:List (Addr×Obj)) (s:B0) (σ:St) (H:Hp) (Q:Bool->Hp->Prop),Inv X pins σ H s->t σ H Q->R0 (v1 X.prog X.w) X.A (isTrue e X.env (L3 e X.env)) (TP X pins σ Q) X.xe s
def PW (X:Cx) (e:Expr) (t:TT):Prop:=
 ∀(whole:Sem Value) (pins:List (Addr×Obj)) (s:B0) (σ:St) (H:Hp) (Q:Bool->Hp->Prop),Inv X pins σ H s->t σ H Q->R0 (v1 X.prog X.w) X.A (isTrue e X.env whole) (TP X pins σ Q) X.xe s
theorem PW.pt {X:Cx} {e:Expr} {t:TT} (h:PW X e t):PT X e t:=h _
def PA (X:Cx) (es:List Expr) (t:TA):Prop:=
 ∀(pos:Pos) (pins:List (Addr×Obj)) (s:B0) (σ:St) (H:Hp) (Q:List V->Hp->Prop),Inv X pins σ H s->t σ H Q->R0 (v1 X.prog X.w) X.A (j35 (c5 pos (F1 es X.env))) (AP X pins σ Q) X.xe s
def PS (X:Cx) (st:Stmt) (t:TS):Prop:=
 ∀(pins:List (Addr×Obj)) (s:B0) (σ:St) (H:Hp) (D:Ends),Inv X pins σ H s->t D σ H->R0 (v1 X.prog X.w) X.A (exec st X.env) (SP X pins D) X.xe s
def PSs (X:Cx) (st:List Stmt) (t:TS):Prop:=
 ∀(pins:List (Addr×Obj)) (s:B0) (σ:St) (H:Hp) (D:Ends),Inv X pins σ H s->t D σ H->R0 (v1 X.prog X.w) X.A (execs st X.env) (SP X pins D) X.xe s
theorem thn {α:Type} {t:Sem α} {Q Q':α->B0->Prop} {M:Model} {A:V1} {E:Value->B0->Prop} {s:B0} (h:R0 M A t Q E s) (hQ :∀a s,Q a s->Q' a s):R0 M A t Q' E s:=y4 h hQ λ _ _ x=>x
section
variable {X:Cx}
noncomputable def tVar (i:Nat):TE:=λ σ H Q=>∃v,σ[i]? = some (some v)/\Q v H
noncomputable def tC (v:V):TE:=λ _ H Q=>Q v H
theorem pe_var {i:Nat} {x:Str} {pos:Pos} (hN:X.N[i]? = some x) (hv:Vis X.env.scope x) (hd:(x == ("__debug__" : Str))=false:=by decide) (hcd:(x == ("__classdict__" : Str))=false:=by decide):PE X (.Name x pos) (tVar i):=by
 intro f s σ H Q I h;obtain ⟨v,e,h⟩:=h;obtain ⟨m,j,d⟩:=I.loc;obtain ⟨u,r,l⟩:=d i x v hN e hv;have b:EP X f σ Q u s:=⟨v,H,I,r,h⟩
 rcases l with ⟨a,g⟩|⟨a,c,hc,hcell⟩
 ·exact wpAny_Name (wpAny_loadName_local I.ok.kind a j g b) hd
 ·rcases a with a|a
  ·exact wpAny_Name (wpAny_loadName_cell I.ok.kind a hc hcell b) hd
  ·exact wpAny_Name (wpAny_loadName_free I.ok.kind a hc hcell b hcd) hd
theorem pe_int {i j pos}:PE X (.Constant (.int i) j pos) (tC (.int i)):=λ _ _ _ H _ I h=>wpAny_Constant_int ⟨.int i,H,I.tok _,⟨_,rfl⟩,h⟩
theorem pe_bl {b j pos}:PE X (.Constant (.bool b) j pos) (tC (.bl b)):=λ _ _ _ H _ I h=>Constant_bool ⟨.bl b,H,I,rfl,h⟩
theorem pe_non {j pos}:PE X (.Constant .none j pos) (tC .non):=λ _ _ _ H _ I h=>Constant_none ⟨.non,H,I,rfl,h⟩
theorem pe_str {x j pos}:PE X (.Constant (.str x) j pos) (tC (.str x)):=λ _ _ _ H _ I h=>Calls.Constant_str ⟨.str x,H,I.tok _,⟨_,rfl⟩,h⟩
def Gl (X:Cx) (x:Str):Prop:=X.env.kindOf x=some .globalImplicit
theorem zex {E:Value->B0->Prop} {pins:List (Addr×Obj)} {s:B0} {σ:St} {H:Hp} {x:Str} {u:Value} {pos:Pos} {Q:Value->B0->Prop} (I:Inv X pins σ H s) (hg:Gl X x) (hm:X.mg x=some u) (h:Q u s)
  (hd:(x == ("__debug__" : Str))=false:=by decide):R0 (v1 X.prog X.w) X.A (L3 (.Name x pos) X.env) Q E s:=
 j1e I.ok.kind hg (Calls.loadGlobal_global (by rw [I.ok.glob];exact I.mod.glob.keeps I.bk) hm h) hd
theorem ld_blt {E:Value->B0->Prop} {pins:List (Addr×Obj)} {s:B0} {σ:St} {H:Hp} {x:Str} {u:Value} {pos:Pos} {Q:Value->B0->Prop} (I:Inv X pins σ H s) (hg:Gl X x) (hm:X.mg x=none) (hv:R4 x=some u) (h:Q u s)
  (hn:x≠"__name__":=by decide) (hd:(x == ("__debug__" : Str))=false:=by decide):R0 (v1 X.prog X.w) X.A (L3 (.Name x pos) X.env) Q E s:=by
 obtain ⟨c,b,a⟩:=I.mod.blt;exact j1e I.ok.kind hg (Calls.loadGlobal_builtin (by rw [I.ok.glob];exact I.mod.glob.keeps I.bk) hm (by rw [I.ok.blt];exact b.keeps I.bk) ((a x hn).trans hv) h) hd
theorem z77 {x:Str} {v:V} {u:Value} {pos:Pos} (hg:Gl X x) (hm:X.mg x=some u) (r:RelV v u) (hd:(x == ("__debug__" : Str))=false:=by decide):PE X (.Name x pos) (tC v):=
 λ _ _ _ H _ I h=>zex I hg hm ⟨v,H,I,r,h⟩ hd
theorem z1l {x:Str} {v:V} {u:Value} {pos:Pos} (hg:Gl X x) (hm:X.mg x=none) (hv:R4 x=some u) (r:RelV v u) (hn:x≠"__name__":=by decide) (hd:(x == ("__debug__" : Str))=false:=by decide):PE X (.Name x pos) (tC v):=
 λ _ _ _ H _ I h=>ld_blt I hg hm hv ⟨v,H,I,r,h⟩ hn hd
variable {a b:Expr} {ta tb:TE} {pos:Pos}
def PC (X:Cx) (op:CmpOp) (a b:Expr) (t:TE):Prop:=
 ∀(pins:List (Addr×Obj)) (s:B0) (σ:St) (H:Hp) (Q:VK),Inv X pins σ H s->t σ H Q->
  R0 (v1 X.prog X.w) X.A (L3 a X.env) (λ v s₁=>R0 (v1 X.prog X.w) X.A (L3 b X.env) (λ u s₂=>R0 (v1 X.prog X.w) X.A (P2 op v u) (EP X pins σ Q) X.xe s₂) X.xe s₁) X.xe s
noncomputable def tB (t:TE):TT:=λ σ H Q=>t σ H λ x H1=>∃c,x=.bl c/\Q c H1
theorem pt_cmp {op:CmpOp} {t:TE} (h:PC X op a b t) (h1:S8 op b=false:=by first|exact nobehind _ (by decide) (by decide)|rfl):PT X (.Compare a [op] [b] pos) (tB t):=by intro f s σ H Q I hw;refine wpAny_isTrue_Compare1 (thn (h f s σ H _ I hw) λ v g h1=>thn h1 λ u i e=>thn e λ c j ⟨x,H1,I1,r1,q1⟩=>?_) h1;obtain ⟨d,rfl,q⟩:=q1;cases r1;exact P4 ⟨H1,I1,q⟩
theorem pt_val {e:Expr} {t:TE} (h:PE X e t) (he :∀whole,isTrue e X.env whole=(do let v <-whole;j34 e.pos;j0a [v] (truthy v)):=by intro _;rfl):PT X e (tB t):=by intro a s σ H Q I hw;refine isTrue_plain (thn (h a s σ H _ I hw) λ v b ⟨x,H1,I1,r1,q1⟩=>?_) (he _);obtain ⟨d,rfl,q⟩:=q1;cases r1;exact P4 ⟨H1,I1,q⟩
variable {tA tB':TT} {rest:List Expr}
noncomputable def tAnd (t u:TT):TT:=λ σ H Q=>t σ H λ c H1=>if c=true then u σ H1 Q else Q false H1
noncomputable def tOr (t u:TT):TT:=λ σ H Q=>t σ H λ c H1=>if c=true then Q true H1 else u σ H1 Q
noncomputable def tNot (t:TT):TT:=λ σ H Q=>t σ H λ c H1=>Q (!c) H1
theorem zdn (ha:PT X a tA):PW X (.BoolOp .And [a] pos) tA:=by
 intro f b s σ H Q I h;refine isTrue_and (thn (ha b s σ H Q I h) λ c d e=>?_);cases c with
 | true=>exact isTrue_and_nil e
 | false=>exact e
theorem pw_or1 (ha:PT X a tA):PW X (.BoolOp .Or [a] pos) tA:=by
 intro f b s σ H Q I h;refine isTrue_or (thn (ha b s σ H Q I h) λ c d e=>?_);cases c with
 | false=>exact isTrue_or_nil e
 | true=>exact e
theorem pw_and (ha:PT X a tA) (hb:PW X (.BoolOp .And (b :: rest) pos) tB'):PW X (.BoolOp .And (a :: b :: rest) pos) (tAnd tA tB'):=by
 intro f d s σ H Q I h;refine isTrue_and (thn (ha d s σ H _ I h) λ c e ⟨H1,I1,q1⟩=>?_);cases c with
 | true=>exact hb f d e σ H1 Q I1 q1
 | false=>exact ⟨H1,I1,q1⟩
theorem pw_or (ha:PT X a tA) (hb:PW X (.BoolOp .Or (b :: rest) pos) tB'):PW X (.BoolOp .Or (a :: b :: rest) pos) (tOr tA tB'):=by
 intro f d s σ H Q I h;refine isTrue_or (thn (ha d s σ H _ I h) λ c e ⟨H1,I1,q1⟩=>?_);cases c with
 | true=>exact ⟨H1,I1,q1⟩
 | false=>exact hb f d e σ H1 Q I1 q1
theorem pt_not (ha:PT X a tA):PT X (.UnaryOp .Not a pos) (tNot tA):=by intro b s σ H Q I h;exact isTrue_not (ha b s σ H (λ c d=>Q (!c) d) I h)
noncomputable def tAndV (ta tb:TE):TE:=λ σ H Q=>ta σ H λ x H1=>∃c,x=.bl c/\if c=true then tb σ H1 Q else Q (.bl false) H1
noncomputable def tNotV (ta:TE):TE:=λ σ H Q=>ta σ H λ x H1=>∃c,x=.bl c/\Q (.bl (!c)) H1
theorem pe_one {op} {t:TE} (h:PE X a t):PE X (.BoolOp op [a] pos) t:=λ b s σ H Q I hw=>BoolOp_one (h b s σ H Q I hw)
theorem pe_and (ha:PE X a ta) (hb:PE X (.BoolOp .And (b :: rest) pos) tb):PE X (.BoolOp .And (a :: b :: rest) pos) (tAndV ta tb):=by
 intro e s σ H Q I h;refine BoolOp_and (thn (ha e s σ H _ I h) λ v f ⟨x,H1,I1,r1,d⟩=>?_);obtain ⟨c,rfl,d⟩:=d;cases r1;refine P4 ?_;cases c with
 | true=>exact hb e f σ H1 Q I1 d
 | false=>exact ⟨.bl false,H1,I1,rfl,d⟩
theorem pe_not (ha:PE X a ta):PE X (.UnaryOp .Not a pos) (tNotV ta):=by intro d s σ H Q I h;refine UnaryOp_ (thn (ha d s σ H _ I h) λ v e ⟨x,H1,I1,r1,b⟩=>?_);obtain ⟨c,rfl,b⟩:=b;cases r1;exact not_of (P4 ⟨.bl (!c),H1,I1,rfl,b⟩)
noncomputable def tIf (t:TT) (ta tb:TE):TE:=λ σ H Q=>t σ H λ c H1=>if c=true then ta σ H1 Q else tb σ H1 Q
theorem zk0 {c:Expr} (hc:PT X c tA) (ha:PE X a ta) (hb:PE X b tb):PE X (.IfExp c a b pos) (tIf tA ta tb):=by
 intro e s σ H Q I h;refine wpAny_IfExp (thn (hc e s σ H _ I h) λ d f ⟨H1,I1,q1⟩=>?_);cases d with
 | true=>exact ha e f σ H1 Q I1 q1
 | false=>exact hb e f σ H1 Q I1 q1
end
def SqL (K:j0) (H:Hp) (a:Addr) (xs:List V):Prop:=
 Rd H a (.lst xs)\/
  ∃(o:Obj) (its:Array Value) (n:Nat),K.lookup a=some o/\o.cls=.type "list"/\o.dict=none/\o.data=.seq its n/\its.size<=sizeLine/\Vals xs its.toList
def SqT (K:j0) (H:Hp) (a:Addr) (xs:List V):Prop:=
 Rd H a (.tup xs)\/
  ∃(o:Obj) (its:Array Value) (n:Nat),K.lookup a=some o/\o.cls=.type "tuple"/\o.data=.seq its n/\its.size<=sizeLine/\Vals xs its.toList
noncomputable def absV:Value->Option V
 | .none=>some .non
 | .bool b=>some (.bl b)
 | .int i _=>some (.int i)
 | .str x _=>some (.str x)
 | .bytes b _=>some (.byt b)
 | .float b _=>some (.flt b)
 | .ref a=>some (.ref a)
 | .type n=>some (.ty n)
 | _=>none
theorem RelV.abs {x:V} {u:Value} (r:RelV x u):absV u=some x:=by
 cases x with
 | non=>cases r;rfl
 | bl _=>cases r;rfl
 | int _=>obtain ⟨t,rfl⟩:=r;rfl
 | str _=>obtain ⟨t,rfl⟩:=r;rfl
 | byt _=>obtain ⟨t,rfl⟩:=r;rfl
 | flt _=>obtain ⟨t,rfl⟩:=r;rfl
 | ref _=>cases r;rfl
 | ty _=>cases r;rfl
theorem RelV.inj {x y:V} {u:Value} (r:RelV x u) (q:RelV y u):x=y:=N1 (r.abs.symm.trans q.abs)
theorem Vals.inj :∀{xs ys:List V} {us:List Value},Vals xs us->Vals ys us->xs=ys
 | _,_,_,.nil,.nil=>rfl
 | _,_,_,.cons r t,.cons r' t'=>by rw [r.inj r',Vals.inj t t']
section
variable {X:Cx} {pins:List (Addr×Obj)} {σ:St} {H:Hp} {s:B0} {a:Addr} {xs ys:List V}
theorem SqL.of {K:j0} (h:H a=some (.lst xs)):SqL K H a xs:=.inl (.inl h)
theorem SqT.of {K:j0} (h:H a=some (.tup xs)):SqT K H a xs:=.inl (.inl h)
theorem Inv.list (I:Inv X pins σ H s) (h:SqL X.K H a xs) :∃its:List Value,Vals xs its/\PlainL s.heap a its.toArray/\xs.length<=sizeLine:=by
 rcases h with h|⟨o,its,n,hk,hc,hd,hs,hz,r⟩
 ·obtain ⟨z,its,n,r,e⟩:=h.ok I.hok;exact ⟨its,r,⟨_,n,e,rfl,rfl,rfl⟩,z⟩
 ·refine ⟨its.toList,r,⟨o,n,I.kIn a o hk,hc,hd,by simpa using hs⟩,?_⟩;have e:=r.length;simp only [v2] at e;omega
theorem Inv.tuple (I:Inv X pins σ H s) (h:SqT X.K H a xs) :∃its:List Value,Vals xs its/\IsTup s.heap a its.toArray/\xs.length<=sizeLine:=by
 rcases h with h|⟨o,its,n,hk,hc,hs,hz,r⟩
 ·obtain ⟨z,its,r,p⟩:=h.ok I.hok;exact ⟨its,r,p.1,z⟩
 ·refine ⟨its.toList,r,⟨o,I.kIn a o hk,hc,n,by simpa using hs⟩,?_⟩;have e:=r.length;simp only [v2] at e;omega
theorem Inv.list_inj (I:Inv X pins σ H s) (h:SqL X.K H a xs) (h':SqL X.K H a ys):xs=ys:=by
 obtain ⟨f,r,⟨o,n,e,_,_,d⟩,_⟩:=I.list h;obtain ⟨i,g,⟨j,k,b,_,_,c⟩,_⟩:=I.list h';rw [e] at b;cases b;rw [d] at c;injection c with d1 _;have:f=i:=by simpa using congrArg Array.toList d1
 subst this;exact r.inj g
theorem Inv.tuple_inj (I:Inv X pins σ H s) (h:SqT X.K H a xs) (h':SqT X.K H a ys):xs=ys:=by
 obtain ⟨f,r,⟨o,e,_,n,d⟩,_⟩:=I.tuple h;obtain ⟨i,g,⟨j,b,_,k,c⟩,_⟩:=I.tuple h';rw [e] at b;cases b;rw [d] at c;injection c with d1 _;have:f=i:=by simpa using congrArg Array.toList d1
 subst this;exact r.inj g
end
noncomputable abbrev Cx.wish (X:Cx) (E:Value->B0->Prop):Cx:={ X with xe:=E }
noncomputable abbrev Cx.nox (X:Cx):Cx:=X.wish λ _ _=>False
theorem Cx.Ok.wish {X:Cx} (ok:X.Ok) (E:Value->B0->Prop):(X.wish E).Ok:=
 ⟨ok.mod,ok.kind,ok.glob,ok.blt,ok.above,ok.inj,ok.has,ok.cab,ok.hd,ok.frames,ok.stk,ok.exf,ok.bs,ok.bsz,ok.noex,ok.exfs,ok.funs,ok.frf⟩
theorem Cx.Ok.unwish {X:Cx} {E:Value->B0->Prop} (ok:(X.wish E).Ok):X.Ok:=
 ⟨ok.mod,ok.kind,ok.glob,ok.blt,ok.above,ok.inj,ok.has,ok.cab,ok.hd,ok.frames,ok.stk,ok.exf,ok.bs,ok.bsz,ok.noex,ok.exfs,ok.funs,ok.frf⟩
section
variable {X:Cx} {pins:List (Addr×Obj)} {σ:St} {H:Hp} {s:B0} {E:Value->B0->Prop}
theorem Inv.wish (I:Inv X pins σ H s) (E:Value->B0->Prop):Inv (X.wish E) pins σ H s:=⟨I.ok.wish E,I.os,I.bare,I.base,I.loc,I.cell,I.free,I.freeC,I.pin,I.hok,I.len⟩
theorem Inv.unwish (I:Inv (X.wish E) pins σ H s):Inv X pins σ H s:=⟨I.ok.unwish,I.os,I.bare,I.base,I.loc,I.cell,I.free,I.freeC,I.pin,I.hok,I.len⟩
theorem SP.unwish {D:Ends} {f:Flow} {s':B0} (h:SP (X.wish E) pins D f s'):SP X pins D f s':=by
 cases f with
 | next=>obtain ⟨a,b,I,q⟩:=h;exact ⟨a,b,I.unwish,q⟩
 | brk=>obtain ⟨a,b,I,q⟩:=h;exact ⟨a,b,I.unwish,q⟩
 | cont=>obtain ⟨a,b,I,q⟩:=h;exact ⟨a,b,I.unwish,q⟩
 | ret u=>obtain ⟨v,a,b,I,r,q⟩:=h;exact ⟨v,a,b,I.unwish,r,q⟩
theorem PSs.nox {st:List Stmt} {t:TS} (h:PSs X.nox st t):PSs X st t:=λ a s σ H D I hw=>y4 (h a s σ H D (I.wish _) hw) (λ _ _ q=>q.unwish) λ _ _ z=>A4 z
end
section
variable {X:Cx} {st:Stmt} {rest:List Stmt} {t u:TS} {e:Expr} {te:TE} {pos:Pos}
noncomputable def tNext:TS:=λ D σ H=>D.nx σ H
noncomputable def tSeq (t u:TS):TS:=λ D σ H=>t { D with nx:=u D } σ H
theorem z0c:PSs X [] tNext:=λ _ _ σ H _ I h=>F9 ⟨σ,H,I,h⟩
theorem z02 (h1:PS X st t) (h2:PSs X rest u):PSs X (st :: rest) (tSeq t u):=by
 intro a s σ H D I h;refine wpAny_execs_cons (thn (h1 a s σ H { D with nx:=u D } I h) λ f c q=>?_);cases f with
 | next=>obtain ⟨d,e,b,q⟩:=q;exact h2 a c d e D b q
 | ret v=>exact q
 | brk=>exact q
 | cont=>exact q
theorem z03 (h1:PS X st t):PSs X [st] t:=by
 intro a s σ H D I h;refine wpAny_execs_cons (thn (h1 a s σ H D I h) λ f b q=>?_);cases f with
 | next=>exact F9 q
 | ret v=>exact q
 | brk=>exact q
 | cont=>exact q
noncomputable def tCont:TS:=λ D σ H=>D.ct σ H
theorem zea:PS X (.Continue pos) tCont:=λ _ _ σ H _ I h=>wpAny_Continue ⟨σ,H,I,h⟩
theorem Inv.quiet {pins:List (Addr×Obj)} {σ:St} {H:Hp} {s:B0} (I:Inv X pins σ H s):interactive X.env=false:=by simp [interactive,I.ok.kind]
noncomputable def tDrop (te:TE):TS:=λ D σ H=>te σ H λ _ H1=>D.nx σ H1
theorem z2g (he:PE X e te) (hs:j8 e none pos.line X.env=G3 false:=by rfl):PS X (.Expr e pos) (tDrop te):=by intro a s σ H D I h;exact wpAny_Expr_any (thn (he a s σ H _ I h) λ v b ⟨x,H1,I1,r1,q1⟩=>⟨σ,H1,I1,q1⟩) I.quiet hs
noncomputable def tRet (te:TE):TS:=λ D σ H=>te σ H D.rt
theorem ps_ret (he:PE X e te):PS X (.Return (some e) pos) (tRet te):=by intro a s σ H D I h;exact wpAny_Return_some (thn (he a s σ H _ I h) λ v b ⟨x,H1,I1,r1,q1⟩=>⟨x,σ,H1,I1,r1,q1⟩)
noncomputable def tIfS (c:TT) (t u:TS):TS:=λ D σ H=>c σ H λ b H1=>if b=true then t D σ H1 else u D σ H1
theorem ps_if {c:Expr} {a b:List Stmt} {tc:TT} (hc:PT X c tc) (ha:PSs X a t) (hb:PSs X b u):PS X (.If c a b pos) (tIfS tc t u):=by
 intro e s σ H D I h;refine wpAny_If (thn (hc e s σ H _ I h) λ d f ⟨H1,I1,q1⟩=>?_);cases d with
 | true=>exact ha e f σ H1 D I1 q1
 | false=>exact hb e f σ H1 D I1 q1
noncomputable def tNever:TS:=λ _ _ _=>False
theorem zcd:PS X st tNever:=λ _ _ _ _ _ _ h=>h.elim
end
noncomputable abbrev TG:=V->St->Hp->(St->Hp->Prop)->Prop
noncomputable abbrev TGs:=List V->St->Hp->(St->Hp->Prop)->Prop
def PG (X:Cx) (target:Expr) (t:TG):Prop:=
 ∀(pins:List (Addr×Obj)) (s:B0) (σ:St) (H:Hp) (v:V) (u:Value) (Q:St->Hp->Prop),Inv X pins σ H s->RelV v u->t v σ H Q->
  R0 (v1 X.prog X.w) X.A (assign target X.env u) (λ _ s'=>∃σ' H',Inv X pins σ' H' s'/\Q σ' H') X.xe s
def PGs (X:Cx) (ts:List Expr) (t:TGs):Prop:=
 ∀(pins:List (Addr×Obj)) (s:B0) (σ:St) (H:Hp) (vs:List V) (us:List Value) (Q:St->Hp->Prop),Inv X pins σ H s->Vals vs us->t vs σ H Q->
  R0 (v1 X.prog X.w) X.A (assignInOrder ((B9 ts X.env).map (·.2)) us) (λ _ s'=>∃σ' H',Inv X pins σ' H' s'/\Q σ' H') X.xe s
noncomputable abbrev TSet:=V->V->V->Hp->(Hp->Prop)->Prop
def PSet (X:Cx) (t:TSet):Prop:=
 ∀(pins:List (Addr×Obj)) (s:B0) (σ:St) (H:Hp) (o i v:V) (ov iv u:Value) (Q:Hp->Prop),Inv X pins σ H s->RelV o ov->RelV i iv->RelV v u->t o i v H Q->
  R0 (v1 X.prog X.w) X.A (setItem ov iv u) (λ _ s'=>∃H',Inv X pins σ H' s'/\Q H') X.xe s
section
variable {X:Cx} {pos:Pos}
noncomputable def gName (i:Nat):TG:=λ v σ H Q=>Q (σ.set i (some v)) H
theorem z0j {i:Nat} {x:Str} (hN:X.N.Nodup) (hi:X.N[i]? = some x) (hx:Loc X.env.scope x) (hf:X.fn x=true\/X.env.scope.names.lookup x=some .local:=by first|exact .inl rfl|exact .inr rfl|assumption):PG X (.Name x pos) (gName i):=by intro b s σ H v u Q I r h;exact wpAny_assign_Name (zez I hN hi hx r (λ c a=>⟨_,H,a,h⟩) hf)
noncomputable def gNil:TGs:=λ vs σ H Q=>vs=[]/\Q σ H
noncomputable def gCons (t:TG) (u:TGs):TGs:=λ vs σ H Q=>∃v r,vs=v :: r/\t v σ H λ σ' H'=>u r σ' H' Q
theorem z0s:PGs X [] gNil:=by intro c s σ H a b Q I r h;obtain ⟨e,h⟩:=h;subst e;cases r;exact assignInOrder_nil ⟨σ,H,I,h⟩
theorem z07 {e:Expr} {es:List Expr} {t:TG} {u:TGs} (h1:PG X e t) (h2:PGs X es u)
  (hs:(B9 (e :: es) X.env).map (·.2)=assign e X.env :: (B9 es X.env).map (·.2):=by rfl):PGs X (e :: es) (gCons t u):=by
 intro a s σ H f d Q I r h;obtain ⟨v,g,c,h⟩:=h;subst c;cases r with
 | cons r rr=>rw [hs];refine assignInOrder_cons (thn (h1 a s σ H _ _ _ I r h) λ _ b ⟨σ1,H1,I1,q1⟩=>?_);exact h2 a b σ1 H1 _ _ Q I1 rr q1
noncomputable def gTup (K:j0) (n:Nat) (t:TGs):TG:=λ v σ H Q=>∃a xs,v=.ref a/\SqT K H a xs/\xs.length=n/\t xs σ H Q
theorem pg_tup {es:List Expr} {k:Nat} {t:TGs} {n:Nat} (hc:X.calm=true) (h:PGs X es t)
  (hn:(B9 es X.env).length=n:=by rfl) (hst:(B9 es X.env).findIdx? (·.1)=none:=by rfl):PG X (.Tuple es k pos) (gTup X.K n t):=by
 intro c s σ H v u Q I r hw;obtain ⟨a,m,q,j,i,hw⟩:=hw;subst q;cases r;obtain ⟨x,d,f,w⟩:=I.tuple j;refine assign_Tuple_tuple (I.ok.hd hc) f (by simp [hn,<-i,d.length]) hst λ p g=>?_;have l:Inv X c σ H { s with heap:=p }:=I.kept (t':=s.toks) λ b o e=>g b o (X0 (L0 e)) e;exact h c _ σ H m _ Q l (by simpa using d) hw
noncomputable def gSub (to ti:TE) (t:TSet):TG:=λ v σ H Q=>to σ H λ o H1=>ti σ H1 λ i H2=>t o i v H2 λ H3=>Q σ H3
theorem pg_sub {o i:Expr} {to ti:TE} {t:TSet} (ho:PE X o to) (hi:PE X i ti) (hs:PSet X t)
  (ha :∀v,assign (.Subscript o i pos) X.env v=(do
   let ov <-j0a [v] (L3 o X.env)
   let iv <-j0a [v,ov] (L3 i X.env)
   j34 pos
   j0a [v,ov,iv] (setItem ov iv v)
   release [v,ov,iv] []):=by intro _;rfl):PG X (.Subscript o i pos) (gSub to ti t):=by
 intro a s σ H v u Q I r h;rw [ha];refine c0 (X1 (thn (ho a s σ H _ I h) λ ov b ⟨x,H1,I1,r1,q1⟩=>?_));refine c0 (X1 (thn (hi a b σ H1 _ I1 q1) λ iv c ⟨y,H2,I2,r2,q2⟩=>?_));refine c0 (wpAny_standAt (c0 (X1 (thn (hs a c σ H2 x y v ov iv u _ I2 r1 r2 r q2) λ _ d ⟨H3,I3,q3⟩=>?_))));exact wpAny_release ⟨σ,H3,I3,q3⟩
noncomputable def tAsg (te:TE) (g:TG):TS:=λ D σ H=>te σ H λ x H1=>g x σ H1 D.nx
theorem ps_asg {tg e:Expr} {te:TE} {g:TG} (he:PE X e te) (hg:PG X tg g) (hs:swapsWithSole [tg] e pos.line X.env=G3 false:=by rfl) (hw:swappedStores [tg] e X.env=G3 none:=by rfl)
  (h1:(B9 [tg] X.env).map (·.2)=[assign tg X.env]:=by rfl):PS X (.Assign [tg] e pos) (tAsg te g):=by
 intro a s σ H D I h;refine wpAny_Assign_stores (thn (he a s σ H _ I h) λ v b ⟨x,H1,I1,r1,q1⟩=>?_) hs hw;rw [h1];exact thn (hg a b σ H1 x v _ I1 r1 q1) λ _ c q=>q
theorem ps_set {i:Nat} {x:Str} {e:Expr} {te:TE} {pos':Pos} (hN:X.N.Nodup) (hi:X.N[i]? = some x) (hx:Loc X.env.scope x) (he:PE X e te) (hs:j8 e (some (.Name x pos')) pos.line X.env=G3 false:=by rfl) (hf:X.fn x=true\/X.env.scope.names.lookup x=some .local:=by first|exact .inl rfl|exact .inr rfl|assumption) :
  PS X (.Assign [.Name x pos'] e pos) (tAsg te (gName i)):=by
 intro b s σ H D I h;refine wpAny_Assign_Name (thn (he b s σ H _ I h) λ v c ⟨y,H1,I1,r1,q1⟩=>?_) hs;exact zez I1 hN hi hx r1 (λ d a=>⟨_,H1,a,q1⟩) hf
noncomputable def tWhile (c:TT) (tb:TS):TS:=λ D σ H=>∃W:Nat->St->Hp->Prop,(∃m,W m σ H)/\∀m σ H,W m σ H->
 c σ H λ b H1=>if b=true then∃N:St->Hp->Prop,(∀σ' H',N σ' H'->∃m',m' < m/\W m' σ' H')/\tb { D with nx:=N,ct:=N,bk:=D.nx } σ H1 else D.nx σ H1
theorem zfl {c:Expr} {body:List Stmt} {tc:TT} {tb:TS} (hp:PassesOwn (v1 X.prog X.w) X.A X.env X.xe) (hc:PT X c tc) (hb:PSs X body tb):PS X (.While c body [] pos) (tWhile tc tb):=by
 intro m s σ H D I h;obtain ⟨W,⟨t,q⟩,u⟩:=h;refine wpAny_While (codeAny_whileLoop (λ n y=>∃σ' H',Inv X m σ' H' y/\W n σ' H') ?_ t ⟨σ,H,I,q⟩);rintro n x ⟨σ1,H1,I1,w1⟩;refine V5 hp (thn (hc m x σ1 H1 _ I1 (u n σ1 H1 w1)) λ b r ⟨H2,I2,g⟩=>?_);cases b with
 | true=>
  obtain ⟨N,p,g⟩:=g;rw [if_pos rfl];refine V5 hp (thn (hb m r σ1 H2 _ I2 g) λ f z e=>?_);cases f with
  | next=>obtain ⟨a,d,k,j⟩:=e;obtain ⟨o,l,i⟩:=p a d j;exact ⟨o,l,a,d,k,i⟩
  | cont=>obtain ⟨a,d,k,j⟩:=e;obtain ⟨o,l,i⟩:=p a d j;exact ⟨o,l,a,d,k,i⟩
  | brk=>exact e
  | ret v=>exact e
 | false=>rw [if_neg U0];exact F9 ⟨σ1,H2,I2,g⟩
end
structure It where
 go:Nat->Hp->Prop
 yld:Nat->Hp->V->Hp->Prop
 stop:Nat->Hp->Prop
def FpOk (X:Cx) (pins:List (Addr×Obj)) (H:Hp) (b:Addr):Prop:=
 H b=none/\b≠X.env.locals/\b∉X.fs/\(b∈X.ex\/X.s₀.heap.objs.size<=b)/\(∀x c,X.env.cells.lookup x=some c->c≠b)/\∀p∈X.pn++pins,p.1≠b
theorem Inv.fpOk {X:Cx} {pins:List (Addr×Obj)} {σ:St} {H H':Hp} {s:B0} {b:Addr} (I:Inv X pins σ H s) (hb:s.heap.objs.size<=b) (hn:H' b=none):FpOk X pins H' b:=by
 refine ⟨hn,V2 (L1 I.lt hb),I.nofs hb,.inr (G0 I.sz hb),λ x c e z=>?_,λ p a z=>?_⟩
 ·obtain ⟨v,q⟩:=I.cell x c e;exact absurd (L1 q.lt (by rw [z];exact hb)) (o4 _)
 ·exact absurd (L1 (L0 (I.pin p a).1) (by rw [z];exact hb)) (o4 _)
structure Turn (P:Program) (w:j1) (K:j0) (tg:Expr) (J:It) (fp:List Addr) (it:Addr) (tn:Nat->Heap->Prop):Prop where
 mem:it∈fp
 obj :∀i h,tn i h->∀b∈fp,∃o,h.get? b=some o/\∀v,o.data≠.cell v
 keep :∀i h h',tn i h->(∀b∈fp,∀o,h.get? b=some o->h'.get? b=some o)->tn i h'
 item :∀(X:Cx),X.prog=P->X.w=w->X.K=K->X.calm=true->∀(i:Nat) (pins:List (Addr×Obj)) (s:B0) (σ:St) (H:Hp) (E:Value->B0->Prop),Inv X pins σ H s->(∀b∈fp,FpOk X pins H b)->tn i s.heap->J.go i H->
  R0 (v1 P w) X.A (Z4 (.ref it)) (λ r s1=>∃u,r=some u/\
   R0 (v1 P w) X.A (G9 tg (.ref it) u) (λ _ s2=>∃x H',Inv X pins σ H' s2/\RelV x u/\J.yld i H x H'/\tn (i + 1) s2.heap/\∀b∈fp,H' b=none) E s1) E s
 done :∀(X:Cx),X.prog=P->X.w=w->X.K=K->X.calm=true->∀(i:Nat) (pins:List (Addr×Obj)) (s:B0) (σ:St) (H:Hp) (E:Value->B0->Prop),Inv X pins σ H s->(∀b∈fp,FpOk X pins H b)->tn i s.heap->J.stop i H->
  R0 (v1 P w) X.A (Z4 (.ref it)) (λ r s1=>r=none/\Inv X pins σ H s1) E s
 self :∀(A:V1) (i:Nat) (s:B0) (Q:Value->B0->Prop) (E:Value->B0->Prop),tn i s.heap->Q (.ref it) s->R0 (v1 P w) A (j21 (.ref it)) Q E s
noncomputable abbrev TI:=St->Hp->(It->Hp->Prop)->Prop
def PIE (X:Cx) (pins:List (Addr×Obj)) (σ:St) (tg:Expr) (R:It->Hp->Prop) (itv:Value) (s2:B0):Prop:=
 ∃(it:Addr) (fp:List Addr) (tn:Nat->Heap->Prop) (J:It) (H':Hp),itv=.ref it/\Inv X pins σ H' s2/\Turn X.prog X.w X.K tg J fp it tn/\tn 0 s2.heap/\(∀b∈fp,FpOk X pins H' b)/\R J H'
def PI (X:Cx) (tg iter:Expr) (wi:TI):Prop:=
 ∀(pins:List (Addr×Obj)) (s:B0) (σ:St) (H:Hp) (R:It->Hp->Prop),Inv X pins σ H s->wi σ H R->
  R0 (v1 X.prog X.w) X.A (L3 iter X.env) (λ v s1=>R0 (v1 X.prog X.w) X.A (j21 v) (PIE X pins σ tg R) X.xe s1) X.xe s
theorem go_of {M:Model} {A:V1} {E:Value->B0->Prop} {s:B0} {tg:Expr} {it:Addr} {u:Value} {o:Obj} {n:String} {vs:Array Value} {Q:Unit->B0->Prop} (ho:s.heap.get? it=some o) (hc:o.cls=.type n) (hd:o.data=.fields vs)
    (hn:["enumerate","zip","dict_itemiterator","dict_reverseitemiterator","odict_iterator","itertools.zip_longest","itertools.pairwise"].contains n=false) (hQ:Q () s):R0 M A (G9 tg (.ref it) u) Q E s:=by
  unfold G9;cases tg<;>first
    | exact C0 hQ
    | (cases u<;>first
        | exact C0 hQ
        | (refine c0 (wpAny_load ho ?_)
           rw [hc,hd];show R0 M A (if (["enumerate","zip","dict_itemiterator","dict_reverseitemiterator","odict_iterator","itertools.zip_longest","itertools.pairwise"].contains n && vs[0]? == some (F4 _))=true then _ else _) Q E s;rw [if_neg (by intro h;rw [hn,S7] at h;cases h)];exact C0 hQ))
noncomputable def Itl (K:j0) (a:Addr):It:=
 ⟨λ i H=>∃xs x,SqL K H a xs/\xs[i]? = some x,λ i H x H'=>H'=H/\∀xs,SqL K H a xs->xs[i]? = some x,λ i H=>∃xs,SqL K H a xs/\xs.length<=i⟩
noncomputable def Itt (K:j0) (a:Addr):It:=
 ⟨λ i H=>∃xs x,SqT K H a xs/\xs[i]? = some x,λ i H x H'=>H'=H/\∀xs,SqT K H a xs->xs[i]? = some x,λ i H=>∃xs,SqT K H a xs/\xs.length<=i⟩
noncomputable def Itr (lo:Int) (n:Nat):It:=⟨λ i _=>i < n,λ i H x H'=>H'=H/\x=.int (lo + i),λ i _=>n<=i⟩
theorem zhp {P:Program} {w:j1} {K:j0} {tg:Expr} (a it:Addr):Turn P w K tg (Itl K a) [it] it (λ i h=>h.IsListIter it a i) where
 mem:=by simp
 obj:=λ i h f b g=>by
  have e:b=it:=by simpa using g
  subst e;obtain ⟨o,e,c,d⟩:=f;exact ⟨o,e,λ v z=>by rw [d] at z;cases z⟩
 keep:=λ i h m f k=>f.at λ o e=>k it (by simp) o e
 item:=by intro X t hw A L i J s σ H E I l f q;subst t hw A;obtain ⟨S,x,j,n⟩:=q;obtain ⟨U,D,p,T⟩:=I.list j;obtain ⟨u,W,M⟩:=D.get n;obtain ⟨C,B,O,r,y,F⟩:=l it (by simp);refine u9 f p.isList (x:=u) (by simpa using W) λ m G N=>?_;have R:Inv X J σ H { s with heap:=m }:=I.turned (t':=s.toks) (λ b o g e=>(N.2 b g).trans e) C B r y F;obtain ⟨o,e,c,d⟩:=id G;exact ⟨u,rfl,go_of (s:={ s with heap:=m }) e c d (by decide) ⟨x,H,R,M,⟨rfl,λ Z Q=>by rw [I.list_inj Q j];exact n⟩,G,λ b g=>(l b g).1⟩⟩
 done:=by intro X t hw A L i J s σ H E I l f q;subst t hw A;obtain ⟨S,j,n⟩:=q;obtain ⟨U,D,p,T⟩:=I.list j;obtain ⟨C,B,O,r,y,F⟩:=l it (by simp);have Y:=D.length;exact M9 (I.ok.hd L) f p.isList (by simp;omega) λ m V=>⟨rfl,I.turned (t':=s.toks) (λ b o g e=>V b o g e) C B r y F⟩
 self:=λ _ _ _ _ _ f h=>wpAny_pyIter_listiter f h
theorem zh3 {P:Program} {w:j1} {K:j0} {tg:Expr} (a it:Addr):Turn P w K tg (Itt K a) [it] it (λ i h=>h.IsTupleIter it a i) where
 mem:=by simp
 obj:=λ i h f b g=>by
  have e:b=it:=by simpa using g
  subst e;obtain ⟨o,e,c,d⟩:=f;exact ⟨o,e,λ v z=>by rw [d] at z;cases z⟩
 keep:=λ i h m f k=>f.at λ o e=>k it (by simp) o e
 item:=by intro X t hw A M i L s σ H E I l f q;subst t hw A;obtain ⟨T,x,j,n⟩:=q;obtain ⟨F,D,p,U⟩:=I.tuple j;obtain ⟨u,W,N⟩:=D.get n;obtain ⟨C,B,Q,r,y,G⟩:=l it (by simp);refine a9 f (show s.heap.IsTuple a F.toArray from p) (x:=u) (by simpa using W) λ m J O=>?_;have S:Inv X L σ H { s with heap:=m }:=I.turned (t':=s.toks) (λ b o g e=>(O.2 b g).trans e) C B r y G;obtain ⟨o,e,c,d⟩:=id J;exact ⟨u,rfl,go_of (s:={ s with heap:=m }) e c d (by decide) ⟨x,H,S,N,⟨rfl,λ Z R=>by rw [I.tuple_inj R j];exact n⟩,J,λ b g=>(l b g).1⟩⟩
 done:=by intro X t hw A M i L s σ H E I l f q;subst t hw A;obtain ⟨T,j,n⟩:=q;obtain ⟨F,D,p,U⟩:=I.tuple j;obtain ⟨C,B,Q,r,y,G⟩:=l it (by simp);have Y:=D.length;exact q9 (I.ok.hd M) f (show s.heap.IsTuple a F.toArray from p) (by simp;omega) λ m V=>⟨rfl,I.turned (t':=s.toks) (λ b o g e=>V b o g e) C B r y G⟩
 self:=λ _ _ _ _ _ f h=>wpAny_pyIter_tupleiter f h
theorem zg6 {P:Program} {w:j1} {K:j0} {tg:Expr} (it:Addr) (lo:Int) (n:Nat):Turn P w K tg (Itr lo n) [it] it (λ i h=>IsRangeIter h it (lo + (i:Nat) * 1) ((n:Int) - (i:Nat)) 1) where
 mem:=by simp
 obj:=λ i h a b c=>by
  have e:b=it:=by simpa using c
  subst e;exact ⟨_,a,λ v z=>by have D:o9 _=Q6 v:=z;cases D⟩
 keep:=λ i h f a k=>k it (by simp) _ a
 item:=by intro X l hw p q i B s σ H E I d a g;subst l hw p;obtain ⟨u,r,G,j,m,x⟩:=d it (by simp);have W:=Walks.range (prog:=X.prog) (w:=X.w) (I.ok.hd q) it lo 1 n;refine W.item i s _ _ g a λ v f y C A F=>?_;obtain ⟨t,rfl⟩:=C;have J:Inv X B σ H { s with heap:=f,toks:=y }:=I.turned (λ b o c e=>F b o (by simpa using c) e) u r j m x;refine ⟨_,rfl,go_of (s:={ s with heap:=f,toks:=y }) (n:="range_iterator") A rfl rfl (by decide) ⟨.int (lo + i),H,J,⟨t,?_⟩,⟨rfl,rfl⟩,A,λ b c=>(d b c).1⟩⟩;rw [Int.mul_one]
 done:=by intro X l hw p q i B s σ H E I d a g;subst l hw p;obtain ⟨u,r,G,j,m,x⟩:=d it (by simp);exact wpAny_pyNext_range_end (I.ok.hd q) a (by have:n<=i:=g;omega) λ f L=>⟨rfl,I.turned (t':=s.toks) (λ b o c e=>L b o c e) u r j m x⟩
 self:=λ _ _ _ _ _ a h=>wpAny_pyIter_rangeiter a h
section
variable {X:Cx} {tg:Expr}
noncomputable def iList (K:j0) (tl:TE):TI:=λ σ H R=>tl σ H λ x H1=>∃a,x=.ref a/\(∃xs,SqL K H1 a xs)/\R (Itl K a) H1
noncomputable def iTup (K:j0) (tl:TE):TI:=λ σ H R=>tl σ H λ x H1=>∃a,x=.ref a/\(∃xs,SqT K H1 a xs)/\R (Itt K a) H1
theorem z3f {l:Expr} {tl:TE} (hl:PE X l tl):PI X tg l (iList X.K tl):=by
 intro g s σ H R I h;refine thn (hl g s σ H _ I h) λ v c ⟨x,H1,I1,r1,q1⟩=>?_;obtain ⟨a,e,⟨i,d⟩,q⟩:=q1;subst e;cases r1;obtain ⟨m,k,p,j⟩:=I1.list d;refine R6 p.isList ?_;refine ⟨c.heap.objs.size,[c.heap.objs.size],_,_,H1,rfl,I1.kept (t':=c.toks) λ b o e=>D0 _ e,zhp a _,⟨_,Q0 _ rfl,rfl,rfl⟩,λ b f=>?_,q⟩;have e:b=c.heap.objs.size:=by simpa using f
 subst e;exact I1.fpOk (F0 _) (I1.hok.fresh (F0 _))
theorem pi_tup {l:Expr} {tl:TE} (hl:PE X l tl):PI X tg l (iTup X.K tl):=by
 intro g s σ H R I h;refine thn (hl g s σ H _ I h) λ v c ⟨x,H1,I1,r1,q1⟩=>?_;obtain ⟨a,e,⟨j,d⟩,q⟩:=q1;subst e;cases r1;obtain ⟨i,m,p,k⟩:=I1.tuple d;refine O3 (show c.heap.IsTuple a i.toArray from p) ?_;refine ⟨c.heap.objs.size,[c.heap.objs.size],_,_,H1,rfl,I1.kept (t':=c.toks) λ b o e=>D0 _ e,zh3 a _,⟨_,Q0 _ rfl,rfl,rfl⟩,λ b f=>?_,q⟩;have e:b=c.heap.objs.size:=by simpa using f
 subst e;exact I1.fpOk (F0 _) (I1.hok.fresh (F0 _))
theorem zk9 {pins:List (Addr×Obj)} {σ:St} {H:Hp} {s:B0} {R:It->Hp->Prop} {E:Value->B0->Prop} {lo hi:Int} {t u v:Tok} {tk:Nat} (I:Inv X pins σ H s) (h1:-(2 ^ 62)<=lo) (h2:lo < 2 ^ 62) (h3:-(2 ^ 62)<=hi) (h4:hi < 2 ^ 62)
  (q:R (Itr lo (hi - lo).toNat) H):R0 (v1 X.prog X.w) X.A (j21 (.ref s.heap.objs.size)) (PIE X pins σ tg R) E { s with heap:=s.heap.push { cls:=.type "range",data:=.fields #[.int lo t,.int hi u,.int 1 v] },toks:=tk }:=by
 refine wpAny_pyIter_range (IsRange.new ..) (small_one h1 h2 h3 h4) ?_;have a:Inv X pins σ H { s with heap:=s.heap.push { cls:=.type "range",data:=.fields #[.int lo t,.int hi u,.int 1 v] },toks:=tk }:=I.kept λ b o e=>D0 _ e;refine ⟨(s.heap.push { cls:=.type "range",data:=.fields #[.int lo t,.int hi u,.int 1 v] }).objs.size,[(s.heap.push { cls:=.type "range",data:=.fields #[.int lo t,.int hi u,.int 1 v] }).objs.size],_,_,H,rfl,
  a.kept (t':=tk) λ b o e=>D0 _ e,zg6 _ lo (hi - lo).toNat,?_,λ b d=>?_,q⟩
 ·have f:lo + ((0:Nat):Int) * 1=lo:=by simp
  have c:(((hi - lo).toNat:Nat):Int) - ((0:Nat):Int)=Builtin.Range.rangeSize lo hi 1:=by rw [rangeSize_one];split<;>omega
  show IsRangeIter _ _ (lo + ((0:Nat):Int) * 1) ((((hi - lo).toNat:Nat):Int) - ((0:Nat):Int)) 1;rw [f,c];exact Q0 _ rfl
 ·have e:b=(s.heap.push { cls:=.type "range",data:=.fields #[.int lo t,.int hi u,.int 1 v] }).objs.size:=by simpa using d
  subst e;exact a.fpOk (F0 _) (a.hok.fresh (F0 _))
noncomputable def iRng1 (ta:TA):TI:=λ σ H R=>ta σ H λ vs H1=>∃j:Int,vs=[.int j]/\-(2 ^ 62)<=j/\j < 2 ^ 62/\R (Itr 0 j.toNat) H1
theorem z1c {a:Expr} {ta:TA} {p pos:Pos} (hg:Gl X "range") (hm:X.mg "range" = none) (ha:PA X [a] ta) (hs:F1 [a] X.env=[(false,L3 a X.env)]:=by rfl):PI X tg (.Call (.Name "range" p) [a] [] pos) (iRng1 ta):=by
 intro d s σ H R I h;refine Call_ (ld_blt I hg hm boot_range (j3 (thn (ha pos d s σ H _ I h) λ f g ⟨vs,H1,I1,r1,b⟩=>?_) hs rfl));obtain ⟨j,e,b,c,q⟩:=b;subst e;cases r1 with
 | cons r rr=>cases rr;obtain ⟨t,rfl⟩:=r;exact call_range_1 (zk9 I1 (by omega) (by omega) b c (by simpa using q))
noncomputable def tFor (wi:TI) (g:TG) (tb:TS):TS:=λ D σ H=>wi σ H λ J H1=>∃W:Nat->Nat->St->Hp->Prop,(∃m,W 0 m σ H1)/\∀i m σ H,W i m σ H->
 (J.stop i H/\D.nx σ H)\/(J.go i H/\∃N:St->Hp->Prop,(∀σ' H',N σ' H'->∃m',m' < m/\W (i + 1) m' σ' H')/\∀x H',J.yld i H x H'->g x σ H' λ σ2 H2=>tb { D with nx:=N,ct:=N,bk:=D.nx } σ2 H2)
noncomputable def pinsAt (fp:List Addr) (h:Heap):List (Addr×Obj):=fp.filterMap λ b=>(h.get? b).map λ o=>(b,o)
theorem z4w {fp:List Addr} {h:Heap} {b:Addr} {o:Obj} (hb:b∈fp) (e:h.get? b=some o):(b,o)∈pinsAt fp h:=List.mem_filterMap.mpr ⟨b,hb,by rw [e];rfl⟩
theorem zcm {fp:List Addr} {h:Heap} {p:Addr×Obj} (hp:p∈pinsAt fp h):p.1∈fp/\h.get? p.1=some p.2:=by
 obtain ⟨b,c,e⟩:=List.mem_filterMap.mp hp;cases q:h.get? b with
 | none=>rw [q] at e;cases e
 | some o=>rw [q] at e;have a:(b,o)=p:=N1 e;subst a;exact ⟨c,q⟩
theorem Inv.pinned {pins:List (Addr×Obj)} {σ:St} {H:Hp} {s:B0} {fp:List Addr} (I:Inv X pins σ H s) (hf :∀b∈fp,FpOk X pins H b) (ho :∀b∈fp,∃o,s.heap.get? b=some o/\∀v,o.data≠.cell v):Inv X (pins++pinsAt fp s.heap) σ H s:=
 I.pins_of λ p h=>(List.mem_append.mp h).elim (λ z=>I.pin p (G1 _ z)) λ z=>by obtain ⟨c,e⟩:=zcm z;obtain ⟨f,i,g,_⟩:=hf p.1 c;obtain ⟨o,a,d⟩:=ho p.1 c;rw [e] at a;cases a;exact ⟨e,f,i,g,d⟩
theorem Inv.unpinned {pins pl:List (Addr×Obj)} {σ:St} {H:Hp} {s:B0} (I:Inv X (pins++pl) σ H s):Inv X pins σ H s:=I.pins_of λ p a=>I.pin p (G1 _ (a7 _ a))
theorem ps_for {iter:Expr} {body:List Stmt} {wi:TI} {g:TG} {tb:TS} {pos:Pos} (hp:PassesOwn (v1 X.prog X.w) X.A X.env X.xe) (hc:X.calm=true) (hi:PI X tg iter wi) (hg:PG X tg g) (hb:PSs X body tb)
  (hs :∀x,M8 iter X.env x=G3 x:=by intro _;rfl):PS X (.For tg iter body [] pos) (tFor wi g tb):=by
 intro l s σ H D I h;refine wpAny_For (thn (hi l s σ H _ I h) λ v s1 h1=>thn h1 λ a2 s2 L=>?_) hs;obtain ⟨it,p,B,J,O,e,I2,T,a1,C,W,⟨S,M⟩,a0⟩:=L;subst e
 -- what stays true of the iterator's objects through the loop
 have t :∀{H':Hp},(∀b∈p,H' b=none)->∀b∈p,FpOk X l H' b:=λ U b hb=>⟨U b hb,(C b hb).2⟩
 refine codeAny_forLoop_any (λ n G=>∃i σ' H',Inv X l σ' H' G/\B i G.heap/\(∀b∈p,H' b=none)/\W i n σ' H') ?_ S ⟨0,σ,O,I2,a1,λ b hb=>(C b hb).1,M⟩;rintro n F ⟨i,σ3,H3,I3,st3,fr3,w3⟩;rcases a0 i n σ3 H3 w3 with ⟨V,K⟩|⟨go,N,hN,step⟩
 ·refine V5 hp (thn (T.done X rfl rfl rfl hc i l F σ3 H3 X.xe I3 (t fr3) st3 V) λ r s4 ⟨hr,I4⟩=>?_);subst hr;exact F9 ⟨σ3,H3,I4,K⟩
 ·refine V5 hp (thn (T.item X rfl rfl rfl hc i l F σ3 H3 X.xe I3 (t fr3) st3 go) λ r s4 ⟨u,hr,h4⟩=>?_);subst hr;refine V5 hp (thn h4 λ _ E ⟨x,H5,I5,r5,y5,st5,fr5⟩=>?_);have R:=I5.pinned (t fr5) (T.obj _ _ st5);refine V5 hp (thn (hg _ E σ3 H5 x u _ R r5 (step x H5 y5)) λ _ Q ⟨σ6,H6,I6,q6⟩=>?_);refine V5 hp (thn (hb _ Q σ6 H6 _ I6 q6) λ f y k=>?_);have z :∀{c:St} {a:Hp},Inv X (l++pinsAt p E.heap) c a y->N c a->∃m,m < n/\∃i σ' H',Inv X l σ' H' y/\B i y.heap/\(∀b∈p,H' b=none)/\W i m σ' H':=λ {c a} j q=>by obtain ⟨m',hm,Y⟩:=hN c a q;refine ⟨m',hm,i + 1,c,a,j.unpinned,T.keep _ _ _ st5 λ b hb o e=>(j.pin (b,o) (G1 _ (G1 _ (z4w hb e)))).1,λ b hb=>?_,Y⟩;obtain ⟨o,e,d⟩:=T.obj _ _ st5 b hb;exact (j.pin (b,o) (G1 _ (G1 _ (z4w hb e)))).2.1
  cases f with
  | next=>obtain ⟨c,a,j,q⟩:=k;exact z j q
  | cont=>obtain ⟨c,a,j,q⟩:=k;exact z j q
  | brk=>obtain ⟨c,a,j,k⟩:=k;exact ⟨c,a,j.unpinned,k⟩
  | ret v=>obtain ⟨Z,c,a,j,P,k⟩:=k;exact ⟨Z,c,a,j.unpinned,P,k⟩
end
theorem z62 {K:j0} {a:Addr} {xs:List V} {g:TG} {tb:TS} {D:Ends} {σ:St} {H:Hp} (Pv:Nat->St->Hp->Prop) (h0:Pv 0 σ H) (hl :∀i σ H,i<=xs.length->Pv i σ H->SqL K H a xs)
  (hs :∀i x σ H,xs[i]? = some x->Pv i σ H->g x σ H λ σ2 H2=>tb { D with nx:=Pv (i + 1),ct:=Pv (i + 1),bk:=D.nx } σ2 H2) (hd :∀σ H,Pv xs.length σ H->D.nx σ H) :
  ∃W:Nat->Nat->St->Hp->Prop,(∃m,W 0 m σ H)/\∀i m σ H,W i m σ H->
   ((Itl K a).stop i H/\D.nx σ H)\/((Itl K a).go i H/\∃N:St->Hp->Prop,(∀σ' H',N σ' H'->∃m',m' < m/\W (i + 1) m' σ' H')/\∀x H',(Itl K a).yld i H x H'->g x σ H' λ σ2 H2=>tb { D with nx:=N,ct:=N,bk:=D.nx } σ2 H2):=by
 refine ⟨λ i m σ H=>m=xs.length - i/\i<=xs.length/\Pv i σ H,⟨xs.length,by simp,d3 _,h0⟩,?_⟩;rintro i m σ H ⟨rfl,hi,p⟩;have q:=hl i σ H hi p;by_cases hlt:i < xs.length
 ·refine .inr ⟨⟨xs,xs[i],q,by simp [hlt]⟩,Pv (i + 1),λ σ' H' b=>⟨xs.length - (i + 1),by omega,rfl,hlt,b⟩,λ x H' y=>?_⟩;obtain ⟨e,y⟩:=y;subst e;exact hs i x σ _ (y xs q) p
 ·have e:i=xs.length:=by omega
  subst e;exact .inl ⟨⟨xs,q,F0 _⟩,hd σ H p⟩
theorem z4u {lo:Int} {n:Nat} {g:TG} {tb:TS} {D:Ends} {σ:St} {H:Hp} (Pv:Nat->St->Hp->Prop) (h0:Pv 0 σ H)
  (hs :∀i σ H,i < n->Pv i σ H->g (.int (lo + i)) σ H λ σ2 H2=>tb { D with nx:=Pv (i + 1),ct:=Pv (i + 1),bk:=D.nx } σ2 H2) (hd :∀σ H,Pv n σ H->D.nx σ H) :
  ∃W:Nat->Nat->St->Hp->Prop,(∃m,W 0 m σ H)/\∀i m σ H,W i m σ H->
   ((Itr lo n).stop i H/\D.nx σ H)\/((Itr lo n).go i H/\∃N:St->Hp->Prop,(∀σ' H',N σ' H'->∃m',m' < m/\W (i + 1) m' σ' H')/\∀x H',(Itr lo n).yld i H x H'->g x σ H' λ σ2 H2=>tb { D with nx:=N,ct:=N,bk:=D.nx } σ2 H2):=by
 refine ⟨λ i m σ H=>m=n - i/\i<=n/\Pv i σ H,⟨n,by simp,d3 _,h0⟩,?_⟩;rintro i m σ H ⟨rfl,hi,p⟩;by_cases hlt:i < n
 ·refine .inr ⟨hlt,Pv (i + 1),λ σ' H' a=>⟨n - (i + 1),by omega,rfl,hlt,a⟩,λ x H' y=>?_⟩;obtain ⟨e,y⟩:=y;subst e y;exact hs i σ _ hlt p
 ·have e:i=n:=by omega
  subst e;exact .inl ⟨F0 _,hd σ H p⟩
noncomputable abbrev R2:=V->V->Hp->VK->Prop
def OpR (X:Cx) (f:Value->Value->Sem Value) (r:R2):Prop:=
 ∀(pins:List (Addr×Obj)) (s:B0) (σ:St) (H:Hp) (x y:V) (v u:Value) (Q:VK),Inv X pins σ H s->RelV x v->RelV y u->r x y H Q->
  R0 (v1 X.prog X.w) X.A (f v u) (EP X pins σ Q) X.xe s
def UnR (X:Cx) (f:Value->Sem Value) (r:V->Hp->VK->Prop):Prop:=
 ∀(pins:List (Addr×Obj)) (s:B0) (σ:St) (H:Hp) (x:V) (v:Value) (Q:VK),Inv X pins σ H s->RelV x v->r x H Q->
  R0 (v1 X.prog X.w) X.A (f v) (EP X pins σ Q) X.xe s
def CallR (X:Cx) (f:Value) (r:List V->Hp->VK->Prop):Prop:=
 ∀(pins:List (Addr×Obj)) (s:B0) (σ:St) (H:Hp) (xs:List V) (us:List Value) (Q:VK),Inv X pins σ H s->Vals xs us->r xs H Q->
  R0 (v1 X.prog X.w) X.A (call f us) (EP X pins σ Q) X.xe s
noncomputable def tOp (r:R2) (ta tb:TE):TE:=λ σ H Q=>ta σ H λ x H1=>tb σ H1 λ y H2=>r x y H2 Q
noncomputable def tUn (r:V->Hp->VK->Prop) (ta:TE):TE:=λ σ H Q=>ta σ H λ x H1=>r x H1 Q
noncomputable def rI (C:Int->Int->Prop) (g:Int->Int->V):R2:=λ x y H Q=>∃i j,x=.int i/\y=.int j/\C i j/\Q (g i j) H
noncomputable def rI0 (g:Int->Int->V):R2:=λ x y H Q=>∃i j,x=.int i/\y=.int j/\Q (g i j) H
def rU (g:Int->V):V->Hp->VK->Prop:=λ x H Q=>∃i,x=.int i/\Q (g i) H
section
variable {X:Cx} {a b c:Expr} {ta tb tc:TE} {pos:Pos}
theorem binT (ha:PE X a ta) (hb:PE X b tb) {pins:List (Addr×Obj)} {s:B0} {σ:St} {H:Hp} {R:V->V->Hp->Prop} (I:Inv X pins σ H s)
  (h:ta σ H λ x H1=>tb σ H1 λ y H2=>R x y H2) {Q:Value->B0->Prop} {f:Value->Value->Sem Value}
  (hf :∀v u s2 x y H2,Inv X pins σ H2 s2->RelV x v->RelV y u->R x y H2->R0 (v1 X.prog X.w) X.A (f v u) Q X.xe s2) :
  R0 (v1 X.prog X.w) X.A (L3 a X.env) (λ v s₁=>R0 (v1 X.prog X.w) X.A (L3 b X.env) (λ u s₂=>R0 (v1 X.prog X.w) X.A (f v u) Q X.xe s₂) X.xe s₁) X.xe s:=by
 refine thn (ha pins s σ H _ I h) λ v c ⟨x,H1,I1,r1,q1⟩=>?_;refine thn (hb pins c σ H1 _ I1 q1) λ u s2 ⟨y,H2,I2,r2,q2⟩=>?_;exact hf v u s2 x y H2 I2 r1 r2 q2
theorem pe_op {op:Operator} {r:R2} (ho:OpR X (A5 op) r) (ha:PE X a ta) (hb:PE X b tb):PE X (.BinOp a op b pos) (tOp r ta tb):=by intro g s σ H Q I h;exact wpAny_BinOp (binT ha hb I h λ v u d x y c f e i q=>ho g d σ c x y v u Q f e i q)
theorem pe_un {op:UnaryOp} {r:V->Hp->VK->Prop} (ho:UnR X (unaryOp op) r) (ha:PE X a ta):PE X (.UnaryOp op a pos) (tUn r ta):=by intro b s σ H Q I h;exact UnaryOp_ (thn (ha b s σ H _ I h) λ v c ⟨x,H1,I1,r1,q1⟩=>ho b c σ H1 x v Q I1 r1 q1)
theorem opI {f:Value->Value->Sem Value} {C:Int->Int->Prop} {g:Int->Int->Int}
  (rule :∀(i j:Int) (t u:Tok) (s:B0) (Q:Value->B0->Prop) (E:Value->B0->Prop),C i j->Q (.int (g i j) s.toks) { s with toks:=s.toks + 1 }->R0 (v1 X.prog X.w) X.A (f (.int i t) (.int j u)) Q E s) :
  OpR X f (rI C λ i j=>.int (g i j)):=by
 intro e s σ H x y v u Q I b d h;obtain ⟨i,j,rfl,rfl,c,q⟩:=h;obtain ⟨t,rfl⟩:=b;obtain ⟨a,rfl⟩:=d;exact rule i j t a s _ _ c ⟨.int (g i j),H,I.tok _,⟨_,rfl⟩,q⟩
theorem opI0 {f:Value->Value->Sem Value} {g:Int->Int->Int}
  (rule :∀(i j:Int) (t u:Tok) (s:B0) (Q:Value->B0->Prop) (E:Value->B0->Prop),Q (.int (g i j) s.toks) { s with toks:=s.toks + 1 }->R0 (v1 X.prog X.w) X.A (f (.int i t) (.int j u)) Q E s) :
  OpR X f (rI0 λ i j=>.int (g i j)):=by
 intro d s σ H x y v u Q I b c h;obtain ⟨i,j,rfl,rfl,q⟩:=h;obtain ⟨t,rfl⟩:=b;obtain ⟨a,rfl⟩:=c;exact rule i j t a s _ _ ⟨.int (g i j),H,I.tok _,⟨_,rfl⟩,q⟩
theorem opB0 {f:Value->Value->Sem Value} {g:Int->Int->Bool}
  (rule :∀(i j:Int) (t u:Tok) (s:B0) (Q:Value->B0->Prop) (E:Value->B0->Prop),Q (.bool (g i j)) s->R0 (v1 X.prog X.w) X.A (f (.int i t) (.int j u)) Q E s) :
  OpR X f (rI0 λ i j=>.bl (g i j)):=by
 intro d s σ H x y v u Q I b c h;obtain ⟨i,j,rfl,rfl,q⟩:=h;obtain ⟨t,rfl⟩:=b;obtain ⟨a,rfl⟩:=c;exact rule i j t a s _ _ ⟨.bl (g i j),H,I,rfl,q⟩
def CPow (i j:Int):Prop:=0<=j/\j<=1000000/\i.natAbs < 2 ^ 64
def CMul (i j:Int):Prop:=(-(2 ^ 64) < i/\i < 2 ^ 64)\/(-(2 ^ 64) < j/\j < 2 ^ 64)
theorem CMul.ok {i j:Int} (h:CMul i j):IntMulOk i j:=by
 rcases h with ⟨b,a⟩|⟨b,a⟩
 ·exact .of_left (intBits_le_64 b a)
 ·exact .of_right (intBits_le_64 b a)
theorem op_add:OpR X (A5 .Add) (rI0 λ i j=>.int (i + j)):=opI0 λ _ _ _ _ _ _ _ q=>add_int q
theorem op_sub:OpR X (A5 .Sub) (rI0 λ i j=>.int (i - j)):=opI0 λ _ _ _ _ _ _ _ q=>sub_int q
theorem op_mul:OpR X (A5 .Mult) (rI CMul λ i j=>.int (i * j)):=opI λ _ _ _ _ _ _ _ a q=>mul_int q a.ok
theorem op_mod:OpR X (A5 .Mod) (rI (λ _ j=>0 < j) λ i j=>.int (i % j)):=opI λ i j _ _ _ _ _ a q=>by have b:(0:Int) < j:=a;exact mod_int' (by omega) (by rw [Int.fmod_eq_emod_of_nonneg i (by omega)];exact q)
theorem op_pow:OpR X (A5 .Pow) (rI CPow λ i j=>.int (i ^ j.toNat)):=opI λ _ _ _ _ _ _ _ a q=>pow_int_small a.1 a.2.1 a.2.2 q
theorem unI {f:Value->Sem Value} {g:Int->Int}
  (rule :∀(i:Int) (t:Tok) (s:B0) (Q:Value->B0->Prop) (E:Value->B0->Prop),Q (.int (g i) s.toks) { s with toks:=s.toks + 1 }->R0 (v1 X.prog X.w) X.A (f (.int i t)) Q E s) :
  UnR X f (rU λ i=>.int (g i)):=by
 intro b s σ H x v Q I a h;obtain ⟨i,rfl,q⟩:=h;obtain ⟨t,rfl⟩:=a;exact rule i t s _ _ ⟨.int (g i),H,I.tok _,⟨_,rfl⟩,q⟩
theorem un_neg:UnR X (unaryOp .USub) (rU λ i=>.int (-i)):=unI λ _ _ _ _ _ q=>neg_int q
end
noncomputable def scal:V->V->Bool
 | .non,.non=>true | .non,.int _=>true | .int _,.non=>true | .non,.bl _=>true | .bl _,.non=>true | .non,.str _=>true | .str _,.non=>true
 | .int _,.int _=>true | .bl _,.bl _=>true | .str _,.str _=>true | .byt _,.byt _=>true
 | .int _,.str _=>true | .str _,.int _=>true | .bl _,.str _=>true | .str _,.bl _=>true
 | _,_=>false
noncomputable def rEq:R2:=λ x y H Q=>scal x y=true/\Q (.bl (decide (x=y))) H
noncomputable def rNe:R2:=λ x y H Q=>scal x y=true/\Q (.bl (!decide (x=y))) H
theorem zj4 {i j:Int}:decide (V.int i=V.int j)=(i == j):=by rw [Bool.eq_iff_iff];simp
theorem dec_bl {i j:Bool}:decide (V.bl i=V.bl j)=(i == j):=by rw [Bool.eq_iff_iff];simp
theorem zim {i j:Str}:decide (V.str i=V.str j)=(i == j):=by rw [Bool.eq_iff_iff];simp
theorem zis {i j:Array UInt8}:decide (V.byt i=V.byt j)=(i.toList == j.toList):=by rw [Bool.eq_iff_iff];cases i;cases j;simp
section
variable {X:Cx} {a b c:Expr} {ta tb tc:TE} {pos:Pos}
theorem fin_bl {pins:List (Addr×Obj)} {σ:St} {H:Hp} {s:B0} {Q:VK} {k k':Bool} (I:Inv X pins σ H s) (q:Q (.bl k) H) (e:k=k'):EP X pins σ Q (.bool k') s:=by subst e;exact ⟨.bl k,H,I,rfl,q⟩
theorem op_eq:OpR X (P2 .Eq) rEq:=by
 intro e s σ H x y v u Q I d a h;obtain ⟨c,q⟩:=h;cases x with
 | non=>
  cases d;cases y with
  | non=>cases a;exact PySem.EqNone.eq_none_none (fin_bl I q (by simp))
  | bl j=>cases a;exact PySem.EqNone.eq_none_bool (fin_bl I q (by simp))
  | int j=>obtain ⟨b,rfl⟩:=a;exact PySem.EqNone.eq_none_int (fin_bl I q (by simp))
  | str j=>obtain ⟨b,rfl⟩:=a;exact PySem.EqNone.eq_none_str (fin_bl I q (by simp))
  | _=>exact absurd (show false=true from c) U0
 | bl i=>
  cases d;cases y with
  | non=>cases a;exact PySem.EqNone.eq_bool_none (fin_bl I q (by simp))
  | bl j=>cases a;exact eq_bool (fin_bl I q dec_bl)
  | str j=>obtain ⟨b,rfl⟩:=a;exact PySem.EqMixed.eq_bool_str (fin_bl I q (by simp))
  | _=>exact absurd (show false=true from c) U0
 | int i=>
  obtain ⟨t,rfl⟩:=d;cases y with
  | non=>cases a;exact PySem.EqNone.eq_int_none (fin_bl I q (by simp))
  | int j=>obtain ⟨b,rfl⟩:=a;exact eq_int (fin_bl I q zj4)
  | str j=>obtain ⟨b,rfl⟩:=a;exact PySem.EqMixed.eq_int_str (fin_bl I q (by simp))
  | _=>exact absurd (show false=true from c) U0
 | str i=>
  obtain ⟨t,rfl⟩:=d;cases y with
  | non=>cases a;exact PySem.EqNone.eq_str_none (fin_bl I q (by simp))
  | bl j=>cases a;exact PySem.EqMixed.eq_str_bool (fin_bl I q (by simp))
  | int j=>obtain ⟨b,rfl⟩:=a;exact PySem.EqMixed.eq_str_int (fin_bl I q (by simp))
  | str j=>obtain ⟨b,rfl⟩:=a;exact eq_str (fin_bl I q zim)
  | _=>exact absurd (show false=true from c) U0
 | byt i=>
  obtain ⟨t,rfl⟩:=d;cases y with
  | byt j=>obtain ⟨b,rfl⟩:=a;exact PySem.W.eq_bytes (fin_bl I q zis)
  | _=>exact absurd (show false=true from c) U0
 | _=>cases y<;>exact absurd (show false=true from c) U0
theorem op_ne:OpR X (P2 .NotEq) rNe:=by
 intro e s σ H x y v u Q I d a h;obtain ⟨c,q⟩:=h;cases x with
 | non=>
  cases d;cases y with
  | non=>cases a;exact PySem.EqNone.ne_none_none (fin_bl I q (by simp))
  | bl j=>cases a;exact PySem.EqNone.ne_none_bool (fin_bl I q (by simp))
  | int j=>obtain ⟨b,rfl⟩:=a;exact PySem.EqNone.ne_none_int (fin_bl I q (by simp))
  | str j=>obtain ⟨b,rfl⟩:=a;exact PySem.EqNone.ne_none_str (fin_bl I q (by simp))
  | _=>exact absurd (show false=true from c) U0
 | bl i=>
  cases d;cases y with
  | non=>cases a;exact PySem.EqNone.ne_bool_none (fin_bl I q (by simp))
  | bl j=>cases a;exact ne_bool (fin_bl I q (congrArg not dec_bl))
  | str j=>obtain ⟨b,rfl⟩:=a;exact PySem.EqMixed.ne_bool_str (fin_bl I q (by simp))
  | _=>exact absurd (show false=true from c) U0
 | int i=>
  obtain ⟨t,rfl⟩:=d;cases y with
  | non=>cases a;exact PySem.EqNone.ne_int_none (fin_bl I q (by simp))
  | int j=>obtain ⟨b,rfl⟩:=a;exact ne_int (fin_bl I q (congrArg not zj4))
  | str j=>obtain ⟨b,rfl⟩:=a;exact PySem.EqMixed.ne_int_str (fin_bl I q (by simp))
  | _=>exact absurd (show false=true from c) U0
 | str i=>
  obtain ⟨t,rfl⟩:=d;cases y with
  | non=>cases a;exact PySem.EqNone.ne_str_none (fin_bl I q (by simp))
  | bl j=>cases a;exact PySem.EqMixed.ne_str_bool (fin_bl I q (by simp))
  | int j=>obtain ⟨b,rfl⟩:=a;exact PySem.EqMixed.ne_str_int (fin_bl I q (by simp))
  | str j=>obtain ⟨b,rfl⟩:=a;exact ne_str (fin_bl I q (congrArg not zim))
  | _=>exact absurd (show false=true from c) U0
 | byt i=>
  obtain ⟨t,rfl⟩:=d;cases y with
  | byt j=>obtain ⟨b,rfl⟩:=a;exact PySem.W.ne_bytes (fin_bl I q (congrArg not zis))
  | _=>exact absurd (show false=true from c) U0
 | _=>cases y<;>exact absurd (show false=true from c) U0
theorem op_lt:OpR X (P2 .Lt) (rI0 λ i j=>.bl (decide (i < j))):=opB0 λ _ _ _ _ _ _ _ q=>lt_int q
theorem op_le:OpR X (P2 .LtE) (rI0 λ i j=>.bl (decide (i<=j))):=opB0 λ _ _ _ _ _ _ _ q=>le_int q
theorem op_gt:OpR X (P2 .Gt) (rI0 λ i j=>.bl (decide (j < i))):=opB0 λ _ _ _ _ _ _ _ q=>gt_int q
theorem op_isN:OpR X (P2 .Is) (λ x y H Q=>y=.non/\Q (.bl (decide (x=.non))) H):=by
 intro c s σ H x y v u Q I a b h;obtain ⟨rfl,q⟩:=h;cases b;refine is_none_gen (fin_bl I q ?_);cases x<;>first
  | (cases a;rfl)
  | (obtain ⟨t,rfl⟩:=a;rfl)
theorem z9j:OpR X (P2 .IsNot) (λ x y H Q=>y=.non/\Q (.bl (!decide (x=.non))) H):=by
 intro c s σ H x y v u Q I a b h;obtain ⟨rfl,q⟩:=h;cases b;refine isnot_none_gen (fin_bl I q ?_);cases x<;>first
  | (cases a;rfl)
  | (obtain ⟨t,rfl⟩:=a;rfl)
theorem OpR.or {f:Value->Value->Sem Value} {r r':R2} (h:OpR X f r) (h':OpR X f r'):OpR X f (λ x y H Q=>r x y H Q\/r' x y H Q):=by
 intro b s σ H x y v u Q I a c q;rcases q with q|q
 ·exact h b s σ H x y v u Q I a c q
 ·exact h' b s σ H x y v u Q I a c q
theorem nomark (b:Expr) {op:CmpOp} (h:op≠.In:=by decide) (h2:op≠.NotIn:=by decide):S8 op b=false:=by
 have a:(op == CmpOp.In)=false:=by cases op<;>first|rfl|exact absurd rfl h
 have c:(op == CmpOp.NotIn)=false:=by cases op<;>first|rfl|exact absurd rfl h2
 cases b<;>simp [S8,a,c]
theorem z0u {op:CmpOp} {r:R2} (ho:OpR X (P2 op) r) (ha:PE X a ta) (hb:PE X b tb) (hm:S8 op b=false):PE X (.Compare a [op] [b] pos) (tOp r ta tb):=by intro g s σ H Q I h;exact wpAny_Compare1 (binT ha hb I h λ v u d x y c f e i q=>ho g d σ c x y v u Q f e i q) hm
noncomputable def tTest (t:TE):TT:=λ σ H Q=>t σ H λ x H'=>∃k,x=.bl k/\Q k H'
theorem z08 {op:CmpOp} {r:R2} (ho:OpR X (P2 op) r) (ha:PE X a ta) (hb:PE X b tb) (hm:S8 op b=false):PT X (.Compare a [op] [b] pos) (tTest (tOp r ta tb)):=by
 intro d s σ H Q I h;refine wpAny_isTrue_Compare1 (thn (ha d s σ H _ I h) λ v f ⟨x,H1,I1,r1,q1⟩=>thn (hb d f σ H1 _ I1 q1) λ u g ⟨y,H2,I2,r2,q2⟩=>thn (ho d g σ H2 x y v u _ I2 r1 r2 q2) λ c i ⟨z,H3,I3,r3,k,e,q3⟩=>?_) hm;subst e;cases r3;exact P4 ⟨H3,I3,q3⟩
noncomputable def tChain (r r':R2) (ta tb tc:TE):TE:=λ σ H Q=>ta σ H λ x H1=>tb σ H1 λ y H2=>r x y H2 λ z H3=>∃k,z=.bl k/\
 (if k=true then tc σ H3 λ w' H4=>r' y w' H4 Q else Q (.bl false) H3)
theorem zjq {op op':CmpOp} {r r':R2} (ho:OpR X (P2 op) r) (ho':OpR X (P2 op') r') (ha:PE X a ta) (hb:PE X b tb) (hc:PE X c tc)
  (hm:lastMarks [op,op'] [b,c]=false:=by with_unfolding_all rfl):PE X (.Compare a [op,op'] [b,c] pos) (tChain r r' ta tb tc):=by
 intro f s σ H Q I h;refine Compare_chain (thn (ha f s σ H _ I h) λ v i ⟨x,H1,I1,r1,q1⟩=>chain_link (thn (hb f i σ H1 _ I1 q1) λ u j ⟨y,H2,I2,r2,q2⟩=>thn (ho f j σ H2 x y v u _ I2 r1 r2 q2) λ d l ⟨z,H3,I3,r3,k,e,q3⟩=>?_)) hm;subst e;cases r3;refine P4 ?_;cases k with
 | false=>exact ite_ff ⟨.bl false,H3,I3,rfl,q3⟩
 | true=>exact ite_tt (chain_last (thn (hc f l σ H3 _ I3 q3) λ m g ⟨z',H4,I4,r4,q4⟩=>ho' f g σ H4 y z' u m Q I4 r2 r4 q4))
theorem line63:(sizeLine:Nat) < 2 ^ 63:=by rw [j2a];decide
theorem op_add_str:OpR X (A5 .Add) (λ x y H Q=>∃i j,x=.str i/\y=.str j/\i.length + j.length<=sizeLine/\Q (.str (i++j)) H):=by intro f s σ H x y v u Q I c d h;obtain ⟨i,j,rfl,rfl,b,q⟩:=h;obtain ⟨t,rfl⟩:=c;obtain ⟨a,rfl⟩:=d;exact add_str (λ a e=>⟨.str (i++j),H,I.tok _,⟨_,rfl⟩,q⟩) b
theorem vals1 {x:V} {us:List Value} (r:Vals [x] us) :∃u,us=[u]/\RelV x u:=by
 cases r with
 | cons r1 r2=>cases r2;exact ⟨_,rfl,r1⟩
theorem vals2 {x y:V} {us:List Value} (r:Vals [x,y] us) :∃u w',us=[u,w']/\RelV x u/\RelV y w':=by
 cases r with
 | cons r1 r2=>
  cases r2 with
  | cons r3 r4=>cases r4;exact ⟨_,_,rfl,r1,r3⟩
theorem call_int1:CallR X (.type "int") (λ xs H Q=>(∃i,xs=[.int i]/\Q (.int i) H)\/∃k,xs=[.bl k]/\Q (.int (if k then 1 else 0)) H):=by
 intro c s σ H xs b Q I r h;rcases h with ⟨i,rfl,q⟩|⟨k,rfl,q⟩
 ·obtain ⟨u,rfl,t,rfl⟩:=vals1 r;exact call_int_int ⟨.int i,H,I,⟨_,rfl⟩,q⟩
 ·obtain ⟨u,rfl,a⟩:=vals1 r;cases a;exact call_int_bool ⟨.int (if k then 1 else 0),H,I.tok _,⟨_,rfl⟩,q⟩
end
structure ObjM (h:Heap) (x dx C:Addr) (mA:Str->Option Value):Prop where
 obj:h.get? x=some (K4 C dx)
 ns:h.Ns1 dx mA
 ne:dx≠x
theorem zi2 {h:Heap} {dx:Addr} {mA:Str->Option Value} (n:h.Ns1 dx mA) :∃od,h.get? dx=some od/\∀name,U8 name od=some (mA name):=by
 obtain ⟨o,b,l,f,i,c,_,j⟩:=n;refine ⟨o,f,λ name=>?_⟩;have e:=j name;unfold nsFind findBy at e;rw [<-Array.find?_toList] at e;unfold U8;rw [i];dsimp only;split
 ·rename_i y q;rw [q] at e;exact congrArg some e
 ·rename_i q;rw [q] at e;have a:b.toList.any (·.refKey)=false:=by rw [List.any_eq_false];intro y g;obtain ⟨z,t,d⟩:=c y (Array.mem_toList_iff.mp g);simp [DictEntry.refKey,d]
  have k:¬ b.toList.any (·.refKey)=true:=by rw [a];exact U0
  rw [if_neg k];exact congrArg some e
theorem ObjM.look {h:Heap} {x dx C:Addr} {mA:Str->Option Value} (I:ObjM h x dx C mA) :∃od,PySem.W.InstAt h x (K4 C dx) C (some od)/\∀name,U8 name od=some (mA name):=
 let ⟨od,ho,hl⟩:=zi2 I.ns
 ⟨od,⟨I.obj,rfl,rfl,ho⟩,hl⟩
section
variable {prog:Program} {w:j1} {A:V1} {E:Value->B0->Prop} {s:B0} {K:j0} {x dx C f:Addr} {mA:Str->Option Value} {name:Str} {v:Value}
theorem zlk {expr:Bool} {Q:Value->B0->Prop} (X:K.In s.heap) (I:ObjM s.heap x dx C mA) (hg:a8 K C name=true) (hh:O9 K C=true)
  (ha:R3 K (.ref C) name=some none) (hv:mA name=some v) (hv':PySem.W.handedIn v=true) (h:Q v { s with toks:=s.toks + 1 }) :
  R0 (v1 prog w) A (getAttr (.ref x) name expr) Q E s:=by
 obtain ⟨b,J,a⟩:=I.look;exact PySem.W.get_value X J (d9 hg).1 (PySem.W.findObj_own hh ha rfl (by rw [a,hv])) hv' h
theorem zk2 {pl:Sem Bool} {Q:Value×List Value->B0->Prop} (X:K.In s.heap) (I:ObjM s.heap x dx C mA) (hg:a8 K C name=true)
  (hf:R3 K (.ref C) name=some (some (.ref f))) (ht:j24 K (.ref f)=true) (hv:mA name=none) (h:Q (.ref f,[.ref x]) s) :
  R0 (v1 prog w) A (getMethod (.ref x) name pl) Q E s:=by
 obtain ⟨b,J,a⟩:=I.look;exact PySem.W.method_fn X J (d9 hg).1 (d9 hg).2 hf (beq_iff_eq.mp ht) (by show (U8 name b).map (·.isSome)=some false;rw [a,hv];rfl) h
theorem zkj {ns:List Str} {Q:Unit->B0->Prop} (X:K.In s.heap) (I:ObjM s.heap x dx C mA)
  (hs:R3 K (.ref C) "__setattr__" = some (some (.builtin "object.__setattr__"))) (hp:j4d K C=true) (ht:j0e K C name=some none) (hh:O9 K C=true)
  (hw:j2j mA ns) (hsz:ns.length<=sizeLine)
  (h :∀h',ObjM h' x dx C (λ y=>if y=name then some v else mA y)->o5 dx s.heap h'->Q () { s with heap:=h',toks:=s.toks + 2 }) :
  R0 (v1 prog w) A (setAttr (.ref x) name v) Q E s:=by
 obtain ⟨p,J,m⟩:=I.look;refine PySem.W.set_plain X J hs (PySem.W.osa_open (s:={ s with toks:=s.toks + 1 }) (r:=none) X J hp ht λ b=>?_);obtain ⟨o,i,e⟩:=PySem.W.any_some hh;have g:s.heap.get? x=some ⟨.ref C,some dx,.plain,#[]⟩:=I.obj;refine c0 (C0 (c0 (c0 (wpAny_loadPart g (c0 (PySem.W.Looks.here (s:={ s with toks:=s.toks + 1 }) (PySem.W.looks_clsIn X i) ?_))))));rw [e];refine C0 (a:=some dx) (c0 (C0 (c0 ?_)));refine wpAny_nsSet1 (s:={ s with toks:=s.toks + 1 }) I.ns λ h' c d=>?_;obtain ⟨n,q,l,f,k,j⟩:=c.count (PySem.Within.cons name v hw);refine c0 (wpAny_lookBehind f (by rw [k];exact pastItsLine_dict (G0 j (by rw [y1];omega))) ?_);exact C0 (h _ ⟨(d.2 _ (N2 I.ne)).trans I.obj,c,I.ne⟩ d)
theorem zk4 {R:j11->B0->Prop} {vs:List Value} {kw:List (Str×Value)} (X:K.In s.heap) (hm:PySem.W.makesIn K C=true)
  (hi:R3 K (.ref C) "__init__" = some (some (.ref f))) (hf:PySem.W.typeIn K (.ref f)=some (.type "function"))
  (h:Q4 (v1 prog w) (A.under (.builtin "type.__call__" ⟨.ref C :: vs,kw⟩)) (.call (.ref f) ⟨.ref (s.heap.objs.size + 1) :: vs,kw⟩) (PySem.W.InitBack (s.heap.objs.size + 1) R)
   { s with heap:=(s.heap.push PySem.W.emptyDict).push (K4 C s.heap.objs.size) }) :
  Q4 (v1 prog w) A (.call (.ref C) ⟨vs,kw⟩) R s:=by
 obtain ⟨b,g,d,t,c⟩:=s;exact PySem.W.make_core (PySem.W.makes_of X hm) (PySem.W.looks_findIn X hi) (λ a=>PySem.W.bind_fn X a hf) (.inl rfl) h
end
noncomputable def putF (f:Str) (v:V):List (Str×V)->List (Str×V)
 | []=>[(f,v)]
 | (g,x) :: r=>if g=f then (g,v) :: r else (g,x) :: putF f v r
theorem z3o (f g:Str) (v:V) :∀fs:List (Str×V),(putF f v fs).lookup g=if g=f then some v else fs.lookup g
 | []=>by
  show b7 g [(f,v)]=_;by_cases h:g=f
  ·have a:(g == f)=true:=beq_iff_eq.mpr h;simp only [b7,a,if_pos h]
  ·have a:(g == f)=false:=beq_eq_false_iff_ne.mpr h;simp only [b7,a,if_neg h]
 | (k,x) :: r=>by
  have b:=z3o f g v r;rw [show putF f v ((k,x) :: r)=(if k=f then (k,v) :: r else (k,x) :: putF f v r) from rfl];by_cases hk:k=f
  ·rw [if_pos hk];by_cases h:g=k
   ·have a:(g == k)=true:=beq_iff_eq.mpr h;simp only [b7,a,if_pos (h.trans hk)]
   ·have a:(g == k)=false:=beq_eq_false_iff_ne.mpr h;simp only [b7,a,if_neg (λ e:g=f=>h (e.trans hk.symm))]
  ·rw [if_neg hk];by_cases h:g=k
   ·have a:(g == k)=true:=beq_iff_eq.mpr h;simp only [b7,a,if_neg (λ e:g=f=>hk (h.symm.trans e))]
   ·have a:(g == k)=false:=beq_eq_false_iff_ne.mpr h;simp only [b7,a];exact b
theorem z9c (f:Str) (v:V) :∀fs:List (Str×V),f∈(putF f v fs).map (·.1)/\∀g,g∈fs.map (·.1)->g∈(putF f v fs).map (·.1)
 | []=>⟨by simp [putF],λ g h=>by simp at h⟩
 | (k,x) :: r=>by
  obtain ⟨a,b⟩:=z9c f v r;rw [show putF f v ((k,x) :: r)=(if k=f then (k,v) :: r else (k,x) :: putF f v r) from rfl];by_cases hk:k=f
  ·rw [if_pos hk];subst hk;exact ⟨by simp,λ g h=>by simpa using h⟩
  ·rw [if_neg hk];refine ⟨?_,λ g h=>?_⟩
   ·rw [A1];exact D1 _ a
   ·rw [A1] at h⊢;rcases List.mem_cons.mp h with e|e
    ·exact List.mem_cons.mpr (.inl e)
    ·exact D1 _ (b g e)
theorem z8a (f:Str) (v:V) :∀fs:List (Str×V),(putF f v fs).length<=fs.length + 1
 | []=>by simp [putF]
 | (k,x) :: r=>by
  have a:=z8a f v r;rw [show putF f v ((k,x) :: r)=(if k=f then (k,v) :: r else (k,x) :: putF f v r) from rfl];by_cases hk:k=f
  ·rw [if_pos hk,y1,y1];omega
  ·rw [if_neg hk,y1,y1];omega
theorem RelO.some_of {v:V} {o:Option Value} (r:RelO (some v) o) :∃u,o=some u/\RelV v u:=by
 cases o with
 | none=>exact (show False from r).elim
 | some u=>exact ⟨u,rfl,r⟩
theorem RelO.none_of {o:Option Value} (r:RelO none o):o=none:=by
 cases o with
 | none=>rfl
 | some u=>exact (show False from r).elim
theorem zhh {v:V} {u:Value} (r:RelV v u):PySem.W.handedIn u=true:=by
 cases v with
 | non=>cases (show u=Z2 from r);rfl
 | bl b=>cases (show u=J7 b from r);rfl
 | int i=>obtain ⟨t,e⟩:=(show∃t,u=O6 i t from r);cases e;rfl
 | str x=>obtain ⟨t,e⟩:=(show∃t,u=B7 x t from r);cases e;rfl
 | byt b=>obtain ⟨t,e⟩:=(show∃t,u=Value.bytes b t from r);cases e;rfl
 | flt b=>obtain ⟨t,e⟩:=(show∃t,u=j45 b t from r);cases e;rfl
 | ref a=>cases (show u=C1 a from r);rfl
 | ty n=>cases (show u=J3 n from r);rfl
section
variable {P:Program} {w:j1} {H H':Hp} {h h':Heap} {a C dx:Addr} {fs fs':List (Str×V)}
theorem zdd (hok:HOk P w H h) (e:H a=some (.ins C dx fs)) :∃mA,ObjM h a dx C mA/\(∀f,RelO (fs.lookup f) (mA f))/\j2j mA (fs.map (·.1))/\fs.length<=1000/\H dx=some (.own a):=by
 obtain ⟨d,z,ne,b,mA,n,r,q⟩:=(show ObjOk P w H h a (.ins C dx fs) from hok a _ e)
 exact ⟨mA,⟨b,n,ne⟩,r,q,z,d⟩
end
structure Cls (K:j0) (C:Addr):Prop where
 pg:a8 K C Str.empty=true
 hd:O9 K C=true
 po:j4d K C=true
 sa:R3 K (.ref C) "__setattr__" = some (some (.builtin "object.__setattr__"))
theorem Cls.get {K:j0} {C:Addr} (c:Cls K C) (f:Str):a8 K C f=true:=c.pg
def NoAttr (K:j0) (C:Addr) (f:Str):Prop:=R3 K (.ref C) f=some none
theorem NoAttr.taker {K:j0} {C:Addr} {f:Str} (n:NoAttr K C f):j0e K C f=some none:=by unfold j0e;rw [show R3 K (.ref C) f=some none from n];rfl
structure Con (K:j0) (C:Addr) (f:Str) (v:V) (u:Value):Prop where
 at_:R3 K (.ref C) f=some (some u)
 rel:RelV v u
 get:j4c K u "__get__" = some none
 cp:PySem.W.copiedNames.contains f=false
structure Meth (K:j0) (C:Addr) (m:Str) (f:Addr):Prop where
 at_:R3 K (.ref C) m=some (some (.ref f))
 fn:j24 K (.ref f)=true
 kp:Q3 K (.ref f)=true
section
variable {X:Cx} {pins:List (Addr×Obj)} {σ:St} {H:Hp} {s:B0} {a C dx:Addr} {fs:List (Str×V)} {f:Str} {v:V} {A:V1} {E:Value->B0->Prop}
theorem zgb {b:Bool} {Q:Value->B0->Prop} (I:Inv X pins σ H s) (e:H a=some (.ins C dx fs)) (c:Cls X.K C) (n:NoAttr X.K C f) (l:fs.lookup f=some v)
  (h :∀u s',Inv X pins σ H s'->RelV v u->Q u s'):R0 (v1 X.prog X.w) A (getAttr (.ref a) f b) Q E s:=by
 obtain ⟨g,O,r,_,_,_⟩:=zdd I.hok e;obtain ⟨u,i,d⟩:=RelO.some_of (v:=v) (o:=g f) (by rw [<-l];exact r f);exact zlk I.kIn O (c.get f) c.hd n i (zhh d) (h u _ (I.tok _) d)
theorem zgm {m:Str} {g:Addr} {pl:Sem Bool} {Q:Value×List Value->B0->Prop} (I:Inv X pins σ H s) (e:H a=some (.ins C dx fs)) (c:Cls X.K C) (k:Meth X.K C m g) (l:fs.lookup m=none)
  (h:Q (.ref g,[.ref a]) s):R0 (v1 X.prog X.w) A (getMethod (.ref a) m pl) Q E s:=by
 obtain ⟨b,O,r,_,_,_⟩:=zdd I.hok e;have d:b m=none:=RelO.none_of (by rw [<-l];exact r m);exact zk2 I.kIn O (c.get m) k.at_ k.fn d h
theorem zeu {y:V} {u:Value} {Q:Unit->B0->Prop} (I:Inv X pins σ H s) (e:H a=some (.ins C dx fs)) (c:Cls X.K C) (n:NoAttr X.K C f) (hl:fs.length < 1000) (ry:RelV y u)
  (h :∀s',Inv X pins σ (upd H a (.ins C dx (putF f y fs))) s'->Q () s'):R0 (v1 X.prog X.w) A (setAttr (.ref a) f u) Q E s:=by
 obtain ⟨j,O,r,k,_,i⟩:=zdd I.hok e;have l:(fs.map (·.1)).length<=sizeLine:=by rw [M0,j2a];omega
 refine zkj I.kIn O c.sa c.po n.taker c.hd k l λ m d t=>h _ ?_;have v :∃o,m.get? dx=some o:=let ⟨o,_,_,e',_⟩:=d.ns;⟨o,e'⟩;refine I.write (x:=a) (e:=dx) (by rw [e];exact True.intro) (.inr i) (λ b q p z=>(t.2 b p).trans z) v ?_;refine ⟨by rw [upd_ne O.ne];exact i,?_,O.ne,d.obj,_,d.ns,λ g=>?_,λ g B=>?_⟩
 ·have:=z8a f y fs;omega
 ·show RelO ((putF f y fs).lookup g) (if g=f then some u else j g);rw [z3o];by_cases q:g=f
  ·rw [if_pos q,if_pos q];exact ry
  ·rw [if_neg q,if_neg q];exact r g
 ·by_cases q:g=f
  ·rw [q];exact (z9c f y fs).1
  ·refine (z9c f y fs).2 g (k g λ z=>B ?_);show (if g=f then some u else j g)=none;rw [if_neg q];exact z
theorem Inv.made (I:Inv X pins σ H s):Inv X pins σ (upd (upd H s.heap.objs.size (.own (s.heap.objs.size + 1))) (s.heap.objs.size + 1) (.ins C s.heap.objs.size []))
  { s with heap:=(s.heap.push PySem.W.emptyDict).push (K4 C s.heap.objs.size) }:=by
 have c:(s.heap.push PySem.W.emptyDict).get? s.heap.objs.size=some PySem.W.emptyDict:=Q0 s.heap rfl;have i:((s.heap.push PySem.W.emptyDict).push (K4 C s.heap.objs.size)).get? (s.heap.objs.size + 1)=some (K4 C s.heap.objs.size):=by
  have:=Q0 (s.heap.push PySem.W.emptyDict) (o:=K4 C s.heap.objs.size) rfl
  rwa [A2] at this
 have d:(s.heap.push PySem.W.emptyDict).Ns s.heap.objs.size (λ _=>none):=⟨PySem.W.emptyDict,#[],_,c,rfl,(λ e f=>absurd f (by simp)),λ _=>rfl⟩
 have h:=I.laid (a:=s.heap.objs.size) (o:=.own (s.heap.objs.size + 1)) (h':=s.heap.push PySem.W.emptyDict) (t':=s.toks) (λ b u q=>D0 _ q) (F0 _) ⟨_,c⟩;refine h.laid (a:=s.heap.objs.size + 1) (o:=.ins C s.heap.objs.size []) (t':=s.toks) (λ b u q=>D0 _ q) (L7 (A2 _ _)) ?_;have ne:s.heap.objs.size≠s.heap.objs.size + 1:=X0 (C2 _);refine ⟨by rw [upd_ne ne,upd_same],d3 _,ne,i,λ _=>none,(Heap.Ns1.of_empty d).at λ o q=>D0 _ q,λ _=>True.intro,λ y g=>absurd rfl g⟩
theorem zko {prog:Program} {w:j1} {env:Env} {e:Expr} {f:Str} {pos:Pos} {s:B0} {Q:Value->B0->Prop} (hb:X5 e f env (L3 e env)=L3 e env)
  (h:R0 (v1 prog w) A (L3 e env) (λ o s₁=>R0 (v1 prog w) A (getAttr o f true) Q E s₁) E s):R0 (v1 prog w) A (L3 (.Attribute e f pos) env) Q E s:=
 Attribute_any_ h (by rw [arm_eval_Attribute,hb])
end
noncomputable def tFld (K:j0) (ta:TE) (f:Str):TE:=λ σ H Q=>ta σ H λ x H1=>∃a C dx fs v,x=.ref a/\H1 a=some (.ins C dx fs)/\Cls K C/\NoAttr K C f/\fs.lookup f=some v/\Q v H1
noncomputable def sFld (K:j0) (ta tv:TE) (f:Str):TS:=λ D σ H=>tv σ H λ y H1=>ta σ H1 λ x H2=>∃a C dx fs,x=.ref a/\H2 a=some (.ins C dx fs)/\Cls K C/\NoAttr K C f/\fs.length < 1000/\
 D.nx σ (upd H2 a (.ins C dx (putF f y fs)))
section
variable {X:Cx} {o e value:Expr} {f:Str} {pos pos' tpos:Pos} {ta tv:TE}
theorem pe_fld (he:PE X e ta) (hb:X5 e f X.env (L3 e X.env)=L3 e X.env):PE X (.Attribute e f pos) (tFld X.K ta f):=by intro g s σ H Q I h;refine zko hb (thn (he g s σ H _ I h) λ u i ⟨x,H1,I1,rx,a,C,dx,fs,v,ex,ea,c,n,l,q⟩=>?_);subst ex;obtain rfl:u=C1 a:=rx;exact zgb I1 ea c n l λ k j d b=>⟨v,H1,d,b,q⟩
theorem ps_fld (ha:PE X o ta) (hv:PE X value tv) (hs:j8 value (some (.Attribute o f pos')) pos.line X.env=G3 false):PS X (.Assign [.Attribute o f pos'] value pos) (sFld X.K ta tv f):=by intro b s σ H D I h;refine plainObj_wpAny_Assign_Attribute (thn (hv b s σ H _ I h) λ u g ⟨y,H1,I1,ry,q⟩=>thn (ha b g σ H1 _ I1 q) λ d i ⟨x,H2,I2,rx,a,C,dx,fs,ex,ea,c,n,l,q2⟩=>?_) hs;subst ex;obtain rfl:d=C1 a:=rx;exact zeu I2 ea c n l ry λ j e=>⟨σ,_,e,q2⟩
end
section
variable {X:Cx} {pins:List (Addr×Obj)} {σ:St} {H:Hp} {s:B0} {A:V1} {E:Value->B0->Prop} {Q:Value->B0->Prop} {c:Value} {b:Bool}
inductive TyOf (K:j0) (H:Hp):V->Value->Prop where
 | non:TyOf K H .non (.type "NoneType")
 | bl (x:Bool):TyOf K H (.bl x) (.type "bool")
 | int (i:Int):TyOf K H (.int i) (.type "int")
 | str (x:Str):TyOf K H (.str x) (.type "str")
 | flt (x:UInt64):TyOf K H (.flt x) (.type "float")
 | lst {a:Addr} {xs:List V} (e:H a=some (.lst xs)):TyOf K H (.ref a) (.type "list")
 | frz {a:Addr} {o:Obj} {xs:List V} (e:H a=some (.frz o (.lst xs))):TyOf K H (.ref a) (.type "list")
 | tup {a:Addr} {xs:List V} (e:H a=some (.tup xs)):TyOf K H (.ref a) (.type "tuple")
 | dK {a:Addr} {kvs:List (Key×V)} (e:H a=some (.dK kvs)):TyOf K H (.ref a) (.type "dict")
 | dT {a:Addr} {kvs:List (List Key×V)} (e:H a=some (.dT kvs)):TyOf K H (.ref a) (.type "dict")
 | ins {a C dx:Addr} {fs:List (Str×V)} (e:H a=some (.ins C dx fs)) (cl:Cls K C) (ha:R3 K (.ref C) "__class__" = some (some (.builtin "object.__class__")))
   (hn:j4c K (.builtin "object.__class__") "__get__" = some (some (.builtin "getset_descriptor.__get__"))) (htk:PySem.W.takesIn K (.builtin "object.__class__")=some true)
   (hm:PySem.W.mroIn K C (.type "object")=some true):TyOf K H (.ref a) (.ref C)
theorem zhw {x:V} {u t:Value} (I:Inv X pins σ H s) (rx:RelV x u) (ty:TyOf X.K H x t) (e:PySem.W.kitOne X.K t c=some b) (h :∀tk,Q (.bool b) { s with toks:=tk }) :
  R0 (v1 X.prog X.w) A (call (.builtin "isinstance") [u,c]) Q E s:=by
 cases ty with
 | non=>cases (show u=Z2 from rx);exact C3 PySem.W.kitx_none I.kIn True.intro e (λ z=>nomatch z) h
 | bl y=>cases (show u=J7 y from rx);exact C3 PySem.W.kitx_bool I.kIn True.intro e (λ z=>nomatch z) h
 | int i=>obtain ⟨t,q⟩:=(show∃t,u=O6 i t from rx);cases q;exact C3 PySem.W.kitx_int I.kIn True.intro e (λ z=>nomatch z) h
 | str y=>obtain ⟨t,q⟩:=(show∃t,u=B7 y t from rx);cases q;exact C3 PySem.W.kitx_str I.kIn True.intro e (λ z=>nomatch z) h
 | flt y=>obtain ⟨t,q⟩:=(show∃t,u=j45 y t from rx);cases q;exact C3 PySem.W.kitx_float I.kIn True.intro e (λ z=>nomatch z) h
 | @lst a f ea=>
  cases (show u=C1 a from rx);obtain ⟨_,_,n,_,d⟩:=(show ObjOk X.prog X.w H s.heap a (.lst f) from I.hok a _ ea)
  exact C3 j4e I.kIn ⟨_,d,rfl⟩ e (λ z=>nomatch z) h
 | @frz a ob f ea=>
  cases (show u=C1 a from rx);obtain ⟨_,_,_,n,_,d⟩:=(show ObjOk X.prog X.w H s.heap a (.frz ob (.lst f)) from I.hok a _ ea)
  exact C3 j4e I.kIn ⟨_,d,rfl⟩ e (λ z=>nomatch z) h
 | @tup a f ea=>
  cases (show u=C1 a from rx);obtain ⟨_,_,_,p,_⟩:=(show ObjOk X.prog X.w H s.heap a (.tup f) from I.hok a _ ea)
  obtain ⟨o,d,g,_⟩:=p;exact C3 j47 I.kIn ⟨o,d,g⟩ e (λ z=>nomatch z) h
 | @dK a kvs ea=>
  cases (show u=C1 a from rx);obtain ⟨_,_,r,_,p⟩:=(show ObjOk X.prog X.w H s.heap a (.dK kvs) from I.hok a _ ea)
  obtain ⟨o,k,j,d,g,_⟩:=p;exact C3 j4f I.kIn ⟨o,d,g.1⟩ e (λ z=>nomatch z) h
 | @dT a kvs ea=>
  cases (show u=C1 a from rx);obtain ⟨_,_,f,_,o,k,j,d,g,_⟩:=(show ObjOk X.prog X.w H s.heap a (.dT kvs) from I.hok a _ ea)
  exact C3 j4f I.kIn ⟨o,d,g.1⟩ e (λ z=>nomatch z) h
 | @ins a C dx fs ea cl ha hn htk hm=>cases (show u=C1 a from rx);obtain ⟨m,O,_⟩:=zdd I.hok ea;obtain ⟨l,J,_⟩:=O.look;exact C3 (PySem.W.kitx_own (cl.get _) cl.hd ha hn htk hm) I.kIn J e (λ z=>nomatch z) h
end
structure Room (k:Nat) (A:V1):Prop where
 hd:A.handled=none
 dp:A.depth + 3 * k + 5 < recursionLimit
 un:A.units + 16 * k + 200 < cLine
 gd:A.guards=some []
theorem Room.mono {j k:Nat} {A:V1} (r:Room k A) (h:j<=k):Room j A:=⟨r.hd,by have:=r.dp;omega,by have:=r.un;omega,r.gd⟩
theorem Room.deeper {k:Nat} {A:V1} (r:Room (k + 1) A) (env:Env):Room k (A.deeper env):=
 ⟨r.hd,by have:=r.dp;show A.depth + 1 + 3 * k + 5 < _;omega,by have:=r.un;show A.units + 3 + 16 * k + 200 < _;omega,r.gd⟩
theorem zgf {A:V1} {C:Addr} {us:List Value} {kw:List (Str×Value)}:(A.under (.builtin "type.__call__" ⟨.ref C :: us,kw⟩)).depth=A.depth + 1:=by first|rfl|simp [W9,Code.weight,Code.isCreation,Code.isGuard,Code.isCaller,j4i,j0b,guardIds]
theorem zfq {A:V1} {C:Addr} {us:List Value} {kw:List (Str×Value)}:(A.under (.builtin "type.__call__" ⟨.ref C :: us,kw⟩)).units=A.units + 1:=by first|rfl|simp [W9,Code.cUnits,j4i,j0b]
theorem Room.make {k:Nat} {A:V1} (r:Room (k + 1) A) (C:Addr) (us:List Value) (kw:List (Str×Value)):Room k (A.under (.builtin "type.__call__" ⟨.ref C :: us,kw⟩)):=
 ⟨r.hd,by have:=r.dp;rw [zgf];omega,by have:=r.un;rw [zfq];omega,by have h:=r.gd;first|exact h|simp [W9,h,Code.weight,Code.isCreation,Code.isGuard,Code.isCaller,j4i,j0b,guardIds]⟩
theorem Room.depth {k:Nat} {A:V1} (r:Room k A):A.depth < recursionLimit:=by have:=r.dp;omega
theorem Room.units {k:Nat} {A:V1} (r:Room k A):A.units + 64 < cLine:=by have:=r.un;omega
noncomputable def tNil:TA:=λ _ H Q=>Q [] H
noncomputable def tCons (ta:TE) (tr:TA):TA:=λ σ H Q=>ta σ H λ x H1=>tr σ H1 λ xs H2=>Q (x :: xs) H2
section
variable {X:Cx} {e:Expr} {es:List Expr} {te:TE} {t:TA} {pos:Pos}
theorem pa_nil:PA X [] tNil:=λ _ _ _ _ H Q I h=>F5 ⟨[],H,I,.nil,h⟩
theorem z00 (ha:PE X e te) (hr:PA X es t) (hs:F1 (e :: es) X.env=(false,L3 e X.env) :: F1 es X.env:=by rfl):PA X (e :: es) (tCons te t):=by intro a b s σ H Q I h;rw [hs];show R0 _ _ (j35 ((false,L3 e X.env) :: c5 a (F1 es X.env))) _ _ s;refine m5 (thn (ha b s σ H _ I h) λ u c ⟨x,H1,I1,r1,q1⟩=>?_);exact thn (hr a b c σ H1 _ I1 q1) λ d f ⟨xs,H2,I2,r2,q2⟩=>⟨x :: xs,H2,I2,.cons r1 r2,q2⟩
noncomputable def tTup (t:TA):TE:=λ σ H Q=>t σ H λ xs H1=>xs.length<=sizeLine/\∀p,H1 p=none->Q (.ref p) (upd H1 p (.tup xs))
noncomputable def tLst (t:TA):TE:=λ σ H Q=>t σ H λ xs H1=>xs.length<=sizeLine/\∀p,H1 p=none->Q (.ref p) (upd H1 p (.lst xs))
theorem pe_tup {x1} (h:PA X es t):PE X (.Tuple es x1 pos) (tTup t):=by intro g s σ H Q I f;refine wpAny_Tuple_spliced (thn (h pos g s σ H _ I f) λ d a ⟨xs,H1,I1,r,z,q⟩=>⟨by rw [<-r.length];exact z,?_⟩);have c:H1 a.heap.objs.size=none:=I1.hok.fresh (F0 _);refine ⟨.ref a.heap.objs.size,upd H1 a.heap.objs.size (.tup xs),I1.laid (t':=a.toks) (λ b u e=>D0 _ e) (F0 _) ?_,rfl,q _ c⟩;exact ⟨z,d,r,IsTupN.new _ _⟩
theorem pe_lst (h:PA X es t):PE X (.List es pos) (tLst t):=by intro g s σ H Q I f;refine wpAny_List_spliced (thn (h pos g s σ H _ I f) λ d a ⟨xs,H1,I1,r,z,q⟩=>⟨by rw [<-r.length];exact z,?_⟩);have c:H1 a.heap.objs.size=none:=I1.hok.fresh (F0 _);refine ⟨.ref a.heap.objs.size,upd H1 a.heap.objs.size (.lst xs),I1.laid (t':=a.toks) (λ b u e=>D0 _ e) (F0 _) ?_,rfl,q _ c⟩;exact ⟨z,d,0,r,Q0 _ rfl⟩
end
noncomputable abbrev Sp:=List V->Hp->VK->XK->Prop
noncomputable abbrev CXT:=List Env->Hp->B0->XK->Value->B0->Prop
structure Env0 (P:Program) (w:j1) (K:j0) (mg:Str->Option Value) (base:Heap) (A:V1) (outer:List Env) (s:B0) (H:Hp):Prop where
 frames:A.frames=some outer
 mod:Mod K mg base
 bs :∀b o,base.get? b=some o->s.heap.get? b=some o/\H b=none
 bsz:base.objs.size<=s.heap.objs.size
 funs:s.heap.FunFrames base outer
 frf :∀b∈frs outer,H b=none
 hok:HOk P w H s.heap
 bare:O8 s.gens
def CE (outer:List Env) (P:Program) (w:j1) (H:Hp) (s:B0) (Q:VK) (u:Value) (s':B0):Prop:=
 ∃v H',s'.os=s.os/\O8 s'.gens/\Un (frs outer) [] H H' s.heap s'.heap/\HOk P w H' s'.heap/\RelV v u/\Q v H'
def CR (CX:CXT) (outer:List Env) (P:Program) (w:j1) (H:Hp) (s:B0) (Q:VK) (E:XK) (r:j11) (s':B0):Prop:=
 match r with
 | .ok (.ret u)=>CE outer P w H s Q u s'
 | .ok _=>False
 | .error e=>CX outer H s E e s'
structure FnOk (P:Program) (w:j1) (K:j0) (mg:Str->Option Value) (base:Heap) (CX:CXT) (k:Nat) (f:Addr) (fd:FuncData) (ps:List Str) (sp:Sp):Prop where
 len :∀vs H Q E,sp vs H Q E->vs.length=ps.length
 run :∀(A:V1) (outer:List Env) (s:B0) (H:Hp) (args:Args) (us:List Value) (vs:List V) (Q:VK) (E:XK),Room k A->Env0 P w K mg base A outer s H->BindsTo s fd args (ps.zip us)->Vals vs us->sp vs H Q E->
  Q4 (v1 P w) A (.call (.ref f) args) (CR CX outer P w H s Q E) s
theorem Env0.make {P:Program} {w:j1} {K:j0} {mg:Str->Option Value} {base:Heap} {A:V1} {outer:List Env} {s:B0} {H:Hp} (e:Env0 P w K mg base A outer s H) (C:Addr) (us:List Value) (kw:List (Str×Value)) :
  Env0 P w K mg base (A.under (.builtin "type.__call__" ⟨.ref C :: us,kw⟩)) outer s H:=⟨by first|exact e.frames|(simpa [W9,Code.envs,j0b,pushEnvs] using e.frames),e.mod,e.bs,e.bsz,e.funs,e.frf,e.hok,e.bare⟩
section
variable {X:Cx} {pins:List (Addr×Obj)} {σ:St} {H:Hp} {s s':B0}
theorem Inv.env0 (I:Inv X pins σ H s):Env0 X.prog X.w X.K X.mg X.base X.A X.stack s H:=
 ⟨I.ok.frames,I.ok.mod,I.bs,G0 I.ok.bsz I.sz,I.stack,I.stkFree,I.hok,I.bare⟩
theorem Inv.after {Q:VK} {u:Value} (I:Inv X pins σ H s) (h:CE X.stack X.prog X.w H s Q u s'):EP X pins σ Q u s':=by obtain ⟨v,e,i,a,un,c,r,q⟩:=h;obtain ⟨j,g,d,t,f⟩:=s';obtain rfl:f=s.os:=i;exact ⟨v,e,I.call (h':=j) (g':=g) (d':=d) (t':=t) (ch:=[]) un c a (λ b z=>absurd z (by simp)),r,q⟩
end
noncomputable def tCall (sp:Sp) (dvs:List V) (E:XK) (t:TA):TE:=λ σ H Q=>t σ H λ vs H1=>sp (vs++dvs) H1 Q E
noncomputable def tMeth (C:Addr) (m:Str) (sp:Sp) (dvs:List V) (E:XK) (ta:TE) (t:TA):TE:=λ σ H Q=>ta σ H λ x H1=>∃a dx fs,x=.ref a/\H1 a=some (.ins C dx fs)/\fs.lookup m=none/\
 t σ H1 λ vs H2=>sp (x :: (vs++dvs)) H2 Q E
noncomputable def tMake (C:Addr) (sp:Sp) (dvs:List V) (E:XK) (t:TA):TE:=λ σ H Q=>t σ H λ vs H1=>∀x dx,H1 x=none->H1 dx=none->dx≠x->
 sp (.ref x :: (vs++dvs)) (upd (upd H1 dx (.own x)) x (.ins C dx [])) (λ v H2=>v=.non/\Q (.ref x) H2) E
def Binds (K:j0) (fd:FuncData) (ps:List Str) (ds:List Value):Prop:=
 ∀(s:B0) (us:List Value),K.In s.heap->(us++ds).length=ps.length->BindsTo s fd ⟨us,[]⟩ (ps.zip (us++ds))
theorem Binds.all {K:j0} {fd:FuncData} {ps:List Str} (h :∀us:List Value,us.length=ps.length->bindArgs fd ⟨us,[]⟩=G3 (ps.zip us)):Binds K fd ps []:=λ s us _ a=>by rw [W2] at a⊢;exact .of_eq (h us a)
def Passes (CX:CXT) (X:Cx) (E:XK):Prop:=∀(pins:List (Addr×Obj)) (σ:St) (H:Hp) (s:B0) (e:Value) (s':B0),Inv X pins σ H s->CX X.stack H s E e s'->X.xe e s'
section
variable {X:Cx} {CX:CXT} {k:Nat} {f C:Addr} {fd:FuncData} {ps:List Str} {sp:Sp} {dvs:List V} {ds:List Value} {E:XK} {x m:Str} {p pos apos:Pos} {e o:Expr} {es:List Expr} {ta:TE} {t:TA}
theorem run_fn {pins:List (Addr×Obj)} {σ:St} {H:Hp} {s:B0} {Q:VK} {us:List Value} {vs:List V} (F:FnOk X.prog X.w X.K X.mg X.base CX k f fd ps sp) (hr:Room k X.A) (hb:Binds X.K fd ps ds) (hd:Vals dvs ds) (hx:Passes CX X E)
  (I:Inv X pins σ H s) (r:Vals vs us) (h:sp (vs++dvs) H Q E):R0 (v1 X.prog X.w) X.A (call (.ref f) us) (EP X pins σ Q) X.xe s:=by
 have b:Vals (vs++dvs) (us++ds):=r.append hd;have d:(us++ds).length=ps.length:=by rw [<-b.length];exact F.len _ _ _ _ h
 refine j3g (L5 (F.run X.A X.stack s H ⟨us,[]⟩ (us++ds) (vs++dvs) Q E hr I.env0 (hb s us I.kIn d) b h) λ r c a=>?_);cases r with
 | error e=>exact hx pins σ H s e c I a
 | ok fl=>
  cases fl with
  | ret u=>exact I.after a
  | next=>exact A4 a
  | brk=>exact A4 a
  | cont=>exact A4 a
theorem zkt (F:FnOk X.prog X.w X.K X.mg X.base CX k f fd ps sp) (hr:Room k X.A) (hg:Gl X x) (hm:X.mg x=some (.ref f)) (hk:Q3 X.K (.ref f)=true) (hb:Binds X.K fd ps ds) (hd:Vals dvs ds) (hx:Passes CX X E)
  (ha:PA X (e :: es) t) (hdb:(x == ("__debug__" : Str))=false:=by decide) (he:F1 (e :: es) X.env=(false,L3 e X.env) :: F1 es X.env:=by rfl) (hpl:(c5 pos (F1 es X.env)).any (·.1)=false:=by rfl) :
  PE X (.Call (.Name x p) (e :: es) [] pos) (tCall sp dvs E t):=by
 intro a s σ H Q I h;refine P3 (zex I hg hm ?_ hdb);refine v7 (h₀:=X.base) I.ok.mod.kin hk (thn (ha pos a s σ H _ I h) λ b c ⟨vs,H1,I1,r,q⟩=>⟨I1.kIn,?_⟩) he hpl;exact run_fn F hr hb hd hx I1 r q
theorem zj8 {pl:Sem Bool} (he:PE X o ta) (c:Cls X.K C) (hm:Meth X.K C m f) (F:FnOk X.prog X.w X.K X.mg X.base CX k f fd ps sp) (hr:Room k X.A) (hb:Binds X.K fd ps ds) (hd:Vals dvs ds) (hx:Passes CX X E) (ha:PA X (e :: es) t)
  (hst:F1 (e :: es) X.env=(false,L3 e X.env) :: F1 es X.env:=by rfl) (hpl:(c5 pos (F1 es X.env)).any (·.1)=false:=by rfl)
  (ht:L3 (.Call (.Attribute o m apos) (e :: es) [] pos) X.env=(do
   let ov <-L3 o X.env
   j34 apos.atName
   let (f,first) <-j0a [ov] (getMethod ov m pl)
   callWith pos f first (c5 pos (F1 (e :: es) X.env)) (j03 pos (E7 [] X.env))):=by rfl) :
  PE X (.Call (.Attribute o m apos) (e :: es) [] pos) (tMeth C m sp dvs E ta t):=by
 intro b s σ H Q I h;refine PySem.W.methodCall_KW (pl:=pl) (thn (he b s σ H _ I h) λ u d ⟨x,H1,I1,rx,a,dx,fs,ex,ea,l,q⟩=>?_) ht;subst ex;obtain rfl:u=C1 a:=rx;refine zgm I1 ea c hm l ?_;refine v7 (first:=[.ref a]) (h₀:=X.base) I.ok.mod.kin hm.kp (thn (ha pos b d σ H1 _ I1 q) λ us g ⟨vs,H2,I2,r,q2⟩=>⟨I2.kIn,?_⟩) hst hpl;exact run_fn (us:=.ref a :: us) (vs:=.ref a :: vs) F hr hb hd hx I2 (.cons rfl r) q2
structure Mk (K:j0) (C f:Addr):Prop where
 makes:PySem.W.makesIn K C=true
 init:R3 K (.ref C) "__init__" = some (some (.ref f))
 fn:j24 K (.ref f)=true
 kp:Q3 K (.ref C)=true
theorem zjs {pins:List (Addr×Obj)} {σ:St} {H:Hp} {s:B0} {Q:VK} {us:List Value} {vs:List V} (M:Mk X.K C f) (F:FnOk X.prog X.w X.K X.mg X.base CX k f fd ps sp) (hr:Room (k + 1) X.A) (hb:Binds X.K fd ps ds) (hd:Vals dvs ds)
  (hx:Passes CX X E) (I:Inv X pins σ H s) (r:Vals vs us)
  (h :∀x dx,H x=none->H dx=none->dx≠x->sp (.ref x :: (vs++dvs)) (upd (upd H dx (.own x)) x (.ins C dx [])) (λ v H2=>v=.non/\Q (.ref x) H2) E) :
  R0 (v1 X.prog X.w) X.A (call (.ref C) us) (EP X pins σ Q) X.xe s:=by
 have c:=h (s.heap.objs.size + 1) s.heap.objs.size (I.hok.fresh (T2 _)) (I.hok.fresh (F0 _)) (X0 (C2 _));have b:=Inv.made (C:=C) I;have d:Vals (V.ref (s.heap.objs.size + 1) :: (vs++dvs)) (C1 (s.heap.objs.size + 1) :: (us++ds)):=.cons rfl (r.append hd);have g:(C1 (s.heap.objs.size + 1) :: us++ds).length=ps.length:=by have e:=d.length;rw [F.len _ _ _ _ c] at e;exact e.symm
 refine j3g (zk4 (f:=f) I.kIn M.makes M.init (beq_iff_eq.mp M.fn) (L5 (F.run _ X.stack _ _ ⟨C1 (s.heap.objs.size + 1) :: us,[]⟩ (C1 (s.heap.objs.size + 1) :: (us++ds)) _ _ E (hr.make C us [])
  (b.env0.make C us []) (hb _ (C1 (s.heap.objs.size + 1) :: us) b.kIn g) d c) λ r o a=>?_))
 cases r with
 | error e=>exact hx pins σ _ _ e o b a
 | ok fl=>
  cases fl with
  | ret u=>obtain ⟨v,m,j,i,n,l⟩:=b.after a;subst n;exact ⟨i,⟨V.ref (s.heap.objs.size + 1),m,j,rfl,l⟩⟩
  | next=>exact A4 a
  | brk=>exact A4 a
  | cont=>exact A4 a
theorem ziu (M:Mk X.K C f) (F:FnOk X.prog X.w X.K X.mg X.base CX k f fd ps sp) (hr:Room (k + 1) X.A) (hg:Gl X x) (hm:X.mg x=some (.ref C)) (hb:Binds X.K fd ps ds) (hd:Vals dvs ds) (hx:Passes CX X E)
  (ha:PA X (e :: es) t) (hdb:(x == ("__debug__" : Str))=false:=by decide) (he:F1 (e :: es) X.env=(false,L3 e X.env) :: F1 es X.env:=by rfl) (hpl:(c5 pos (F1 es X.env)).any (·.1)=false:=by rfl) :
  PE X (.Call (.Name x p) (e :: es) [] pos) (tMake C sp dvs E t):=by
 intro a s σ H Q I h;refine P3 (zex I hg hm ?_ hdb);refine v7 (h₀:=X.base) I.ok.mod.kin M.kp (thn (ha pos a s σ H _ I h) λ b c ⟨vs,H1,I1,r,q⟩=>⟨I1.kIn,?_⟩) he hpl;exact zjs M F hr hb hd hx I1 r q
end
section
variable {X:Cx} {CX:CXT} {k:Nat} {f C:Addr} {fd:FuncData} {ps ks:List Str} {sp:Sp} {E:XK} {x m:Str} {p pos apos kpos:Pos} {e o:Expr} {es:List Expr} {kws:List W6} {te ta:TE} {t tk:TA} {nm:Option Str}
structure KBinds (K:j0) (fd:FuncData) (ps ks:List Str) (g:List Value->List Value->List Value) (gV:List V->List V->List V):Prop where
 to :∀(s:B0) (us ws:List Value),K.In s.heap->(g us ws).length=ps.length->BindsTo s fd ⟨us,ks.zip ws⟩ (ps.zip (g us ws))
 rel :∀{vs:List V} {us:List Value} {zs:List V} {ws:List Value},Vals vs us->Vals zs ws->Vals (gV vs zs) (g us ws)
variable {g:List Value->List Value->List Value} {gV:List V->List V->List V}
end
structure FnScope (N P:List Str) (sc:Scope):Prop where
 kind:sc.kind=.function
 co:sc.isCoroutine=false
 gen:sc.isGenerator=false
 nd:N.Nodup
 pre:N.take P.length=P
 par :∀x∈P,sc.names.lookup x=some .local\/sc.names.lookup x=some .cell
 nofree :∀y∈sc.names,y.2≠.free
theorem zdc {kindOf:Str->Option r6} {x:Str} :∀{binds:List (Str×Value)} {m:Str->Option Value},(∀v,(x,v)∉binds)->bindL kindOf binds m x=m x
 | [],_,_=>rfl
 | (n,v) :: r,m,h=>by
  unfold bindL;rw [zdc λ w hw=>h w (D1 _ hw)];split
  ·have:x≠n:=by rintro rfl;exact h v B1
   simp [this]
  ·rfl
theorem zdh {kindOf:Str->Option r6} {x:Str} :∀{binds:List (Str×Value)} {m:Str->Option Value},(∀v,(x,v)∉binds)->bindC kindOf binds m x=m x
 | [],_,_=>rfl
 | (n,v) :: r,m,h=>by
  unfold bindC;rw [zdh λ w hw=>h w (D1 _ hw)];split
  ·rfl
  ·have:x≠n:=by rintro rfl;exact h v B1
   simp [this]
theorem zcx {kindOf:Str->Option r6} {x:Str} {v:Value} :∀{P:List Str} {vs:List Value} {i:Nat} {m:Str->Option Value},P.Nodup->P[i]? = some x->vs[i]? = some v->kindOf x=some .local->
  bindL kindOf (P.zip vs) m x=some v
 | [],_,_,_,_,h,_,_=>by simp at h
 | _ :: _,[],_,_,_,_,h,_=>by simp at h
 | p :: P,w :: vs,0,m,nd,h1,h2,hk=>by simp at h1 h2;subst h1;subst h2;show bindL kindOf ((p,w) :: P.zip vs) m p=_;unfold bindL;rw [zdc λ v a=>(List.nodup_cons.mp nd).1 (j13 a).1,if_pos hk];simp
 | p :: P,w :: vs,i + 1,m,nd,h1,h2,hk=>by show bindL kindOf ((p,w) :: P.zip vs) m x=_;unfold bindL;exact zcx (i:=i) (List.nodup_cons.mp nd).2 (by simpa using h1) (by simpa using h2) hk
theorem zco {kindOf:Str->Option r6} {x:Str} {v:Value} :∀{P:List Str} {vs:List Value} {i:Nat} {m:Str->Option Value},P.Nodup->P[i]? = some x->vs[i]? = some v->kindOf x≠some .local->
  bindC kindOf (P.zip vs) m x=some v
 | [],_,_,_,_,h,_,_=>by simp at h
 | _ :: _,[],_,_,_,_,h,_=>by simp at h
 | p :: P,w :: vs,0,m,nd,h1,h2,hk=>by simp at h1 h2;subst h1;subst h2;show bindC kindOf ((p,w) :: P.zip vs) m p=_;unfold bindC;rw [zdh λ v a=>(List.nodup_cons.mp nd).1 (j13 a).1,if_neg hk];simp
 | p :: P,w :: vs,i + 1,m,nd,h1,h2,hk=>by show bindC kindOf ((p,w) :: P.zip vs) m x=_;unfold bindC;exact zco (i:=i) (List.nodup_cons.mp nd).2 (by simpa using h1) (by simpa using h2) hk
noncomputable def start (N:List Str) (vs:List V):St:=vs.map some++D2 (N.length - vs.length) none
noncomputable def cxOf (CX:CXT) (P:Program) (w:j1) (K:j0) (mg:Str->Option Value) (base:Heap) (N:List Str) (qual:Str) (scope:Scope) (f:Addr) (cd:Value) (A:V1) (outer:List Env) (s:B0) (H:Hp) (E:XK):Cx where
 prog:=P
 w:=w
 K:=K
 mg:=mg
 base:=base
 A:=A.deeper (A9 qual scope s.heap.objs.size f cd)
 N:=N
 s₀:=s
 H₀:=H
 env:=A9 qual scope s.heap.objs.size f cd
 outer:=outer
 stack:=A9 qual scope s.heap.objs.size f cd :: outer
 ex:=[]
 calm:=true
 fn:=λ _=>true
 pn:=[]
 xe:=λ e s'=>R0 (v1 P w) (A.deeper (A9 qual scope s.heap.objs.size f cd)) («leaving» (A9 qual scope s.heap.objs.size f cd) e) (λ _ s''=>CX outer H s E e s'') (λ e' s''=>CX outer H s E e' s'') s'
theorem zgh {sc:Scope} {n:Nat} {x:Str} (h:sc.names.lookup x=some .cell) :∃c,(cellsFrom n sc.names []).lookup x=some c:=by have q:=j25 sc.names n [] (.inl h);exact Option.isSome_iff_exists.mp q
theorem zhz {CX:CXT} {P:Program} {w:j1} {K:j0} {mg:Str->Option Value} {base:Heap} {N ps:List Str} {qual:Str} {scope:Scope} {f:Addr} {cd:Value} {A:V1} {outer:List Env} {s s1:B0} {H:Hp} {E:XK} {us:List Value} {vs:List V}
  (S:FnScope N ps scope) (hd:A.handled=none) (e0:Env0 P w K mg base A outer s H) (hl:vs.length=ps.length) (r:Vals vs us)
  (x:InCallC s s.heap.objs.size (bindL (A9 qual scope s.heap.objs.size f cd).kindOf (ps.zip us) λ _=>none) (cellsFrom (s.heap.objs.size + 1) scope.names []) (bindC (A9 qual scope s.heap.objs.size f cd).kindOf (ps.zip us) λ _=>none) s1) :
  Inv (cxOf CX P w K mg base N qual scope f cd A outer s H E) [] (start N vs) H s1:=by
 have I:ps.length<=N.length:=by have:=congrArg D6 S.pre;rw [P6] at this;omega
 obtain ⟨m,G,rfl,t⟩:=x.done;have o :∀b:Addr,b∉(cxOf CX P w K mg base N qual scope f cd A outer s H E).ex:=λ b z=>absurd (show b∈([]:List Addr) from z) (by simp);refine ⟨⟨e0.mod,S.kind,rfl,rfl,F0 _,λ y z c m d=>?_,λ y g=>?_,λ y c _ h=>?_,λ _=>hd,Around.frames_deeper e0.frames,.inr ⟨rfl,rfl⟩,λ b z=>absurd z (o b),e0.bs,e0.bsz,λ b _ _=>o b,λ b z=>absurd z (o b),e0.funs,e0.frf⟩,
  rfl,e0.bare,Un.kept t,⟨_,x.toInCall.ns,λ i y v m d J=>?_⟩,λ y c h=>⟨_,x.cell y c h⟩,e0.hok.fresh (F0 _),λ y c h=>?_,λ p j=>absurd (show p∈([]:List (Addr×Obj)) from j) (by simp),e0.hok.kept t,?_⟩
 ·exact name_of_addr x.apart (d6 m) (d6 d)
 ·have g:scope.names.lookup y=some .cell\/scope.names.lookup y=some .free:=g;rcases g with g|g
  ·exact zgh g
  ·exact absurd rfl (S.nofree _ (d6 g))
 ·exact V3 (x.above y c (d6 h))
 ·have l:i < vs.length:=by
   unfold start at d;by_cases l:i < vs.length
   ·exact l
   ·rw [E2 (by simpa using l)] at d;rw [D8] at d;split at d<;>cases d
  have D:vs[i]? = some v:=by
   unfold start at d;rw [K2 (by simpa using l),W0] at d;cases e:vs[i]? with
   | none=>rw [e] at d;cases d
   | some a=>rw [e] at d;cases d;rfl
  obtain ⟨u,C,F⟩:=r.get D;have j:ps[i]? = some y:=by rw [<-S.pre,List.getElem?_take_of_lt (by omega)];exact m
  have B:ps.Nodup:=by rw [<-S.pre];exact S.nd.sublist (List.take_sublist _ _)
  refine ⟨u,F,?_⟩;rcases S.par y (T0 j) with k|k
  ·exact .inl ⟨k,zcx B j C k⟩
  ·obtain ⟨c,e⟩:=zgh (n:=s.heap.objs.size + 1) k;refine .inr ⟨.inl k,c,e,?_⟩;have q:=x.cell y c e;rw [zco B j C (by show scope.names.lookup y≠_;rw [k];decide)] at q;exact q
 ·exact e0.hok.fresh (V3 (x.above y c (d6 h)))
 ·unfold start;show _=N.length;rw [S0,M0,Z3];omega
theorem fn_of {CX:CXT} {P:Program} {w:j1} {K:j0} {mg:Str->Option Value} {base:Heap} {k:Nat} {f:Addr} {name qual:Str} {params:Arguments} {body:List Stmt} {scope:Scope} {dV kV doc pm cdv ct oc:Value} {an od:Option Addr}
  {osl:Array (Option Value)} {N ps:List Str} {sp:Sp} (lk:K.lookup f=some ⟨oc,od,.func (C6 name qual params body scope dV kV doc pm an cdv ct),osl⟩) (hcd:V8 K cdv qual=true) (S:FnScope N ps scope)
  (len :∀vs H Q E,sp vs H Q E->vs.length=ps.length)
  (hbody :∀(A:V1) (outer:List Env) (s:B0) (H:Hp) (vs:List V) (Q:VK) (E:XK),Room k (A.deeper (A9 qual scope s.heap.objs.size f cdv))->sp vs H Q E->
   ∃t,PSs (cxOf CX P w K mg base N qual scope f cdv A outer s H E) body t/\t { nx:=λ _ H'=>Q .non H',rt:=Q } (start N vs) H) :
  FnOk P w K mg base CX (k + 1) f (C6 name qual params body scope dV kV doc pm an cdv ct) ps sp:=by
 refine ⟨len,λ A outer s H O F vs Q E g c G r l=>?_⟩;have B:=len _ _ _ _ l;have KX:K.In s.heap:=c.mod.kin.keeps λ b o e=>(c.bs b o e).1;have L:s.heap.NoLimit:=c.mod.nolimit.keeps λ b o e=>(c.bs b o e).1;have D :∀y∈ps.zip F,scope.names.lookup y.1=some .local\/(scope.names.lookup y.1=some .cell/\((cellsFrom (s.heap.objs.size + 1) scope.names []).lookup y.1).isSome=true):=λ ⟨n,v⟩ hy=>by
  rcases S.par n (j13 hy).1 with q|q
  ·exact .inl q
  ·exact .inr ⟨q,j25 _ _ _ (.inl q)⟩
 refine codeAny_call_function g.depth (KX _ _ lk) rfl S.co S.gen rfl (PySem.W.codeRec_of KX hcd) (G _ _ _ _ ?_);refine wpAny_newFunctionEnv_cells S.kind D λ R M m x=>?_;subst M;refine ⟨L.keeps x.toInCall.keep,codeAny_func ?_⟩;obtain ⟨t,p,C⟩:=hbody A outer s H vs Q E (g.deeper _) l;have I:Inv (cxOf CX P w K mg base N qual scope f cdv A outer s H E) [] (start N vs) H m:=zhz S g.hd c B r x;refine y4 (p [] m (start N vs) H _ I C) (λ z i a=>?_) λ e i a=>a;have j :∀{d:St} {H':Hp} {v:V} {u:Value},Inv (cxOf CX P w K mg base N qual scope f cdv A outer s H E) [] d H' i->RelV v u->Q v H'->CE outer P w H s Q u i:=
  λ {d H' v u} J h q=>⟨v,H',J.os,J.bare,J.base,J.hok,h,q⟩
 cases z with
 | ret u=>obtain ⟨v,d,H',J,h,q⟩:=a;exact j J h q
 | next=>obtain ⟨d,H',J,q⟩:=a;exact j (v:=V.non) (u:=Z2) J rfl q
 | brk=>obtain ⟨_,_,_,q⟩:=a;exact A4 q
 | cont=>obtain ⟨_,_,_,q⟩:=a;exact A4 q
section
variable {X:Cx} {x:Str} {p pos:Pos} {e:Expr} {es:List Expr} {t:TA} {id T:String} {r:List V->Hp->VK->Prop}
noncomputable def tCB (r:List V->Hp->VK->Prop) (t:TA):TE:=λ σ H Q=>t σ H λ vs H1=>r vs H1 Q
theorem z09 (hc:CallR X (.builtin id) r) (hg:Gl X x) (hm:X.mg x=none) (hv:R4 x=some (.builtin id)) (ha:PA X (e :: es) t) (hn:x≠"__name__":=by decide) (hdb:(x == ("__debug__" : Str))=false:=by decide)
  (he:F1 (e :: es) X.env=(false,L3 e X.env) :: F1 es X.env:=by rfl) (hpl:(c5 pos (F1 es X.env)).any (·.1)=false:=by rfl):PE X (.Call (.Name x p) (e :: es) [] pos) (tCB r t):=by
 intro a s σ H Q I h;refine P3 (ld_blt I hg hm hv ?_ hn hdb);exact A6 (thn (ha pos a s σ H _ I h) λ b c ⟨vs,H1,I1,r1,q1⟩=>hc a c σ H1 vs b Q I1 r1 q1) he hpl
theorem z0k (hc:CallR X (.type T) r) (hg:Gl X x) (hm:X.mg x=none) (hv:R4 x=some (.type T)) (ha:PA X (e :: es) t) (hn:x≠"__name__":=by decide) (hdb:(x == ("__debug__" : Str))=false:=by decide)
  (he:F1 (e :: es) X.env=(false,L3 e X.env) :: F1 es X.env:=by rfl) (hpl:(c5 pos (F1 es X.env)).any (·.1)=false:=by rfl):PE X (.Call (.Name x p) (e :: es) [] pos) (tCB r t):=by
 intro a s σ H Q I h;refine P3 (ld_blt I hg hm hv ?_ hn hdb);exact j3 (thn (ha pos a s σ H _ I h) λ b c ⟨vs,H1,I1,r1,q1⟩=>hc a c σ H1 vs b Q I1 r1 q1) he hpl
end
end L2
namespace HT
open PySem PyProof.Rows
section
variable {prog:Program} {w:j1} {A:V1} {E:Value->B0->Prop} {s:B0}
theorem cat_tup {t b:Addr} {vs ws:List Value} {Q:Value->B0->Prop} (ht:IsTup s.heap t vs.toArray) (hb:IsTup s.heap b ws.toArray) (hv:vs≠[])
  (h1:ws=[]->Q (.ref t) s) (h2:ws≠[]->Q (.ref s.heap.objs.size) { s with heap:=s.heap.push { cls:=.type "tuple",data:=.seq (vs++ws).toArray } })
  (hsz:vs.length + ws.length<=sizeLine):R0 (v1 prog w) A (A5 .Add (.ref t) (.ref b)) Q E s:=by
 obtain ⟨⟨cls,i,data,h⟩,a,l,n,j⟩:=id ht;obtain ⟨⟨p,f,o,g⟩,c,d,m,k⟩:=id hb;simp only at l j d k;subst l j d k;have e:vs.toArray++ws.toArray=(vs++ws).toArray:=by simp
 by_cases hw:ws=[]
 ·exact j1a ⟨_,a,rfl⟩ ⟨_,c,rfl⟩ j22 seq_tuple_add v8 c8 (V7 _ _)
   (tuple_addW1 t b vs.toArray ws.toArray n m i f h g (by simpa using hv) (by simp [hw])) ⟨a,c,h1 hw⟩
 ·refine j1a ⟨_,a,rfl⟩ ⟨_,c,rfl⟩ j22 seq_tuple_add v8 c8 (V7 _ _)
   (tuple_addW2 t b vs.toArray ws.toArray n m i f h g (by simpa using hv) (by simpa using hw) (by rw [V0,V0];exact hsz)) ⟨a,c,?_⟩
  rw [e];exact h2 hw
noncomputable def sIx (n d:Nat):Option Int->Nat
 | none=>d
 | some v=>if v < 0 then (v + (n:Int)).toNat else min v.toNat n
theorem sIx_none (n d:Nat):sIx n d none=d:=rfl
theorem sIx_nat (n d k:Nat):sIx n d (some (k:Int))=min k n:=by show (if (k:Int) < 0 then ((k:Int) + (n:Int)).toNat else min (k:Int).toNat n)=min k n;rw [if_neg (by omega),T5]
theorem sIx_le (n d:Nat) (hd:d<=n) (o:Option Int):sIx n d o<=n:=by
 cases o with
 | none=>exact hd
 | some v=>
  show (if v < 0 then (v + (n:Int)).toNat else min v.toNat n)<=n;by_cases hv:v < 0
  ·rw [if_pos hv];omega
  ·rw [if_neg hv];exact Nat.min_le_right _ _
theorem ziv (v:Int) (n d:Nat):(if v < 0 then max (v + (n:Int)) 0 else min v (n:Int))=((sIx n d (some v):Nat):Int):=by
 show (if v < 0 then max (v + (n:Int)) 0 else min v (n:Int))=(((if v < 0 then (v + (n:Int)).toNat else min v.toNat n):Nat):Int);by_cases hv:v < 0
 ·simp only [if_pos hv];omega
 ·simp only [if_neg hv];omega
theorem zfw (lo hi:Option Int) (n:Nat):X6 lo hi 1 (n:Int)=(((sIx n 0 lo:Nat):Int),((sIx n n hi:Nat):Int)):=by
 have a:¬ ((1:Int) < 0):=by omega
 unfold X6;simp only [a,if_false];refine Prod.ext ?_ ?_
 ·cases lo with
  | none=>rfl
  | some v=>exact ziv v n 0
 ·cases hi with
  | none=>rfl
  | some v=>exact ziv v n n
theorem zg9 (i j:Nat):B5 (i:Int) (j:Int) 1=j - i:=by
 unfold B5;have a:(1:Int) > 0:=by omega
 simp only [a,if_true,Int.ediv_one];split<;>omega
theorem zac {v:Value} {o:Option Int} {Q:Option Int->B0->Prop} (p:E9 v o) (h:Q o s):R0 (v1 prog w) A (Builtin.Slice.slicePartIndex v) Q E s:=by
 cases p with
 | none=>exact slicePart_none h
 | int i t=>exact slicePart_int h
theorem z31 {sl:Addr} {vl vu:Value} {lo hi:Option Int} {n:Nat} {Q:Int×Int×Nat->B0->Prop} (hs:s.heap.IsSliceOf sl vl vu .none) (pl:E9 vl lo) (pu:E9 vu hi)
  (h:Q (((sIx n 0 lo:Nat):Int),1,sIx n n hi - sIx n 0 lo) s):R0 (v1 prog w) A (S9 (.ref sl) (G3 (n:Int))) Q E s:=by
 obtain ⟨c,b,d,a⟩:=id hs;unfold S9 Builtin.Slice.sliceFields;refine c0 (c0 (S3 b a (x:=vl) rfl (c0 (S3 b a (x:=vu) rfl (c0 (S3 b a (x:=.none) rfl (C0 ?_)))))));refine c0 (slicePart_none ?_);show R0 _ _ (if ((1:Int) == 0)=true then _ else _) _ _ s;rw [if_neg (by decide)];refine c0 (zac pl (c0 (zac pu (c0 (C0 ?_)))));show R0 _ _ (match X6 lo hi 1 (n:Int) with|(lo,hi)=>G3 (lo,(1:Int),B5 lo hi 1)) _ _ s;rw [zfw lo hi n];show R0 _ _ (G3 (((sIx n 0 lo:Nat):Int),(1:Int),B5 ((sIx n 0 lo:Nat):Int) ((sIx n n hi:Nat):Int) 1)) _ _ s;rw [zg9];exact C0 h
theorem zjy (xs:Array Value) (i k:Nat):((J1 k).filterMap λ (m:Nat)=>xs[((i:Int) + (m:Int) * 1).toNat]?).toArray=((xs.toList.drop i).take k).toArray:=by
 have e:(λ (m:Nat)=>xs[((i:Int) + (m:Int) * 1).toNat]?)=λ m=>xs[i + m]?:=by
  funext m;have:((i:Int) + (m:Int) * 1).toNat=i + m:=by omega
  rw [this]
 rw [e];have:=pick_run xs i k;rw [List.filterMap_map] at this;have a:((λ x=>xs[x]?) ∘ λ x=>i + x)=λ m=>xs[i + m]?:=rfl;rw [a] at this;rw [this]
theorem getItem_tuple_cut {t sl:Addr} {items:Array Value} {vl vu:Value} {lo hi:Option Int} {Q:Value->B0->Prop} (ht:IsTup s.heap t items) (hs:s.heap.IsSliceOf sl vl vu .none) (pl:E9 vl lo) (pu:E9 vu hi)
  (hw:¬ (sIx items.size 0 lo=0/\sIx items.size items.size hi=items.size))
  (h:Q (.ref s.heap.objs.size) { s with heap:=s.heap.push { cls:=.type "tuple",data:=.seq ((items.toList.drop (sIx items.size 0 lo)).take (sIx items.size items.size hi - sIx items.size 0 lo)).toArray } })
  (hsz:items.size<=sizeLine):R0 (v1 prog w) A (L8 (.ref t) (.ref sl)) Q E s:=by
 have a:sizeOk (.seq ((items.toList.drop (sIx items.size 0 lo)).take (sIx items.size items.size hi - sIx items.size 0 lo)).toArray):=by show ((items.toList.drop (sIx items.size 0 lo)).take (sIx items.size items.size hi - sIx items.size 0 lo)).toArray.size<=sizeLine;rw [V0,P6,B8,v2];omega
 have g:sIx items.size items.size hi<=items.size:=sIx_le _ _ (F0 _) hi;obtain ⟨f,b,e,k⟩:=id hs;have d:s.TypeIs (.ref sl) "slice":=⟨f,b,e⟩
 unfold L8
 try with_reducible refine X1 ?_
 first|refine c0 (C0 ?_)|skip
 refine c0 (wpAny_sequenceKey ht.typeIs (by decide) ?_);refine c0 (J2 (name:=Q1 "__getitem__") ht.typeIs G4
  (O2 G4 ht.typeIs entry_tuple_getitem ?_ (args_tuple_getitem _ _)))
 show R0 _ _ (Q9 (.ref t) >>= _) _ _ s;refine c0 (tupleItemsOf_ ht ?_);refine c0 (O4 d ?_);rw [if_pos (by decide)];refine c0 (z31 hs pl pu ?_);have c:¬ ((((sIx items.size 0 lo:Nat):Int) == 0 && (1:Int) == 1 && (sIx items.size items.size hi - sIx items.size 0 lo) == items.size)=true):=by intro q;rw [u3,u3] at q;have i:((sIx items.size 0 lo:Nat):Int)=0:=eq_of_beq q.1.1;have j:sIx items.size items.size hi - sIx items.size 0 lo=items.size:=eq_of_beq q.2;exact hw ⟨by omega,by omega⟩
 show R0 _ _ (if (((sIx items.size 0 lo:Nat):Int) == 0 && (1:Int) == 1 && (sIx items.size items.size hi - sIx items.size 0 lo) == items.size)=true then _ else _) _ _ s;rw [if_neg c,zjy];first
  | exact c0 (m:=N5 _) (Q2 (C0 ⟨_,rfl,C0 h⟩) a)
  | exact c0 (m:=N5 _) (Q2 (c0 (C0 (C0 ⟨_,rfl,C0 h⟩))) a)
  | exact c0 (c0 (m:=N5 _) (Q2 (C0 (C0 ⟨_,rfl,C0 h⟩)) a))
  | exact c0 (c0 (m:=N5 _) (Q2 (C0 ⟨_,rfl,C0 h⟩) a))
end
end HT
namespace L2
open PySem PySem.Spec PyProof.Rows
noncomputable abbrev TO:=St->Hp->(Option Int->Hp->Prop)->Prop
def PO (X:Cx) (e:Option Expr) (t:TO):Prop:=
 ∀(pins:List (Addr×Obj)) (s:B0) (σ:St) (H:Hp) (Q:Option Int->Hp->Prop),Inv X pins σ H s->t σ H Q->
  R0 (v1 X.prog X.w) X.A (evalPart e X.env) (λ u s'=>∃o H',Inv X pins σ H' s'/\E9 u o/\Q o H') X.xe s
noncomputable def zg7:TO:=λ _ H Q=>Q none H
noncomputable def tPart (t:TE):TO:=λ σ H Q=>t σ H λ x H1=>∃i,x=.int i/\Q (some i) H1
theorem z4f {ns:List Int} :∀{us:List Value},Vals (ns.map V.int) us->D3 us ns:=by
 induction ns with
 | nil=>intro us r;rw [C7] at r;cases r;exact .nil
 | cons n ns ih=>
  intro us r;rw [A1] at r;cases r with
  | cons r1 r2=>obtain ⟨t,e⟩:=r1;subst e;exact .cons n t (ih r2)
section
variable {X:Cx} {e:Expr} {te:TE} {lo hi:Option Expr} {tl th:TO} {pos p2:Pos}
theorem z3k:PO X none zg7:=by intro a s σ H Q I h;rw [evalPart_none];exact C0 ⟨none,H,I,.none,h⟩
theorem z2e (h:PE X e te):PO X (some e) (tPart te):=by intro a s σ H Q I hw;rw [evalPart_some];refine thn (h a s σ H _ I hw) λ u b ⟨x,H1,I1,r1,q1⟩=>?_;obtain ⟨i,rfl,q⟩:=q1;obtain ⟨t,rfl⟩:=r1;exact ⟨some i,H1,I1,.int i t,q⟩
def SlR (X:Cx) (r:V->Option Int->Option Int->Hp->VK->Prop):Prop:=
 ∀(pins:List (Addr×Obj)) (s:B0) (σ:St) (H:Hp) (x:V) (v vl vu:Value) (lo hi:Option Int) (sl:Addr) (Q:VK),Inv X pins σ H s->RelV x v->s.heap.IsSliceOf sl vl vu .none->E9 vl lo->E9 vu hi->r x lo hi H Q->
  ∃T id,j3h (.type T) "__getitem__" = G3 (some (.builtin id))/\s.TypeIs v T/\R0 (v1 X.prog X.w) X.A (L8 v (.ref sl)) (EP X pins σ Q) X.xe s
theorem SlR.or {r r':V->Option Int->Option Int->Hp->VK->Prop} (h:SlR X r) (h':SlR X r'):SlR X (λ x lo hi H Q=>r x lo hi H Q\/r' x lo hi H Q):=by
 intro g s σ H x v d b lo hi e Q I f a i c q;rcases q with q|q
 ·exact h g s σ H x v d b lo hi e Q I f a i c q
 ·exact h' g s σ H x v d b lo hi e Q I f a i c q
noncomputable def tSl (r:V->Option Int->Option Int->Hp->VK->Prop) (te:TE) (tl th:TO):TE:=λ σ H Q=>te σ H λ x H1=>tl σ H1 λ l H2=>th σ H2 λ u H3=>r x l u H3 Q
theorem z1i {r:V->Option Int->Option Int->Hp->VK->Prop} (hr:SlR X r) (he:PE X e te) (hl:PO X lo tl) (hu:PO X hi th):PE X (.Subscript e (.Slice lo hi none p2) pos) (tSl r te tl th):=by intro c s σ H Q I h;refine Subscript_ (thn (he c s σ H _ I h) λ v n ⟨x,H1,I1,r1,q1⟩=>?_);refine wpAny_Slice (thn (hl c n σ H1 _ I1 q1) λ d g ⟨l,H2,I2,pl,q2⟩=>thn (hu c g σ H2 _ I2 q2) λ f a ⟨u,H3,I3,pu,q3⟩=>?_);rw [evalPart_none];refine C0 ?_;have k:Inv X c σ H3 { a with heap:=a.heap.push { cls:=.type "slice",data:=.fields #[d,f,.none] } }:=I3.kept (t':=a.toks) λ b o q=>D0 _ q;obtain ⟨T,id,m,i,j⟩:=hr c { a with heap:=a.heap.push { cls:=.type "slice",data:=.fields #[d,f,.none] } } σ H3 x v d f l u a.heap.objs.size Q k r1 (Heap.IsSliceOf.new ..) pl pu q3;show R0 (v1 X.prog X.w) X.A (subscriptTail e (.Slice lo hi none p2) v (.ref a.heap.objs.size)) (EP X c σ Q) X.xe { a with heap:=a.heap.push { cls:=.type "slice",data:=.fields #[d,f,.none] } };exact tail_any (ops:=[.ref a.heap.objs.size,v]) i m j (by with_unfolding_all rfl)
noncomputable def cutV (xs:List V) (lo hi:Option Int):List V:=(xs.drop (HT.sIx xs.length 0 lo)).take (HT.sIx xs.length xs.length hi - HT.sIx xs.length 0 lo)
theorem z7y (xs:List V) (lo hi:Option Int):(cutV xs lo hi).length<=xs.length:=by unfold cutV;rw [P6,B8];omega
def rSlT (K:j0):V->Option Int->Option Int->Hp->VK->Prop:=λ x lo hi H Q=>∃a xs,x=.ref a/\SqT K H a xs/\
 ¬ (HT.sIx xs.length 0 lo=0/\HT.sIx xs.length xs.length hi=xs.length)/\∀p,H p=none->Q (.ref p) (upd H p (.tup (cutV xs lo hi)))
theorem sl_tup:SlR X (rSlT X.K):=by
 intro y s σ H x v u w d e z Q I j n p l h;obtain ⟨a,c,rfl,k,hw,q⟩:=h;cases j;obtain ⟨m,r,g,i⟩:=I.tuple k;have f:m.toArray.size=c.length:=by rw [V0];exact r.length.symm
 refine ⟨"tuple",_,PyProof.Rows.slot_tuple_getitem.lookup,g.typeIs,?_⟩;refine HT.getItem_tuple_cut g n p l (by rw [f];exact hw) ?_ (by rw [f];exact i);rw [f];refine ⟨.ref s.heap.objs.size,_,I.laid (t':=s.toks) (o:=.tup (cutV c d e)) (λ b t q=>D0 _ q) (F0 _) ?_,rfl,q _ (I.hok.fresh (F0 _))⟩;exact ⟨G0 (z7y c d e) i,_,(r.drop (HT.sIx c.length 0 d)).take (HT.sIx c.length c.length e - HT.sIx c.length 0 d),IsTupN.new _ _⟩
noncomputable def rCatT (K:j0):R2:=λ x y H Q=>∃a b xs ys,x=.ref a/\y=.ref b/\SqT K H a xs/\SqT K H b ys/\xs≠[]/\xs.length + ys.length<=sizeLine/\
 (ys=[]->Q (.ref a) H)/\(ys≠[]->∀p,H p=none->Q (.ref p) (upd H p (.tup (xs++ys))))
theorem Vals.nil_iff {xs:List V} {us:List Value} (r:Vals xs us):us=[]↔xs=[]:=by
 cases r with
 | nil=>simp
 | cons _ _=>simp
theorem z5s:OpR X (A5 .Add) (rCatT X.K):=by intro C s σ H x y v u Q I f n h;obtain ⟨a,b,k,j,rfl,rfl,l,m,g,e,p,r⟩:=h;cases f;cases n;obtain ⟨D,d,i,_⟩:=I.tuple l;obtain ⟨B,c,t,_⟩:=I.tuple m;refine HT.cat_tup i t (λ z=>g (d.nil_iff.mp z)) (λ z=>⟨.ref a,H,I,rfl,p (c.nil_iff.mp z)⟩) (λ z=>?_) (by rw [<-d.length,<-c.length];exact e);refine ⟨.ref s.heap.objs.size,_,I.laid (t':=s.toks) (o:=.tup (k++j)) (λ b A q=>D0 _ q) (F0 _) ?_,rfl,r (λ w=>z (c.nil_iff.mpr w)) _ (I.hok.fresh (F0 _))⟩;exact ⟨by rw [S0];exact e,_,d.append c,IsTupN.new _ _⟩
end
noncomputable def ixN (n:Nat) (i:Int):Option Nat:=if 0<=i then (if i < n then some i.toNat else none) else if -(n:Int)<=i then some (i + n).toNat else none
noncomputable def atI {α:Type} (xs:List α) (i:Int):Option α:=(ixN xs.length i).bind λ j=>xs[j]?
theorem zio {n:Nat} {i:Int} {j:Nat} (h:ixN n i=some j):seqIndex? i n=some j/\j < n/\-(n:Int)<=i/\i < n:=by
 unfold ixN at h;by_cases h0:0<=i
 ·rw [if_pos h0] at h;by_cases h1:i < n
  ·rw [if_pos h1] at h;have e:i.toNat=j:=N1 h;exact ⟨by rw [seqIndex_of h0 h1,e],by omega,by omega,h1⟩
  ·rw [if_neg h1] at h;cases h
 ·rw [if_neg h0] at h;by_cases h1:-(n:Int)<=i
  ·rw [if_pos h1] at h;have e:(i + n).toNat=j:=N1 h;exact ⟨by rw [seqIndex_neg (by omega) h1,e],by omega,h1,by omega⟩
  ·rw [if_neg h1] at h;cases h
theorem zdo {α:Type} {xs:List α} {i:Int} {v:α} (h:atI xs i=some v) :∃j,seqIndex? i xs.length=some j/\xs[j]? = some v/\j < xs.length/\-(xs.length:Int)<=i/\i < xs.length:=by
 unfold atI at h;cases e:ixN xs.length i with
 | none=>rw [e] at h;cases h
 | some j=>rw [e] at h;obtain ⟨c,b,a,d⟩:=zio e;exact ⟨j,c,h,b,a,d⟩
theorem z05 {α:Type} {xs:List α} {j:Nat} {v:α} (h:xs[j]? = some v):atI xs (j:Int)=some v:=by
 have a:j < xs.length:=(List.getElem?_eq_some_iff.mp h).1;have e:ixN xs.length (j:Int)=some j:=by unfold ixN;rw [if_pos (by omega),if_pos (by omega)];simp
 unfold atI;rw [e];exact h
def zj0 (b:Expr):Prop:=∀o i,j29 b false o i=operate [o,i] (L8 o i)
def IxR (X:Cx) (r:R2):Prop:=
 ∀(value slice:Expr) (pins:List (Addr×Obj)) (s:B0) (σ:St) (H:Hp) (x y:V) (v u:Value) (Q:VK),Inv X pins σ H s->RelV x v->RelV y u->r x y H Q->
  j29 slice false v u=operate [v,u] (L8 v u)->R0 (v1 X.prog X.w) X.A (subscriptTail value slice v u) (EP X pins σ Q) X.xe s
def MtR (X:Cx) (id:String) (r:V->List V->Hp->VK->Prop):Prop:=
 ∀(pins:List (Addr×Obj)) (s:B0) (σ:St) (H:Hp) (x:V) (xs:List V) (v:Value) (us:List Value) (Q:VK),Inv X pins σ H s->RelV x v->Vals xs us->r x xs H Q->
  R0 (v1 X.prog X.w) X.A (call (.builtin id) (v :: us)) (EP X pins σ Q) X.xe s
section
variable {X:Cx} {a b:Expr} {ta tb:TE} {pos:Pos}
theorem IxR.or {r r':R2} (h:IxR X r) (h':IxR X r'):IxR X (λ x y H Q=>r x y H Q\/r' x y H Q):=by
 intro d a e s σ H x y v u Q I c f q b;rcases q with q|q
 ·exact h d a e s σ H x y v u Q I c f q b
 ·exact h' d a e s σ H x y v u Q I c f q b
theorem pe_ix {r:R2} (hr:IxR X r) (ha:PE X a ta) (hb:PE X b tb) (hs:zj0 b):PE X (.Subscript a b pos) (tOp r ta tb):=by intro g s σ H Q I h;exact Subscript_ (binT ha hb I h λ v u d x y c f e i q=>hr a b g d σ c x y v u Q f e i q (hs _ _))
noncomputable def rIxL (K:j0):R2:=λ x y H Q=>∃p xs i v,x=.ref p/\y=.int i/\SqL K H p xs/\atI xs i=some v/\Q v H
noncomputable def rIxT (K:j0):R2:=λ x y H Q=>∃p xs i v,x=.ref p/\y=.int i/\SqT K H p xs/\atI xs i=some v/\Q v H
noncomputable def rIxS:R2:=λ x y H Q=>∃z i c,x=.str z/\y=.int i/\z.length<=sizeLine/\atI z.cps.toList i=some c/\Q (.str ⟨#[c]⟩) H
theorem ix_list:IxR X (rIxL X.K):=by
 intro O J e s σ H x y v u Q I m B h f;obtain ⟨p,L,i,z,rfl,rfl,A,D,q⟩:=h;cases m;obtain ⟨t,rfl⟩:=B;obtain ⟨C,r,b,M⟩:=I.list A;obtain ⟨j,a,k,N,E,n⟩:=zdo D;obtain ⟨w,g,l⟩:=r.get k;have o:=r.length;have G:=line63;have d:EP X e σ Q w s:=⟨z,H,I,l,q⟩
 by_cases h0:0<=i
 ·have c:i.toNat=j:=by rw [seqIndex_of h0 n] at a;exact N1 a
  exact item_listR b.isList h0 (by omega) (by rw [c];simpa using g) d f
 ·have c:(i + (C.toArray.size:Int)).toNat=j:=by rw [seqIndex_neg (by omega) E] at a;rw [V0,<-o];exact N1 a
  exact subscriptTail_builtinR (x:=w) b.isList.typeIs slot_list_getitem.lookup
   (wpAny_getItem_list_neg (Q:=λ r F=>r=w/\EP X e σ Q r F) b.isList (by omega) (by rw [V0]<;>omega) (by omega) (by rw [c];simpa using g) ⟨rfl,d⟩) f
theorem ix_tup:IxR X (rIxT X.K):=by
 intro M E b s σ H x y v u Q I e l h m;obtain ⟨p,F,i,z,rfl,rfl,g,o,q⟩:=h;cases e;obtain ⟨t,rfl⟩:=l;obtain ⟨J,r,a,G⟩:=I.tuple g;obtain ⟨j,B,c,L,N,C⟩:=zdo o;obtain ⟨w,n,d⟩:=r.get c;have f:=r.length;have D:=line63;have k:EP X b σ Q w s:=⟨z,H,I,d,q⟩
 exact subscriptTail_builtinR (x:=w) a.typeIs slot_tuple_getitem.lookup
  (getItem_tuple (j:=j) (Q:=λ r A=>r=w/\EP X b σ Q r A) a (by omega) (by omega) (by rw [V0,<-f];exact B) (by simpa using n) ⟨rfl,k⟩) m
theorem ix_str:IxR X rIxS:=by
 intro D w B s σ H x y v u Q I d g h l;obtain ⟨z,i,c,rfl,rfl,A,m,q⟩:=h;obtain ⟨t,rfl⟩:=d;obtain ⟨p,rfl⟩:=g;obtain ⟨j,a,b,C,n,e⟩:=zdo m;have f:z.cps.toList.length=z.length:=by simp [Str.length]
 rw [f] at a n e;have r:=line63;exact tail_any (typeIs_str s z t) slot_str_getitem.lookup (getItem_str (c:=c) (by have o:decide (i < -(2 ^ 63:Int))=false:=decide_eq_false (by omega);have k:decide (i ≥ 2 ^ 63)=false:=decide_eq_false (by omega);rw [o,k,Bool.or_false]) (by rw [a];simpa using b) ⟨.str ⟨#[c]⟩,H,I.tok _,⟨_,rfl⟩,q⟩) l
noncomputable def rIx (K:j0):R2:=λ x y H Q=>rIxL K x y H Q\/rIxT K x y H Q\/rIxS x y H Q
theorem ix_seq:IxR X (rIx X.K):=ix_list.or (ix_tup.or ix_str)
theorem zev (its:List Value) (n j:Nat) (u:Value):X7 (·.setIfInBounds j u) { cls:=.type "list",data:=.seq its.toArray n }={ cls:=.type "list",data:=.seq (its.set j u).toArray n }:=by simp [X7]
theorem Inv.lst {pins:List (Addr×Obj)} {σ:St} {H:Hp} {s:B0} {p:Addr} {xs:List V} (I:Inv X pins σ H s) (h:H p=some (.lst xs)) :
  ∃(its:List Value) (n:Nat),Vals xs its/\s.heap.get? p=some { cls:=.type "list",data:=.seq its.toArray n }/\xs.length<=sizeLine:=by
 obtain ⟨z,its,n,r,e⟩:=I.hok p _ h;exact ⟨its,n,r,e,z⟩
theorem Inv.lstUpd {pins:List (Addr×Obj)} {σ:St} {H:Hp} {s:B0} {p:Addr} {xs ys:List V} {its its':List Value} {n n':Nat} {f:Obj->Obj} (I:Inv X pins σ H s) (h:H p=some (.lst xs))
  (ho:s.heap.get? p=some { cls:=.type "list",data:=.seq its.toArray n }) (hf:f { cls:=.type "list",data:=.seq its.toArray n }={ cls:=.type "list",data:=.seq its'.toArray n' }) (r:Vals ys its') (hz:ys.length<=sizeLine) (t:Nat) :
  Inv X pins σ (upd H p (.lst ys)) { s with heap:=s.heap.update p f,toks:=t }:=by
 have e:(s.heap.update p f).get? p=some { cls:=.type "list",data:=.seq its'.toArray n' }:=by rw [v3 f ho (by rw [hf]<;>rfl),hf]
 refine I.write (x:=p) (e:=p) (by rw [h];trivial) (.inl rfl) (λ b u a q=>(G6 _ _ (N2 a)).trans q) ⟨_,e⟩ ?_;exact ⟨hz,its',n',r,e⟩
def rSetL:V->V->V->Hp->(Hp->Prop)->Prop:=λ o i v H Q=>∃p xs k j,o=.ref p/\i=.int k/\H p=some (.lst xs)/\ixN xs.length k=some j/\Q (upd H p (.lst (xs.set j v)))
theorem z69:PSet X rSetL:=by
 intro B s σ H o i v E G u Q I z A C h;obtain ⟨p,x,k,j,rfl,rfl,f,w,q⟩:=h;cases z;obtain ⟨t,rfl⟩:=A;obtain ⟨g,n,r,d,y⟩:=I.lst f;obtain ⟨a,D,l,m⟩:=zio w;have c:=r.length;have F:=line63;have e:Inv X B σ (upd H p (.lst (x.set j v))) { s with heap:=s.heap.update p (X7 (·.setIfInBounds j u)) }:=
  I.lstUpd f d (zev g n j u) (r.set C j) (by rw [j15];exact y) s.toks
 by_cases h0:0<=k
 ·have b:k.toNat=j:=by rw [seqIndex_of h0 m] at a;exact N1 a
  exact PySem.W.ki_setAt d h0 (by omega) (by rw [V0,<-c];exact m) (by rw [b];exact ⟨_,e,q⟩)
 ·have b:(k + (g.toArray.size:Int)).toNat=j:=by rw [seqIndex_neg (by omega) l] at a;rw [V0,<-c];exact N1 a
  exact PySem.W.ki_setBack d (by omega) (by rw [V0,<-c];exact l) (by omega) (by rw [b];exact ⟨_,e,q⟩)
theorem zc2 (lo hi:Option Int) (n:Nat):(D7 lo hi none n).1=((HT.sIx n 0 lo:Nat):Int)/\(D7 lo hi none n).2.1=((HT.sIx n n hi:Nat):Int)/\(D7 lo hi none n).2.2=1:=by
 refine ⟨?_,?_,rfl⟩
 ·cases lo with
  | none=>simp [D7,HT.sIx]
  | some i=>
   simp only [D7,HT.sIx,Option.getD_none,show (1:Int) > 0 by decide,if_true];by_cases h:i < 0
   ·simp only [h,if_true]<;>omega
   ·simp only [h,if_false]<;>omega
 ·cases hi with
  | none=>simp [D7,HT.sIx]
  | some i=>
   simp only [D7,HT.sIx,Option.getD_none,show (1:Int) > 0 by decide,if_true];by_cases h:i < 0
   ·simp only [h,if_true]<;>omega
   ·simp only [h,if_false]<;>omega
theorem zay (its:List Value) (lo hi:Option Int):slicePick its.toArray lo hi none=((its.drop (HT.sIx its.length 0 lo)).take (HT.sIx its.length its.length hi - HT.sIx its.length 0 lo)).toArray:=by obtain ⟨b,a,c⟩:=zc2 lo hi its.toArray.size;unfold slicePick;rw [b,a,c];simp only [sliceRange_one,pick_run,V0]<;>rfl
def rSlL (K:j0):V->Option Int->Option Int->Hp->VK->Prop:=λ x lo hi H Q=>∃a xs,x=.ref a/\SqL K H a xs/\∀p,H p=none->Q (.ref p) (upd H p (.lst (cutV xs lo hi)))
theorem sl_list:SlR X (rSlL X.K):=by intro w s σ H x v t u d e z Q I g l n j h;obtain ⟨a,c,rfl,i,q⟩:=h;cases g;obtain ⟨y,r,f,k⟩:=I.list i;have m:=r.length;refine ⟨"list",_,slot_list_getitem.lookup,f.isList.typeIs,?_⟩;refine wpAny_getItem_list_slice f.isList l n j .none (by simp) ?_ (by rw [V0]<;>omega);rw [zay,<-m];refine ⟨.ref s.heap.objs.size,_,I.laid (t':=s.toks) (o:=.lst (cutV c d e)) (λ b p q=>D0 _ q) (F0 _) ?_,rfl,q _ (I.hok.fresh (F0 _))⟩;exact ⟨G0 (z7y c d e) k,_,0,(r.drop (HT.sIx c.length 0 d)).take (HT.sIx c.length c.length e - HT.sIx c.length 0 d),Q0 _ rfl⟩
noncomputable def flatV:V->Bool
 | .non=>true
 | .bl _=>true
 | .int _=>true
 | .str _=>true
 | _=>false
noncomputable def eqV:V->V->Bool
 | .non,.non=>true
 | .bl a,.bl b=>a == b
 | .bl a,.int b=>(if a then 1 else 0) == b
 | .int a,.bl b=>a == (if b then 1 else 0)
 | .int a,.int b=>a == b
 | .str a,.str b=>a == b
 | _,_=>false
theorem eqAt_V {A:V1} {s:B0} {y x:V} {u v:Value} (ry:RelV y u) (rx:RelV x v) (fy:flatV y=true) (fx:flatV x=true):SeqAt.EqAt A s u v (eqV y x):=by
 cases y with
 | non=>
  cases ry;cases x with
  | non=>cases rx;exact SeqAt.EqAt.same _
  | bl b=>cases rx;exact SeqAt.EqAt.none_bool b
  | int b=>obtain ⟨t,rfl⟩:=rx;exact SeqAt.EqAt.none_int b t
  | str b=>obtain ⟨t,rfl⟩:=rx;exact SeqAt.EqAt.none_str b t
  | _=>exact absurd (show false=true from fx) U0
 | bl a=>
  cases ry;cases x with
  | non=>cases rx;exact SeqAt.EqAt.bool_none a
  | bl b=>cases rx;exact SeqAt.EqAt.bool_bool a b
  | int b=>obtain ⟨t,rfl⟩:=rx;exact SeqAt.EqAt.bool_int a b t
  | str b=>obtain ⟨t,rfl⟩:=rx;exact SeqAt.EqAt.bool_str a b t
  | _=>exact absurd (show false=true from fx) U0
 | int a=>
  obtain ⟨c,rfl⟩:=ry;cases x with
  | non=>cases rx;exact SeqAt.EqAt.int_none a c
  | bl b=>cases rx;exact SeqAt.EqAt.int_bool a c b
  | int b=>obtain ⟨t,rfl⟩:=rx;exact SeqAt.EqAt.int_int a c b t
  | str b=>obtain ⟨t,rfl⟩:=rx;exact j2d a c b t
  | _=>exact absurd (show false=true from fx) U0
 | str a=>
  obtain ⟨c,rfl⟩:=ry;cases x with
  | non=>cases rx;exact SeqAt.EqAt.str_none a c
  | bl b=>cases rx;exact SeqAt.EqAt.str_bool a c b
  | int b=>obtain ⟨t,rfl⟩:=rx;exact j2c a c b t
  | str b=>obtain ⟨t,rfl⟩:=rx;exact j2b a c b t
  | _=>exact absurd (show false=true from fx) U0
 | _=>exact absurd (show false=true from fy) U0
noncomputable def eqU (x:V) (u:Value):Bool:=match u with
 | .none=>eqV .non x
 | .bool b=>eqV (.bl b) x
 | .int i _=>eqV (.int i) x
 | .str z _=>eqV (.str z) x
 | _=>false
theorem eqU_of {x y:V} {u:Value} (r:RelV y u) (f:flatV y=true):eqU x u=eqV y x:=by
 cases y with
 | non=>cases r;rfl
 | bl b=>cases r;rfl
 | int i=>obtain ⟨t,rfl⟩:=r;rfl
 | str z=>obtain ⟨t,rfl⟩:=r;rfl
 | _=>exact absurd (show false=true from f) U0
theorem z9o {x:V} :∀{xs:List V} {us:List Value},Vals xs us->xs.all flatV=true->us.any (eqU x)=xs.any λ y=>eqV y x
 | _,_,.nil,_=>rfl
 | y :: xs,u :: us,.cons r t,f=>by rw [List.all_cons,u3] at f;rw [m8,m8,eqU_of r f.1,z9o t f.2]
theorem z6p {A:V1} {s:B0} {x:V} {v:Value} (rx:RelV x v) (fx:flatV x=true) :∀{xs:List V} {us:List Value},Vals xs us->xs.all flatV=true->∀u∈us,SeqAt.EqAt A s u v (eqU x u)
 | _,_,.nil,_=>λ u a=>by cases a
 | y :: xs,u :: us,.cons r t,f=>λ b a=>by
  rw [List.all_cons,u3] at f;rcases List.mem_cons.mp a with rfl|a
  ·rw [eqU_of r f.1];exact eqAt_V r rx f.1 fx
  ·exact z6p rx fx t f.2 b a
noncomputable def inV (x:V) (xs:List V):Bool:=xs.any λ y=>eqV y x
noncomputable def rIn (K:j0) (neg:Bool):R2:=λ x y H Q=>∃p xs,y=.ref p/\(SqL K H p xs\/SqT K H p xs)/\flatV x=true/\xs.all flatV=true/\Q (.bl (if neg then !inV x xs else inV x xs)) H
theorem z24:OpR X (P2 .In) (rIn X.K false):=by
 intro j s σ H x y v u Q I d g h;obtain ⟨p,i,rfl,a,e,fs,q⟩:=h;cases g;rcases a with a|a
 ·obtain ⟨b,r,c,f⟩:=I.list a;refine SeqAt.in_listAt (eqU x) c.isList (λ w hw=>z6p d e r fs w (by simpa using hw)) ⟨.bl _,H,I,rfl,?_⟩;rw [show b.toArray.any (eqU x)=b.any (eqU x) by simp,z9o r fs];exact q
 ·obtain ⟨b,r,c,f⟩:=I.tuple a;refine SeqAt.in_tupleAt (eqU x) c (λ w hw=>z6p d e r fs w (by simpa using hw)) ⟨.bl _,H,I,rfl,?_⟩;rw [show b.toArray.any (eqU x)=b.any (eqU x) by simp,z9o r fs];exact q
theorem z1u:OpR X (P2 .NotIn) (rIn X.K true):=by
 intro j s σ H x y v u Q I d g h;obtain ⟨p,i,rfl,a,e,fs,q⟩:=h;cases g;rcases a with a|a
 ·obtain ⟨b,r,c,f⟩:=I.list a;refine SeqAt.notIn_listAt (eqU x) c.isList (λ w hw=>z6p d e r fs w (by simpa using hw)) ⟨.bl _,H,I,rfl,?_⟩;rw [show b.toArray.any (eqU x)=b.any (eqU x) by simp,z9o r fs];exact q
 ·obtain ⟨b,r,c,f⟩:=I.tuple a;refine SeqAt.notIn_tupleAt (eqU x) c (λ w hw=>z6p d e r fs w (by simpa using hw)) ⟨.bl _,H,I,rfl,?_⟩;rw [show b.toArray.any (eqU x)=b.any (eqU x) by simp,z9o r fs];exact q
theorem call_len_seq:CallR X (.builtin "len") (λ xs H Q=>∃p ys,xs=[.ref p]/\(SqL X.K H p ys\/SqT X.K H p ys)/\Q (.int ys.length) H):=by
 intro j s σ H xs i Q I r h;obtain ⟨p,ys,rfl,a,q⟩:=h;obtain ⟨u,rfl,g⟩:=vals1 r;cases g;have k:=line63;rcases a with a|a
 ·obtain ⟨e,b,d,f⟩:=I.list a;have c:=b.length;exact Calls.call_len_list d.isList (by simp only [V0]<;>omega) ⟨.int ys.length,H,I.tok _,⟨s.toks + 1,by rw [V0,c]⟩,q⟩
 ·obtain ⟨e,b,d,f⟩:=I.tuple a;have c:=b.length;exact len_tuple d (by simp only [V0]<;>omega) ⟨.int ys.length,H,I.tok _,⟨s.toks + 1,by rw [V0,c]⟩,q⟩
theorem zbx:CallR X (.builtin "len") (λ xs H Q=>∃z,xs=[.str z]/\z.length<=sizeLine/\Q (.int z.length) H):=by intro d s σ H xs b Q I r h;obtain ⟨z,rfl,c,q⟩:=h;obtain ⟨u,rfl,t,rfl⟩:=vals1 r;have a:=line63;exact len_str (by omega) ⟨.int z.length,H,I.tok _,⟨_,rfl⟩,q⟩
theorem CallR.or {f:Value} {r r':List V->Hp->VK->Prop} (h:CallR X f r) (h':CallR X f r'):CallR X f (λ xs H Q=>r xs H Q\/r' xs H Q):=by
 intro c s σ H xs b Q I a q;rcases q with q|q
 ·exact h c s σ H xs b Q I a q
 ·exact h' c s σ H xs b Q I a q
theorem z0f:CallR X (.type "tuple") (λ xs H Q=>∃p ys,xs=[.ref p]/\((SqL X.K H p ys/\∀l,H l=none->Q (.ref l) (upd H l (.tup ys)))\/(SqT X.K H p ys/\Q (.ref p) H))):=by
 intro k s σ H xs v Q I r h;obtain ⟨p,ys,rfl,h⟩:=h;obtain ⟨u,rfl,m⟩:=vals1 r;cases m;rcases h with ⟨c,q⟩|⟨c,q⟩
 ·obtain ⟨f,d,g,j⟩:=I.list c;have x:=d.length;refine call_tuple_list g.isList (λ a n=>?_) (by simp only [V0]<;>omega);have i:Inv X k σ H { s with heap:=a }:=I.kept (t':=s.toks) n;have t:Inv X k σ (upd H a.objs.size (.tup ys)) { s with heap:=a.push { cls:=.type "tuple",data:=.seq f.toArray } }:=
   i.laid (t':=s.toks) (λ b o e=>D0 _ e) (F0 _) (show ObjOk X.prog X.w _ _ _ (.tup ys) from ⟨j,f,d,IsTupN.new _ _⟩)
  exact ⟨.ref a.objs.size,_,t,rfl,q _ (i.hok.fresh (F0 _))⟩
 ·obtain ⟨f,d,g,j⟩:=I.tuple c;exact call_tuple_same g ⟨.ref p,H,I,rfl,q⟩
def tyV (K:j0) (T:String) (x:V) (H:Hp):Prop:=match x with
 | .str _=>T = "str"
 | .int _=>T = "int"
 | .ref p=>(T = "list"/\∃xs,SqL K H p xs)\/(T = "tuple"/\∃o,K.lookup p=some o/\o.cls=.type "tuple"/\o.dict=none)\/
   (T = "dict"/\((∃kvs,H p=some (.dK kvs))\/∃kvs,H p=some (.dT kvs)))\/(T = "set"/\∃S n,H p=some (.set S n))
 | _=>False
theorem tyV_is {pins:List (Addr×Obj)} {σ:St} {H:Hp} {s:B0} {T:String} {x:V} {v:Value} (I:Inv X pins σ H s) (r:RelV x v) (ty:tyV X.K T x H) :
  s.TypeIs v T/\∀a,v=.ref a->∃ob,s.heap.get? a=some ob/\ob.dict=none:=by
 cases x with
 | str z=>obtain ⟨t,rfl⟩:=r;cases (show T = "str" from ty);exact ⟨typeIs_str s z t,λ _ e=>nomatch e⟩
 | int i=>obtain ⟨t,rfl⟩:=r;cases (show T = "int" from ty);exact ⟨typeIs_int s i t,λ _ e=>nomatch e⟩
 | ref p=>
  cases r;rcases ty with ⟨rfl,l,k⟩|⟨rfl,o,b,hc,f⟩|⟨rfl,b⟩|⟨rfl,S,n,b⟩
  ·obtain ⟨m,_,h,_⟩:=I.list k;refine ⟨h.isList.typeIs,λ a e=>?_⟩;cases e;obtain ⟨o,n,e,c,f,_⟩:=h;exact ⟨o,e,f⟩
  ·refine ⟨⟨o,I.kIn p o b,hc⟩,λ a e=>?_⟩;cases e;exact ⟨o,I.kIn _ o b,f⟩
  ·have z :∃o,s.heap.get? p=some o/\o.ExactDict:=by
    rcases b with ⟨j,b⟩|⟨j,b⟩
    ·obtain ⟨_,_,_,_,o,_,_,e,d,_⟩:=I.hok p _ b;exact ⟨o,e,d⟩
    ·obtain ⟨_,_,_,_,o,_,_,e,d,_⟩:=I.hok p _ b;exact ⟨o,e,d⟩
   obtain ⟨o,e,d⟩:=z;refine ⟨⟨o,e,d.1⟩,λ a g=>?_⟩;cases g;exact ⟨o,e,d.2.1⟩
  ·obtain ⟨o,_,_,_,e,d,_⟩:=I.hok p _ b;refine ⟨⟨o,e,d.1⟩,λ a g=>?_⟩;cases g;exact ⟨o,e,d.2.1⟩
 | _=>exact A4 ty
noncomputable def tBM (K:j0) (T:String) (r:V->List V->Hp->VK->Prop) (to:TE) (t:TA):TE:=λ σ H Q=>to σ H λ x H1=>tyV K T x H1/\t σ H1 λ xs H2=>r x xs H2 Q
variable {o e:Expr} {es:List Expr} {to:TE} {t:TA} {name:Str} {apos cpos:Pos} {T id:String} {r:V->List V->Hp->VK->Prop}
theorem pe_bm (pa:PlainAttrs T) (slot:Slot T name id) (hty:typeOf (.builtin id)=G3 (.type "method_descriptor")) (hm:MtR X id r) (ho:PE X o to) (ha:PA X (e :: es) t)
  (hbase:X5 o name X.env (L3 o X.env)=L3 o X.env:=by rfl)
  (hfew:((c5 cpos (F1 (e :: es) X.env)).all (λ x=>!x.1) && (j03 cpos (E7 [] X.env)).all (λ x=>x.1.isSome)
   && decide ((e :: es).length + ([]:List W6).length + (if ([]:List W6).isEmpty then 0 else 1) < 30))=true:=by rfl)
  (hline:(apos.endLine == cpos.line)=true:=by rfl) (hs:F1 (e :: es) X.env=(false,L3 e X.env) :: F1 es X.env:=by rfl) (hplain:(c5 cpos (F1 es X.env)).any (·.1)=false:=by rfl) :
  PE X (.Call (.Attribute o name apos) (e :: es) [] cpos) (tBM X.K T r to t):=by
 intro a s σ H Q I h;refine wpAny_Call_method_late hbase hfew hline rfl (thn (ho a s σ H _ I h) λ v f ⟨x,H1,I1,r1,ty,q1⟩=>?_);obtain ⟨i,c⟩:=tyV_is I1 r1 ty;refine ⟨T,id,pa,slot,hty,i,c,?_⟩;have b:=ha cpos a f σ H1 _ I1 q1;rw [hs] at b⊢;refine j33 (by show (false || (c5 cpos (F1 es X.env)).any (·.1))=false;rw [hplain]<;>rfl) (j49 ?_);exact thn b λ d g ⟨vs,H2,I2,r2,q2⟩=>hm a g σ H2 x vs v d Q I2 r1 r2 q2
end
def MtM (X:Cx) (id:String) (r:V->List V->Hp->VK->Prop):Prop:=
 ∀(pins:List (Addr×Obj)) (s:B0) (σ:St) (H:Hp) (x:V) (xs:List V) (v:Value) (us:List Value) (Q:VK),Inv X pins σ H s->RelV x v->Vals xs us->r x xs H Q->
  R0 (v1 X.prog X.w) X.A (call (.builtin id) (v :: us)) (EP X pins σ Q) X.xe s
theorem Vals.one :∀{x:V} {us:List Value},Vals [x] us->∃u,us=[u]/\RelV x u
 | _,_,.cons r .nil=>⟨_,rfl,r⟩
theorem Vals.eraseIdx :∀{xs:List V} {us:List Value} (i:Nat),Vals xs us->Vals (xs.eraseIdx i) (us.eraseIdx i)
 | _,_,_,.nil=>.nil
 | _,_,0,.cons _ t=>t
 | _,_,i + 1,.cons r t=>.cons r (Vals.eraseIdx i t)
theorem zdl {α:Type} :∀(l:List α) (i:Nat),(l.eraseIdx i).length<=l.length
 | [],_=>F0 _
 | _ :: _,0=>T2 _
 | _ :: r,i + 1=>g6 (zdl r i)
section
variable {X:Cx} {pins:List (Addr×Obj)} {σ:St} {H:Hp} {s:B0} {l b:Addr} {xs ys zs:List V}
theorem Inv.lset {its its':List Value} {n:Nat} {f:Array Value->Array Value} {t':Nat} (I:Inv X pins σ H s) (hH:H l=some (.lst xs))
  (e:s.heap.get? l=some { cls:=.type "list",data:=.seq its.toArray n }) (hf:f its.toArray=its'.toArray) (hv:Vals ys its') (hz:ys.length<=sizeLine) :
  Inv X pins σ (upd H l (.lst ys)) { s with heap:=s.heap.update l (X7 f),toks:=t' }:=by
 have q:=PySem.IsL.update e f;rw [hf] at q;refine I.write (x:=l) (e:=l) (by rw [hH];exact trivial) (.inl rfl) (λ c u a b=>(G6 s.heap (X7 f) (N2 a)).trans b) ⟨_,q⟩ ?_;exact ⟨hz,its',_,hv,q⟩
theorem Inv.lnew {its:List Value} {t':Nat} (I:Inv X pins σ H s) (hv:Vals ys its) (hz:ys.length<=sizeLine) :
  Inv X pins σ (upd H s.heap.objs.size (.lst ys)) { s with heap:=s.heap.push { cls:=.type "list",data:=.seq its.toArray },toks:=t' }:=
 I.laid (λ _ _ q=>D0 _ q) (F0 _) ⟨hz,its,0,hv,Q0 _ rfl⟩
theorem Inv.fresh (I:Inv X pins σ H s):H s.heap.objs.size=none:=I.hok.fresh (F0 _)
theorem Inv.lstM (I:Inv X pins σ H s) (hH:H l=some (.lst xs)):xs.length<=sizeLine/\∃(its:List Value) (n:Nat),Vals xs its/\xs.length=its.length/\s.heap.get? l=some { cls:=.type "list",data:=.seq its.toArray n }:=by obtain ⟨z,its,n,r,e⟩:=I.hok l _ hH;exact ⟨z,its,n,r,r.length,e⟩
end
section
variable {X:Cx}
def zje:V->List V->Hp->VK->Prop:=λ x vs H Q=>∃l xs y,x=.ref l/\vs=[y]/\H l=some (.lst xs)/\xs.length < sizeLine/\Q .non (upd H l (.lst (xs++[y])))
theorem zhb:MtM X "list.append" zje:=by intro m s σ H x o v j Q I d f h;obtain ⟨l,i,y,rfl,rfl,a,k,q⟩:=h;cases d;obtain ⟨u,rfl,c⟩:=f.one;obtain ⟨z,b,n,r,g,e⟩:=I.lstM a;refine j10 F.slot_list_append ⟨_,e,rfl⟩ F.entry_list_append (F.args_list_append_2 _ _) (PySem.list_append l b.toArray n u (by rw [V0];omega)) ⟨e,?_⟩;refine ⟨.non,_,I.lset (its':=b++[u]) a e (by simp) (r.append (.cons c .nil)) ?_,rfl,q⟩;rw [S0,List.length_singleton];omega
def rPopAt:V->List V->Hp->VK->Prop:=λ x vs H Q=>∃l xs i k y,x=.ref l/\vs=[.int i]/\H l=some (.lst xs)/\-(2 ^ 63)<=i/\i < 2 ^ 63/\seqIndex? i xs.length=some k/\xs[k]? = some y/\Q y (upd H l (.lst (xs.eraseIdx k)))
theorem zji:MtM X "list.pop" rPopAt:=by
 intro D s σ H x E v C Q I j A h;obtain ⟨l,p,i,k,y,rfl,rfl,b,B,c,d,o,q⟩:=h;cases j;obtain ⟨u,rfl,f⟩:=A.one;obtain ⟨t,rfl⟩:=f;obtain ⟨z,a,n,r,m,e⟩:=I.lstM b;obtain ⟨w,hw,g⟩:=r.get o;refine j10 F.slot_list_pop ⟨_,e,rfl⟩ F.entry_list_pop (F.args_list_pop_2 _ _)
  (MeetsSeq.list_pop_at l a.toArray n i t k w (fitsIndex_both B c) (by rw [V0,<-m];exact d) (by rw [<-E4];exact hw) (by rw [V0];omega)) ⟨e,?_⟩
 refine ⟨y,_,I.lset (its':=a.eraseIdx k) b e ?_ (r.eraseIdx k) ?_,g,q⟩
 ·show a.toArray.eraseIdxIfInBounds k=(a.eraseIdx k).toArray;rw [List.eraseIdxIfInBounds_toArray]
 ·have:=zdl p k;omega
noncomputable def rCat:R2:=λ x y H Q=>∃l b xs zs,x=.ref l/\y=.ref b/\H l=some (.lst xs)/\H b=some (.lst zs)/\xs.length + zs.length<=sizeLine/\∀p,H p=none->Q (.ref p) (upd H p (.lst (xs++zs)))
theorem op_cat:OpR X (A5 .Add) rCat:=by
 intro B s σ H x y v u Q I g k h;obtain ⟨l,b,p,C,rfl,rfl,d,i,w,q⟩:=h;cases g;cases k;obtain ⟨z,c,n,r,o,e⟩:=I.lstM d;obtain ⟨t,a,D,j,A,m⟩:=I.lstM i;refine PySem.P.add_list e m ?_ (by rw [V0,V0];omega);have f:c.toArray++a.toArray=(c++a).toArray:=by simp
 rw [f];exact ⟨.ref _,_,I.lnew (t':=s.toks) (r.append j) (by rw [S0];omega),rfl,q _ I.fresh⟩
end
section
variable {prog:Program} {w:j1} {A:V1} {E:Value->B0->Prop} {s:B0}
set_option maxRecDepth 100000 in
end
section
variable {κ:Type} [DecidableEq κ]
noncomputable def valV (kvs:List (κ×V)) (k:κ):Option V:=(kvs.find? λ kv=>decide (kv.1=k)).map (·.2)
noncomputable def putK (kvs:List (κ×V)) (k:κ) (v:V):List (κ×V):=
 if (kvs.any λ kv=>decide (kv.1=k))=true then kvs.map (λ kv=>if kv.1=k then (kv.1,v) else kv) else kvs++[(k,v)]
noncomputable def dropK (kvs:List (κ×V)) (k:κ):List (κ×V):=kvs.filter λ kv=>decide (kv.1≠k)
theorem z0v {p:κ×V} {r:List (κ×V)} {k:κ} (e:p.1=k):valV (p :: r) k=some p.2:=by simp [valV,M4,e]
theorem z0p {p:κ×V} {r:List (κ×V)} {k:κ} (e:¬ p.1=k):valV (p :: r) k=valV r k:=by simp [valV,M4,e]
theorem z9a (k:κ) :∀kvs:List (κ×V),(kvs.any λ kv=>decide (kv.1=k))=(valV kvs k).isSome
 | []=>rfl
 | p :: r=>by
  rw [m8];by_cases e:p.1=k
  ·simp only [z0v e,decide_eq_true e,Bool.true_or,Option.isSome_some]
  ·rw [z0p e,decide_eq_false e,j2h];exact z9a k r
theorem zfs (k j:κ) (y:V) :∀kvs:List (κ×V),valV (kvs.map λ kv=>if kv.1=k then (kv.1,y) else kv) j=(valV kvs j).map λ x=>if j=k then y else x
 | []=>rfl
 | p :: r=>by
  have a:=zfs k j y r;rw [A1];by_cases h:p.1=k
  ·rw [if_pos h];by_cases e:p.1=j
   ·rw [z0v (p:=(p.1,y)) e,z0v e,Z6,if_pos (e.symm.trans h)]
   ·rw [z0p (p:=(p.1,y)) e,z0p e,a]
  ·rw [if_neg h];by_cases e:p.1=j
   ·rw [z0v (p:=p) e,z0v e,Z6,if_neg (λ z=>h (e.trans z))]
   ·rw [z0p (p:=p) e,z0p e,a]
theorem zcl (k j:κ) (y:V) :∀kvs:List (κ×V),valV kvs k=none->valV (kvs++[(k,y)]) j=if j=k then some y else valV kvs j
 | [],_=>by
  by_cases e:k=j
  ·rw [if_pos e.symm];exact z0v (p:=(k,y)) e
  ·rw [if_neg (λ z=>e z.symm)];exact z0p (p:=(k,y)) e
 | p :: r,hn=>by
  rw [List.cons_append];have a:¬ p.1=k:=λ z=>by rw [z0v z] at hn;cases hn
  rw [z0p a] at hn;have b:=zcl k j y r hn;by_cases e:p.1=j
  ·rw [z0v e,z0v e,if_neg (λ z=>a (e.trans z))]
  ·rw [z0p e,z0p e,b]
theorem z2b (kvs:List (κ×V)) (k j:κ) (y:V):valV (putK kvs k y) j=if j=k then some y else valV kvs j:=by
 unfold putK;by_cases a:(kvs.any λ b=>decide (b.1=k))=true
 ·rw [if_pos a,zfs];rw [z9a] at a;by_cases e:j=k
  ·obtain ⟨x,c⟩:=Option.isSome_iff_exists.mp a;rw [if_pos e,e,c,Z6,if_pos rfl]
  ·rw [if_neg e];cases valV kvs j with
   | none=>rfl
   | some x=>rw [Z6,if_neg e]
 ·rw [if_neg a];refine zcl k j y kvs ?_;rw [z9a] at a;cases q:valV kvs k with
  | none=>rfl
  | some x=>rw [q] at a;exact (a rfl).elim
theorem z3s (kvs:List (κ×V)) (k:κ) (v:V):(putK kvs k v).length<=kvs.length + 1:=by
 unfold putK;split
 ·rw [M0];omega
 ·rw [S0,y1,m3];omega
theorem RelO.isSome_eq {o:Option V} {u:Option Value} (r:RelO o u):o.isSome=u.isSome:=by
 cases o with
 | none=>cases u with
  | none=>rfl
  | some _=>exact (show False from r).elim
 | some _=>cases u with
  | none=>exact (show False from r).elim
  | some _=>rfl
theorem KV.val {kvs:List (κ×V)} {vs:List (κ×Value)} (r:KV kvs vs) (k:κ):RelO (valV kvs k) (j07 vs k):=by
 unfold KV at r;induction r with
 | nil=>exact True.intro
 | @cons p q ps qs h t ih=>
  obtain ⟨c,d⟩:=h;by_cases e:p.1=k
  ·have a:q.1=k:=c.symm.trans e;have b:j07 (q :: qs) k=some q.2:=by simp [j07,M4,a]
   rw [z0v e,b];exact d
  ·have a:¬ q.1=k:=λ z=>e (c.trans z);have b:j07 (q :: qs) k=j07 qs k:=by simp [j07,M4,a]
   rw [z0p e,b];exact ih
theorem KV.any {kvs:List (κ×V)} {vs:List (κ×Value)} (r:KV kvs vs) (k:κ):(kvs.any λ kv=>decide (kv.1=k))=vs.any λ kv=>decide (kv.1=k):=by
 unfold KV at r;induction r with
 | nil=>rfl
 | cons h t ih=>rw [m8,m8,ih,h.1]
theorem KV.repl {kvs:List (κ×V)} {vs:List (κ×Value)} (r:KV kvs vs) (k:κ) {y:V} {u:Value} (ry:RelV y u) :
  KV (kvs.map λ kv=>if kv.1=k then (kv.1,y) else kv) (vs.map λ kv=>if kv.1=k then (kv.1,u) else kv):=by
 unfold KV at r⊢;induction r with
 | nil=>exact .nil
 | @cons p q ps qs h t ih=>
  rw [A1,A1];refine .cons ?_ ih;obtain ⟨a,b⟩:=h;by_cases e:p.1=k
  ·rw [if_pos e,if_pos (a.symm.trans e)];exact ⟨a,ry⟩
  ·rw [if_neg e,if_neg (λ z=>e (a.trans z))];exact ⟨a,b⟩
theorem KV.put {kvs:List (κ×V)} {vs:List (κ×Value)} (r:KV kvs vs) (k:κ) {y:V} {u:Value} (ry:RelV y u):KV (putK kvs k y) (stored vs k u):=by
 unfold putK stored;rw [r.any k];by_cases e:(vs.any λ a=>decide (a.1=k))=true
 ·rw [if_pos e,if_pos e];exact r.repl k ry
 ·rw [if_neg e,if_neg e];exact Paired.snoc r ⟨rfl,ry⟩
theorem KV.drop {kvs:List (κ×V)} {vs:List (κ×Value)} (r:KV kvs vs) (k:κ):KV (dropK kvs k) (without vs k):=by
 unfold KV at r⊢;unfold dropK without;induction r with
 | nil=>exact .nil
 | @cons p q ps qs h t ih=>
  obtain ⟨c,f⟩:=h;rw [X4,X4];by_cases e:p.1=k
  ·have a:¬ decide (p.1≠k)=true:=by simp [e]
   have b:¬ decide (q.1≠k)=true:=by simp [c.symm.trans e]
   rw [if_neg a,if_neg b];exact ih
  ·have d:¬ q.1=k:=λ z=>e (c.trans z);have a:decide (p.1≠k)=true:=by simp [e]
   have b:decide (q.1≠k)=true:=by simp [d]
   rw [if_pos a,if_pos b];exact .cons ⟨c,f⟩ ih
theorem KV.keys {kvs:List (κ×V)} {vs:List (κ×Value)} (r:KV kvs vs):kvs.map (·.1)=vs.map (·.1):=by
 unfold KV at r;induction r with
 | nil=>rfl
 | cons h t ih=>rw [A1,A1,ih,h.1]
theorem KV.length {kvs:List (κ×V)} {vs:List (κ×Value)} (r:KV kvs vs):kvs.length=vs.length:=Y7 r
theorem zjk (kvs:List (κ×V)) (k:κ):(dropK kvs k).length<=kvs.length:=G2 _ _
end
theorem kV_is {P:Program} {w:j1} {k:Key} {u:Value} (r:RelV (kV k) u):(z0l P w).is k u=true:=by
 cases k with
 | inl i=>obtain ⟨t,e⟩:=(show∃t,u=O6 i t from r);subst e;exact zek P w i t
 | inr x=>obtain ⟨t,e⟩:=(show∃t,u=B7 x t from r);subst e;exact zef P w x t
theorem zcp {P:Program} {w:j1} :∀{ks:List Key} {us:List Value},Vals (ks.map kV) us->ItemsAre (z0l P w) ks us
 | [],_,r=>by rw [C7] at r;cases r;exact .nil
 | k :: ks,_,r=>by
  rw [A1] at r;cases r with
  | cons h t=>exact .cons (kV_is h) (zcp t)
abbrev KT (H:Hp):List (List Key×V)->List (List Key×Addr×Value)->Prop:=C9 λ p q=>p.1=q.1/\H q.2.1=some (.tup (p.1.map kV))/\RelV p.2 q.2.2
theorem KT.val {H:Hp} {kvs:List (List Key×V)} {xs:List (List Key×Addr×Value)} (r:KT H kvs xs) (k:List Key):RelO (valV kvs k) ((j04 xs k).map (·.2)):=by
 induction r with
 | nil=>exact True.intro
 | @cons p q ps qs h t ih=>
  obtain ⟨c,_,d⟩:=h;by_cases e:p.1=k
  ·have a:q.1=k:=c.symm.trans e;have b:j04 (q :: qs) k=some q.2:=by simp [j04,M4,a]
   rw [z0v e,b];exact d
  ·have a:¬ q.1=k:=λ z=>e (c.trans z);have b:j04 (q :: qs) k=j04 qs k:=by simp [j04,M4,a]
   rw [z0p e,b];exact ih
theorem KT.repl {H:Hp} {kvs:List (List Key×V)} {xs:List (List Key×Addr×Value)} (r:KT H kvs xs) (k:List Key) {y:V} {u:Value} (ry:RelV y u) :
  KT H (kvs.map λ kv=>if kv.1=k then (kv.1,y) else kv) (xs.map (putAt k u)):=by
 induction r with
 | nil=>exact .nil
 | @cons p q ps qs h t ih=>
  rw [A1,A1];refine .cons ?_ ih;obtain ⟨a,b,c⟩:=h;unfold putAt;by_cases e:p.1=k
  ·rw [if_pos e,if_pos (a.symm.trans e)];exact ⟨a,b,ry⟩
  ·rw [if_neg e,if_neg (λ z=>e (a.trans z))];exact ⟨a,b,c⟩
theorem KT.put {H:Hp} {kvs:List (List Key×V)} {xs:List (List Key×Addr×Value)} (r:KT H kvs xs) (k:List Key) {b:Addr} {y:V} {u:Value} (hb:H b=some (.tup (k.map kV))) (ry:RelV y u) :
  KT H (putK kvs k y) (storedH xs k b u):=by
 have e:(kvs.any λ a=>decide (a.1=k))=(j04 xs k).isSome:=by rw [z9a,(r.val k).isSome_eq,W7]
 unfold putK storedH;rw [e];by_cases q:(j04 xs k).isSome=true
 ·rw [if_pos q,if_pos q];exact r.repl k ry
 ·rw [if_neg q,if_neg q];exact Paired.snoc r ⟨rfl,hb,ry⟩
theorem KT.keeps {H H':Hp} {kvs:List (List Key×V)} {xs:List (List Key×Addr×Value)} (r:KT H kvs xs) (ht :∀b ys,H b=some (.tup ys)->H' b=some (.tup ys)):KT H' kvs xs:=
 Paired.mapP r λ _ _ z=>⟨z.1,ht _ _ z.2.1,z.2.2⟩
section
variable {P:Program} {w:j1} {H:Hp} {h:Heap} {a:Addr}
theorem rd_of {u:HO} (ok:HOk P w H h) (e:Rd H a u):ObjOk P w H h a u:=e.ok ok
theorem dk_rd {kvs:List (Key×V)} (ok:HOk P w H h) (e:Rd H a (.dK kvs)):kvs.length<=sizeLine/\(a == Y4)=false/\∃vs,KV kvs vs/\h.DictOf (z0l P w) a vs:=
 show ObjOk P w H h a (.dK kvs) from rd_of ok e
theorem dk_of {kvs:List (Key×V)} (ok:HOk P w H h) (e:H a=some (.dK kvs)):kvs.length<=sizeLine/\(a == Y4)=false/\∃vs,KV kvs vs/\h.DictOf (z0l P w) a vs:=dk_rd ok (.inl e)
theorem key_of {ks:List Key} (ok:HOk P w H h) (e:H a=some (.tup (ks.map kV))):(m7 (z0l P w)).is h ks a:=by
 obtain ⟨_,d,r,⟨o,f,b,n,c⟩,_⟩:=(show ObjOk P w H h a (.tup (ks.map kV)) from ok a _ e)
 exact ⟨o,d.toArray,n,f,b,c,by simpa using zcp r⟩
theorem dt_rd {kvs:List (List Key×V)} (ok:HOk P w H h) (e:Rd H a (.dT kvs)):kvs.length<=sizeLine/\(a == Y4)=false/\
  ∃xs,KT H kvs xs/\h.DictOfH (m7 (z0l P w)) a xs:=by
 obtain ⟨z,y,xs,r,o,i,f,k,d,g,c,j⟩:=(show ObjOk P w H h a (.dT kvs) from rd_of ok e)
 refine ⟨z,y,xs,r,o,i,f,k,d,g,c,λ x b=>?_,j⟩;have all :∀{l:List (List Key×V)} {m:List (List Key×Addr×Value)},KT H l m->∀x∈m,(m7 (z0l P w)).is h x.1 x.2.1:=by
  intro l m q;induction q with
  | nil=>intro x b;exact nomatch b
  | @cons p q ps qs hq t ih=>
   intro x b;rcases List.mem_cons.mp b with e|b
   ·subst e;exact key_of ok (by rw [<-hq.1];exact hq.2.1)
   ·exact ih x b
 exact all r x b
theorem dt_of {kvs:List (List Key×V)} (ok:HOk P w H h) (e:H a=some (.dT kvs)):kvs.length<=sizeLine/\(a == Y4)=false/\
  ∃xs,KT H kvs xs/\h.DictOfH (m7 (z0l P w)) a xs:=dt_rd ok (.inl e)
end
def DGet (H:Hp) (a:Addr) (y:V) (r:Option V):Prop:=
 (∃kvs k,Rd H a (.dK kvs)/\y=kV k/\r=valV kvs k)\/∃kvs k b,Rd H a (.dT kvs)/\y=.ref b/\H b=some (.tup (k.map kV))/\r=valV kvs k
def DPut (H:Hp) (a:Addr) (y v:V) (H':Hp):Prop:=
 (∃kvs k,H a=some (.dK kvs)/\y=kV k/\kvs.length < sizeLine/\H'=upd H a (.dK (putK kvs k v)))\/
 ∃kvs k b,H a=some (.dT kvs)/\y=.ref b/\H b=some (.tup (k.map kV))/\kvs.length < sizeLine/\H'=upd H a (.dT (putK kvs k v))
theorem DGet.k {H:Hp} {a:Addr} {kvs:List (Key×V)} {k:Key} (e:H a=some (.dK kvs)):DGet H a (kV k) (valV kvs k):=.inl ⟨kvs,k,.inl e,rfl,rfl⟩
theorem DPut.k {H:Hp} {a:Addr} {kvs:List (Key×V)} {k:Key} {v:V} (e:H a=some (.dK kvs)) (hl:kvs.length < sizeLine):DPut H a (kV k) v (upd H a (.dK (putK kvs k v))):=.inl ⟨kvs,k,e,rfl,hl,rfl⟩
section
variable {X:Cx} {pins:List (Addr×Obj)} {σ:St} {H:Hp} {s:B0} {a:Addr} {y v:V} {u r:Value} {o:Option V} {A:V1} {E:Value->B0->Prop}
theorem Inv.big (I:Inv X pins σ H s):Y4 < s.heap.objs.size:=by have h:O0 < s.heap.objs.size:=(I.mod.glob.keeps I.bk).lt;exact K7 (by decide) h
theorem zhk {Q:Value->B0->Prop} (hu:A.units + 1 < cLine) (I:Inv X pins σ H s) (g:DGet H a y (some v)) (ry:RelV y u) (h :∀w' s',Inv X pins σ H s'->RelV v w'->Q w' s') :
  R0 (v1 X.prog X.w) A (L8 (.ref a) u) Q E s:=by
 rcases g with ⟨m,k,e,i,l⟩|⟨m,k,b,e,i,eb,l⟩
 ·subst i;obtain ⟨z,t,r,c,f⟩:=dk_rd I.hok e;obtain ⟨w',hw,d⟩:=RelO.some_of (v:=v) (o:=j07 r k) (by rw [l];exact c.val k);exact wpAny_getItem_of (kV_is ry) f.mapOf hw (h w' _ (I.tok _) d)
 ·subst i;cases (show u=C1 b from ry);obtain ⟨z,t,j,c,f⟩:=dt_rd I.hok e;obtain ⟨w',hw,d⟩:=RelO.some_of (v:=v) (o:=(j04 j k).map (·.2)) (by rw [l];exact c.val k);obtain ⟨p,n,q⟩:=Option.map_eq_some_iff.mp hw;refine wpAny_getItem_heap (o8 hu) (key_of I.hok eb) f n ?_;rw [q];exact h w' _ (I.tok _) d
theorem d_in {Q:Value->B0->Prop} (hu:A.units + 1 < cLine) (I:Inv X pins σ H s) (g:DGet H a y o) (ry:RelV y u) (h :∀s',Inv X pins σ H s'->Q (.bool o.isSome) s') :
  R0 (v1 X.prog X.w) A (P2 .In u (.ref a)) Q E s:=by
 rcases g with ⟨j,k,e,i,l⟩|⟨j,k,b,e,i,eb,l⟩
 ·subst i;obtain ⟨z,f,n,c,d⟩:=dk_rd I.hok e;refine wpAny_in_of (kV_is ry) f d.mapOf ?_;rw [<-(c.val k).isSome_eq,<-l];exact h _ (I.tok _)
 ·subst i;cases (show u=C1 b from ry);obtain ⟨z,f,m,c,d⟩:=dt_rd I.hok e;refine wpAny_in_heap (o8 hu) (key_of I.hok eb) f d ?_;have q:=(c.val k).isSome_eq;rw [W7] at q;rw [<-q,<-l];exact h _ (I.tok _)
theorem zlh {Q:Value->B0->Prop} (hu:A.units + 1 < cLine) (I:Inv X pins σ H s) (g:DGet H a y o) (ry:RelV y u) (h :∀s',Inv X pins σ H s'->Q (.bool (!o.isSome)) s') :
  R0 (v1 X.prog X.w) A (P2 .NotIn u (.ref a)) Q E s:=by
 rcases g with ⟨j,k,e,i,l⟩|⟨j,k,b,e,i,eb,l⟩
 ·subst i;obtain ⟨z,f,n,c,d⟩:=dk_rd I.hok e;refine wpAny_notIn_of (kV_is ry) f d.mapOf ?_;rw [<-(c.val k).isSome_eq,<-l];exact h _ (I.tok _)
 ·subst i;cases (show u=C1 b from ry);obtain ⟨z,f,m,c,d⟩:=dt_rd I.hok e;refine wpAny_notIn_heap (o8 hu) (key_of I.hok eb) f d ?_;have q:=(c.val k).isSome_eq;rw [W7] at q;rw [<-q,<-l];exact h _ (I.tok _)
theorem zdm {h':Heap} {t':Nat} {ob:HO} (I:Inv X pins σ H s) (mu:Mut (H a)) (hs:o5 a s.heap h') (he :∃q,h'.get? a=some q) (new:ObjOk X.prog X.w (upd H a ob) h' a ob) :
  Inv X pins σ (upd H a ob) { s with heap:=h',toks:=t' }:=
 I.write (x:=a) (e:=a) mu (.inl rfl) (λ b q c z=>(hs.2 b c).trans z) he new
theorem dk_new {P:Program} {w:j1} {H':Hp} {h':Heap} {kvs:List (Key×V)} {vs:List (Key×Value)} (z:kvs.length<=sizeLine) (hd:(a == Y4)=false) (rel:KV kvs vs) (dd:h'.DictOf (z0l P w) a vs) :
  ObjOk P w H' h' a (.dK kvs):=⟨z,hd,vs,rel,dd⟩
theorem zcj {H':Hp} {Q:Unit->B0->Prop} (hu:A.units + 1 < cLine) (I:Inv X pins σ H s) (g:DPut H a y v H') (ry:RelV y u) (rv:RelV v r) (h :∀s',Inv X pins σ H' s'->Q () s') :
  R0 (v1 X.prog X.w) A (setItem (.ref a) u r) Q E s:=by
 rcases g with ⟨f,k,e,t,l,m⟩|⟨f,k,b,e,t,eb,l,m⟩
 ·subst t m;obtain ⟨z,B,G,d,o⟩:=dk_of I.hok e;have p:G.length<=sizeLine:=by rw [<-d.length];exact z
  have n:(putK f k v).length<=sizeLine:=by have:=z3s f k v;omega
  refine wpAny_setItem_pairs (hsz:=p) (kV_is ry) o λ C j x=>h _ ?_;have O :∃q,C.get? a=some q:=let ⟨q,_,_,i,_⟩:=j;⟨q,i⟩;exact zdm I (by rw [e];exact True.intro) x O (dk_new n B (d.put k rv) j)
 ·subst t m;cases (show u=C1 b from ry);obtain ⟨z,B,M,d,o⟩:=dt_of I.hok e;have p:M.length<=sizeLine:=by rw [<-Y7 d];exact z
  have n:(putK f k v).length<=sizeLine:=by have:=z3s f k v;omega
  refine wpAny_setItem_heap (hsz:=p) (o8 hu) (key_of I.hok eb) o λ C j x=>h _ ?_;obtain ⟨q,J,L,i,F,N,P,_,K⟩:=j;refine zdm I (by rw [e];exact True.intro) x ⟨q,i⟩ ⟨n,B,_,(d.put k eb rv).keeps λ c R D=>?_,q,J,L,i,F,N,P,K⟩;rw [upd_ne (ne_of D e (λ z=>nomatch z))];exact D
end
section
variable {X:Cx} {pins:List (Addr×Obj)} {σ:St} {H:Hp} {s:B0} {a:Addr} {kvs:List (Key×V)} {k:Key} {u:Value} {A:V1} {E:Value->B0->Prop}
theorem d_pop {v:V} {more:List Value} {Q:Value->B0->Prop} (I:Inv X pins σ H s) (e:H a=some (.dK kvs)) (ry:RelV (kV k) u) (l:valV kvs k=some v) (hm:more=[]\/∃x,more=[x])
  (h :∀w' s',Inv X pins σ (upd H a (.dK (dropK kvs k))) s'->RelV v w'->Q w' s'):R0 (v1 X.prog X.w) A (call (.builtin "dict.pop") (.ref a :: u :: more)) Q E s:=by
 obtain ⟨z,y,f,b,d⟩:=dk_of I.hok e;obtain ⟨w',hw,p⟩:=RelO.some_of (v:=v) (o:=j07 f k) (by rw [<-l];exact b.val k);have j:(keyPart u).isSome=true:=by
  cases k with
  | inl i=>obtain ⟨t,q⟩:=(show∃t,u=O6 i t from ry);subst q;rfl
  | inr x=>obtain ⟨t,q⟩:=(show∃t,u=B7 x t from ry);subst q;rfl
 have n:argsOk "dict.pop" ⟨.ref a :: u :: more,[]⟩:=by
  rcases hm with q|⟨x,q⟩
  ·subst q;exact PySem.F.args_dict_pop_2 _ _
  ·subst q;exact PySem.F.args_dict_pop_3 _ _ _
 refine call_meetsIn j2e d.typeIs PySem.F.entry_dict_pop n (meets_dict_pop_there (z0l X.prog X.w) a (kV_is ry) more hm j)
  ⟨f,w',d,by rw [<-b.length];exact z,hw,λ r c g=>h w' _ ?_ p⟩
 have m :∃q,r.get? a=some q:=let ⟨q,_,_,hq,_⟩:=c;⟨q,hq⟩;exact zdm I (by rw [e];exact True.intro) g m (dk_new (G0 (zjk kvs k) z) y (b.drop k) c)
theorem d_len {Q:Value->B0->Prop} (I:Inv X pins σ H s) (e:Rd H a (.dK kvs)) (h :∀t s',Inv X pins σ H s'->Q (.int kvs.length t) s'):R0 (v1 X.prog X.w) A (call (.builtin "len") [.ref a]) Q E s:=by obtain ⟨z,d,f,b,c⟩:=dk_rd I.hok e;refine call_len_dict d c (by rw [<-b.length];rw [j2a] at z;omega) ?_;rw [<-b.length];exact h _ _ (I.tok _)
end
def NoSl (i:Expr):Prop:=∀ov iv,j29 i false ov iv=operate [ov,iv] (L8 ov iv)
theorem zlb {prog:Program} {w:j1} {A:V1} {E:Value->B0->Prop} {s:B0} {env:Env} {value slice:Expr} {pos:Pos} {T id:String} {Q:Value->B0->Prop}
  (hl:j3h (.type T) "__getitem__" = G3 (some (.builtin id))) (hs:NoSl slice)
  (h:R0 (v1 prog w) A (L3 value env) (λ o s₁=>R0 (v1 prog w) A (L3 slice env) (λ i s₂=>s₂.TypeIs o T/\R0 (v1 prog w) A (L8 o i) Q E s₂) E s₁) E s) :
  R0 (v1 prog w) A (L3 (.Subscript value slice pos) env) Q E s:=by
 refine Subscript_ (y4 h (λ o s₁ e=>y4 e (λ i s₂ a=>?_) λ _ _ x=>x) λ _ _ x=>x);obtain ⟨d,a⟩:=a;unfold subscriptTail;refine c0 ?_;rw [getitemInPython_of_ne d.not_modules];refine c0 (wpAny_specialOf d hl ?_);have b:R0 (v1 prog w) A (j29 slice false o i) (λ r c=>R0 (v1 prog w) A (letTemporaryGo value o r >>= λ _=>G3 r) Q E c) E s₂:=by rw [hs o i];exact wpAny_operating (y4 a (λ r c f=>c0 (wpAny_letTemporaryGo (C0 f))) λ _ _ x=>x)
 first
  | exact C0 (c0 b)
  | exact c0 (C0 (c0 b))
  | exact c0 b
theorem zeh {X:Cx} {pins:List (Addr×Obj)} {σ:St} {H:Hp} {s:B0} {a:Addr} {y:V} {o:Option V} (I:Inv X pins σ H s) (g:DGet H a y o):s.TypeIs (.ref a) "dict":=by
 rcases g with ⟨d,k,e,_,_⟩|⟨d,k,b,e,_,_,_⟩
 ·obtain ⟨_,_,h,_,c⟩:=dk_rd I.hok e;exact c.typeIs
 ·obtain ⟨_,_,f,_,c⟩:=dt_rd I.hok e;exact c.typeIs
noncomputable def tDGet (td ty:TE):TE:=λ σ H Q=>td σ H λ x H1=>ty σ H1 λ y H2=>∃a v,x=.ref a/\DGet H2 a y (some v)/\Q v H2
noncomputable def tDIn (ty td:TE):TE:=λ σ H Q=>ty σ H λ y H1=>td σ H1 λ x H2=>∃a o,x=.ref a/\DGet H2 a y o/\Q (.bl o.isSome) H2
noncomputable def zkw (ty td:TE):TE:=λ σ H Q=>ty σ H λ y H1=>td σ H1 λ x H2=>∃a o,x=.ref a/\DGet H2 a y o/\Q (.bl (!o.isSome)) H2
noncomputable def sDPut (td ty tv:TE):TS:=λ D σ H=>tv σ H λ v H1=>td σ H1 λ x H2=>ty σ H2 λ y H3=>∃a H4,x=.ref a/\DPut H3 a y v H4/\D.nx σ H4
section
variable {X:Cx} {o i e value:Expr} {pos pos' tpos:Pos} {td ty tv:TE}
theorem z7v (hu:X.A.units + 1 < cLine) (ho:PE X o td) (hi:PE X i ty) (hs:NoSl i):PE X (.Subscript o i pos) (tDGet td ty):=by intro b s σ H Q I h;refine zlb PySem.F.slot_dict_getitem.lookup hs (thn (ho b s σ H _ I h) λ u e ⟨x,H1,I1,rx,q1⟩=>thn (hi b e σ H1 _ I1 q1) λ k f ⟨y,H2,I2,ry,a,v,ex,g,q2⟩=>?_);subst ex;obtain rfl:u=C1 a:=rx;exact ⟨zeh I2 g,zhk hu I2 g ry λ l j c d=>⟨v,H2,c,d,q2⟩⟩
theorem pc_din (hu:X.A.units + 1 < cLine) (hi:PE X i ty) (ho:PE X o td):PC X .In i o (tDIn ty td):=by intro b s σ H Q I h;refine thn (hi b s σ H _ I h) λ j d ⟨y,H1,I1,ry,q1⟩=>thn (ho b d σ H1 _ I1 q1) λ u e ⟨x,H2,I2,rx,a,ov,ex,g,q2⟩=>?_;subst ex;obtain rfl:u=C1 a:=rx;exact d_in hu I2 g ry λ f c=>⟨.bl ov.isSome,H2,c,rfl,q2⟩
theorem zhm (hu:X.A.units + 1 < cLine) (hi:PE X i ty) (ho:PE X o td):PC X .NotIn i o (zkw ty td):=by intro b s σ H Q I h;refine thn (hi b s σ H _ I h) λ j d ⟨y,H1,I1,ry,q1⟩=>thn (ho b d σ H1 _ I1 q1) λ u e ⟨x,H2,I2,rx,a,ov,ex,g,q2⟩=>?_;subst ex;obtain rfl:u=C1 a:=rx;exact zlh hu I2 g ry λ f c=>⟨.bl (!ov.isSome),H2,c,rfl,q2⟩
theorem zd8 (hu:X.A.units + 1 < cLine) (ho:PE X o td) (hi:PE X i ty) (hv:PE X value tv) (hs:j8 value (some (.Subscript o i pos')) pos.line X.env=G3 false) :
  PS X (.Assign [.Subscript o i pos'] value pos) (sDPut td ty tv):=by
 intro b s σ H D I h;refine wpAny_Assign_Subscript (thn (hv b s σ H _ I h) λ r c ⟨v,H1,I1,rv,q1⟩=>thn (ho b c σ H1 _ I1 q1) λ u d ⟨x,H2,I2,rx,q2⟩=>thn (hi b d σ H2 _ I2 q2) λ k j ⟨y,H3,I3,ry,a,H4,ex,g,q3⟩=>?_) hs;subst ex;obtain rfl:u=C1 a:=rx;exact zcj hu I3 g ry rv λ f e=>⟨σ,H4,e,q3⟩
end
theorem zgc {P:Program} {w:j1} {H:Hp} (h:Heap) (hb:Y4 < h.objs.size):ObjOk P w H (h.push { cls:=.type "dict",data:=.dict #[] }) h.objs.size (.dK []):=
 ⟨d3 _,beq_eq_false_iff_ne.mpr (N2 (X0 hb)),[],.nil,j3c h⟩
noncomputable def tDNewK:TE:=λ _ H Q=>∀p,H p=none->Q (.ref p) (upd H p (.dK []))
section
variable {X:Cx} {pos:Pos}
theorem z8i:PE X (.Dict [] [] pos) tDNewK:=λ b s σ H Q I h=>wpAny_Dict_empty ⟨.ref s.heap.objs.size,_,I.laid (a:=s.heap.objs.size) (o:=.dK []) (t':=s.toks) (λ _ _ q=>D0 _ q) (F0 _) (zgc s.heap I.big),rfl,h _ (I.hok.fresh (F0 _))⟩
end
noncomputable def tPairs:List (TE×TE)->St->Hp->(List (V×V)->Hp->Prop)->Prop
 | [],_,H,Q=>Q [] H
 | (tk,tv) :: r,σ,H,Q=>tk σ H λ x H1=>tv σ H1 λ y H2=>tPairs r σ H2 λ ps H3=>Q ((x,y) :: ps) H3
abbrev VV:List (V×V)->List (Value×Value)->Prop:=C9 λ p q=>RelV p.1 q.1/\RelV p.2 q.2
def PPs (X:Cx) (pos:Pos) (keys:List (Option Expr)) (values:List Expr) (trs:List (TE×TE)):Prop:=
 ∀(pins:List (Addr×Obj)) (s:B0) (σ:St) (H:Hp) (Q:List (V×V)->Hp->Prop),Inv X pins σ H s->tPairs trs σ H Q->
  R0 (v1 X.prog X.w) X.A (evalPairs (pairTrees keys values X.env pos)) (λ vs s'=>∃ps H',Inv X pins σ H' s'/\VV ps vs/\Q ps H') X.xe s
theorem zkv {X:Cx} {pos:Pos}:PPs X pos [] [] []:=λ a s σ H Q I h=>pairTrees_nil_walk ⟨[],H,I,.nil,h⟩
theorem zkb {X:Cx} {pos:Pos} {k v:Expr} {ks:List (Option Expr)} {vs:List Expr} {tk tv:TE} {trs:List (TE×TE)} (hk:PE X k tk) (hv:PE X v tv) (hr:PPs X pos ks vs trs) :
  PPs X pos (some k :: ks) (v :: vs) ((tk,tv) :: trs):=λ a s σ H Q I h=>
 pairTrees_cons_walk (thn (hk a s σ H _ I h) λ u b ⟨x,H1,I1,rx,q1⟩=>thn (hv a b σ H1 _ I1 q1) λ f c ⟨y,H2,I2,ry,q2⟩=>thn (hr a c σ H2 _ I2 q2) λ e d ⟨ps,H3,I3,rel,q3⟩=>⟨(x,y) :: ps,H3,I3,.cons ⟨rx,ry⟩ rel,q3⟩)
noncomputable def mergeK (kvs more:List (Key×V)):List (Key×V):=more.foldl (λ acc kv=>putK acc kv.1 kv.2) kvs
theorem KV.merge :∀{more:List (Key×V)} {rs:List (Key×Value)} {kvs:List (Key×V)} {vs:List (Key×Value)},KV more rs->KV kvs vs->KV (mergeK kvs more) (merged vs rs):=by
 intro more rs kvs vs r;unfold KV at r;induction r generalizing kvs vs with
 | nil=>intro q;exact q
 | @cons p q ps qs h t ih=>
  intro a;have e:KV (putK kvs p.1 p.2) (stored vs q.1 q.2):=by have:=a.put p.1 h.2;rw [<-h.1];exact this
  exact ih e
theorem z5t :∀(more kvs:List (Key×V)),(mergeK kvs more).length<=kvs.length + more.length
 | [],kvs=>by show kvs.length<=kvs.length + 0;omega
 | p :: r,kvs=>by have b:=z5t r (putK kvs p.1 p.2);have a:=z3s kvs p.1 p.2;show (mergeK (putK kvs p.1 p.2) r).length<=_;rw [y1];omega
theorem zas {P:Program} {w:j1} :∀{kvs:List (Key×V)} {ws:List (Value×Value)},VV (kvs.map λ kv=>(kV kv.1,kv.2)) ws->∃rs,Carries (z0l P w) ws rs/\KV kvs rs
 | [],_,r=>by rw [C7] at r;cases r;exact ⟨[],True.intro,.nil⟩
 | p :: kvs,_,r=>by
  rw [A1] at r;cases r with
  | @cons a b as bs h t=>obtain ⟨rs,c,q⟩:=zas (P:=P) (w:=w) t;obtain ⟨e,d⟩:=b;exact ⟨(p.1,d) :: rs,⟨kV_is h.1,rfl,c⟩,.cons ⟨rfl,h.2⟩ q⟩
noncomputable def tDisp (trs:List (TE×TE)):TE:=λ σ H Q=>∀p,H p=none->tPairs trs σ (upd H p (.dK [])) λ ps H2=>H2 p=some (.dK [])/\∃kvs:List (Key×V),ps=kvs.map (λ kv=>(kV kv.1,kv.2))/\kvs.length<=15/\Q (.ref p) (upd H2 p (.dK (mergeK [] kvs)))
theorem zlm {X:Cx} {pos:Pos} {keys:List (Option Expr)} {values:List Expr} {trs:List (TE×TE)} (h:PPs X pos keys values trs) (hall:keys.all (·.isSome)=true) (hl:keys.length=values.length) (h0:keys≠[])
  (h15:keys.length<=15):PE X (.Dict keys values pos) (tDisp trs):=by
 intro k s σ H Q I q;have d:=I.hok.fresh (F0 s.heap.objs.size);have g:=I.laid (a:=s.heap.objs.size) (o:=.dK []) (h':=s.heap.push { cls:=.type "dict",data:=.dict #[] }) (t':=s.toks) (λ _ _ q=>D0 _ q) (F0 _) (zgc s.heap I.big);refine wpAny_Dict_walk (knd:=z0l X.prog X.w) hall hl h0 h15 (thn (h k _ σ _ _ g (q _ d)) λ v u ⟨ps,H2,I2,rel,e,kvs,ep,lk,q2⟩=>?_);subst ep;obtain ⟨m,c,l⟩:=zas (P:=X.prog) (w:=X.w) rel;obtain ⟨z,r,x,i,f⟩:=dk_of I2.hok e;cases i;refine ⟨m,c,f,λ h' b n=>⟨.ref s.heap.objs.size,_,?_,rfl,q2⟩⟩;have j:(mergeK [] kvs).length<=sizeLine:=by have t:=z5t kvs [];rw [m3] at t;rw [j2a];omega
 have p :∃q,h'.get? s.heap.objs.size=some q:=let ⟨q,_,_,hq,_⟩:=b;⟨q,hq⟩;exact zdm I2 (by rw [e];exact True.intro) n p (dk_new j r (l.merge .nil) b)
structure M1 (X:Cx) (o:Expr) (m:Str) (apos:Pos) (e:Expr) (cpos:Pos):Prop where
 base:X5 o m X.env (L3 o X.env)=L3 o X.env
 few:((c5 cpos (F1 [e] X.env)).all (λ x=>!x.1) && (j03 cpos (E7 [] X.env)).all (λ x=>x.1.isSome)
  && decide (([e]:List Expr).length + ([]:List W6).length + (if ([]:List W6).isEmpty then 0 else 1) < 30))=true
 line:(apos.endLine == cpos.line)=true
 trees:c5 cpos (F1 [e] X.env)=[(false,L3 e X.env)]
structure M2 (X:Cx) (o:Expr) (m:Str) (apos:Pos) (e f:Expr) (cpos:Pos):Prop where
 base:X5 o m X.env (L3 o X.env)=L3 o X.env
 few:((c5 cpos (F1 [e,f] X.env)).all (λ x=>!x.1) && (j03 cpos (E7 [] X.env)).all (λ x=>x.1.isSome)
  && decide (([e,f]:List Expr).length + ([]:List W6).length + (if ([]:List W6).isEmpty then 0 else 1) < 30))=true
 line:(apos.endLine == cpos.line)=true
 trees:c5 cpos (F1 [e,f] X.env)=[(false,L3 e X.env),(false,L3 f X.env)]
def IsD (H:Hp) (a:Addr):Prop:=(∃kvs,Rd H a (.dK kvs))\/∃kvs,Rd H a (.dT kvs)
theorem isD_at {X:Cx} {pins:List (Addr×Obj)} {σ:St} {H:Hp} {s:B0} {a:Addr} (I:Inv X pins σ H s) (d:IsD H a) :
  s.TypeIs (.ref a) "dict"/\(∀b,C1 a=.ref b->∃ob,s.heap.get? b=some ob/\ob.dict=none)/\(a == Y4)=false:=by
 rcases d with ⟨i,e⟩|⟨i,e⟩
 ·obtain ⟨_,g,k,_,c⟩:=dk_rd I.hok e;refine ⟨c.typeIs,λ b q=>?_,g⟩;cases q;obtain ⟨ob,_,_,h,f,_⟩:=c;exact ⟨ob,h,f.2.1⟩
 ·obtain ⟨_,g,j,_,c⟩:=dt_rd I.hok e;refine ⟨c.typeIs,λ b q=>?_,g⟩;cases q;obtain ⟨ob,_,_,h,f,_⟩:=c;exact ⟨ob,h,f.2.1⟩
noncomputable def tDPop1 (td ty:TE):TE:=λ σ H Q=>td σ H λ x H1=>∃a,x=.ref a/\IsD H1 a/\ty σ H1 λ y H2=>∃kvs k v,H2 a=some (.dK kvs)/\y=kV k/\valV kvs k=some v/\Q v (upd H2 a (.dK (dropK kvs k)))
section
variable {X:Cx} {o e f:Expr} {apos cpos:Pos} {td ty tx:TE}
theorem zg0 (ho:PE X o td) (he:PE X e ty) (m:M1 X o "pop" apos e cpos):PE X (.Call (.Attribute o "pop" apos) [e] [] cpos) (tDPop1 td ty):=by intro b s σ H Q I h;refine wpAny_Call_method m.base m.few m.line PySem.F.plainAttrs_dict j2e PySem.F.type_dict_pop (thn (ho b s σ H _ I h) λ u i ⟨x,H1,I1,rx,a,ex,d,q1⟩=>?_);subst ex;obtain rfl:u=C1 a:=rx;obtain ⟨c,j,_⟩:=isD_at I1 d;refine ⟨c,j,?_⟩;rw [m.trees];refine j33 rfl (j49 (m5 (thn (he b i σ H1 _ I1 q1) λ q n ⟨y,H2,I2,ry,kvs,k,v,ea,ey,l,q2⟩=>F5 ?_)));subst ey;exact d_pop I2 ea ry l (.inl rfl) λ r p f g=>⟨v,_,f,g,q2⟩
end
end L2
namespace Att
open PySem PySem.W PySem.Calls PyProof.Rows
theorem z7o {P:J0} {h:Heap} :∀(ns:List Int) (vs:List Value),WellAll P h vs (ns.map WData.int)->D3 vs ns:=by
 intro ns;induction ns with
 | nil=>intro vs w;rw [C7] at w;cases w;exact .nil
 | cons n ns ih=>
  intro vs w;rw [A1] at w;cases w with
  | cons a b=>cases a;exact .cons _ _ (ih _ b)
theorem zi3 {l:OpenLaw} {n:Nat} (hn:l.most=some n) {P:J0} {h:Heap} {args:List WData} {vals:List Value}
  (hpre:l.row.toRowW.claim.pre args=true) (hwl:WellAll P h vals args) :
  ∃a vs ns,vals=[C1 a]/\args=[WData.list (ns.map WData.int)]/\h.get? a=some { cls:=.type "list",data:=.seq vs.toArray }/\D3 vs ns/\ns.length<=n:=by
 have k:WShape.hasAll [] args [.list .int]=true:=(pre_splitW hpre).1;have e:l.pre.holds [] { args:=args }=true:=(pre_splitW hpre).2;obtain ⟨d,r,rfl,m,f⟩:=hasAllW_cons k;obtain rfl:=hasAllW_nil f;obtain ⟨o,rfl,g⟩:=hasW_list m;obtain ⟨ns,rfl⟩:=items_int g;have j:ns.length<=n:=by
  unfold OpenLaw.pre at e;have b:(WTm.not (.lt (.lit (.int (n:Int))) (.len (.arg 0)))).holds [] { args:=[.list (ns.map .int)] }=true:=by have b:=(holds_andW e).1;rw [hn] at b;exact b
  have c:=condW_of b (w_not (w_lt w_lit (w_len_list (w_arg rfl))));rw [M0] at c;refine V6 λ q=>?_;have i:(n:Int) < ((ns.length:Nat):Int):=by omega
  first
   | (rw [decide_eq_true i] at c;exact absurd c (by decide))
   | (simp at c;omega)
 cases hwl with
 | cons w1 w2=>
  cases w2;cases w1 with
  | list ho hall=>exact ⟨_,_,ns,rfl,rfl,ho,z7o ns _ hall,j⟩
theorem zia (l:OpenLaw) (args:List WData):l.row.toRowW.claim.post args (.bool true) args=true:=
 postW_of (r:=l.row.toRowW) (X:=(true == true))
  (show WShape.has [] (.bool true) .bool=true by first|rfl|decide|simp [WShape.has,WShape.arms,WShape.armsAll])
  (show (WTm.eq .res (.lit (.bool true))).value [] { args:=args,res:=some (.bool true),after:=args }=some (.bool (true == true)) from w_eq_bool (w_res rfl) w_lit) rfl
theorem attach_call {l:OpenLaw} {n:Nat} {q:Program} {loose:List Str} {XP:(Str->Option Value)->Heap->Prop} {YP:j1->Heap->Prop} {d:DefRec}
  (hn:l.most=some n) (hdf:d.params.defaults=[])
  (call :∀(w:j1) (s₀ s₁:B0) (mg mb:Str->Option Value) (fa:Addr) (o:Obj) (pm cd doc:Value) (a:Addr) (vs:List Value) (ns:List Int),
   Ground q loose [] XP w s₀ mg mb s₁.heap->YP w s₁.heap->
   s₁.heap.get? fa=some o->o.data=.func (docDef d.name d.params d.body d.scope pm cd doc)->s₁.heap.CodeRec cd d.name->mg d.name=some (.ref fa)->
   s₁.heap.get? a=some { cls:=.type "list",data:=.seq vs.toArray }->D3 vs ns->ns.length<=n->s₁.gens = #[]->
   Q4 (v1 l.prog w) j1b (.call (.ref fa) ⟨[.ref a],[]⟩) (λ r s'=>r=.ok (.ret (.bool true))/\OldK s₁.heap s'.heap/\s'.os=s₁.os/\O8 s'.gens) s₁) :
  WalkO q loose XP YP l.row.toRowW d [] (λ f vs=>PySem.call f vs):=by
 intro w s₀ s₁ mg mb G Y fa o pm cd doc j kV s z c b k g C A F u D B p E;obtain rfl:j=.none:=Dflts.none b hdf;obtain rfl:kV=.none:=Dflts.noKw b;obtain ⟨a,vs,ns,rfl,rfl,h,v,x⟩:=zi3 hn u p;refine enter_call (L5 (call w s₀ s₁ mg mb fa o pm cd doc a vs ns G Y s (fd_plain z) c k h v x g) λ r s' i=>?_);obtain ⟨rfl,e,t,y⟩:=i;exact ⟨.inl ⟨.bool true,.bool true,[],rfl,λ _=>rfl,.bool true,zia l _,λ _=>⟨W8,λ _ m=>(nomatch m)⟩⟩,e,t,y⟩
end Att
namespace L2
open PySem PySem.Spec PyProof.Rows
theorem z8v :∀{vs:List Value} {ns:List Int},D3 vs ns->Vals (ns.map V.int) vs
 | _,_,.nil=>.nil
 | _,_,.cons n t h=>.cons ⟨t,rfl⟩ (z8v h)
def Only (H:Hp):Prop:=∀b,H b=none\/∃o xs,H b=some (.frz o (.lst xs))
theorem zjo {P:Program} {w:j1} {K:j0} {mg mb:Str->Option Value} {CX:CXT} {k:Nat} {fa a:Addr} {fd:FuncData} {x:Str} {sp:Sp} {s₁:B0} {vs:List Value} {ns:List Int}
  (KX:K.In s₁.heap) (hns:s₁.heap.Ns O0 mg) (hb:s₁.heap.Ns builtinsNs mb) (hbb :∀x:Str,x≠"__name__"->mb x=R4 x) (hlim:s₁.heap.NoLimit) (hg:s₁.gens = #[])
  (ha:s₁.heap.get? a=some { cls:=.type "list",data:=.seq vs.toArray }) (hi:D3 vs ns) (hl:ns.length<=sizeLine) (hr:Room k j1b)
  (F :∀base:Heap,K.In base->base.Ns O0 mg->FnOk P w K mg base CX k fa fd [x] sp) (hbind :∀(s:B0) (u:Value),BindsTo s fd ⟨[u],[]⟩ [(x,u)])
  (hsp :∀H:Hp,Only H->SqL K H a (ns.map V.int)->sp [.ref a] H (λ v _=>v=.bl true) λ _ _ _=>False)
  (hCX :∀H e s',CX [] H s₁ (λ _ _ _=>False) e s'->False) :
  Q4 (v1 P w) j1b (.call (.ref fa) ⟨[.ref a],[]⟩) (λ r s'=>r=.ok (.ret (.bool true))/\OldK s₁.heap s'.heap/\s'.os=s₁.os/\O8 s'.gens) s₁:=by
 have l:=z8v hi;have G:=hi.length
 -- from an abstract heap in which nothing but the script may be tracked
 have p :∀H:Hp,Only H->SqL K H a (ns.map V.int)->HOk P w H s₁.heap->(∀b,H b≠none->b=a)->(H a≠none->K.lookup a=none)->
   Q4 (v1 P w) j1b (.call (.ref fa) ⟨[.ref a],[]⟩) (λ r s'=>r=.ok (.ret (.bool true))/\OldK s₁.heap s'.heap/\s'.os=s₁.os/\O8 s'.gens) s₁:=by
  intro H A L i t J;have y :∀{b:Addr} {o:Obj},s₁.heap.get? b=some o->H b=none->(hidT s₁.heap H).get? b=some o:=λ e n=>zjf e n;have C :∀{b:Addr} {o:Obj} {es:Array DictEntry} {ep:Nat},s₁.heap.get? b=some o->o.data=.dict es ep->H b=none:=λ {b o es ep} e d=>by
   cases q:H b with
   | none=>rfl
   | some u=>have g:b=a:=t b (by rw [q];simp);subst g;rw [ha] at e;cases e;have I:j1i vs.toArray _=Data.dict es ep:=d;cases I
  have f :∀{b:Addr} {m:Str->Option Value},s₁.heap.Ns b m->(hidT s₁.heap H).Ns b m:=λ {b m} ⟨o,es,ep,e,d,r⟩=>⟨o,es,ep,y e (C e d),d,r⟩
  have j:K.In (hidT s₁.heap H):=λ b o e=>y (KX b o e) (by
   cases q:H b with
   | none=>rfl
   | some u=>have g:b=a:=t b (by rw [q];simp);subst g;rw [J (by rw [q];simp)] at e;cases e)
  have D:Mod K mg (hidT s₁.heap H):=⟨j,f hns,⟨mb,f hb,hbb⟩,let ⟨mc,h1,h2⟩:=hlim;⟨mc,f h1,h2⟩⟩
  have O:Env0 P w K mg (hidT s₁.heap H) j1b [] s₁ H:=⟨rfl,D,λ b o e=>zkm e,L7 (zhn _ _),trivial,λ b hb=>absurd (show b∈([]:List Addr) from hb) (by simp),i,.of_eq hg⟩
  refine L5 ((F _ j (f hns)).run j1b [] s₁ H ⟨[.ref a],[]⟩ [.ref a] [.ref a] _ _ hr O (hbind s₁ (.ref a)) (.cons rfl .nil) (hsp H A L)) λ r s' h=>?_;cases r with
  | error e=>exact (hCX H e s' h).elim
  | ok fl=>
   cases fl with
   | next=>exact A4 h
   | brk=>exact A4 h
   | cont=>exact A4 h
   | ret u=>
    obtain ⟨v,T,os,Q,un,N,E,q⟩:=h;have S:v=.bl true:=q;subst S;obtain rfl:u=J7 true:=E;refine ⟨rfl,OldK.of_keep λ b o e=>?_,os,Q⟩;cases q:H b with
    | none=>exact un.keep b o e q (by intro z;exact absurd (show b∈([]:List Addr) from z) (by simp)) (by simp)
    | some u=>
     rcases A b with z|⟨ob,xs,z⟩
     ·rw [q] at z;cases z
     ·have M:=un.frzs b ob _ z;obtain ⟨B,_⟩:=i b _ z;obtain ⟨R,_⟩:=N b _ M;rw [e] at B;cases B;exact R
 cases hk:K.lookup a with
 | some o=>
  -- the script is one of the module's own objects
  have e:=KX a o hk;rw [ha] at e;cases e;refine p (λ _=>none) (λ _=>.inl rfl) (.inr ⟨_,vs.toArray,_,hk,rfl,rfl,rfl,by rw [V0,G];exact hl,by simpa using l⟩) (λ b u z=>by have c:(none:Option HO)=some u:=z;cases c) (λ b z=>absurd rfl z) λ z=>absurd rfl z
 | none=>
  refine p (λ b=>if b=a then some (.frz { cls:=.type "list",data:=.seq vs.toArray } (.lst (ns.map V.int))) else none) (λ b=>?_) (.inl (.inr ⟨{ cls:=.type "list",data:=.seq vs.toArray },if_pos rfl⟩)) (λ b u z=>?_) (λ b z=>?_) λ _=>hk
  ·by_cases hb:b=a
   ·exact .inr ⟨_,_,if_pos hb⟩
   ·exact .inl (if_neg hb)
  ·by_cases hb:b=a
   ·have c:=(if_pos hb).symm.trans z;cases c;subst hb;exact ⟨ha,by rw [M0];exact hl,vs,_,l,ha⟩
   ·have c:=(if_neg hb).symm.trans z;cases c
  ·by_cases hb:b=a
   ·exact hb
   ·exact absurd (if_neg hb) z
theorem walk_of {l:PySem.W.OpenLaw} {n k:Nat} {q:Program} {loose:List Str} {XP:(Str->Option Value)->Heap->Prop} {YP:j1->Heap->Prop} {d:DefRec} {K:J0->j0} {CX:j1->CXT} {sp:j1->Sp} {x:Str}
  (hn:l.most=some n) (hn2:n<=sizeLine) (hdf:d.params.defaults=[]) (hr:Room k j1b)
  (hY :∀(w:j1) (h:Heap),YP w h->(K w.params).In h)
  (F :∀(w:j1) (mg:Str->Option Value) (fa:Addr) (h:Heap),(K w.params).In h->h.Ns O0 mg->mg d.name=some (.ref fa)->
   ∃fd:FuncData,(∀(s:B0) (u:Value),BindsTo s fd ⟨[u],[]⟩ [(x,u)])/\
    ∀base:Heap,(K w.params).In base->base.Ns O0 mg->FnOk l.prog w (K w.params) mg base (CX w) k fa fd [x] (sp w))
  (hsp :∀(w:j1) (H:Hp) (a:Addr) (ns:List Int),ns.length<=n->Only H->SqL (K w.params) H a (ns.map V.int)->sp w [.ref a] H (λ v _=>v=.bl true) λ _ _ _=>False)
  (hCX :∀(w:j1) (H:Hp) (s:B0) (e:Value) (s':B0),CX w [] H s (λ _ _ _=>False) e s'->False) :
  PySem.W.WalkO q loose XP YP l.row.toRowW d [] (λ f vs=>PySem.call f vs):=by
 refine Att.attach_call hn hdf λ w B m mg D fa o L E I a vs ns G Y J M C p j y c i=>?_;have KX:=hY w _ Y;obtain ⟨fd,t,z⟩:=F w mg fa _ KX G.T.g p;exact zjo KX G.T.g G.T.b G.T.builtins G.T.nolimit i j y (G0 c hn2) hr z t (λ H A r=>hsp w H a ns c A r) λ H e s'=>hCX w H m e s'
noncomputable def z9w (s:Stmt):Arguments:=match s with
 | .FunctionDef _ a _ _ _ _ _ _ _ _=>a
 | _=>{ posonlyargs:=[],args:=[],vararg:=none,kwonlyargs:=[],kw_defaults:=[],kwarg:=none,defaults:=[] }
noncomputable def z72 (s:Stmt):List Stmt:=match s with
 | .FunctionDef _ _ b _ _ _ _ _ _ _=>b
 | _=>[]
noncomputable def z06 (s:Stmt):Scope:=match s with
 | .FunctionDef _ _ _ _ _ _ sc _ _ _=>sc
 | _=>{ kind:=.function,names:=[],isGenerator:=false,isCoroutine:=false }
noncomputable abbrev CX0:CXT:=λ _ _ _ _ _ _=>False
noncomputable abbrev E0:XK:=λ _ _ _=>False
theorem pass0 {X:Cx}:Passes CX0 X E0:=λ _ _ _ _ _ _ _ h=>h.elim
structure Fun (K:j0) (x qual:Str) (st:Stmt) (f:Addr) (fd:FuncData):Prop where
 ex :∃(oc:Value) (od:Option Addr) (kV doc pm:Value) (an:Option Addr) (cdv ct:Value) (osl:Array (Option Value)),
  fd=C6 x qual (z9w st) (z72 st) (z06 st) .none kV doc pm an cdv ct/\K.lookup f=some ⟨oc,od,.func fd,osl⟩/\V8 K cdv qual=true
 kp:Q3 K (.ref f)=true
section
variable {P:Program} {w:j1} {K:j0} {mg:Str->Option Value} {base:Heap}
theorem Fun.ok {x qual:Str} {st:Stmt} {f:Addr} {fd:FuncData} {N ps:List Str} {k:Nat} {sp:Sp} (F:Fun K x qual st f fd) (S:FnScope N ps (z06 st)) (len :∀vs H Q E,sp vs H Q E->vs.length=ps.length)
  (hbody :∀(cdv:Value) (A:V1) (outer:List Env) (s:B0) (H:Hp) (vs:List V) (Q:VK) (E:XK),Room k (A.deeper (A9 qual (z06 st) s.heap.objs.size f cdv))->sp vs H Q E->
   ∃t,PSs (cxOf CX0 P w K mg base N qual (z06 st) f cdv A outer s H E).nox (z72 st) t/\t { nx:=λ _ H'=>Q .non H',rt:=Q } (start N vs) H):FnOk P w K mg base CX0 (k + 1) f fd ps sp:=by
 obtain ⟨g,i,kV,n,e,m,cdv,j,l,rfl,c,d⟩:=F.ex;refine fn_of c d S len λ A outer s H vs Q E b a=>?_;obtain ⟨t,h,q⟩:=hbody cdv A outer s H vs Q E b a;exact ⟨t,h.nox,q⟩
theorem Fun.binds {x qual:Str} {st:Stmt} {f:Addr} {fd:FuncData} {ps:List Str} (F:Fun K x qual st f fd)
  (h :∀(kV doc pm:Value) (an:Option Addr) (cdv ct:Value) (us:List Value),us.length=ps.length->bindArgs (C6 x qual (z9w st) (z72 st) (z06 st) .none kV doc pm an cdv ct) ⟨us,[]⟩=G3 (ps.zip us)):Binds K fd ps []:=by
 obtain ⟨a,b,kV,doc,pm,an,cdv,ct,c,rfl,e,d⟩:=F.ex;exact .all (h kV doc pm an cdv ct)
theorem fun_mk {x qual:Str} {st:Stmt} {f:Addr} {oc:Value} {od an:Option Addr} {osl:Array (Option Value)} {kV doc pm cdv ct:Value} (l:K.lookup f=some ⟨oc,od,.func (C6 x qual (z9w st) (z72 st) (z06 st) .none kV doc pm an cdv ct),osl⟩)
  (c:V8 K cdv qual=true) (k:Q3 K (.ref f)=true):Fun K x qual st f (C6 x qual (z9w st) (z72 st) (z06 st) .none kV doc pm an cdv ct):=⟨⟨oc,od,kV,doc,pm,an,cdv,ct,osl,rfl,l,c⟩,k⟩
end
theorem hu_of {A:V1} {k:Nat} (hr:Room k A):A.units + 1 < cLine:=E1 (Nat.add_le_add_left (by decide:1<=64) _) hr.units
section
variable {X:Cx}
theorem pv (i:Nat) {x:Str} {pos:Pos} (hN:X.N[i]? = some x:=by rfl) (hv:Vis X.env.scope x:=by first|exact Z0 rfl|exact Y0 (Z0 rfl)|exact Y0 (Y0 rfl)) (hd:(x == ("__debug__" : Str))=false:=by decide)
  (hcd:(x == ("__classdict__" : Str))=false:=by decide):PE X (.Name x pos) (tVar i):=pe_var hN hv hd hcd
end
theorem iteF {A B:Prop} (h:B):if false=true then A else B:=by rw [if_neg U0];exact h
theorem iteT {A B:Prop} (h:A):if true=true then A else B:=by rw [if_pos rfl];exact h
theorem ite2 {c A B:Prop} [Decidable c] (h1:c->A) (h2:¬ c->B):if c then A else B:=by
 by_cases h:c
 ·rw [if_pos h];exact h1 h
 ·rw [if_neg h];exact h2 h
def Same (H H':Hp):Prop:=∀b o,H b=some o->H' b=some o
theorem Same.refl (H:Hp):Same H H:=λ _ _ h=>h
theorem Same.trans {H H1 H2:Hp} (a:Same H H1) (b:Same H1 H2):Same H H2:=λ c o h=>b c o (a c o h)
theorem Same.free {H H':Hp} (e:Same H H') {l:Addr} (h:H' l=Option.none):H l=Option.none:=by
 cases q:H l with
 | none=>rfl
 | some o=>rw [e l o q] at h;cases h
theorem Same.seq {K:j0} {H H':Hp} {a:Addr} {xs:List V} (e:Same H H') (h:SqL K H a xs):SqL K H' a xs:=by
 rcases h with (h|⟨o,h⟩)|h
 ·exact .inl (.inl (e _ _ h))
 ·exact .inl (.inr ⟨o,e _ _ h⟩)
 ·exact .inr h
section
variable {X:Cx}
theorem zdb:CallR X (.builtin "len") (λ xs H Q=>∃a kvs,xs=[V.ref a]/\H a=some (.dK kvs)/\Q (.int kvs.length) H):=by intro f s σ H xs e Q I r h;obtain ⟨a,kvs,rfl,d,q⟩:=h;obtain ⟨u,rfl,c⟩:=vals1 r;cases c;exact d_len I (.inl d) λ t g b=>⟨.int kvs.length,H,b,⟨t,rfl⟩,q⟩
end
section
variable {κ:Type} [DecidableEq κ]
theorem zcn {p:κ×V} {r:List (κ×V)} {k:κ} (e:p.1=k):dropK (p :: r) k=dropK r k:=by unfold dropK;rw [X4,if_neg (by simp [e])]
theorem zcr {p:κ×V} {r:List (κ×V)} {k:κ} (e:¬ p.1=k):dropK (p :: r) k=p :: dropK r k:=by unfold dropK;rw [X4,if_pos (by simp [e])]
end
end L2
set_option maxHeartbeats 4000000
namespace L2
open PySem PySem.Spec PyProof.Rows
section
variable {prog:Program} {w:j1} {A:V1} {R:j11->B0->Prop} {s:B0}
theorem zhv {elt target iter:Expr} {ifs:List Expr} {scope:Scope} {pos:Pos} {it acc:Value} {env:Env} (J:Nat->B0->Prop)
  (turn :∀n s,J n s->R0 (v1 prog w) A (Z4 it) (λ r s₁=>match r with
   | none=>R (.ok .next) s₁
   | some v=>R0 (v1 prog w) A (G9 target it v) (λ _ s₂=>R0 (v1 prog w) A (assign target env v) (λ _ s₃=>
     R0 (v1 prog w) A (forIn ifs true λ c r=>if r=true then do let ok <-isTrue c env (L3 c env);G3 (v4 ok) else G3 (v4 r)) (λ ok s₄=>
      if ok=true then R0 (v1 prog w) A (L3 elt env) (λ x s₅=>R0 (v1 prog w) A (call (.builtin "list.append") [acc,x]) (λ _ s₆=>∃m,m < n/\J m s₆) (λ _ _=>False) s₅) (λ _ _=>False) s₄
      else∃m,m < n/\J m s₄) (λ _ _=>False) s₃) (λ _ _=>False) s₂) (λ _ _=>False) s₁) (λ _ _=>False) s)
  (n:Nat) (h:J n s):Q4 (v1 prog w) A (.compLoop (.ListComp elt [⟨target,iter,ifs,0⟩] scope pos) 0 it acc env) R s:=by
 refine codeAny_loop rfl J (λ n s j=>?_) n h;show R0 _ A ((compTurn (.ListComp elt [⟨target,iter,ifs,0⟩] scope pos) 0 it acc env).onRaise (λ x=>do noteFrame x env;theTreesLotGoes x)) _ _ s;refine wpAny_noted ?_;rw [compTurn_list];refine c0 (wpAny_standAt (c0 (y4 (turn n s j) (λ r s₁ a=>?_) λ _ _ f=>f.elim)));cases r with
 | none=>exact C0 a
 | some v=>
  refine c0 (y4 a (λ _ s₂ g=>c0 (y4 g (λ _ s₃ e=>c0 (y4 e (λ ok s₄ b=>?_) λ _ _ f=>f.elim)) λ _ _ f=>f.elim)) λ _ _ f=>f.elim);cases ok with
  | false=>exact C0 ⟨rfl,b⟩
  | true=>exact c0 (c0 (y4 b (λ x s₅ i=>c0 (y4 i (λ _ s₆ d=>C0 (C0 ⟨rfl,d⟩)) λ _ _ f=>f.elim)) λ _ _ f=>f.elim))
end
theorem z48 {env:Env} :∀(names:List (Str×r6)) (acc:List (Str×Addr)),(∀y∈names,y.2=Y1->∃c,env.cells.lookup y.1=some c)->(∀y c,acc.lookup y=some c->env.cells.lookup y=some c)->
  ∃cl,(forIn names acc λ (x:Str×r6) (r:List (Str×Addr))=>(match x with
    | (name,kind)=>if (kind == Y1)=true then do let c <-cellOf env name;G3 (v4 ((name,c) :: r)) else G3 (v4 r):Sem (ForInStep (List (Str×Addr)))))=G3 cl/\
   (∀y c,cl.lookup y=some c->env.cells.lookup y=some c)/\(∀y,((y,Y1)∈names\/∃c,acc.lookup y=some c)->∃c,cl.lookup y=some c)
 | [],acc,_,ha=>⟨acc,by rw [P7],ha,λ y h=>h.elim (λ z=>nomatch z) id⟩
 | (n,k) :: r,acc,hf,ha=>by
  rw [i7];dsimp only;by_cases hk:k=Y1
  ·subst hk;obtain ⟨c,j⟩:=hf (n,.free) B1 rfl;have e:cellOf env n=G3 c:=by unfold cellOf;rw [j]
   rw [if_pos (by rfl),e];obtain ⟨cl,i,f,g⟩:=z48 r ((n,c) :: acc) (λ y a=>hf y (D1 _ a)) (λ y d b=>by
    rw [V4] at b;by_cases a:(y == n)=true
    ·rw [a] at b;have:=eq_of_beq a;subst this;cases b;exact j
    ·rw [j0j] at a;rw [a] at b;exact ha y d b)
   refine ⟨cl,i,f,λ y a=>g y ?_⟩;rcases a with a|⟨d,b⟩
   ·rcases List.mem_cons.mp a with z|z
    ·cases z;exact .inr ⟨c,by rw [V4];simp⟩
    ·exact .inl z
   ·refine .inr ?_;rw [V4];by_cases a:(y == n)=true
    ·rw [a];exact ⟨c,rfl⟩
    ·rw [j0j] at a;rw [a];exact ⟨d,b⟩
  ·rw [if_neg (by simpa using hk)];obtain ⟨cl,i,f,g⟩:=z48 r acc (λ y a=>hf y (D1 _ a)) ha;refine ⟨cl,i,f,λ y a=>g y ?_⟩;rcases a with a|a
   ·rcases List.mem_cons.mp a with z|z
    ·cases z;exact absurd rfl hk
    ·exact .inl z
   ·exact .inr a
theorem zgj {scope:Scope} {env:Env} (hf :∀y∈scope.names,y.2=Y1->∃c,env.cells.lookup y.1=some c) :
  ∃cl,closureFor scope env=G3 cl/\(∀y c,cl.lookup y=some c->env.cells.lookup y=some c)/\(∀y,(y,Y1)∈scope.names->∃c,cl.lookup y=some c):=by
 obtain ⟨cl,e,a,b⟩:=z48 (env:=env) scope.names [] hf (λ _ _ z=>nomatch z);refine ⟨cl,?_,a,λ y d=>b y (.inl d)⟩;simp only [closureFor];rw [e];rfl
theorem mem_of_lookup {κ:Type} {y:Str} {k:κ} :∀{l:List (Str×κ)},l.lookup y=some k->(y,k)∈l
 | (n,c) :: r,h=>by
  rw [V4] at h;by_cases hy:(y == n)=true
  ·rw [hy] at h;cases h;rw [eq_of_beq hy];exact B1
  ·rw [j0j] at hy;rw [hy] at h;exact D1 _ (mem_of_lookup h)
theorem z6k {scope:Scope} {env:Env} (hcell :∀y∈scope.names,y.2≠g9) {y:Str} {k:r6} (h:(j09 scope env).names.lookup y=some k) (hk:k=.cell\/k=.free):(y,Y1)∈scope.names:=by
 have m:=mem_of_lookup h;unfold j09 at m;obtain ⟨⟨n,c⟩,a,e⟩:=List.mem_map.mp m;dsimp only at e;by_cases hc:(c == Y1)=true
 ·have:=eq_of_beq hc;subst this;split at e<;>(injection e with e1 e2;subst e1;exact a)
 ·rw [if_neg (by simp [hc])] at e;injection e with e1 e2;subst e1 e2;rcases hk with rfl|rfl
  ·exact absurd rfl (hcell _ a)
  ·exact absurd rfl hc
noncomputable abbrev cxComp (X:Cx) (scope:Scope) (cl:List (Str×Addr)) (N:List Str) (C:Addr) (s₂:B0) (H₂:Hp) (fp:List Addr):Cx:=
 { X with N:=N,s₀:=s₂,H₀:=H₂,env:=compEnvC scope cl C X.env,outer:=X.stack,stack:=X.stack,ex:=fp,fn:=λ _=>false,pn:=[],xe:=λ _ _=>False }
def PF (X:Cx) (ifs:List Expr) (t:TT):Prop:=
 ∀(pins:List (Addr×Obj)) (s:B0) (σ:St) (H:Hp) (Q:Bool->Hp->Prop),Inv X pins σ H s->t σ H Q->
  R0 (v1 X.prog X.w) X.A (forIn ifs true λ c r=>if r=true then do let ok <-isTrue c X.env (L3 c X.env);G3 (v4 ok) else G3 (v4 r)) (TP X pins σ Q) X.xe s
theorem pf_nil {X:Cx}:PF X [] (λ _ H Q=>Q true H):=λ _ _ _ H _ I h=>wpAny_tests_nil ⟨H,I,h⟩
theorem pf_one {X:Cx} {c:Expr} {t:TT} (h:PT X c t):PF X [c] t:=λ a s σ H Q I q=>wpAny_tests_one (h a s σ H Q I q)
theorem Vals.snoc {xs:List V} {us:List Value} {x:V} {u:Value} (r:Vals xs us) (q:RelV x u):Vals (xs++[x]) (us++[u]):=Vals.append r (.cons q .nil)
def TagOf (H:Hp) (x:V) (T:String):Prop:=match x with
 | .non=>T = "NoneType"
 | .bl _=>T = "bool"
 | .int _=>T = "int"
 | .str _=>T = "str"
 | .ref a=>((∃xs,H a=some (.lst xs))/\T = "list")\/((∃xs,H a=some (.tup xs))/\T = "tuple")\/((∃kvs,H a=some (.dK kvs))/\T = "dict")
 | _=>False
noncomputable def instB (T C:String):Bool:=T == C || (T == "bool" && C == "int")
theorem TagOf.ty {K:j0} {H:Hp} {x:V} {T:String} (h:TagOf H x T):TyOf K H x (.type T):=by
 cases x with
 | non=>cases (show T = "NoneType" from h);exact .non
 | bl b=>cases (show T = "bool" from h);exact .bl b
 | int i=>cases (show T = "int" from h);exact .int i
 | str z=>cases (show T = "str" from h);exact .str z
 | ref a=>
  rcases h with ⟨⟨c,e⟩,rfl⟩|⟨⟨c,e⟩,rfl⟩|⟨⟨c,e⟩,rfl⟩
  ·exact .lst e
  ·exact .tup e
  ·exact .dK e
 | _=>exact h.elim
theorem TagOf.one {H:Hp} {x:V} {T:String} (h:TagOf H x T):T = "NoneType"\/T = "bool"\/T = "int"\/T = "str"\/T = "list"\/T = "tuple"\/T = "dict":=by
 cases x with
 | non=>exact .inl h
 | bl b=>exact .inr (.inl h)
 | int i=>exact .inr (.inr (.inl h))
 | str z=>exact .inr (.inr (.inr (.inl h)))
 | ref a=>rcases h with ⟨_,rfl⟩|⟨_,rfl⟩|⟨_,rfl⟩<;>simp
 | _=>exact h.elim
noncomputable def isiC:List String:=["int","str","bool","tuple","list"]
theorem kit_of (K:j0) {T C:String} (h:T = "NoneType"\/T = "bool"\/T = "int"\/T = "str"\/T = "list"\/T = "tuple"\/T = "dict") (hC:C∈isiC):PySem.W.kitOne K (.type T) (.type C)=some (instB T C):=by
 have hC:C = "int"\/C = "str"\/C = "bool"\/C = "tuple"\/C = "list":=by simpa [isiC] using hC
 rcases h with rfl|rfl|rfl|rfl|rfl|rfl|rfl<;>rcases hC with rfl|rfl|rfl|rfl|rfl<;>kernel_rfl
section
variable {X:Cx}
theorem call_isinst:CallR X (.builtin "isinstance") (λ xs H Q=>∃x C T,xs=[x,.ty C]/\TagOf H x T/\C∈isiC/\Q (.bl (instB T C)) H):=by intro i s σ H xs g Q I r h;obtain ⟨x,C,T,rfl,a,f,q⟩:=h;obtain ⟨u,e,rfl,c,d⟩:=vals2 r;cases (show e=J3 C from d);exact zhw I c a.ty (kit_of X.K a.one f) λ b=>⟨.bl _,H,I.tok b,rfl,q⟩
theorem zid {ys:List V} {its:List Value} (rv:Vals ys its) (hb :∀y∈ys,∃b,y=V.bl b):((J1 its.length).all λ i=>decide (ys[i]? = some (V.bl true)))=ys.all λ y=>decide (y=V.bl true):=by
 have e:=rv.length;rw [Bool.eq_iff_iff,G8,G8];constructor
 ·intro h y d;obtain ⟨i,a,rfl⟩:=List.getElem_of_mem d;have:=h i (List.mem_range.mpr (by omega));simpa [a] using this
 ·intro h i a;have c:i < ys.length:=by have:=List.mem_range.mp a;omega
  have:=h ys[i] (C8 c);simpa [c] using this
theorem zd7 (hc:X.calm=true):CallR X (.builtin "all") (λ xs H Q=>∃p ys,xs=[.ref p]/\SqL X.K H p ys/\(∀y∈ys,∃b,y=V.bl b)/\Q (.bl (ys.all λ y=>decide (y=V.bl true))) H):=by
 intro N s σ H xs L Q I r h;obtain ⟨p,ys,rfl,D,g,q⟩:=h;obtain ⟨u,rfl,B⟩:=vals1 r;cases B;obtain ⟨k,d,f,M⟩:=I.list D;have C:p≠s.heap.objs.size:=by obtain ⟨o,e,_⟩:=f.isList;exact X0 (L0 e)
 refine call_all_walk (R6 f.isList ?_);refine ⟨s.heap.objs.size,_,_,_,_,_,λ i=>decide (ys[i]? = some (V.bl true)),rfl,Walks.list (show X.A.in1.handled=none from I.ok.hd hc) s.heap.objs.size p C k.toArray,⟨⟨_,Q0 _ rfl,rfl,rfl⟩,f.isList.at λ o e=>D0 _ e⟩,?_,?_⟩
 ·intro i v P J G a t;have a:k[i]? = some v:=by simpa using a
  obtain ⟨E,e⟩:=List.getElem?_eq_some_iff.mp a;have c:i < ys.length:=by rw [d.length];exact E
  obtain ⟨b,l⟩:=g ys[i] (C8 c);obtain ⟨u,m,j⟩:=d.get (i:=i) (x:=ys[i]) (by simp [c]);rw [a] at m;cases m;rw [l] at j;cases (show v=J7 b from j);have:decide (ys[i]? = some (V.bl true))=b:=by rw [K0 c,l];cases b<;>simp
  exact P4 (this ▸ t)
 ·intro O n w;have e:=zid d g;rw [<-V0] at e;refine ⟨.bl _,H,I.kept (t':=n) λ b o z=>w b o ?_ (D0 _ z),rfl,e.symm ▸ q⟩;intro F;rw [List.mem_singleton.mp F] at z;exact absurd (L0 z) (o4 _)
def CDivB (i j:Int):Prop:=0 < j/\j < 2 ^ 64
theorem zbp:OpR X (A5 .FloorDiv) (rI CDivB λ i j=>.int (i / j)):=opI λ i j _ _ _ _ _ a q=>by
 obtain ⟨b,c⟩:=a;refine floordiv_int (by omega) ?_ (.inl (PyProof.noPylong_of_log2 ?_))
 ·rw [Int.fdiv_eq_ediv_of_nonneg _ (by omega)];exact q
 ·have:j.natAbs.log2 < 64:=(Nat.log2_lt (by omega)).mpr (by omega);omega
structure KDict (K:j0) (P:J0) (a:Addr) (kvs:List (Str×V)):Prop where
 ex :∃es n,K.lookup a=some ⟨.type "dict",none,.dict es n,#[]⟩/\C9 (λ (p:Str×V) (e:DictEntry)=>(∃t,e.key=.str p.1 t)/\e.hash=o0 P p.1/\RelV p.2 e.val) kvs es.toList
 lo:(a == Y4)=false
theorem zhq {kvs:List (Str×V)} {P:J0} :∀{es:List DictEntry},C9 (λ (p:Str×V) (e:DictEntry)=>(∃t,e.key=.str p.1 t)/\e.hash=o0 P p.1/\RelV p.2 e.val) kvs es->∀z,
  RelO (kvs.lookup z) (findBy Z7 es.toArray z):=by
 intro es r;induction r with
 | nil=>intro z;exact True.intro
 | @cons p e kvs es h t a=>
  intro z;obtain ⟨⟨f,c⟩,g,d⟩:=h;have a:=a z;unfold findBy at a⊢;rw [List.find?_toArray] at a⊢;rw [M4,V4];have b:Z7 z e.key=(z == p.1):=by rw [c];show (p.1 == z)=_;rw [Bool.eq_iff_iff,beq_iff_eq,beq_iff_eq];exact ⟨λ q=>q.symm,λ q=>q.symm⟩
  cases hz:(z == p.1) with
  | true=>rw [b,hz];exact d
  | false=>rw [b,hz];exact a
theorem KDict.mapOf {a:Addr} {kvs:List (Str×V)} (D:KDict X.K X.w.params a kvs) {h:Heap} (k:X.K.In h) :∃f,h.MapOf (strKind X.prog X.w) a f/\∀z,RelO (kvs.lookup z) (f z):=by
 obtain ⟨c,n,d,r⟩:=D.ex;have b:PySem.W.KeysLit X.w.params c.toList:=by
  clear d D;generalize c.toList=l at r;induction r with
  | nil=>exact True.intro
  | cons h t ih=>obtain ⟨⟨e,b⟩,i,j⟩:=h;exact ⟨⟨_,e,b,i⟩,ih⟩
 have g :∀z,RelO (kvs.lookup z) (findBy Z7 c.toList.toArray z):=zhq r;exact ⟨_,PySem.W.mapOf_K (prog:=X.prog) k d b,λ z=>by simpa using g z⟩
theorem zke {a:Addr} {kvs:List (Str×V)} (D:KDict X.K X.w.params a kvs):OpR X (P2 .In) (λ x y H Q=>∃z,x=.str z/\y=.ref a/\Q (.bl (kvs.lookup z).isSome) H):=by intro g s σ H x y v u Q I d c h;obtain ⟨z,rfl,rfl,q⟩:=h;obtain ⟨t,rfl⟩:=d;cases c;obtain ⟨f,e,b⟩:=D.mapOf I.kIn;refine wpAny_in_of (z9 X.prog X.w z t) D.lo e ⟨.bl _,H,I.tok _,rfl,?_⟩;have:=b z;rw [RelO.isSome_eq this] at q;exact q
theorem ix_kd {a:Addr} {kvs:List (Str×V)} (D:KDict X.K X.w.params a kvs):IxR X (λ x y H Q=>∃z v,x=.ref a/\y=.str z/\kvs.lookup z=some v/\Q v H):=by
 intro m k l s σ H x y v u Q I d i h j;obtain ⟨z,r,rfl,rfl,e,q⟩:=h;cases d;obtain ⟨t,rfl⟩:=i;obtain ⟨f,c,g⟩:=D.mapOf I.kIn;have b:=g z;rw [e] at b;cases ef:f z with
 | none=>rw [ef] at b;exact b.elim
 | some u=>rw [ef] at b;exact tail_any c.typeIs slot_dict_getitem.lookup (wpAny_getItem_of (z9 X.prog X.w z t) c ef ⟨r,H,I.tok _,b,q⟩) j
structure KDictT (K:j0) (P:J0) (a:Addr) (kvs:List ((Str×Str)×V)):Prop where
 ex :∃es n,K.lookup a=some ⟨.type "dict",none,.dict es n,#[]⟩/\C9 (λ (p:(Str×Str)×V) (e:DictEntry)=>(∃(b:Addr) (t t':Tok) (m:Nat),e.key=.ref b/\K.lookup b=some ⟨.type "tuple",none,.seq #[.str p.1.1 t,.str p.1.2 t'] m,#[]⟩)/\
  e.hash=K1 (A0 [o0 P p.1.1,o0 P p.1.2])/\RelV p.2 e.val) kvs es.toList
 nd:(kvs.map (·.1)).Nodup
 lo:(a == Y4)=false
theorem zi8 {prog:Program} {w:j1} {K:j0} {h:Heap} (k:K.In h) :∀{kvs:List ((Str×Str)×V)} {es:List DictEntry},
  C9 (λ (p:(Str×Str)×V) (e:DictEntry)=>(∃(b:Addr) (t t':Tok) (m:Nat),e.key=.ref b/\K.lookup b=some ⟨.type "tuple",none,.seq #[.str p.1.1 t,.str p.1.2 t'] m,#[]⟩)/\
   e.hash=K1 (A0 [o0 w.params p.1.1,o0 w.params p.1.2])/\RelV p.2 e.val) kvs es->
  ∃xs:List (List Str×Addr×Value),es=xs.map (entryOfKey (m7 (strKind prog w)))/\(∀x∈xs,(m7 (strKind prog w)).is h x.1 x.2.1)/\xs.map (·.1)=kvs.map (λ p=>[p.1.1,p.1.2])/\
   ∀a b,RelO (kvs.lookup (a,b)) ((j04 xs [a,b]).map (·.2)):=by
 intro kvs es r;induction r with
 | nil=>exact ⟨[],rfl,λ x f=>absurd f x0,rfl,λ a b=>True.intro⟩
 | @cons p e kvs es hpe t ih=>
  obtain ⟨xs,A,n,v,y⟩:=ih;obtain ⟨⟨b,D,B,m,g,u⟩,i,o⟩:=hpe;refine ⟨([p.1.1,p.1.2],b,e.val) :: xs,?_,?_,?_,?_⟩
  ·rw [A1,<-A];congr 1;obtain ⟨s,q,C⟩:=e;have g:q=.ref b:=g;have i:s=_:=i;subst g i;rfl
  ·intro x f;rcases List.mem_cons.mp f with rfl|f
   ·exact ⟨_,_,m,k _ _ u,rfl,rfl,.cons (z9 prog w _ _) (.cons (z9 prog w _ _) .nil)⟩
   ·exact n x f
  ·rw [A1,A1,v]
  ·intro c d;have:=y c d;rw [V4];unfold j04 at this⊢;rw [M4];by_cases hcd:(c,d)=p.1
   ·have l:((c,d) == p.1)=true:=by rw [beq_iff_eq];exact hcd
    rw [l];have j:decide ([p.1.1,p.1.2]=[c,d])=true:=by rw [<-hcd];simp
    rw [j];exact o
   ·have l:((c,d) == p.1)=false:=by rw [beq_eq_false_iff_ne];exact hcd
    rw [l];have j:decide ([p.1.1,p.1.2]=[c,d])=false:=by rw [decide_eq_false_iff_not];intro z;injection z with z1 z;injection z with z2 _;exact hcd (Prod.ext z1.symm z2.symm)
    rw [j];exact this
theorem z85 :∀{l:List (Str×Str)},l.Nodup->(l.map λ p=>[p.1,p.2]).Nodup
 | [],_=>i9
 | p :: r,h=>by obtain ⟨c,a⟩:=List.nodup_cons.mp h;rw [A1];refine List.nodup_cons.mpr ⟨λ m=>c ?_,z85 a⟩;obtain ⟨q,b,e⟩:=List.mem_map.mp m;injection e with e1 e;injection e with e2 _;have:q=p:=Prod.ext e1 e2;exact this ▸ b
theorem KDictT.dict {a:Addr} {kvs:List ((Str×Str)×V)} (D:KDictT X.K X.w.params a kvs) {h:Heap} (k:X.K.In h) :∃xs,h.DictOfH (m7 (strKind X.prog X.w)) a xs/\∀c d,RelO (kvs.lookup (c,d)) ((j04 xs [c,d]).map (·.2)):=by obtain ⟨g,n,e,r⟩:=D.ex;obtain ⟨xs,j,b,f,i⟩:=zi8 (prog:=X.prog) (w:=X.w) k r;refine ⟨xs,⟨_,g,n,k _ _ e,⟨rfl,rfl,rfl⟩,rfl,j,b,?_⟩,i⟩;rw [f];have:=z85 D.nd;rw [B4] at this;exact this
theorem zj1 {pins:List (Addr×Obj)} {σ:St} {H:Hp} {s:B0} {p:Addr} {c d:Str} (I:Inv X pins σ H s) (hp:H p=some (.tup [.str c,.str d])):(m7 (strKind X.prog X.w)).is s.heap [c,d] p:=by
 obtain ⟨_,h,a,⟨o,b,f,n,e⟩,_⟩:=(show ObjOk X.prog X.w H s.heap p (.tup [.str c,.str d]) from I.hok p _ hp)
 cases a with
 | cons r1 a=>
  cases a with
  | cons r2 a=>cases a;obtain ⟨g,rfl⟩:=r1;obtain ⟨i,rfl⟩:=r2;exact ⟨o,_,n,b,f,e,.cons (z9 X.prog X.w _ _) (.cons (z9 X.prog X.w _ _) .nil)⟩
theorem zc7 {a:Addr} {kvs:List ((Str×Str)×V)} (hu:X.A.units + 1 < cLine) (D:KDictT X.K X.w.params a kvs) :
  OpR X (P2 .NotIn) (λ x y H Q=>∃p c d,x=.ref p/\H p=some (.tup [.str c,.str d])/\y=.ref a/\Q (.bl (!(kvs.lookup (c,d)).isSome)) H):=by
 intro l s σ H x y v u Q I g i h;obtain ⟨p,c,d,rfl,f,rfl,q⟩:=h;cases g;cases i;obtain ⟨j,e,b⟩:=D.dict I.kIn;refine wpAny_notIn_heap (k:=[c,d]) hu (zj1 I f) D.lo e ⟨.bl _,H,I.tok _,rfl,?_⟩;have:=RelO.isSome_eq (b c d);rw [W7] at this;rw [this] at q;exact q
theorem ix_kdt {a:Addr} {kvs:List ((Str×Str)×V)} (hu:X.A.units + 1 < cLine) (D:KDictT X.K X.w.params a kvs) :
  IxR X (λ x y H Q=>∃p c d v,x=.ref a/\y=.ref p/\H p=some (.tup [.str c,.str d])/\kvs.lookup (c,d)=some v/\Q v H):=by
 intro B o t s σ H x y v u Q I g m h n;obtain ⟨p,c,d,r,rfl,rfl,i,e,q⟩:=h;cases g;cases m;obtain ⟨l,f,j⟩:=D.dict I.kIn;have b:=j c d;rw [e] at b;cases ef:j04 l [c,d] with
 | none=>rw [ef] at b;exact b.elim
 | some z=>rw [ef] at b;exact tail_any f.typeIs slot_dict_getitem.lookup (wpAny_getItem_heap (k:=[c,d]) hu (zj1 I i) f ef ⟨r,H,I.tok _,b,q⟩) n
end
structure Cal (P:Program) (w:j1) (K:j0) (mg:Str->Option Value) (base:Heap) (x:Str) (ps:List Str) (k:Nat) (sp:Sp):Prop where
 ex :∃f fd,FnOk P w K mg base CX0 k f fd ps sp/\mg x=some (.ref f)/\Q3 K (.ref f)=true/\Binds K fd ps []
section
variable {X:Cx} {x:Str} {ps:List Str} {k:Nat} {sp:Sp} {e:Expr} {es:List Expr} {t:TA} {p pos:Pos}
theorem pe_cal (c:Cal X.prog X.w X.K X.mg X.base x ps k sp) (hr:Room k X.A) (hg:Gl X x) (ha:PA X (e :: es) t) (hn:x≠"__name__":=by decide) (hdb:(x == ("__debug__" : Str))=false:=by decide)
  (he:F1 (e :: es) X.env=(false,L3 e X.env) :: F1 es X.env:=by rfl) (hpl:(c5 pos (F1 es X.env)).any (·.1)=false:=by rfl):PE X (.Call (.Name x p) (e :: es) [] pos) (tCall sp [] E0 t):=by
 obtain ⟨f,g,F,d,a,b⟩:=c.ex;exact zkt F hr hg d a b .nil pass0 ha hdb he hpl
end
structure TX (K:j0) (mg:Str->Option Value):Prop where
 of :∀{n:Str} {v:Value},P0 K O0 n=some (some v)->mg n=some v
 no :∀{n:Str},P0 K O0 n=some none->mg n=none
theorem TX.mk' {K:j0} {mg:Str->Option Value} {h:Heap} (X:K.In h) (G:h.Ns O0 mg):TX K mg:=⟨λ e=>PySem.W.mg_of X G e,λ e=>PySem.W.mg_none_of X G e⟩
section
variable {X:Cx}
noncomputable def rAdd4 (K:j0):R2:=λ x y H Q=>(∃i j,x=.int i/\y=.int j/\Q (.int (i + j)) H)\/(∃i j,x=.str i/\y=.str j/\i.length + j.length<=sizeLine/\Q (.str (i++j)) H)\/rCat x y H Q\/rCatT K x y H Q
theorem opAdd:OpR X (A5 .Add) (rAdd4 X.K):=op_add.or (op_add_str.or (op_cat.or z5s))
theorem opEq:OpR X (P2 .Eq) rEq:=op_eq
theorem opNe:OpR X (P2 .NotEq) rNe:=op_ne
theorem z12:CallR X (.builtin "len") (λ xs H Q=>(∃p ys,xs=[.ref p]/\(SqL X.K H p ys\/SqT X.K H p ys)/\Q (.int ys.length) H)\/∃z,xs=[.str z]/\z.length<=sizeLine/\Q (.int z.length) H):=call_len_seq.or zbx
end
noncomputable def z17 (x:V) (g:Int):Bool:=match x with
 | .int i=>decide (-g<=i) && decide (i<=g)
 | _=>false
noncomputable def tupOf (H:Hp) (x:V):Option (List V):=match x with
 | .ref a=>(match H a with|some (.tup xs)=>some xs|_=>none)
 | _=>none
theorem zgs {H H':Hp} {x:V} {T:String} (t:TagOf H x T) (e:Same H H'):tupOf H' x=tupOf H x:=by
 cases x with
 | ref a=>rcases t with ⟨⟨b,h⟩,_⟩|⟨⟨b,h⟩,_⟩|⟨⟨b,h⟩,_⟩<;>(unfold tupOf;dsimp only;rw [h,e a _ h])
 | _=>rfl
theorem TagOf.same {H H':Hp} {x:V} {T:String} (t:TagOf H x T) (e:Same H H'):TagOf H' x T:=by
 cases x with
 | ref a=>
  rcases t with ⟨⟨b,h⟩,z⟩|⟨⟨b,h⟩,z⟩|⟨⟨b,h⟩,z⟩
  ·exact .inl ⟨⟨b,e a _ h⟩,z⟩
  ·exact .inr (.inl ⟨⟨b,e a _ h⟩,z⟩)
  ·exact .inr (.inr ⟨⟨b,e a _ h⟩,z⟩)
 | _=>exact t
theorem TagOf.tuple {H:Hp} {x:V} (t:TagOf H x "tuple") :∃a xs,x=.ref a/\H a=some (.tup xs):=by
 cases x with
 | ref a=>
  rcases t with ⟨_,z⟩|⟨⟨xs,h⟩,_⟩|⟨_,z⟩
  ·exact absurd z (by decide)
  ·exact ⟨a,xs,rfl,h⟩
  ·exact absurd z (by decide)
 | non=>exact absurd (show "tuple" = "NoneType" from t) (by decide)
 | bl b=>exact absurd (show "tuple" = "bool" from t) (by decide)
 | int i=>exact absurd (show "tuple" = "int" from t) (by decide)
 | str z=>exact absurd (show "tuple" = "str" from t) (by decide)
 | _=>exact t.elim
theorem TagOf.int {H:Hp} {x:V} (t:TagOf H x "int") :∃i,x=.int i:=by
 cases x with
 | ref a=>rcases t with ⟨_,z⟩|⟨_,z⟩|⟨_,z⟩<;>exact absurd z (by decide)
 | non=>exact absurd (show "int" = "NoneType" from t) (by decide)
 | bl b=>exact absurd (show "int" = "bool" from t) (by decide)
 | int i=>exact ⟨i,rfl⟩
 | str z=>exact absurd (show "int" = "str" from t) (by decide)
 | _=>exact t.elim
theorem TagOf.str {H:Hp} {x:V} (t:TagOf H x "str") :∃z,x=.str z:=by
 cases x with
 | ref a=>rcases t with ⟨_,z⟩|⟨_,z⟩|⟨_,z⟩<;>exact absurd z (by decide)
 | non=>exact absurd (show "str" = "NoneType" from t) (by decide)
 | bl b=>exact absurd (show "str" = "bool" from t) (by decide)
 | int i=>exact absurd (show "str" = "int" from t) (by decide)
 | str z=>exact ⟨z,rfl⟩
 | _=>exact t.elim
theorem noInt {H:Hp} {x:V} {T:String} (t:TagOf H x T) (h:T≠"int") (g:Int):z17 x g=false:=by
 cases x with
 | int i=>exact absurd t h
 | _=>rfl
theorem noTup {H:Hp} {x:V} {T:String} (t:TagOf H x T) (h:T≠"tuple"):tupOf H x=none:=by
 cases x with
 | ref a=>
  rcases t with ⟨⟨b,e⟩,_⟩|⟨_,z⟩|⟨⟨b,e⟩,_⟩
  ·unfold tupOf;dsimp only;rw [e]
  ·exact absurd z h
  ·unfold tupOf;dsimp only;rw [e]
 | _=>rfl
theorem z8t {H:Hp} {x:V} {T:String} (t:TagOf H x T) {C:String} (h:C≠"int"):instB T C=decide (T=C):=by
 unfold instB;have:(C == "int")=false:=by simpa using h
 rw [this,L6,Bool.or_false,Bool.beq_eq_decide_eq]
def Flat (H:Hp) (x:V):Prop:=∀xs,tupOf H x=some xs->xs.length<=1000/\∀y∈xs,∃T,TagOf H y T
theorem zbj {α β:Type} [BEq α] [LawfulBEq α] {l:List (α×β)} {a:α} {b:β} (h:l.lookup a=some b):(a,b)∈l:=by
 induction l with
 | nil=>cases h
 | cons p r ih=>
  obtain ⟨c,d⟩:=p;rw [V4] at h;cases hc:(a == c) with
  | true=>rw [hc] at h;cases h;rw [eq_of_beq hc];exact B1
  | false=>rw [hc] at h;exact D1 _ (ih h)
theorem z1b {names:List (Str×r6)} {Q:Str×r6->Prop} (h:(names.all λ y=>y.2 != Y1)=true) :∀y∈names,y.2=Y1->Q y:=λ y a e=>by have:=List.all_eq_true.mp h y a;rw [e] at this;exact absurd this (by decide)
theorem Same.upd {H:Hp} {p:Addr} {o:HO} (h:H p=none):Same H (upd H p o):=λ b u e=>by rw [upd_ne (z0a e h)];exact e
theorem Same.seqT {K:j0} {H H':Hp} {a:Addr} {xs:List V} (e:Same H H') (h:SqT K H a xs):SqT K H' a xs:=by
 rcases h with (h|⟨o,h⟩)|h
 ·exact .inl (.inl (e _ _ h))
 ·exact .inl (.inr ⟨o,e _ _ h⟩)
 ·exact .inr h
theorem zf3 {H:Hp} {x:V} {xs:List V} (h:tupOf H x=some xs) :∃a,x=.ref a/\H a=some (.tup xs):=by
 unfold tupOf at h;cases x with
 | ref a=>
  dsimp only at h;split at h
  ·rename_i ys e;exact ⟨a,rfl,by rw [e,N1 h]⟩
  ·cases h
 | _=>cases h
end L2
namespace L2
open PySem PySem.Spec PyProof.Rows
open Builtin.Str (occurrences partsBetween strKind)
section
variable {X:Cx}
theorem zdi {vl:Value} {lo:Option Int} (p:E9 vl lo) :∃l:Option (Int×Tok),vl=partValue l/\l.map (·.1)=lo:=by
 cases p with
 | none=>exact ⟨none,rfl,rfl⟩
 | int i t=>exact ⟨some (i,t),rfl,rfl⟩
end
end L2
namespace L2
open PySem PySem.Spec PyProof.Rows
section
variable {X:Cx}
def rSlS:V->Option Int->Option Int->Hp->VK->Prop:=λ x lo hi H Q=>∃z,x=.str z/\z.length<=sizeLine/\Q (.str (Txt.slice z lo hi)) H
theorem sl_str:SlR X rSlS:=by
 intro p s σ H x v j o n m r Q I c i a d h;obtain ⟨z,rfl,f,q⟩:=h;obtain ⟨t,rfl⟩:=c;obtain ⟨l,rfl,g⟩:=zdi a;obtain ⟨u,rfl,e⟩:=zdi d;subst g e;refine ⟨"str",_,F.slot_str_getitem.lookup,typeIs_str _ _ _,wpAny_getItem_str_slice (l:=l) (u:=u) (st:=none) i rfl
  (post_val_or_str ⟨G0 (Txt.slice_le z _ _) f,λ b k=>⟨.str (Txt.slice z _ _),H,I.tok k,⟨b,rfl⟩,q⟩⟩)⟩
theorem slSeq:SlR X (λ x lo hi H Q=>rSlL X.K x lo hi H Q\/rSlT X.K x lo hi H Q\/rSlS x lo hi H Q):=sl_list.or (sl_tup.or sl_str)
theorem zi9:CallR X (.type "int") (λ xs H Q=>∃z n,xs=[.str z]/\PySem.intText? z=some n/\z.length<=640/\Q (.int n) H):=by intro d s σ H xs c Q I r h;obtain ⟨z,n,rfl,b,a,q⟩:=h;obtain ⟨u,rfl,t,rfl⟩:=vals1 r;exact PySem.W.KIN.call_text b a ⟨.int n,H,I.tok _,⟨_,rfl⟩,q⟩
theorem z9e:CallR X (.type "int") (λ xs H Q=>((∃i,xs=[.int i]/\Q (.int i) H)\/∃k,xs=[.bl k]/\Q (.int (if k then 1 else 0)) H)\/∃z n,xs=[.str z]/\PySem.intText? z=some n/\z.length<=640/\Q (.int n) H):=call_int1.or zi9
end
def RowAt (H:Hp) (r:Addr):Prop:=∃a b c:Int,H r=some (.lst [.int a,.int b,.int c])/\0<=c/\c < 536870909
def Kept (r:Addr) (H H':Hp):Prop:=∀b o,b≠r->H b=some o->H' b=some o
theorem Kept.refl {r:Addr} {H:Hp}:Kept r H H:=λ _ _ _ h=>h
theorem Kept.trans {r:Addr} {H H1 H2:Hp} (a:Kept r H H1) (b:Kept r H1 H2):Kept r H H2:=λ c o n h=>b c o n (a c o n h)
theorem Same.kept {r:Addr} {H H':Hp} (s:Same H H'):Kept r H H':=λ b o _ h=>s b o h
theorem Kept.set {r:Addr} {H:Hp} {o:HO}:Kept r H (upd H r o):=λ b u n h=>by rw [upd_ne n];exact h
structure Rw (r:Addr) (H H':Hp):Prop where
 k:Kept r H H'
 r:RowAt H' r
theorem atI_of {α:Type} {xs:List α} {t:Int} (h0:0<=t) (h1:t < xs.length) :∃v,atI xs t=some v/\v∈xs:=by
 have a:t.toNat < xs.length:=by omega
 refine ⟨xs[t.toNat],?_,C8 a⟩;have:=z05 (xs:=xs) (j:=t.toNat) (v:=xs[t.toNat]) (by simp [a]);rw [Int.toNat_of_nonneg h0] at this;exact this
section
variable {r:Addr} {σ:St} {H0:Hp} {K:j0}
theorem g_name {i:Nat} {v:V} {σ:St} {H:Hp} {Q:St->Hp->Prop} (h:Q (σ.set i (some v)) H):gName i v σ H Q:=h
theorem t_nx {nx ct bk:St->Hp->Prop} {rt:VK} {σ:St} {H:Hp} (h:nx σ H):Ends.nx { nx:=nx,rt:=rt,bk:=bk,ct:=ct } σ H:=h
theorem t_next {nx ct bk:St->Hp->Prop} {rt:VK} {σ:St} {H:Hp} (h:nx σ H):tNext { nx:=nx,rt:=rt,bk:=bk,ct:=ct } σ H:=h
end
end L2
namespace L2
open PySem
section
variable {prog:Program} {w:j1} {A:V1} {E:Value->B0->Prop} {s:B0}
theorem tupOn {it t:Addr} {i:Nat} {its:Array Value} {x:Value} {Q:Value->B0->Prop} (a:s.heap.IsTupleIter it t i) (b:s.heap.IsTuple t its) (c:its[i]? = some x)
  (q :∀h',h'.IsTupleIter it t (i + 1)->o5 it s.heap h'->Q x { s with heap:=h' }):R0 (v1 prog w) A (B2 (.ref it)) Q E s:=by
 obtain ⟨o,e,f,d⟩:=id a;obtain ⟨p,g,_,n,h⟩:=b;unfold B2;refine c0 (J2 (name:=Q1 "__next__") a.typeIs i6 (O2 i6 a.typeIs j2g (show R0 _ _ (field (.ref it) 0 >>= _) _ _ s from c0 (S3 e d (x:=.ref t) rfl ?_)) (j27 _)));show R0 _ _ (if (C1 t == Z2)=true then _ else (field (.ref it) 1 >>= _)) _ _ s;rw [if_neg (by exact U0)];refine c0 (S3 e d (x:=.int i 0) rfl (show R0 _ _ (seqItems? (.ref t) >>= _) _ _ s from c0 (X3 g h ?_)));simp only [T5,c];refine c0 (u5 e d (by simp) (C0 ⟨x,rfl,C0 (q _ ⟨_,v3 _ e (Obj.isFreed_of_fields (Obj.data_mapFields d _)),(Obj.cls_mapFields ..).trans f,?_⟩ (i3 ..))⟩));rw [Obj.data_mapFields d];simp [F4]
theorem tupOff {it t:Addr} {i:Nat} {its:Array Value} {Q:Value->B0->Prop} (hh:A.handled=none) (a:s.heap.IsTupleIter it t i) (b:s.heap.IsTuple t its) (c:its[i]? = none)
  (q :∀h' e,j4h it s.heap h'->(∃o,h'.get? e=some o/\o.cls=.type "StopIteration")->E (.ref e) { s with heap:=h' }):R0 (v1 prog w) A (B2 (.ref it)) Q E s:=by
 obtain ⟨o,d,j,f⟩:=id a;obtain ⟨p,g,_,n,h⟩:=b;unfold B2;refine c0 (J2 (name:=Q1 "__next__") a.typeIs i6 (O2 i6 a.typeIs j2g (show R0 _ _ (field (.ref it) 0 >>= _) _ _ s from c0 (S3 d f (x:=.ref t) rfl ?_)) (j27 _)));show R0 _ _ (if (C1 t == Z2)=true then _ else (field (.ref it) 1 >>= _)) _ _ s;rw [if_neg (by exact U0)];refine c0 (S3 d f (x:=.int i 0) rfl (show R0 _ _ (seqItems? (.ref t) >>= _) _ _ s from c0 (X3 g h ?_)));simp only [T5,c];refine c0 (J5 (c0 (u5 d f (by simp) (show R0 _ _ (newExc (.type "StopIteration") [] >>= _) _ _ _ from c0 ?_))));simp only [newExc,newTuple];refine c0 (Q2 (c0 (m:=j00 _ _) (Y9 (a:=Z2) (by first|rfl|(simp only [j00];rfl)) (Q2 ?_ (by size_fits)))) (by size_fits));simp only [raiseNew];refine c0 (wpAny_handled ?_);first|rw [show A.in1.handled=none from hh]|rw [hh]
 exact c0 (C0 (j28 (q _ _ (((i3 ..).extBut.push _).push _) ⟨_,Q0 _ rfl,rfl⟩)))
structure ZApart (z T U i j a b:Addr):Prop where
 dis:[z,T,U,i,j].Nodup
 fa:a∉[z,T,U,i,j]
 fb:b∉[z,T,U,i,j]
structure ZAt (h:Heap) (z T U i j a b:Addr) (n:Nat) (f:Value):Prop where
 z:j1d h z T U f
 t:z8 h T (.ref i) (.ref j)
 u :∃p q,z8 h U p q
 i:h.IsTupleIter i a n
 j:h.IsTupleIter j b n
theorem ZApart.ne {z T U i j a b:Addr} (D:ZApart z T U i j a b):(z≠T/\z≠U/\z≠i/\z≠j)/\(T≠U/\T≠i/\T≠j)/\(U≠i/\U≠j)/\i≠j:=by have d:=D.dis;simp only [d7,N0,x0,or_false,not_or,not_false_eq_true,i9,and_true] at d;exact ⟨d.1,d.2.1,d.2.2.1,d.2.2.2⟩
theorem ZApart.ofA {z T U i j a b:Addr} (D:ZApart z T U i j a b):a≠z/\a≠T/\a≠U/\a≠i/\a≠j:=by have d:=D.fa;simp only [N0,x0,or_false,not_or] at d;exact d
theorem ZApart.ofB {z T U i j a b:Addr} (D:ZApart z T U i j a b):b≠z/\b≠T/\b≠U/\b≠i/\b≠j:=by have d:=D.fb;simp only [N0,x0,or_false,not_or] at d;exact d
theorem zipOn {z T U i j a b:Addr} {n:Nat} {xs ys:Array Value} {x y:Value} {Q:Option Value->B0->Prop} (D:ZApart z T U i j a b) (Z:ZAt s.heap z T U i j a b n .none) (ha:s.heap.IsTuple a xs) (hb:s.heap.IsTuple b ys) (hx:xs[n]? = some x) (hy:ys[n]? = some y)
  (q :∀h',ZAt h' z T U i j a b (n + 1) (F4 s.heap.objs.size)->z8 h' s.heap.objs.size x y->(∀c o,c≠z->c≠U->c≠i->c≠j->s.heap.get? c=some o->h'.get? c=some o)->Q (some (.ref s.heap.objs.size)) { s with heap:=h' }) :
  R0 (v1 prog w) A (Z4 (.ref z)) Q E s:=by
 obtain ⟨⟨W,G,P,O⟩,⟨TU,Ti,Tj⟩,⟨N,K⟩,ij⟩:=D.ne;obtain ⟨az,aT,aU,ai,aj⟩:=D.ofA;obtain ⟨bz,bT,bU,bi,bj⟩:=D.ofB;obtain ⟨p,M,hU⟩:=Z.u;have ty:s.TypeIs (.ref z) "zip":=⟨_,Z.z,rfl⟩
 unfold Z4;refine c0 (J4 (J2 (name:=Q1 "__next__") ty m9 (O2 m9 ty F.entry_zip_next ?_ (F.args_zip_next_1 _))));show R0 _ _ (field (.ref z) 2 >>= λ _=>field (.ref z) 3 >>= _) _ _ _;refine c0 (S3 Z.z rfl (x:=.bool false) rfl (c0 (S3 Z.z rfl (x:=.ref T) rfl (c0 (X3 Z.t rfl ?_)))));show R0 _ _ (d4 (.ref z) >>= _) _ _ _;unfold d4;refine c0 (c0 (S3 Z.z rfl (x:=.none) rfl (C0 ?_)));simp only [if_true];refine c0 (J5 (c0 (S3 Z.z rfl (x:=.ref U) rfl (c0 (G5 Z.z (by simp) λ k1 J s1=>c0 ?_)))));have J:j1d k1 z T U .ellipsis:=J;have f:=s1.extBut;simp only [List.zipIdx_cons,List.zipIdx_nil,i7,P7];refine c0 (c0 (Q8 (show R0 _ _ (B2 (.ref i) >>= _) _ _ _ from c0 (tupOn (Z.i.extBut f P.symm) (ha.extBut f az) hx λ k2 g2 Y=>C0 ?_))));have l:=Y.extBut;have X:z8 k2 U p M:=l _ _ N (f _ _ G.symm hU);refine c0 (X3 X rfl (c0 (X9 X λ k3 g3 s3=>c0 (wpAny_letGo (C0 ?_)))));have U3:z8 k3 U x M:=g3;have k:=s3.extBut;refine c0 (c0 (Q8 (show R0 _ _ (B2 (.ref j) >>= _) _ _ _ from c0 (tupOn (((Z.j.extBut f O.symm).extBut l ij.symm).extBut k K.symm) (((hb.extBut f bz).extBut l bi).extBut k bU) hy λ k4 g4 s4=>C0 ?_))));have B:=s4.extBut;have U4:z8 k4 U x M:=B _ _ K U3;refine c0 (X3 U4 rfl (c0 (X9 U4 λ d g5 s5=>c0 (wpAny_letGo (C0 (C0 ?_))))));have V:z8 d U x y:=g5;have m:=s5.extBut;refine c0 (X3 V rfl (c0 (wpAny_newTuple ?_)));have sz:d.objs.size=s.heap.objs.size:=by rw [s5.1,s4.1,s3.1,Y.1,s1.1]
 have z5:j1d d z T U .ellipsis:=m _ _ G (B _ _ O (k _ _ G (l _ _ P J)));have a0 :∀c o,c≠z->c≠U->c≠i->c≠j->s.heap.get? c=some o->d.get? c=some o:=λ c o e v R H h=>m _ _ v (B _ _ H (k _ _ v (l _ _ R (f _ _ e h))));have i5:d.IsTupleIter i a (n + 1):=((g2.extBut k N.symm).extBut B ij).extBut m N.symm;have j5:d.IsTupleIter j b (n + 1):=g4.extBut m K.symm;have zl:z≠d.objs.size:=X0 (L0 z5);show R0 _ _ (Q7 (.ref z) (.ref d.objs.size) >>= _) _ _ _;unfold Q7;have z6:j1d (d.push { cls:=.type "tuple",data:=.seq #[x,y] }) z T U .ellipsis:=D0 _ z5;refine c0 (c0 (G5 z6 (by simp) λ k7 L s7=>?_));have L:j1d k7 z T U (F4 d.objs.size):=L;refine G5 L (by simp) λ r C s8=>?_;have C:j1d r z T U (F4 d.objs.size):=C;have g :∀c o,c≠z->d.get? c=some o->r.get? c=some o:=λ c o e h=>s8.extBut _ _ e (s7.extBut _ _ e (D0 _ h));have P8:z8 r d.objs.size x y:=s8.extBut _ _ zl.symm (s7.extBut _ _ zl.symm (Q0 _ rfl));rw [sz] at C P8;refine C0 ⟨_,rfl,?_⟩;show R0 _ _ (G3 (some (C1 d.objs.size))) _ _ _;rw [sz];refine C0 (q r ⟨C,g _ _ W.symm (a0 _ _ W.symm TU Ti Tj Z.t),⟨_,_,g _ _ G.symm V⟩,?_,?_⟩ P8 λ c o e v R H h=>g c o e (a0 c o e v R H h))
 ·obtain ⟨o,S,I⟩:=i5;exact ⟨o,g _ _ P.symm S,I⟩
 ·obtain ⟨o,S,I⟩:=j5;exact ⟨o,g _ _ O.symm S,I⟩
theorem zipOff {z T U i j a b:Addr} {n:Nat} {xs ys:Array Value} {Q:Option Value->B0->Prop} (hh:A.handled=none) (D:ZApart z T U i j a b) (Z:ZAt s.heap z T U i j a b n .none) (ha:s.heap.IsTuple a xs) (hb:s.heap.IsTuple b ys) (hx:xs[n]? = none\/ys[n]? = none)
  (q :∀h',(∀c o,c≠z->c≠U->c≠i->c≠j->s.heap.get? c=some o->h'.get? c=some o)->Q none { s with heap:=h' }):R0 (v1 prog w) A (Z4 (.ref z)) Q E s:=by
 obtain ⟨⟨zT,V,C,S⟩,⟨TU,Ti,Tj⟩,⟨Ui,Uj⟩,ij⟩:=D.ne;obtain ⟨K,aT,aU,ai,aj⟩:=D.ofA;obtain ⟨X,bT,bU,bi,bj⟩:=D.ofB;obtain ⟨p,p',hU⟩:=Z.u;have ty:s.TypeIs (.ref z) "zip":=⟨_,Z.z,rfl⟩
 have R :∀h' e,(∀c o,c≠z->c≠U->c≠i->c≠j->s.heap.get? c=some o->h'.get? c=some o)->(∃o,h'.get? e=some o/\o.cls=.type "StopIteration")->
   R0 (v1 prog w) A (do if <-j3j (.ref e) (.type "StopIteration") then G3 none else throw (.ref e)) Q E { s with heap:=h' }:=λ h' e k ⟨o,g,l⟩=>
  c0 (v5 (T:="StopIteration") (b:=true) ⟨o,g,l⟩ isSubtype_stop (C0 (q _ k)))
 unfold Z4;refine c0 (J4 (J2 (name:=Q1 "__next__") ty m9 (O2 m9 ty F.entry_zip_next ?_ (F.args_zip_next_1 _))));show R0 _ _ (field (.ref z) 2 >>= λ _=>field (.ref z) 3 >>= _) _ _ _;refine c0 (S3 Z.z rfl (x:=.bool false) rfl (c0 (S3 Z.z rfl (x:=.ref T) rfl (c0 (X3 Z.t rfl ?_)))));show R0 _ _ (d4 (.ref z) >>= _) _ _ _;unfold d4;refine c0 (c0 (S3 Z.z rfl (x:=.none) rfl (C0 ?_)));simp only [if_true];refine c0 (J5 (c0 (S3 Z.z rfl (x:=.ref U) rfl (c0 (G5 Z.z (by simp) λ k1 v s1=>c0 ?_)))));have v:j1d k1 z T U .ellipsis:=v;have d:=s1.extBut;simp only [List.zipIdx_cons,List.zipIdx_nil,i7,P7];have J :∀{h:Heap} {e:Addr},j1d h z T U .ellipsis->(∃o,h.get? e=some o/\o.cls=.type "StopIteration")->e≠z:=λ {h e} hz ⟨o,g,l⟩ x=>by subst x;rw [hz] at g;cases g;simp at l
 cases cx:xs[n]? with
 | none=>refine c0 (c0 (Q8 (show R0 _ _ (B2 (.ref i) >>= _) _ _ _ from c0 (tupOff hh (Z.i.extBut d C.symm) (ha.extBut d K) cx λ H e f r=>?_))));have N:j1d H z T U .ellipsis:=f _ _ C v;obtain ⟨o,g,l⟩:=id r;exact G5 N (by simp) λ L _ B=>R L e (λ c o m _ G _ h=>B.extBut _ _ m (f _ _ G (d _ _ m h))) ⟨o,B.extBut _ _ (J N r) g,l⟩
 | some x=>
  have cy:ys[n]? = none:=by
   rcases hx with h|h
   ·rw [cx] at h;cases h
   ·exact h
  refine c0 (c0 (Q8 (show R0 _ _ (B2 (.ref i) >>= _) _ _ _ from c0 (tupOn (Z.i.extBut d C.symm) (ha.extBut d K) cx λ H g2 s2=>C0 ?_))));have f:=s2.extBut;have I:z8 H U p p':=f _ _ Ui (d _ _ V.symm hU);refine c0 (X3 I rfl (c0 (X9 I λ L g3 B=>c0 (wpAny_letGo (C0 ?_)))));have y:=B.extBut;refine c0 (c0 (Q8 (show R0 _ _ (B2 (.ref j) >>= _) _ _ _ from c0 (tupOff hh (((Z.j.extBut d S.symm).extBut f ij.symm).extBut y Uj.symm) (((hb.extBut d X).extBut f bi).extBut y bU) cy λ k4 e P r=>?_))));have O:j1d k4 z T U .ellipsis:=P _ _ S (y _ _ V (f _ _ C v));obtain ⟨o,g,l⟩:=id r;exact G5 O (by simp) λ Y _ M=>R Y e (λ c o m c2 G W h=>M.extBut _ _ m (P _ _ W (y _ _ c2 (f _ _ G (d _ _ m h))))) ⟨o,M.extBut _ _ (J O r) g,l⟩
noncomputable def zObs (n a b:Addr):List Obj:=[{ cls:=.type "tuple_iterator",data:=.fields #[.ref a,.int 0 0] },{ cls:=.type "tuple_iterator",data:=.fields #[.ref b,.int 0 0] },{ cls:=.type "tuple",data:=.seq #[.ref n,.ref (n + 1)] },
 { cls:=.type "tuple",data:=.seq #[.none,.none] },{ cls:=.type "zip",data:=.fields #[.none,.bool false,.bool false,.ref (n + 2),.ref (n + 3)] }]
noncomputable def zHeap (h:Heap) (a b:Addr):Heap:=(zObs h.objs.size a b).foldl Heap.push h
theorem zipNew (a b:Addr) (xs ys:Array Value):Meets (S4.«zip.__new__» ⟨[.type "zip",.ref a,.ref b],[]⟩) (λ _ R s=>s.heap.IsTuple a xs/\s.heap.IsTuple b ys/\R (.ok (.ret (.ref (s.heap.objs.size + 4)))) { s with heap:=zHeap s.heap a b }):=
 .of_wp λ m w A R s h=>by
  obtain ⟨e,g,d,c,f⟩:=s;obtain ⟨j,k,h⟩:=h;have n:=sub_zip;have l:j3b (j37 ⟨e,g,d,c,f⟩) a xs:=j;have i:j3b (j37 ⟨e.push { cls:=.type "tuple_iterator",data:=.fields #[.ref a,.int 0 0] },g,d,c,f⟩) b ys:=Heap.IsTuple.push k _
  wp_walk using O3 l,O3 i
  refine ⟨_,rfl,?_⟩;simpa [zHeap,zObs,A2,i4,Nat.add_assoc] using h
theorem zlp {a b:Addr} {xs ys:Array Value} {Q:Value->B0->Prop} (ha:s.heap.IsTuple a xs) (hb:s.heap.IsTuple b ys)
  (q :∀h',ZAt h' (s.heap.objs.size + 4) (s.heap.objs.size + 2) (s.heap.objs.size + 3) s.heap.objs.size (s.heap.objs.size + 1) a b 0 .none->(∀c o,s.heap.get? c=some o->h'.get? c=some o)->Q (.ref (s.heap.objs.size + 4)) { s with heap:=h' }) :
  R0 (v1 prog w) A (call (.type "zip") [.ref a,.ref b]) Q E s:=by
 refine callType_new F.called_zip (by decide) (F.typeCall_zip_2 _ _) (F.newCall_zip_2 _ _) (λ v=>F.args_object_init_3 v _ _) F.entry_zip_new (zipNew a b xs ys) ⟨ha,hb,?_⟩;have keep :∀(o:Obj) {h:Heap} {c:Addr} {u:Obj},h.get? c=some u->(h.push o).get? c=some u:=λ o _ _ _ e=>D0 _ e;generalize hn:s.heap.objs.size=n at q⊢;have k:zHeap s.heap a b=((((s.heap.push { cls:=.type "tuple_iterator",data:=.fields #[.ref a,.int 0 0] }).push { cls:=.type "tuple_iterator",data:=.fields #[.ref b,.int 0 0] }).push { cls:=.type "tuple",data:=.seq #[.ref n,.ref (n + 1)] }).push
   { cls:=.type "tuple",data:=.seq #[.none,.none] }).push { cls:=.type "zip",data:=.fields #[.none,.bool false,.bool false,.ref (n + 2),.ref (n + 3)] }:=by subst hn;rfl
 rw [k];generalize h0:s.heap.push { cls:=.type "tuple_iterator",data:=.fields #[.ref a,.int 0 0] }=k0;generalize h1:k0.push { cls:=.type "tuple_iterator",data:=.fields #[.ref b,.int 0 0] }=k1;generalize h2:k1.push { cls:=.type "tuple",data:=.seq #[.ref n,.ref (n + 1)] }=k2;generalize h3:k2.push { cls:=.type "tuple",data:=.seq #[.none,.none] }=k3;have d:k0.objs.size=n + 1:=by rw [<-h0,A2,hn]
 have i:k1.objs.size=n + 2:=by rw [<-h1,A2,d]
 have g:k2.objs.size=n + 3:=by rw [<-h2,A2,i]
 have x:k3.objs.size=n + 4:=by rw [<-h3,A2,g]
 have r:k0.get? n=some { cls:=.type "tuple_iterator",data:=.fields #[.ref a,.int 0 0] }:=by rw [<-h0,<-hn];exact Q0 _ rfl
 have t:k1.get? (n + 1)=some { cls:=.type "tuple_iterator",data:=.fields #[.ref b,.int 0 0] }:=by rw [<-h1,<-d];exact Q0 _ rfl
 have y:k2.get? (n + 2)=some { cls:=.type "tuple",data:=.seq #[.ref n,.ref (n + 1)] }:=by rw [<-h2,<-i];exact Q0 _ rfl
 have m:k3.get? (n + 3)=some { cls:=.type "tuple",data:=.seq #[.none,.none] }:=by rw [<-h3,<-g];exact Q0 _ rfl
 have j :∀{c o},k0.get? c=some o->k3.get? c=some o:=λ e=>by rw [<-h3,<-h2,<-h1];exact keep _ (keep _ (keep _ e))
 have l :∀{c o},k1.get? c=some o->k3.get? c=some o:=λ e=>by rw [<-h3,<-h2];exact keep _ (keep _ e)
 have p :∀{c o},k2.get? c=some o->k3.get? c=some o:=λ e=>by rw [<-h3];exact keep _ e
 have f:(k3.push { cls:=.type "zip",data:=.fields #[.none,.bool false,.bool false,.ref (n + 2),.ref (n + 3)] }).get? (n + 4)=some { cls:=.type "zip",data:=.fields #[.none,.bool false,.bool false,.ref (n + 2),.ref (n + 3)] }:=by rw [<-x];exact Q0 _ rfl
 exact ⟨⟨_,f,rfl⟩,q _ ⟨f,keep _ (p y),⟨_,_,keep _ m⟩,⟨_,keep _ (j r),rfl,rfl⟩,⟨_,keep _ (l t),rfl,rfl⟩⟩ λ c o e=>keep _ (j (by rw [<-h0];exact keep _ e))⟩
theorem zl6 (n a b:Nat) (ha:a < n) (hb:b < n):([n + 4,n + 2,n + 3,n,n + 1]:List Nat).Nodup/\a∉([n + 4,n + 2,n + 3,n,n + 1]:List Nat)/\b∉([n + 4,n + 2,n + 3,n,n + 1]:List Nat):=by
 refine ⟨?_,?_,?_⟩
 ·simp only [d7,N0,x0,or_false,not_or,not_false_eq_true,i9,and_true];omega
 ·simp only [N0,x0,or_false,not_or];omega
 ·simp only [N0,x0,or_false,not_or];omega
theorem zApart {n a b:Addr} (ha:a < n) (hb:b < n):ZApart (n + 4) (n + 2) (n + 3) n (n + 1) a b:=
 have h:=zl6 n a b ha hb
 ⟨h.1,h.2.1,h.2.2⟩
end
end L2
namespace L2
open PySem PySem.Spec PyProof.Rows
inductive Dt where
 | non|bl (b:Bool)|int (i:Int)|str (z:Str)|tup (ds:List Dt)
mutual
noncomputable def IsDt (K:j0) (H:Hp):Dt->V->Prop
 | .non,v=>v=.non
 | .bl b,v=>v=.bl b
 | .int i,v=>v=.int i
 | .str z,v=>v=.str z
 | .tup ds,v=>∃a xs,v=.ref a/\SqT K H a xs/\IsDts K H ds xs
noncomputable def IsDts (K:j0) (H:Hp):List Dt->List V->Prop
 | [],xs=>xs=[]
 | d :: ds,xs=>∃x r,xs=x :: r/\IsDt K H d x/\IsDts K H ds r
end
mutual
theorem IsDt.same' {K:j0} {H H':Hp} (s:Same H H') :∀(d:Dt) (v:V),IsDt K H d v->IsDt K H' d v
 | .non,v,h=>h
 | .bl b,v,h=>h
 | .int i,v,h=>h
 | .str z,v,h=>h
 | .tup ds,v,h=>by obtain ⟨a,c,rfl,e,r⟩:=h;exact ⟨a,c,rfl,s.seqT e,IsDts.same' s ds c r⟩
theorem IsDts.same' {K:j0} {H H':Hp} (s:Same H H') :∀(d:List Dt) (v:List V),IsDts K H d v->IsDts K H' d v
 | [],xs,h=>h
 | d :: ds,xs,h=>by obtain ⟨x,r,rfl,a,b⟩:=h;exact ⟨x,r,rfl,IsDt.same' s d x a,IsDts.same' s ds r b⟩
end
theorem IsDt.same {K:j0} {H H':Hp} {d:Dt} {v:V} (h:IsDt K H d v) (s:Same H H'):IsDt K H' d v:=IsDt.same' s d v h
theorem IsDts.mk2 {K:j0} {H:Hp} {d e:Dt} {x y:V} (a:IsDt K H d x) (b:IsDt K H e y):IsDts K H [d,e] [x,y]:=⟨x,[y],rfl,a,y,[],rfl,b,rfl⟩
theorem IsDt.mkT {K:j0} {H:Hp} {p:Addr} {xs:List V} {ds:List Dt} (h:H p=some (.tup xs)) (r:IsDts K H ds xs):IsDt K H (.tup ds) (.ref p):=⟨p,xs,rfl,SqT.of h,r⟩
mutual
noncomputable def Dt.deep:Dt->Nat
 | .tup ds=>Dt.deeps ds + 1
 | _=>0
noncomputable def Dt.deeps:List Dt->Nat
 | []=>0
 | d :: ds=>max d.deep (Dt.deeps ds)
noncomputable def Dt.plain:Dt->Bool
 | .int _=>true
 | .str _=>true
 | .tup ds=>Dt.plains ds
 | _=>false
noncomputable def Dt.plains:List Dt->Bool
 | []=>true
 | d :: ds=>d.plain && Dt.plains ds
end
section
variable {X:Cx}
theorem zku {i:Nat} {x:Str} {p pos:Pos} {e:Expr} {es:List Expr} {t:TA} (tb:Addr->Sp->Prop) (hN:X.N[i]? = some x) (hv:Vis X.env.scope x)
  (G :∀f sp,tb f sp->∃k fd ps,FnOk X.prog X.w X.K X.mg X.base CX0 k f fd ps sp/\Room k X.A/\Q3 X.K (.ref f)=true/\Binds X.K fd ps [])
  (ha:PA X (e :: es) t) (hd:(x == ("__debug__" : Str))=false:=by decide) (hcd:(x == ("__classdict__" : Str))=false:=by decide)
  (he:F1 (e :: es) X.env=(false,L3 e X.env) :: F1 es X.env:=by rfl) (hpl:(c5 pos (F1 es X.env)).any (·.1)=false:=by rfl) :
  PE X (.Call (.Name x p) (e :: es) [] pos) (λ σ H Q=>∃f sp,σ[i]? = some (some (.ref f))/\tb f sp/\t σ H λ vs H1=>sp vs H1 Q E0):=by
 intro a s σ H Q I h;obtain ⟨f,sp,l,m,h⟩:=h;obtain ⟨k,fd,ps,F,c,b,d⟩:=G f sp m;refine P3 (thn (pe_var hN hv hd hcd a s σ H (λ v g=>v=.ref f/\g=H) I ⟨_,l,rfl,rfl⟩) λ u j ⟨v,H0,I0,r0,ev,eH⟩=>?_);subst ev eH;obtain rfl:u=C1 f:=r0;refine v7 (h₀:=X.base) I0.ok.mod.kin b (thn (ha pos a j σ _ _ I0 h) λ n o ⟨vs,H1,I1,r,q⟩=>⟨I1.kIn,?_⟩) he hpl;exact run_fn F c d .nil pass0 I1 r (by rw [W2];exact q)
theorem Inv.turnedL {pins:List (Addr×Obj)} {σ:St} {H:Hp} {s:B0} {h':Heap} {t':Nat} {fp:List Addr} (I:Inv X pins σ H s) (k :∀b o,b∉fp->s.heap.get? b=some o->h'.get? b=some o) (hf :∀b∈fp,FpOk X pins H b) :
  Inv X pins σ H { s with heap:=h',toks:=t' }:=by
 have f :∀b u,H b=some u->b∉fp:=λ b u e z=>by have:=(hf b z).1;rw [this] at e;cases e
 refine I.step (g':=s.gens) (d':=s.drawn) (ch:=fp) (λ b d=>⟨(hf b d).2.2.2.1,(hf b d).2.1,(hf b d).2.2.2.2.1,(hf b d).2.2.2.2.2⟩) (λ b o _ _ a e _=>k b o a e) (λ b o _ _ a e _=>⟨o.slots,k b o a e⟩) (λ _ _ _ _ n=>n)
  (λ b o a e=>⟨o,k b o a e⟩) (λ _ _ e=>e) (λ _ _ _ e=>e) (λ b l e=>⟨#[],by rw [e];simp⟩) (λ m h=>?_) (λ b u e=>?_) I.bare
 ·obtain ⟨o,j,g,i,r⟩:=h;exact ⟨o,j,g,k _ o (λ z=>(hf _ z).2.1 rfl) i,r⟩
 ·refine (I.hok b u e).stay (λ c v a q=>k c v ?_ q) (λ _ q=>q) λ _ _ q=>q;rcases a with z|z
  ·rw [z];exact f b u e
  ·exact f c _ z
theorem Inv.turnedLaid {pins:List (Addr×Obj)} {σ:St} {H:Hp} {s:B0} {h':Heap} {t':Nat} {fp:List Addr} {a:Addr} {o:HO} (I:Inv X pins σ H s) (k :∀b o,b∉fp->s.heap.get? b=some o->h'.get? b=some o) (hf :∀b∈fp,FpOk X pins H b)
  (hp:s.heap.objs.size<=a) (new:ObjOk X.prog X.w (upd H a o) h' a o):Inv X pins σ (upd H a o) { s with heap:=h',toks:=t' }:=by
 have j:H a=none:=I.hok.fresh hp;have h :∀b u,H b=some u->b∉fp:=λ b u e z=>by have:=(hf b z).1;rw [this] at e;cases e
 have g :∀b u,H b=some u->upd H a o b=some u:=λ b u e=>by rw [upd_ne (z0a e j)];exact e
 refine I.step (g':=s.gens) (d':=s.drawn) (ch:=fp) (λ b d=>⟨(hf b d).2.2.2.1,(hf b d).2.1,(hf b d).2.2.2.2.1,(hf b d).2.2.2.2.2⟩) (λ b o _ _ f e _=>k b o f e) (λ b o _ _ f e _=>⟨o.slots,k b o f e⟩)
  (λ b u _ e n=>by rw [upd_ne (λ z=>by subst z;exact absurd (L0 e) (Nat.not_lt.mpr hp))];exact n)
  (λ b o f e=>⟨o,k b o f e⟩) (λ _ _ e=>g _ _ e) (λ _ _ _ e=>g _ _ e) (λ b x e=>⟨#[],by rw [g _ _ e];simp⟩) (λ m l=>?_) (λ b u e=>?_) I.bare
 ·obtain ⟨o,i,p,t,r⟩:=l;exact ⟨o,i,p,k _ o (λ z=>(hf _ z).2.1 rfl) t,r⟩
 ·by_cases d:b=a
  ·subst d;rw [upd_same] at e;cases e;exact new
  ·rw [upd_ne d] at e;refine (I.hok b u e).stay (λ c v f q=>k c v ?_ q) (λ c q=>g _ _ q) λ c y q=>g _ _ q;rcases f with z|z
   ·rw [z];exact h b u e
   ·exact h c _ z
end
noncomputable def Itz (K:j0) (a b:Addr):It:=
  ⟨λ i H=>∃xs ys x y,SqT K H a xs/\SqT K H b ys/\xs[i]? = some x/\ys[i]? = some y,
   λ i H v H'=>∃p,H p=none/\v=.ref p/\∀xs ys,SqT K H a xs->SqT K H b ys->∃x y,xs[i]? = some x/\ys[i]? = some y/\H'=upd H p (.tup [x,y]),
   λ i H=>∃xs ys,SqT K H a xs/\SqT K H b ys/\(xs.length<=i\/ys.length<=i)⟩
theorem w_0:(0:Nat)<=sizeLine:=by decide
theorem w_1:(1:Nat)<=sizeLine:=by decide
theorem w_2:(2:Nat)<=sizeLine:=by decide
theorem w_3:(3:Nat)<=sizeLine:=by decide
theorem w_4:(4:Nat)<=sizeLine:=by decide
theorem w_5:(5:Nat)<=sizeLine:=by decide
theorem w_6:(6:Nat)<=sizeLine:=by decide
theorem w_7:(7:Nat)<=sizeLine:=by decide
theorem zjw {P:Program} {w:j1} {K:j0} {elts:List Expr} {x1:Nat} {pos:Pos} {z T U i j a b:Addr} (D:ZApart z T U i j a b):Turn P w K (.Tuple elts x1 pos) (Itz K a b) [z,T,U,i,j] z (λ n h=>ZAt h z T U i j a b n .none) where
 mem:=by simp
 obj:=λ n h f c g=>by
  simp only [N0,x0,or_false] at g;rcases g with rfl|rfl|rfl|rfl|rfl
  ·exact ⟨_,f.z,λ v z=>by cases (show o9 _=Q6 v from z)⟩
  ·exact ⟨_,f.t,λ v z=>by cases (show j1i _ _=Q6 v from z)⟩
  ·obtain ⟨p,q,e⟩:=f.u;exact ⟨_,e,λ v z=>by cases (show j1i _ _=Q6 v from z)⟩
  ·obtain ⟨o,e,_,d⟩:=f.i;exact ⟨o,e,λ v z=>by rw [d] at z;cases z⟩
  ·obtain ⟨o,e,_,d⟩:=f.j;exact ⟨o,e,λ v z=>by rw [d] at z;cases z⟩
 keep:=λ n h h' f k=>by obtain ⟨p,q,e⟩:=f.u;obtain ⟨o,l,A⟩:=f.i;obtain ⟨Y,J,G⟩:=f.j;exact ⟨k z (by simp) _ f.z,k T (by simp) _ f.t,⟨p,q,k U (by simp) _ e⟩,⟨o,k i (by simp) _ l,A⟩,⟨Y,k j (by simp) _ J,G⟩⟩
 item:=by
  intro X R hw S g n a3 s σ H E I C f N;subst R hw S;obtain ⟨xs,ys,x,y,F,B,hx,hy⟩:=N;obtain ⟨L,ra,Z,_⟩:=I.tuple F;obtain ⟨V,M,W,_⟩:=I.tuple B;obtain ⟨u,hu,ru⟩:=ra.get hx;obtain ⟨v,hv,rv⟩:=M.get hy;refine zipOn D f (show s.heap.IsTuple a L.toArray from Z) (show s.heap.IsTuple b V.toArray from W) (x:=u) (y:=v) (by simpa using hu) (by simpa using hv) λ h' r pr O=>?_;refine ⟨_,rfl,j4a r.z λ h2 z2 m=>?_⟩;have nz:s.heap.objs.size≠z:=V2 (L0 f.z);have k2 :∀c o,c∉[z,T,U,i,j]->s.heap.get? c=some o->h2.get? c=some o:=λ c o g e=>by simp only [N0,x0,or_false,not_or] at g;exact m.extBut _ _ g.1 (O c o g.1 g.2.2.1 g.2.2.2.1 g.2.2.2.2 e)
  have a0:z8 h2 s.heap.objs.size u v:=m.extBut _ _ nz pr;have fr:H s.heap.objs.size=none:=I.hok.fresh (F0 _);refine ⟨.ref s.heap.objs.size,upd H s.heap.objs.size (.tup [x,y]),I.turnedLaid (t':=s.toks) k2 C (F0 _) ⟨w_2,[u,v],.cons ru (.cons rv .nil),⟨_,a0,rfl,_,rfl⟩,_,a0,rfl⟩,rfl,⟨_,fr,rfl,λ a5 a6 a2 a4=>⟨x,y,?_,?_,rfl⟩⟩,?_,λ c g=>?_⟩
  ·rw [I.tuple_inj a2 F];exact hx
  ·rw [I.tuple_inj a4 B];exact hy
  ·obtain ⟨⟨zT,zU,zi,zj⟩,_⟩:=D.ne;obtain ⟨p,q,e⟩:=r.u;obtain ⟨o,l,A⟩:=r.i;obtain ⟨Y,J,G⟩:=r.j;exact ⟨z2,m.extBut _ _ zT.symm r.t,⟨p,q,m.extBut _ _ zU.symm e⟩,⟨o,m.extBut _ _ zi.symm l,A⟩,⟨Y,m.extBut _ _ zj.symm J,G⟩⟩
  ·have a1:c < s.heap.objs.size:=by
    simp only [N0,x0,or_false] at g;rcases g with rfl|rfl|rfl|rfl|rfl
    ·exact L0 f.z
    ·exact L0 f.t
    ·obtain ⟨p,q,e⟩:=f.u;exact L0 e
    ·obtain ⟨o,l,A⟩:=f.i;exact L0 l
    ·obtain ⟨o,l,A⟩:=f.j;exact L0 l
   rw [upd_ne (X0 a1)];exact (C c g).1
 done:=by
  intro X R hw S g n a3 s σ H E I C f N;subst R hw S;obtain ⟨xs,ys,F,B,Q⟩:=N;obtain ⟨L,ra,Z,_⟩:=I.tuple F;obtain ⟨V,M,W,_⟩:=I.tuple B;have la:=ra.length;have lb:=M.length;refine zipOff (I.ok.hd g) D f (show s.heap.IsTuple a L.toArray from Z) (show s.heap.IsTuple b V.toArray from W) ?_ λ h' O=>⟨rfl,I.turnedL (t':=s.toks) (λ c o g e=>?_) C⟩
  ·rcases Q with Q|Q
   ·left;simp;omega
   ·right;simp;omega
  ·simp only [N0,x0,or_false,not_or] at g;exact O c o g.1 g.2.2.1 g.2.2.2.1 g.2.2.2.2 e
 self:=λ _ _ _ _ _ f h=>c9 f.z h
section
variable {X:Cx}
theorem zk5:OpR X (A5 .Add) (λ x y H Q=>∃a b ys,x=.ref a/\y=.ref b/\SqT X.K H a []/\SqT X.K H b ys/\Q (.ref b) H):=by intro L s σ H x y v u Q I j t h;obtain ⟨a,b,ys,rfl,rfl,n,p,q⟩:=h;cases j;cases t;obtain ⟨D,B,z,_⟩:=I.tuple n;obtain ⟨r,E,w,_⟩:=I.tuple p;cases B;obtain ⟨⟨G,l,M,m⟩,d,i,A,f⟩:=id z;obtain ⟨⟨F,o,J,k⟩,g,c,C,e⟩:=id w;simp only at i f c e;subst i f c e;exact j1a ⟨_,d,rfl⟩ ⟨_,g,rfl⟩ j22 seq_tuple_add v8 c8 (V7 _ _) (tuple_addW0 a b ([]:List Value).toArray r.toArray A C l o m k (by simp)) ⟨d,g,⟨.ref b,H,I,rfl,q⟩⟩
noncomputable def rCatS (K:j0):R2:=λ x y H Q=>∃a b xs ys,x=.ref a/\y=.ref b/\SqT K H a xs/\SqT K H b ys/\ys≠[]/\xs.length + ys.length<=sizeLine/\∀p H',Same H H'->SqT K H' p (xs++ys)->Q (.ref p) H'
theorem op_catS:OpR X (A5 .Add) (rCatS X.K):=by
 intro i s σ H x y v u Q I e j h;obtain ⟨a,b,c,f,rfl,rfl,g,d,k,m,q⟩:=h;cases c with
 | nil=>exact zk5 i s σ H _ _ v u Q I e j ⟨a,b,f,rfl,rfl,g,d,q b H (Same.refl H) d⟩
 | cons x c=>exact z5s i s σ H _ _ v u Q I e j ⟨a,b,x :: c,f,rfl,rfl,g,d,by simp,m,λ z=>absurd z k,λ _ p l=>q p _ (Same.upd l) (SqT.of upd_same)⟩
theorem z16 {o e:Expr} {es:List Expr} {to:TE} {t:TA} {apos cpos:Pos} (ho:PE X o to) (ha:PA X (e :: es) t)
  (hbase:X5 o "append" X.env (L3 o X.env)=L3 o X.env:=by rfl)
  (hfew:((c5 cpos (F1 (e :: es) X.env)).all (λ x=>!x.1) && (j03 cpos (E7 [] X.env)).all (λ x=>x.1.isSome)
   && decide ((e :: es).length + ([]:List W6).length + (if ([]:List W6).isEmpty then 0 else 1) < 30))=true:=by rfl)
  (hline:(apos.endLine == cpos.line)=true:=by rfl) (hs:F1 (e :: es) X.env=(false,L3 e X.env) :: F1 es X.env:=by rfl) (hplain:(c5 cpos (F1 es X.env)).any (·.1)=false:=by rfl) :
  PE X (.Call (.Attribute o "append" apos) (e :: es) [] cpos) (tBM X.K "list" zje to t):=pe_bm b8 PySem.F.slot_list_append PySem.F.type_list_append zhb ho ha hbase hfew hline hs hplain
end
def KeptL (L:List Addr) (H H':Hp):Prop:=∀b o,b∉L->H b=some o->H' b=some o
theorem KeptL.refl {L:List Addr} {H:Hp}:KeptL L H H:=λ _ _ _ h=>h
theorem KeptL.trans {L:List Addr} {H H1 H2:Hp} (a:KeptL L H H1) (b:KeptL L H1 H2):KeptL L H H2:=λ c o n h=>b c o n (a c o n h)
theorem Same.keptL {L:List Addr} {H H':Hp} (s:Same H H'):KeptL L H H':=λ b o _ h=>s b o h
theorem KeptL.set {L:List Addr} {H:Hp} {l:Addr} {o:HO} (h:l∈L):KeptL L H (upd H l o):=λ b u n e=>by rw [upd_ne (λ z=>n (by rw [z];exact h))];exact e
mutual
theorem IsDt.mono' {K:j0} {H H':Hp} (s :∀a xs,SqT K H a xs->SqT K H' a xs) :∀(d:Dt) (v:V),IsDt K H d v->IsDt K H' d v
 | .non,v,h=>h
 | .bl b,v,h=>h
 | .int i,v,h=>h
 | .str z,v,h=>h
 | .tup ds,v,h=>by obtain ⟨a,xs,rfl,e,r⟩:=h;exact ⟨a,xs,rfl,s _ _ e,IsDts.mono' s ds xs r⟩
theorem IsDts.mono' {K:j0} {H H':Hp} (s :∀a xs,SqT K H a xs->SqT K H' a xs) :∀(d:List Dt) (v:List V),IsDts K H d v->IsDts K H' d v
 | [],xs,h=>h
 | d :: ds,xs,h=>by obtain ⟨x,r,rfl,a,b⟩:=h;exact ⟨x,r,rfl,IsDt.mono' s d x a,IsDts.mono' s ds r b⟩
end
theorem SqT.wrote {K:j0} {H:Hp} {l a:Addr} {o:HO} {zs xs:List V} (e:H l=some (.lst zs)) (h:SqT K H a xs):SqT K (upd H l o) a xs:=by
 rcases h with (h|⟨ob,h⟩)|h
 ·exact .inl (.inl (by rw [upd_ne (ne_of h e (by intro z;cases z))];exact h))
 ·exact .inl (.inr ⟨ob,by rw [upd_ne (ne_of h e (by intro z;cases z))];exact h⟩)
 ·exact .inr h
section
variable {prog:Program} {w:j1} {A:V1} {E:Value->B0->Prop} {s:B0}
theorem zfc {v:Value} {Q:Value->B0->Prop} {ns:List Int} (hn:ns.length < 64)
  (hc :∀R:List Value->B0->Prop,(∀h' tk vs,(∀b o,s.heap.get? b=some o->h'.get? b=some o)->D3 vs ns->R vs { s with heap:=h',toks:=tk })->R0 (v1 prog w) A.in1 (collect v) R E s)
  (h :∀(h1 h':Heap) (tk:Nat) (out:Array Value) (ns':List Int) (e:Nat),(∀b o,s.heap.get? b=some o->h1.get? b=some o)->(∀b o,h1.get? b=some o->h'.get? b=some o)->h'.get? h1.objs.size=some { cls:=.type "list",data:=.seq out e }->D3 out.toList ns'->ns'.Perm ns->ns'.Pairwise (·<=·)->Q (.ref h1.objs.size) { s with heap:=h',toks:=tk }) :
  R0 (v1 prog w) A (call (.builtin "sorted") [v]) Q E s:=by
 refine j1j kind_sorted plain_sorted entry_sorted (args_sorted1 _) ?_;unfold S4.«sorted»;refine c0 (m:=checkCount "sorted" 1 1 _) (C0 (c0 (hc _ λ h1 tk vs k c=>?_)));have d:vs.length < 64:=by rw [c.length];exact hn
 refine c0 (wpAny_newList ?_ (G0 (V3 d) (by decide)));have a:(h1.push (seqObj "list" vs.toArray 0)).get? h1.objs.size=some (seqObj "list" vs.toArray 0):=Q0 _ rfl;refine c0 (X1 (O2 slot_list_sort ⟨_,a,rfl⟩ entry_list_sort (list_sort_tree a c d λ out ns' i j l=>⟨_,rfl,?_⟩) (args_list_sort _)));obtain ⟨e,g⟩:=sortedHeap_at (out:=out) a;refine C0 ⟨_,rfl,h h1 _ tk out ns' e k (λ b o f=>?_) g i j l⟩;have lt:=L0 f;refine (sortedHeap_old (X0 lt) ?_).trans (D0 _ f);rw [size_push'];exact P1 lt
end
theorem zit :∀{ns:List Int} {us:List Value},us.length=ns.length->(∀(j:Nat) (u:Value),us[j]? = some u->∃(i:Int) (t:Tok),ns[j]? = some i/\u=O6 i t)->D3 us ns
 | [],us,hl,_=>by have:us=[]:=List.eq_nil_of_length_eq_zero hl;subst this;exact .nil
 | n :: ns,us,hl,h=>by
  cases us with
  | nil=>cases hl
  | cons u us=>obtain ⟨i,t,e,rfl⟩:=h 0 u rfl;have e:n=i:=N1 e;subst e;exact .cons n t (zit (Nat.succ.inj hl) λ j v e=>h (j + 1) v (by simpa using e))
section
variable {X:Cx}
def srt (ns:List Int) (H:Hp) (Q:VK):Prop:=∀(l:Addr) (ns':List Int),H l=none->ns'.Perm ns->ns'.Pairwise (·<=·)->Q (.ref l) (upd H l (.lst (ns'.map V.int)))
theorem zck {pins:List (Addr×Obj)} {σ:St} {H:Hp} {s:B0} {Q:VK} {ns:List Int} {h1 h':Heap} {tk:Nat} {out:Array Value} {ns':List Int} {e:Nat} (I:Inv X pins σ H s) (hn:ns.length < 64) (q:srt ns H Q)
  (k1 :∀b o,s.heap.get? b=some o->h1.get? b=some o) (k2 :∀b o,h1.get? b=some o->h'.get? b=some o) (g:h'.get? h1.objs.size=some { cls:=.type "list",data:=.seq out e }) (i:D3 out.toList ns') (p:ns'.Perm ns) (r:ns'.Pairwise (·<=·)) :
  EP X pins σ Q (.ref h1.objs.size) { s with heap:=h',toks:=tk }:=by
 have a:Inv X pins σ H { s with heap:=h1 }:=I.kept (t':=s.toks) k1;refine ⟨.ref h1.objs.size,_,a.laid (t':=tk) (o:=.lst (ns'.map V.int)) k2 (F0 _) ⟨?_,out.toList,e,z8v i,by simpa using g⟩,rfl,q _ ns' (a.hok.fresh (F0 _)) p r⟩;rw [M0,p.length_eq];exact G0 (V3 hn) (by decide)
theorem z2t:CallR X (.builtin "sorted") (λ xs H Q=>∃a ns,xs=[.ref a]/\(SqL X.K H a (ns.map V.int)\/SqT X.K H a (ns.map V.int))/\ns.length < 64/\srt ns H Q):=by
 intro E s σ H xs D Q I r h;obtain ⟨a,ns,rfl,b,v,q⟩:=h;obtain ⟨u,rfl,x⟩:=vals1 r;cases x;refine zfc v (λ R w=>?_) λ G d B F C e z y g i p r=>zck I v q z y g i p r;rcases b with b|b
 ·obtain ⟨A,c,t,f⟩:=I.list b;obtain ⟨o,j,l,n,m⟩:=t.isList;exact wpAny_collect_seq a (.inl rfl) j l m (λ d k=>w d s.toks _ k (by simpa using z4f c)) (by rw [V0,<-c.length];exact f)
 ·obtain ⟨A,c,t,f⟩:=I.tuple b;obtain ⟨o,j,l,n,m⟩:=t;exact wpAny_collect_seq a (.inr rfl) j l m (λ d k=>w d s.toks _ k (by simpa using z4f c)) (by rw [V0,<-c.length];exact f)
theorem zbb (hcalm:X.calm=true):CallR X (.builtin "sorted") (λ xs H Q=>∃a kvs ns,xs=[.ref a]/\H a=some (.dK kvs)/\kvs.map (·.1)=ns.map Sum.inl/\ns.length < 64/\srt ns H Q):=by
 intro T s σ H xs S Q I r h;obtain ⟨a,kvs,ns,rfl,G,o,f,q⟩:=h;obtain ⟨u,rfl,w⟩:=vals1 r;cases w;obtain ⟨J,E,c,m,C⟩:=dk_of I.hok G;obtain ⟨P,v⟩:=C.dictAt;refine zfc f (λ R D=>?_) λ Y n d U N e K B g i p r=>zck I f q K B g i p r;have keys:c.map (·.1)=ns.map Sum.inl:=m.keys.symm.trans o;have F:c.length=ns.length:=by have:=congrArg D6 keys;simpa using this
 refine PySem.W.kdu_collect (PySem.W.kdl_dict E) (show X.A.in1.handled=none from I.ok.hd hcalm) v (by rw [<-m.length];exact J) λ n d O k l=>D n d _ k (zit (by rw [v2,l.1,F]) λ j u e=>?_);obtain ⟨y,x,M,L⟩:=l.2 j u (by rw [<-E4];exact e);have b:(c.map (·.1))[j]? = some y:=by rw [W0,M];rfl
 rw [keys,W0] at b;cases en:ns[j]? with
 | none=>rw [en] at b;cases b
 | some i=>
  rw [en] at b;have b:Sum.inl i=y:=N1 b;subst b;rcases z0o (show keyIs (.inl i) u=true from L) with ⟨V,t,z,rfl⟩|⟨_,_,z,_⟩
  ·cases z;exact ⟨i,t,rfl,rfl⟩
  ·cases z
end
theorem iteP {c A B:Prop} [Decidable c] (hc:c) (h:A):if c then A else B:=by rw [if_pos hc];exact h
theorem iteN {c A B:Prop} [Decidable c] (hc:¬ c) (h:B):if c then A else B:=by rw [if_neg hc];exact h
theorem z5g (i:Int) (ns:List Int):inV (.int i) (ns.map V.int)=decide (i∈ns):=by
 unfold inV;rw [j3a,Bool.eq_iff_iff,F8,decide_eq_true_eq];constructor
 ·rintro ⟨x,hx,e⟩;have e:(x == i)=true:=e;rw [beq_iff_eq] at e;exact e ▸ hx
 ·intro h;exact ⟨i,h,by show (i == i)=true;simp⟩
theorem z3p (ns:List Int):(ns.map V.int).all flatV=true:=by rw [G8];intro x a;obtain ⟨i,_,rfl⟩:=List.mem_map.mp a;rfl
theorem z2r {names:List (Str×r6)} {n:Str} {Q:Str×r6->Prop} (h:(names.all λ y=>y.2 != Y1 || y.1 == n)=true) (q :∀k,Q (n,k)) :∀y∈names,y.2=Y1->Q y:=λ y c e=>by
 have:=List.all_eq_true.mp h y c;rw [e] at this;have:(y.1 == n)=true:=by simpa using this
 obtain ⟨a,b⟩:=y;rw [beq_iff_eq] at this;have:a=n:=this;subst this;exact q b
noncomputable def CXE (P:Program) (w:j1) (base:Heap):CXT:=λ outer H s E e s'=>∃(ea:Addr) (cls a0:Value) (B:Heap) (H':Hp),e=.ref ea/\s'.os=s.os/\O8 s'.gens/\Un (frs outer) [] H H' s.heap s'.heap/\HOk P w H' s'.heap/\H' ea=none/\
 base.StaysIn B/\Heap.FlyingW B outer ea cls a0 s'.heap/\(∀b o,s'.heap.get? b=some o->b∉frs outer->((∃u,H' b=some u)\/∃u,s.heap.get? b=some u)->B.get? b=some o)/\E cls none H'
theorem passN {X:Cx}:Passes (CXE X.prog X.w X.base) X E0:=λ _ _ _ _ _ _ _ ⟨_,_,_,_,_,_,_,_,_,_,_,_,_,_,z⟩=>z.elim
theorem PS.nox {X:Cx} {st:Stmt} {t:TS} (h:PS X.nox st t):PS X st t:=λ a s σ H D I hw=>y4 (h a s σ H D (I.wish _) hw) (λ _ _ q=>q.unwish) λ _ _ z=>A4 z
section
variable {P:Program} {w:j1} {K:j0} {mg:Str->Option Value} {base:Heap} {N:List Str} {qual:Str} {scope:Scope} {f:Addr} {cd:Value} {A:V1} {outer:List Env} {s:B0} {H:Hp} {E:XK}
theorem Fun.okE {x qual:Str} {st:Stmt} {f:Addr} {fd:FuncData} {N ps:List Str} {k:Nat} {sp:Sp} (F:Fun K x qual st f fd) (S:FnScope N ps (z06 st)) (len :∀vs H Q E,sp vs H Q E->vs.length=ps.length)
  (hbody :∀(cdv:Value) (A:V1) (outer:List Env) (s:B0) (H:Hp) (vs:List V) (Q:VK) (E:XK),Room k (A.deeper (A9 qual (z06 st) s.heap.objs.size f cdv))->sp vs H Q E->
   ∃t,PSs (cxOf (CXE P w base) P w K mg base N qual (z06 st) f cdv A outer s H E) (z72 st) t/\t { nx:=λ _ H'=>Q .non H',rt:=Q } (start N vs) H):FnOk P w K mg base (CXE P w base) (k + 1) f fd ps sp:=by
 obtain ⟨g,h,kV,m,e,l,cdv,i,j,rfl,d,c⟩:=F.ex;exact fn_of d c S len λ A outer s H vs Q E b a=>hbody cdv A outer s H vs Q E b a
end
structure CalE (P:Program) (w:j1) (K:j0) (mg:Str->Option Value) (base:Heap) (x:Str) (ps:List Str) (k:Nat) (sp:Sp):Prop where
 ex :∃f fd,FnOk P w K mg base (CXE P w base) k f fd ps sp/\mg x=some (.ref f)/\Q3 K (.ref f)=true/\Binds K fd ps []
end L2
set_option maxHeartbeats 400000
namespace L2
open PySem PySem.Spec PyProof.Rows PySem.W PySem.Calls PySem.Builtin PySem.Builtin.ObjectAttr PySem.Builtin.Getset_descriptor
end L2
namespace L2
open PySem PySem.Spec PyProof.Rows PySem.W
end L2
namespace L2
open PySem PySem.Spec PyProof.Rows
end L2
set_option maxHeartbeats 4000000
namespace L2
open PySem PySem.Spec PyProof.Rows
noncomputable def cStG (σ:St) (fr:List (Nat×Str)) (us:List (Option V)):St:=us++fr.map λ p=>(σ[p.1]?).join
noncomputable def tCompG (wi:TI) (n:Nat) (fr:List (Nat×Str)) (g:TG) (tc:TT) (te:TE):TE:=λ σ H Q=>wi σ H λ J H1=>∃W:Nat->Nat->List V->Hp->Prop,(∃m,W 0 m [] H1)/\∀i m ys H,W i m ys H->
 (J.stop i H/\ys.length<=sizeLine/\∀p,H p=none->Q (.ref p) (upd H p (.lst ys)))\/
 (J.go i H/\ys.length<=sizeLine/\∀v H',J.yld i H v H'->g v (cStG σ fr (D2 n none)) H' λ σ6 H6=>∃us,us.length=n/\σ6=cStG σ fr us/\tc (cStG σ fr us) H6 λ b H2=>if b=true then te (cStG σ fr us) H2 λ y H3=>∃m',m' < m/\W (i + 1) m' (ys++[y]) H3 else∃m',m' < m/\W (i + 1) m' ys H2)
section
variable {X:Cx}
theorem z0e {scope:Scope} {cl:List (Str×Addr)} {N:List Str} {C:Addr} {s₂:B0} {H₂:Hp} {fp:List Addr} {x:Str} {px:Pos} (i:Nat) (hN:N.Nodup) (hi:N[i]? = some x) (hx:scope.names.lookup x=some .local):PG (cxComp X scope cl N C s₂ H₂ fp) (.Name x px) (gName i):=
 z0j hN hi (.inl (lookup_relabel_local hx)) (.inr (lookup_relabel_local hx))
theorem zgx {xs:List Str} {tg:Expr} {g:TG} {pos:Pos} {elt iter:Expr} {ifs:List Expr} {scope:Scope} {fr:List (Nat×Str)} {wi:TI} {tc:TT} {te:TE} {use:Option (Value->Sem Unit)} {QQ:Value->B0->Prop} {pins:List (Addr×Obj)} {s:B0} {σ:St} {H:Hp} {Q:VK} {pp:Pos} (hcalm:X.calm=true) (hi:PI X tg iter wi)
  (hfr :∀p∈fr,X.N[p.1]? = some p.2/\(X.env.kindOf p.2=some .cell\/X.env.kindOf p.2=some .free))
  (hfree :∀y∈scope.names,y.2=Y1->X.env.kindOf y.1=some .cell\/X.env.kindOf y.1=some .free)
  (hfs :∀p∈fr,(p.2,Y1)∈scope.names/\((j09 scope X.env).names.lookup p.2=some .cell\/(j09 scope X.env).names.lookup p.2=some .free))
  (hcell :∀y∈scope.names,y.2≠g9) (hkind:scope.kind=.function) (hnames :∀y∈scope.names,y.2=NameKind.local->scope.names.lookup y.1=some .local)
  (hg :∀cl C s₂ H₂ fp,PG (cxComp X scope cl (xs++fr.map (·.2)) C s₂ H₂ fp) tg g)
  (ht :∀cl C s₂ H₂ fp,PF (cxComp X scope cl (xs++fr.map (·.2)) C s₂ H₂ fp) ifs tc) (he :∀cl C s₂ H₂ fp,PE (cxComp X scope cl (xs++fr.map (·.2)) C s₂ H₂ fp) elt te)
  (hs :∀x,M8 iter X.env x=G3 x) (I:Inv X pins σ H s) (h:tCompG wi xs.length fr g tc te σ H Q)
  (hend :∀(D:Addr) (s4:B0) (H4:Hp),Inv X pins σ H4 s4->(∃m,s4.heap.Ns (D + 1) m)->H4 (D + 1)=none->D + 1≠X.env.locals->X.s₀.heap.objs.size<=D + 1->(D + 1∉X.fs/\(∀x c,X.env.cells.lookup x=some c->c≠D + 1)/\∀p∈X.pn++pins,p.1≠D + 1)->Q (.ref D) H4->compPost (v1 X.prog X.w) X.A X.xe use QQ (.ref D) (D + 1) (.ok .next) s4) :
  R0 (v1 X.prog X.w) X.A (comprehension (.ListComp elt [⟨tg,iter,ifs,0⟩] scope pos) scope X.env pp (newList []) false (firstIter [⟨tg,iter,ifs,0⟩] X.env) use) QQ X.xe s:=by
 obtain ⟨cl,d3,U,b2⟩:=zgj (scope:=scope) (env:=X.env) λ y P hk=>I.ok.has y.1 (hfree y P hk);refine wpAny_comprehension_free (use:=use) rfl hs d3 hkind hnames (thn (hi pins s σ H _ I h) λ xv s₁ h₁=>thn h₁ λ g2 s₂ h₂=>?_);obtain ⟨it,fp,tn,J,M,e,f,T,b6,O,W,⟨m0,w0⟩,e4⟩:=h₂;subst e
 -- the list that is filled,the block's names
 refine Q2 (wpAny_newFunctionEnv hcell (by intro y P;simp at P) (λ h₁ a5 a1=>?_) hkind);dsimp only at a5 a1⊢;generalize hD:s₂.heap.objs.size=D at a5 a1⊢;generalize hG:s₂.heap.push { cls:=.type "list",dict:=none,data:=.seq ([]:List Value).toArray }=G at a5 a1⊢;have hC:G.objs.size=D + 1:=by rw [<-hG,A2,hD]
 generalize hCC:G.objs.size=C at a5 a1 hC⊢;subst hC;have b0 :∀b∈fp,b < D:=λ b a=>by obtain ⟨o,e,_⟩:=T.obj _ _ b6 b a;rw [<-hD];exact L0 e
 have a0 :∀b o,s₂.heap.get? b=some o->h₁.get? b=some o:=λ b o e=>a1.extBut b o (X0 (P1 (by rw [<-hD];exact L0 e))) (D0 _ (hG ▸ D0 _ e));have f4:G.get? D=some { cls:=.type "list",dict:=none,data:=.seq ([]:List Value).toArray }:=by rw [<-hG,<-hD];exact Q0 _ rfl
 have d9:h₁.PlainList D #[]:=⟨0,a1.extBut _ _ (X0 (C2 D)) (D0 _ f4)⟩
 have d6 :∀y c,cl.lookup y=some c->c < D:=λ y c e=>by obtain ⟨v,q⟩:=f.cell y c (U y c e);rw [<-hD];exact q.lt
 have f5 :∀b∈frs X.stack,b < D:=λ b a=>by
  rcases List.mem_cons.mp (f.stkSub b a) with e|a
  ·rw [e,<-hD];exact f.lt
  ·rw [<-hD];exact Nat.lt_of_not_le λ z=>f.nofs z a
 have c4 :∀b∈fp,b∉frs X.stack:=λ b a g0=>by
  rcases List.mem_cons.mp (f.stkSub b g0) with e|z
  ·exact (O b a).2.1 e
  ·exact (O b a).2.2.1 z
 generalize hX':cxComp X scope cl (xs++fr.map (·.2)) (D + 1) s₂ M fp=X';have d8:X'.Ok:=by
  subst hX';refine ⟨f.ok.mod,hkind,f.ok.glob,f.ok.blt,(by show s₂.heap.objs.size<=D + 1;omega),λ y z c S L=>f.ok.inj y z c (U _ _ S) (U _ _ L),λ y P=>?_,(λ _ _ z=>Bool.noConfusion z),f.ok.hd,f.ok.frames,.inl rfl,λ b a=>⟨?_,λ y c e=>?_⟩,λ b o e=>f.bs b o e,?_,λ b o e a=>?_,c4,f.env0.funs,f.stkFree⟩
  ·rcases P with P|P
   ·exact b2 y (z6k hcell P (.inl rfl))
   ·exact b2 y (z6k hcell P (.inr rfl))
  ·exact X0 (P1 (b0 b a))
  ·exact (O b a).2.2.2.2.1 y c (U y c e)
  ·exact G0 f.ok.bsz f.sz
  ·rcases (O b a).2.2.2.1 with z|z
   ·exact f.ok.noex b o e z
   ·exact absurd (L1 (L0 (f.ok.bs b o e).1) z) (o4 _)
 have Z:X'.env.locals=D + 1:=by subst hX';rfl
 have a3:X'.env.cells=cl:=by subst hX';rfl
 have b1:X'.fs=frs X.stack:=by subst hX';rfl
 have b8:X'.pn=[]:=by subst hX';rfl
 have a4:X'.s₀=s₂:=by subst hX';rfl
 have c2:X'.H₀=M:=by subst hX';rfl
 have b5:X'.ex=fp:=by subst hX';rfl
 have c1:X'.N=xs++fr.map (·.2):=by subst hX';rfl
 have d1:X'.A=X.A:=by subst hX';rfl
 have F:X'.prog=X.prog/\X'.w=X.w/\X'.K=X.K/\X'.calm=true:=by subst hX';exact ⟨rfl,rfl,rfl,hcalm⟩
 have b4:X'.xe=λ _ _=>False:=by subst hX';rfl
 have c6:X'.env=compEnvC scope cl (D + 1) X.env:=by subst hX';rfl
 have f7:PF X' ifs tc:=hX' ▸ ht cl (D + 1) s₂ M fp;have f6:PE X' elt te:=hX' ▸ he cl (D + 1) s₂ M fp;have f3:PG X' tg g:=hX' ▸ hg cl (D + 1) s₂ M fp;have fresh :∀b,D<=b->M b=none:=λ b a=>f.hok.fresh (by rw [hD];exact a);have start :∀t,Inv X' [] (cStG σ fr (D2 xs.length none)) M { s₂ with heap:=h₁,toks:=t }:=λ t=>by
  refine ⟨d8,by rw [a4],f.bare,?_,⟨_,by rw [Z];exact a5,λ i y v S L e3=>?_⟩,λ y c e=>?_,by rw [Z];exact fresh _ (T2 _),λ y c e=>?_,λ p B=>?_,?_,?_⟩
  ·rw [b1,b5,c2,a4];exact Un.kept a0
  ·rw [c1] at S;by_cases a2:i < xs.length
   ·exfalso;unfold cStG at L;rw [K2 (by rw [Z3];exact a2),D8,if_pos a2] at L;cases L
   ·have a2:xs.length<=i:=V6 a2;rw [E2 a2,W0] at S;unfold cStG at L;rw [E2 (by rw [Z3];exact a2),Z3,W0] at L;generalize i - xs.length=i at S L;cases ej:fr[i]? with
    | none=>rw [ej] at S;cases S
    | some p=>
     rw [ej] at S;obtain rfl:p.2=y:=N1 S;have a9:(σ[p.1]?).join=some v:=by rw [ej] at L;exact N1 L
     have e5:σ[p.1]? = some (some v):=by
      cases q:σ[p.1]? with
      | none=>rw [q] at a9;cases a9
      | some z=>rw [q] at a9;exact congrArg some a9
     have B:=T0 ej;obtain ⟨m,hn,hl⟩:=f.loc;obtain ⟨u,r,l⟩:=hl p.1 p.2 v (hfr p B).1 e5 (by rcases (hfr p B).2 with z|z;exact .inr (.inl z);exact .inr (.inr z));refine ⟨u,r,.inr ⟨?_,?_⟩⟩
     ·rw [c6];exact (hfs p B).2
     ·rcases l with ⟨z,_⟩|⟨_,c,ec,q⟩
      ·exfalso;rcases (hfr p B).2 with z'|z'<;>(rw [z] at z';cases z')
      ·obtain ⟨c',c3⟩:=b2 p.2 (hfs p B).1;have:=U _ _ c3;rw [ec] at this;cases this;obtain ⟨o,ho,hd⟩:=q;exact ⟨c,by rw [a3];exact c3,o,a0 _ _ ho,hd⟩
  ·rw [a3] at e;obtain ⟨v,o,ho,hd⟩:=f.cell y c (U y c e);exact ⟨v,o,a0 _ _ ho,hd⟩
  ·rw [a3] at e;exact f.freeC y c (U y c e)
  ·rw [b8] at B;exact nomatch B
  ·rw [F.1,F.2.1];exact f.hok.kept a0
  ·rw [c1];unfold cStG;simp
 have FP :∀{pins':List (Addr×Obj)} {H':Hp},(∀b∈fp,H' b=none)->(∀p∈pins',p.1=D)->∀b∈fp,FpOk X' pins' H' b:=λ hn B b a=>by
  refine ⟨hn b a,?_,?_,.inl (by rw [b5];exact a),λ y c e=>?_,λ p d0=>?_⟩
  ·rw [Z];exact X0 (P1 (b0 b a))
  ·rw [b1];exact c4 b a
  ·rw [a3] at e;exact (O b a).2.2.2.2.1 y c (U y c e)
  ·rw [b8] at d0;rw [B p d0];exact V2 (b0 b a)
 -- the turns
 have loop :∀s₃:B0,s₃={ s₂ with heap:=h₁,toks:=s₂.toks + ([]:List (Str×Value)).length }->
   Q4 (v1 X.prog X.w) X.A (.compLoop (.ListComp elt [⟨tg,iter,ifs,0⟩] scope pos) 0 (.ref it) (.ref D) (compEnvC scope cl (D + 1) X.env))
    (compPost (v1 X.prog X.w) X.A X.xe use QQ (.ref D) (D + 1)) s₃:=by
  rintro s₃ rfl;rw [<-c6,<-F.1,<-F.2.1,<-d1];refine zhv (λ k s'=>∃i ys its H',Inv X' [] (cStG σ fr (D2 xs.length none)) H' s'/\tn i s'.heap/\(∀b∈fp,H' b=none)/\s'.heap.PlainList D its.toArray/\Vals ys its/\H' D=none/\W i k ys H') ?_ m0
   ⟨0,[],[],M,start _,T.keep _ _ _ b6 λ b a o e=>a0 b o e,λ b a=>(O b a).1,d9,.nil,fresh _ (F0 _),w0⟩
  rintro n s3 ⟨i,ys,its,H3,I3,st3,fr3,ac3,rv3,hD3,w3⟩;obtain ⟨na,d5⟩:=id ac3;have c7:Inv X' [(D,{ cls:=.type "list",data:=.seq its.toArray na })] (cStG σ fr (D2 xs.length none)) H3 s3:=I3.pins_of λ p B=>by rw [List.mem_singleton] at B;subst B;refine ⟨d5,hD3,by rw [Z];exact X0 (C2 D),by rw [b1];exact λ z=>o4 _ (f5 D z),λ v z=>nomatch z⟩
  have hT:=T;rw [<-F.1,<-F.2.1,<-F.2.2.1] at hT;rcases e4 i n ys H3 w3 with ⟨f9,c0,qn⟩|⟨go,c0,step⟩
  ·refine thn (hT.done X' rfl rfl rfl F.2.2.2 i _ s3 _ H3 _ c7 (FP fr3 (by intro p B;rw [List.mem_singleton.mp B])) st3 f9) λ r s4 ⟨hr,I4⟩=>?_;subst hr;obtain ⟨m4,f0,_⟩:=id I4.loc;obtain ⟨h',c9⟩ :∃h',h'=s4.heap:=⟨_,rfl⟩
   have c5:o5 (D + 1) s4.heap h':=by rw [c9];exact ⟨rfl,λ _ _=>rfl⟩
   have e0:D≠D + 1:=X0 (C2 D);have f8:=(I4.pin (D,_) (G1 _ B1))
   have e8:h'.get? D=some { cls:=.type "list",data:=.seq its.toArray na }:=(c5.2 D e0).trans f8.1;have un:Un (frs X.stack) fp M H3 s₂.heap s4.heap:=by have:=I4.base;rw [b1,b5,c2,a4] at this;exact this
   have kp :∀b o,b≠D + 1->s4.heap.get? b=some o->h'.get? b=some o:=λ b o a e=>(c5.2 b a).trans e;have a6 :∀b o,s₂.heap.get? b=some o->b≠D + 1/\b≠D:=λ b o e=>by have:=L0 e;rw [hD] at this;exact ⟨X0 (P1 this),X0 this⟩
   have g1:Un (frs X.stack) fp M (upd H3 D (.lst ys)) s₂.heap h':=by
    refine ⟨λ b o e n a Y=>kp b o (a6 b o e).1 (un.keep b o e n a Y),λ b o e n a Y=>?_,λ b o e n Y=>by rw [upd_ne (a6 b o e).2];exact un.free b o e n Y,λ b o e Y=>?_,λ b xs e=>?_,λ b o u e=>?_,λ b ps e=>?_⟩
    ·obtain ⟨sl,z⟩:=un.slot b o e n a Y;exact ⟨sl,kp _ _ (a6 b o e).1 z⟩
    ·obtain ⟨o',z⟩:=un.there b o e Y;exact ⟨o',kp _ _ (a6 b o e).1 z⟩
    ·rw [upd_ne (z0a e (fresh D (F0 _)))];exact un.tups b xs e
    ·rw [upd_ne (z0a e (fresh D (F0 _)))];exact un.frzs b o u e
    ·rw [upd_ne (z0a e (fresh D (F0 _)))];exact un.tbls b ps e
   have b9:H3 (D + 1)=none:=by have:=I4.free;rw [Z] at this;exact this
   have d7:HOk X.prog X.w (upd H3 D (.lst ys)) h':=λ b u e=>by
    by_cases a:b=D
    ·subst a;rw [upd_same] at e;cases e;exact ⟨c0,its,na,rv3,e8⟩
    ·rw [upd_ne a] at e;have z:=I4.hok b u e;rw [F.1,F.2.1] at z;refine z.stay (λ c v hc q=>kp c v ?_ q) (λ c q=>by rw [upd_ne (z0a q hD3)];exact q) λ c xs q=>by rw [upd_ne (z0a q hD3)];exact q
     rintro rfl;rcases hc with rfl|hc
     ·rw [b9] at e;cases e
     ·rw [b9] at hc;cases hc
   subst c9;have I5:Inv X pins σ (upd H3 D (.lst ys)) s4:=f.call' (s':=s4) (ch:=fp) (by have:=I4.os;rw [a4] at this;exact this) g1 d7 I4.bare (λ b a=>⟨(O b a).2.2.2.1,(O b a).2.1,(O b a).2.2.2.2.1,(O b a).2.2.2.2.2⟩);show compPost (v1 X'.prog X'.w) X'.A X.xe use QQ (.ref D) (D + 1) (.ok .next) s4;rw [F.1,F.2.1,d1];refine hend D s4 _ I5 ⟨m4,Z ▸ f0⟩ ?_ ?_ ?_ ?_ (qn D hD3)
   ·rw [upd_ne (V2 (C2 D))];exact b9
   ·exact V2 (P1 (by rw [<-hD];exact f.lt))
   ·exact G0 f.sz (by rw [hD];exact T2 D)
   ·refine ⟨λ z=>f.nofs (by rw [hD];exact T2 D) z,λ y c e=>?_,λ p B=>?_⟩
    ·obtain ⟨v,q⟩:=f.cell y c e;exact X0 (P1 (by rw [<-hD];exact q.lt))
    ·exact X0 (P1 (by rw [<-hD];exact L0 (f.pin p B).1))
  ·refine thn (hT.item X' rfl rfl rfl F.2.2.2 i _ s3 _ H3 _ c7 (FP fr3 (by intro p B;rw [List.mem_singleton.mp B])) st3 go) λ r s4 ⟨u,hr,h4⟩=>?_;subst hr;refine thn h4 λ _ s5 ⟨v,H5,I5,r5,y5,st5,fr5⟩=>?_;have f1:=I5.pinned (FP fr5 (by intro p B;rw [List.mem_singleton.mp B])) (T.obj _ _ st5);have g5:=f3 _ s5 (cStG σ fr (D2 xs.length none)) H5 v u _ f1 r5 (step v H5 y5);rw [b4] at g5;refine thn g5 λ _ s6 ⟨σ6,H6,I6,us,hus,e6,q6⟩=>?_;subst e6;have t6:=f7 _ s6 _ H6 _ I6 q6;rw [b4] at t6;refine thn t6 λ ok s7 ⟨H7,I7,q7⟩=>?_;have c8 :∀{H8:Hp} {E:B0} {ys':List V} {its':List Value} {pl:List (Addr×Obj)},Inv X' (pl++pinsAt fp s5.heap) (cStG σ fr us) H8 E->E.heap.PlainList D its'.toArray->Vals ys' its'->H8 D=none->(∃m',m' < n/\W (i + 1) m' ys' H8)->
     ∃m,m < n/\∃i ys its H',Inv X' [] (cStG σ fr (D2 xs.length none)) H' E/\tn i E.heap/\(∀b∈fp,H' b=none)/\E.heap.PlainList D its.toArray/\Vals ys its/\H' D=none/\W i m ys H':=λ {H8 E ys' its' pl} R b7 rv8 a8 ⟨m',hm,w8⟩=>by
    refine ⟨m',hm,i + 1,ys',its',H8,(R.pins_of (pins':=[]) (λ p B=>absurd B x0)).weak (by unfold cStG;simp [hus]) ?_,T.keep _ _ _ st5 λ b a o e=>(R.pin (b,o) (G1 _ (G1 _ (z4w a e)))).1,λ b a=>?_,b7,rv8,a8,w8⟩
    ·intro j z e;unfold cStG at e⊢;by_cases hj:j < xs.length
     ·rw [K2 (by rw [Z3];exact hj),D8,if_pos hj] at e;cases e
     ·have hj:xs.length<=j:=V6 hj;rw [E2 (by rw [Z3];exact hj),Z3] at e;rw [E2 (by rw [hus];exact hj),hus];exact e
    ·obtain ⟨o,e,d⟩:=T.obj _ _ st5 b a;exact (R.pin (b,o) (G1 _ (G1 _ (z4w a e)))).2.1
   have b3 :∀{H8:Hp} {E:B0} {σ8:St},Inv X' ([(D,{ cls:=.type "list",data:=.seq its.toArray na })]++pinsAt fp s5.heap) σ8 H8 E->E.heap.PlainList D its.toArray/\H8 D=none:=λ R=>
    have z:=R.pin (D,_) (G1 _ (a7 _ B1))
    ⟨⟨na,z.1⟩,z.2.1⟩
   cases ok with
   | false=>rw [if_neg U0] at q7⊢;exact c8 I7 (b3 I7).1 rv3 (b3 I7).2 q7
   | true=>
    rw [if_pos rfl] at q7⊢;have t7:=f6 _ s7 _ H7 _ I7 q7;rw [b4] at t7;refine thn t7 λ y E ⟨vy,H8,R,r8,q8⟩=>?_;obtain ⟨b7,a8⟩:=b3 R;refine wpAny_list_append_plain (hsz:=by have:=rv3.length;rw [V0,<-this];exact c0) b7 λ h9 d2 d4=>?_;have I9:Inv X' ([]++pinsAt fp s5.heap) (cStG σ fr us) H8 E:=R.pins_of λ p B=>(R.pin p (G1 _ (G1 _ B)))
    have e7:Inv X' ([]++pinsAt fp s5.heap) (cStG σ fr us) H8 { E with heap:=h9 }:=by
     refine I9.turned (t':=E.toks) (it:=D) (λ b o a e=>(d4.2 b a).trans e) a8 (by rw [Z];exact X0 (C2 D)) (.inr (by rw [a4,hD];exact F0 _)) (λ y' c e=>?_) λ p B=>?_
     ·rw [a3] at e;exact X0 (d6 y' c e)
     ·rw [b8] at B;exact X0 (b0 _ (zcm B).1)
    have e9:its.toArray.push y=(its++[y]).toArray:=by simp
    rw [e9] at d2;exact c8 e7 d2 (rv3.snoc r8) a8 q8
 exact codeAny_compStart_list (loop _ rfl) (T.self _ 0 _ _ _ (T.keep _ _ _ b6 λ b a o e=>a0 b o e) (loop _ rfl))
theorem z0q {xs:List Str} {tg:Expr} {g:TG} {pos:Pos} {elt iter:Expr} {ifs:List Expr} {scope:Scope} {fr:List (Nat×Str)} {wi:TI} {tc:TT} {te:TE} (hcalm:X.calm=true) (hi:PI X tg iter wi)
  (hfr :∀p∈fr,X.N[p.1]? = some p.2/\(X.env.kindOf p.2=some .cell\/X.env.kindOf p.2=some .free))
  (hfree :∀y∈scope.names,y.2=Y1->X.env.kindOf y.1=some .cell\/X.env.kindOf y.1=some .free)
  (hfs :∀p∈fr,(p.2,Y1)∈scope.names/\((j09 scope X.env).names.lookup p.2=some .cell\/(j09 scope X.env).names.lookup p.2=some .free))
  (hcell :∀y∈scope.names,y.2≠g9) (hkind:scope.kind=.function) (hnames :∀y∈scope.names,y.2=NameKind.local->scope.names.lookup y.1=some .local)
  (hg :∀cl C s₂ H₂ fp,PG (cxComp X scope cl (xs++fr.map (·.2)) C s₂ H₂ fp) tg g)
  (ht :∀cl C s₂ H₂ fp,PF (cxComp X scope cl (xs++fr.map (·.2)) C s₂ H₂ fp) ifs tc) (he :∀cl C s₂ H₂ fp,PE (cxComp X scope cl (xs++fr.map (·.2)) C s₂ H₂ fp) elt te)
  (hs :∀x,M8 iter X.env x=G3 x:=by intro _;rfl):PE X (.ListComp elt [⟨tg,iter,ifs,0⟩] scope pos) (tCompG wi xs.length fr g tc te):=by
 intro r s σ H Q I h;rw [eval_ListComp];refine zgx hcalm hi hfr hfree hfs hcell hkind hnames hg ht he hs I h λ D i n d a j f l ⟨c,hc,hp⟩ q=>?_;obtain ⟨m,a⟩:=a;exact ⟨m,a,λ t k=>⟨.ref D,n,d.turned (t':=i.toks) (it:=D + 1) (λ b o c e=>(k.2 b c).trans e) j f (.inr l) hc hp,rfl,q⟩⟩
theorem z6m {xs:List Str} {tg:Expr} {g:TG} {pos:Pos} {elt iter:Expr} {ifs:List Expr} {scope:Scope} {fr:List (Nat×Str)} {wi:TI} {tc:TT} {te:TE} {i:Nat} {y:Str} {py spos:Pos} (hNy:X.N.Nodup) (hiy:X.N[i]? = some y) (hy:Loc X.env.scope y) (hcalm:X.calm=true) (hi:PI X tg iter wi)
  (hfr :∀p∈fr,X.N[p.1]? = some p.2/\(X.env.kindOf p.2=some .cell\/X.env.kindOf p.2=some .free))
  (hfree :∀y∈scope.names,y.2=Y1->X.env.kindOf y.1=some .cell\/X.env.kindOf y.1=some .free)
  (hfs :∀p∈fr,(p.2,Y1)∈scope.names/\((j09 scope X.env).names.lookup p.2=some .cell\/(j09 scope X.env).names.lookup p.2=some .free))
  (hcell :∀y∈scope.names,y.2≠g9) (hkind:scope.kind=.function) (hnames :∀y∈scope.names,y.2=NameKind.local->scope.names.lookup y.1=some .local)
  (hg :∀cl C s₂ H₂ fp,PG (cxComp X scope cl (xs++fr.map (·.2)) C s₂ H₂ fp) tg g)
  (ht :∀cl C s₂ H₂ fp,PF (cxComp X scope cl (xs++fr.map (·.2)) C s₂ H₂ fp) ifs tc) (he :∀cl C s₂ H₂ fp,PE (cxComp X scope cl (xs++fr.map (·.2)) C s₂ H₂ fp) elt te)
  (hs :∀x,M8 iter X.env x=G3 x:=by intro _;rfl) (hw:j8 (.ListComp elt [⟨tg,iter,ifs,0⟩] scope pos) (some (.Name y py)) spos.line X.env=G3 true:=by rfl) (hf:X.fn y=true\/X.env.scope.names.lookup y=some .local:=by first|exact .inl rfl|exact .inr rfl|assumption) :
  PS X (.Assign [.Name y py] (.ListComp elt [⟨tg,iter,ifs,0⟩] scope pos) spos) (tAsg (tCompG wi xs.length fr g tc te) (gName i)):=by
 intro r s σ H D I h;rw [exec_Assign_Name_used y py _ spos hw];refine c0 (wpAny_standAt (c0 ?_));show R0 _ _ (do let _ <-comprehension (.ListComp elt [⟨tg,iter,ifs,0⟩] scope pos) scope X.env (firstIterPos [⟨tg,iter,ifs,0⟩] pos) (newList []) (firstAsync [⟨tg,iter,ifs,0⟩]) (firstIter [⟨tg,iter,ifs,0⟩] X.env) (some (assign (.Name y py) X.env));G3 ()) _ _ _;refine c0 (zgx hcalm hi hfr hfree hfs hcell hkind hnames hg ht he hs I h λ A l t f c L j J ⟨d,hc,hp⟩ q=>?_);obtain ⟨m,c⟩:=c;obtain ⟨o,B,G,M,u,w,F⟩:=c;have E:Inv X ((A + 1,o) :: r) σ t l:=f.pins_of λ p a=>by
  rcases List.mem_cons.mp a with rfl|a
  ·exact ⟨M,L,j,d,λ v z=>by rw [u] at z;cases z⟩
  ·exact f.pin p (G1 _ a)
 refine thn (z0j (pos:=py) hNy hiy hy hf _ l σ t (.ref A) (.ref A) D.nx E rfl q) λ _ n ⟨σ5,H5,I6,q6⟩=>?_;have k:=I6.pin (A + 1,o) (G1 _ B1);have O:Inv X r σ5 H5 n:=I6.pins_of λ p a=>I6.pin p (G1 _ (D1 _ a));refine ⟨m,⟨o,B,G,k.1,u,w,F⟩,λ P K=>?_⟩;exact C0 (C0 ⟨σ5,H5,O.turned (t':=n.toks) (it:=A + 1) (λ b o d e=>(K.2 b d).trans e) k.2.1 j (.inr J) hc hp,q6⟩)
end
end L2
set_option maxHeartbeats 400000
namespace L2
open PySem PySem.Spec PyProof.Rows
theorem z5p {t rest:TS} {D:Ends} {σ:St} {H:Hp} (R:St->Hp->Prop) (hr :∀σ1 H1,R σ1 H1->rest D σ1 H1) (h:(∀σ1 H1,R σ1 H1->rest D σ1 H1)->t { D with nx:=rest D } σ H):tSeq t rest D σ H:=h hr
theorem z0x {te:TE} {g:TG} {rest:TS} {D:Ends} {σ:St} {H:Hp} (h:te σ H λ x H1=>g x σ H1 (rest D)):tSeq (tAsg te g) rest D σ H:=h
structure Runs (J:It) (H1:Hp) (n:Nat) (Item:Nat->V->Hp->Prop):Prop where
 go :∀i,i < n->∀H,Same H1 H->J.go i H
 stop :∀H,Same H1 H->J.stop n H
 item :∀i,i < n->∀H v H',Same H1 H->J.yld i H v H'->Same H H'/\Item i v H'
theorem z2x (p:Nat->Bool) (n:Nat):(J1 (n + 1)).filter p=(J1 n).filter p++(if p n=true then [n] else []):=by rw [u6,List.filter_append,X4];cases p n<;>rfl
inductive All2 {α β:Type} (R:α->β->Prop):List α->List β->Prop
 | nil:All2 R [] []
 | cons {a:α} {b:β} {xs:List α} {ys:List β}:R a b->All2 R xs ys->All2 R (a :: xs) (b :: ys)
theorem z6i {α β:Type} {R:α->β->Prop} :∀{xs:List α} {ys:List β} {x:α} {y:β},All2 R xs ys->R x y->All2 R (xs++[x]) (ys++[y])
 | [],_,x,y,.nil,h=>.cons h .nil
 | _ :: _,_,x,y,.cons a r,h=>.cons a (z6i r h)
theorem z01 {α β:Type} {R S:α->β->Prop} (h :∀a b,R a b->S a b) :∀{xs:List α} {ys:List β},All2 R xs ys->All2 S xs ys
 | [],_,.nil=>.nil
 | _ :: _,_,.cons a r=>.cons (h _ _ a) (z01 h r)
theorem z04 {α β:Type} {R:α->β->Prop} :∀{xs:List α} {ys:List β},All2 R xs ys->ys.length=xs.length
 | [],_,.nil=>rfl
 | _ :: _,_,.cons _ r=>congrArg (· + 1) (z04 r)
theorem z82 {α β:Type} {f:α->β} :∀{xs:List α} {ys:List β},All2 (λ x y=>y=f x) xs ys->ys=xs.map f
 | [],_,.nil=>rfl
 | _ :: _,_,.cons a r=>by rw [A1,z82 r,a]
theorem z7z (ns:List Int) :∀j,j<=ns.length->preSum (λ i=>ns[i]?.getD 0) j=(ns.take j).sum
 | 0,_=>by rw [List.take_zero];rfl
 | j + 1,h=>by show preSum (λ i=>ns[i]?.getD 0) j + ns[j]?.getD 0=_;rw [z7z ns j (Nat.le_of_succ_le h),List.take_succ_eq_append_getElem h,List.sum_append,K0 h];simp
section
variable {X:Cx}
noncomputable def rSetD:TSet:=λ x y v H Q=>∃a H',x=.ref a/\DPut H a y v H'/\Q H'
theorem zfd (hu:X.A.units + 1 < cLine):PSet X rSetD:=by intro m s σ H o i v b k u Q I e f j h;obtain ⟨a,d,rfl,g,q⟩:=h;obtain rfl:b=C1 a:=e;exact zcj hu I g f j λ l c=>⟨d,c,q⟩
end
structure QE (X:Cx) (e:Expr) (t:TE):Prop where
 run:PE X e t
structure QA (X:Cx) (es:List Expr) (t:TA):Prop where
 run:PA X es t
structure QPs (X:Cx) (pos:Pos) (ks:List (Option Expr)) (vs:List Expr) (t:List (TE×TE)):Prop where
 run:PPs X pos ks vs t
structure QS (X:Cx) (st:Stmt) (t:TS):Prop where
 run:PS X st t
structure QSs (X:Cx) (sts:List Stmt) (t:TS):Prop where
 run:PSs X sts t
section
variable {X:Cx} {pos:Pos}
theorem q_of {sts:List Stmt} {t:TS} {G:TS->Prop} (q:QSs X sts t) (g:G t) :∃t,PSs X sts t/\G t:=⟨t,q.run,g⟩
theorem zjd {st:Stmt} {t:TS} (h:QS X st t):QSs X [st] t:=⟨z03 h.run⟩
theorem z2n {st:Stmt} {rest:List Stmt} {t u:TS} (h:QS X st t) (r:QSs X rest u):QSs X (st :: rest) (tSeq t u):=⟨z02 h.run r.run⟩
theorem qs_set {i:Nat} {x:Str} {e:Expr} {te:TE} {pos':Pos} (hN:X.N.Nodup) (hi:X.N[i]? = some x) (hx:Loc X.env.scope x) (he:QE X e te) (hs:j8 e (some (.Name x pos')) pos.line X.env=G3 false:=by rfl) (hf:X.fn x=true\/X.env.scope.names.lookup x=some .local:=by first|exact .inl rfl|exact .inr rfl|assumption) :
  QS X (.Assign [.Name x pos'] e pos) (tAsg te (gName i)):=⟨ps_set hN hi hx he.run hs hf⟩
theorem zj9 {o i value:Expr} {td ty tv:TE} {pos':Pos} (hu:X.A.units + 1 < cLine) (ho:QE X o td) (hi:QE X i ty) (hv:QE X value tv) (hs:j8 value (some (.Subscript o i pos')) pos.line X.env=G3 false) :
  QS X (.Assign [.Subscript o i pos'] value pos) (sDPut td ty tv):=⟨zd8 hu ho.run hi.run hv.run hs⟩
theorem qe_lst {es:List Expr} {t:TA} (h:QA X es t):QE X (.List es pos) (tLst t):=⟨pe_lst h.run⟩
theorem qa_nil:QA X [] tNil:=⟨pa_nil⟩
theorem z0r {e:Expr} {es:List Expr} {te:TE} {t:TA} (ha:QE X e te) (hr:QA X es t) (hs:F1 (e :: es) X.env=(false,L3 e X.env) :: F1 es X.env:=by rfl):QA X (e :: es) (tCons te t):=⟨z00 ha.run hr.run hs⟩
theorem zln:QPs X pos [] [] []:=⟨zkv⟩
theorem zbl {k v:Expr} {ks:List (Option Expr)} {vs:List Expr} {tk tv:TE} {trs:List (TE×TE)} (hk:QE X k tk) (hv:QE X v tv) (hr:QPs X pos ks vs trs):QPs X pos (some k :: ks) (v :: vs) ((tk,tv) :: trs):=⟨zkb hk.run hv.run hr.run⟩
theorem zkp {keys:List (Option Expr)} {values:List Expr} {trs:List (TE×TE)} (h:QPs X pos keys values trs) (hall:keys.all (·.isSome)=true) (hl:keys.length=values.length) (h0:keys≠[]) (h15:keys.length<=15):QE X (.Dict keys values pos) (tDisp trs):=⟨zlm h.run hall hl h0 h15⟩
theorem qe_ix {a b:Expr} {ta tb:TE} {r:R2} (hr:IxR X r) (ha:QE X a ta) (hb:QE X b tb) (hs:zj0 b):QE X (.Subscript a b pos) (tOp r ta tb):=⟨pe_ix hr ha.run hb.run hs⟩
end
theorem z5r {X:Cx} {K:j0} (h:X.K=K):IxR X (rIx K):=h ▸ ix_seq
theorem zkx {f:List V->Hp->VK->Prop} {te:TE} {D:Ends} {σ:St} {H:Hp} (h:te σ H λ x H1=>f [x] H1 D.rt):tRet (tCB f (tCons te tNil)) D σ H:=h
theorem zfx {f:List V->Hp->VK->Prop} {te:TE} {g:TG} {rest:TS} {D:Ends} {σ:St} {H:Hp} (h:te σ H λ x H1=>f [x] H1 λ y H2=>g y σ H2 (rest D)):tSeq (tAsg (tCB f (tCons te tNil)) g) rest D σ H:=h
theorem z0h {α β:Type} {R:α->β->Prop} :∀{xs:List α} {ys:List β} {i:Nat} {y:β},All2 R xs ys->ys[i]? = some y->∃x,xs[i]? = some x/\R x y
 | _,_,i,y,.nil,e=>by simp at e
 | _,_,0,y,.cons a _,e=>by rw [N3] at e;cases e;exact ⟨_,N3,a⟩
 | _,_,i + 1,y,.cons _ r,e=>by rw [X2] at e;obtain ⟨x,c,b⟩:=z0h r e;exact ⟨x,by rw [X2];exact c,b⟩
end L2
set_option maxHeartbeats 4000000
namespace L2
open PySem PySem.Spec PyProof.Rows
section
variable {prog:Program} {w:j1} {A:V1} {E:Value->B0->Prop} {s:B0}
theorem z7w (hh:A.handled=none) (it t:Addr) (ne:t≠it) (items:Array Value):Draws prog w A it [it,t] items.size (λ i v=>items[i]? = some v) (λ i h=>h.IsTupleIter it t i/\h.IsTuple t items) where
 live:=λ i h a=>a.1.elim λ o z=>⟨o,z.1⟩
 frame:=λ i h b a k=>⟨a.1.elim λ o z=>⟨o,k it (by simp) o z.1,z.2⟩,a.2.elim λ o z=>⟨o,k t (by simp) o z.1,z.2⟩⟩
 item:=λ i s Q E d a q=>tupOn a.1 a.2 (L4 d) λ b f c=>q _ b s.toks (L4 d) ⟨f,a.2.elim λ o z=>⟨o,(c.2 t ne).trans z.1,z.2⟩⟩ c
 done:=λ s Q E a q=>tupOff hh a.1 a.2 (by simp) λ b e x y=>q b e x y
theorem zld (a:Addr) (xs:Array Value):Meets (S4.«enumerate.__new__» ⟨[.type "enumerate",.ref a],[]⟩) (λ _ R s=>s.heap.IsTuple a xs/\R (.ok (.ret (.ref (s.heap.objs.size + 1))))
  { s with heap:=(s.heap.push { cls:=.type "tuple_iterator",data:=.fields #[.ref a,.int 0 0] }).push { cls:=.type "enumerate",data:=.fields #[.none,.bool false,.ref s.heap.objs.size,F4 0,.none,.none] } }):=
 .of_wp λ f w A R s h=>by
  obtain ⟨i,g,d,e,k⟩:=s;obtain ⟨j,h⟩:=h;have m:=sub_enumerate;have b:j3b (j37 ⟨i,g,d,e,k⟩) a xs:=j
  wp_walk using O3 b
  intro Γ p l;show R0 (v1 f w) A.in1 (G3 _) _ _ _;refine C0 ?_;generalize List.drop 1 ((Γ.code,p) :: Γ.below)=L;split
  ·rename_i c _ _ _ _;cases c == J3 "enumerate" with
   | true=>
    wp_walk using O3 b
    refine ⟨_,rfl,?_⟩;simpa [A2,i4] using h
   | false=>
    wp_walk using O3 b
    refine ⟨_,rfl,?_⟩;simpa [A2,i4] using h
  ·wp_walk using O3 b
   refine ⟨_,rfl,?_⟩;simpa [A2,i4] using h
theorem zk3 {a:Addr} {xs:Array Value} {Q:Value->B0->Prop} (ha:s.heap.IsTuple a xs)
  (q :∀h',IsEnum h' (s.heap.objs.size + 1) s.heap.objs.size 0 .none->h'.IsTupleIter s.heap.objs.size a 0->h'.objs.size=s.heap.objs.size + 2->(∀c o,s.heap.get? c=some o->h'.get? c=some o)->Q (.ref (s.heap.objs.size + 1)) { s with heap:=h' }) :
  R0 (v1 prog w) A (call (.type "enumerate") [.ref a]) Q E s:=by
 refine callType_new F.called_enumerate (by decide) (F.typeCall_enumerate_1 _) (F.newCall_enumerate_1 _) (λ g=>F.args_object_init_2 g _) F.entry_enumerate_new (zld a xs) ⟨ha,?_⟩;generalize hn:s.heap.objs.size=n at q⊢;generalize h0:s.heap.push { cls:=.type "tuple_iterator",data:=.fields #[.ref a,.int 0 0] }=k0;have b:k0.objs.size=n + 1:=by rw [<-h0,A2,hn]
 have f:k0.get? n=some { cls:=.type "tuple_iterator",data:=.fields #[.ref a,.int 0 0] }:=by rw [<-h0,<-hn];exact Q0 _ rfl
 have d:(k0.push { cls:=.type "enumerate",data:=.fields #[.none,.bool false,.ref n,F4 0,.none,.none] }).get? (n + 1)=some { cls:=.type "enumerate",data:=.fields #[.none,.bool false,.ref n,F4 0,.none,.none] }:=by rw [<-b];exact Q0 _ rfl
 exact ⟨⟨_,d,rfl⟩,q _ d ⟨_,D0 _ f,rfl,rfl⟩ (by rw [A2,b]) λ c o e=>D0 _ (by rw [<-h0];exact D0 _ e)⟩
end
noncomputable def IteL (K:j0) (a:Addr):It:=
  ⟨λ i H=>∃xs x,SqL K H a xs/\xs[i]? = some x,
   λ i H v H'=>∃p,H p=none/\v=.ref p/\∀xs,SqL K H a xs->∃x,xs[i]? = some x/\H'=upd H p (.tup [.int i,x]),
   λ i H=>∃xs,SqL K H a xs/\xs.length=i⟩
theorem zfm {P:Program} {w:j1} {K:j0} {elts:List Expr} {x1:Nat} {pos:Pos} {e it a:Addr} (ne:e≠it) (nae:a≠e) (nai:a≠it):Turn P w K (.Tuple elts x1 pos) (IteL K a) [e,it] e (λ n h=>(∃old,IsEnum h e it (n:Nat) old)/\h.IsListIter it a n) where
 mem:=by simp
 obj:=λ n h f c g=>by
  simp only [N0,x0,or_false] at g;rcases g with rfl|rfl
  ·obtain ⟨⟨old,z⟩,_⟩:=f;exact ⟨_,z,λ v z=>by cases (show o9 _=Q6 v from z)⟩
  ·obtain ⟨_,o,e,_,d⟩:=f;exact ⟨o,e,λ v z=>by rw [d] at z;cases z⟩
 keep:=λ n h Q f k=>by obtain ⟨⟨old,z⟩,o,e1,e2⟩:=f;exact ⟨⟨old,k e (by simp) _ z⟩,o,k it (by simp) _ e1,e2⟩
 item:=by
  intro X G hw J g n a5 s σ H E I m f C;subst G hw J;obtain ⟨O,x,q,N⟩:=C;obtain ⟨i,r,j,_⟩:=I.list q;have j:s.heap.IsList a i.toArray:=j.isList;obtain ⟨u,T,Y⟩:=r.get N;have D:=Draws.list (prog:=X.prog) (w:=X.w) (A:=X.A.in1) (I.ok.hd g) it a nai i.toArray;have a2:n < i.toArray.size:=by have:=(List.getElem?_eq_some_iff.mp T).1;simpa using this
  obtain ⟨⟨old,M⟩,R⟩:=f;refine wpAny_pyNext_enum_itemD D M ⟨R,j⟩ a2 ne (by simp [ne,nae.symm]) λ y Q t l a6 a0 tT hz F=>?_;have l:i[n]? = some y:=by simpa using l
  rw [T] at l;cases l;have a3:e < s.heap.objs.size:=L0 M;have a1:it < s.heap.objs.size:=by obtain ⟨o,z,_⟩:=R;exact L0 z
  have U:s.heap.objs.size≠e:=V2 a3;have nT:s.heap.objs.size∉[e,it]:=by simp only [N0,x0,or_false,not_or];exact ⟨U,V2 a1⟩
  refine ⟨_,rfl,j3f a6 λ L Z B=>?_⟩;have k2 :∀b o,b∉[e,it]->s.heap.get? b=some o->L.get? b=some o:=λ b o p z=>by simp only [N0,x0,or_false,not_or] at p;exact (B.2 b p.1).trans (F b o p.1 p.2 z)
  have S:=(B.2 _ U).trans tT;have a7:=a0.1.elim λ o z=>(⟨o,(B.2 it ne.symm).trans z.1,z.2⟩:L.IsListIter it a (n + 1))
  have fr:H s.heap.objs.size=none:=I.hok.fresh (F0 _);refine ⟨.ref s.heap.objs.size,upd H s.heap.objs.size (.tup [.int n,x]),I.turnedLaid (t':=t + 1) k2 m (F0 _) ⟨w_2,[.int n t,u],.cons ⟨t,rfl⟩ (.cons Y .nil),⟨_,S,rfl,_,rfl⟩,_,S,rfl⟩,rfl,⟨_,fr,rfl,λ a8 a4=>⟨x,?_,rfl⟩⟩,⟨⟨_,Z⟩,a7⟩,λ c g=>?_⟩
  ·rw [I.list_inj a4 q];exact N
  ·rw [upd_ne (λ (z:c=s.heap.objs.size)=>nT (z ▸ g))];exact (m c g).1
 done:=by
  intro X G hw J g n a5 s σ H E I m f C;subst G hw J;obtain ⟨O,q,rfl⟩:=C;obtain ⟨i,r,j,_⟩:=I.list q;have j:s.heap.IsList a i.toArray:=j.isList;have D:=Draws.list (prog:=X.prog) (w:=X.w) (A:=X.A.in1) (I.ok.hd g) it a nai i.toArray;have W:=WalksT.enumerateD D e ne (by simp [ne,nae.symm]) (by simp);have la:i.toArray.size=O.length:=by simpa using r.length.symm
  exact W.done s _ E (by rw [la];exact ⟨f.1,f.2,j⟩) λ Q V F=>⟨rfl,I.turnedL (t':=V) (λ c o g e=>F c o g e) m⟩
 self:=λ _ _ _ _ _ f h=>f.1.elim λ old z=>K8 z h
noncomputable def ieL (K:j0) (ta:TA):TI:=λ σ H R=>ta σ H λ vs H1=>∃a xs,vs=[.ref a]/\SqL K H1 a xs/\R (IteL K a) H1
theorem z6w {X:Cx} {elts:List Expr} {x1:Nat} {tpos:Pos} {e:Expr} {ta:TA} {p pos:Pos} (hg:Gl X "enumerate") (hm:X.mg "enumerate" = none) (ha:PA X [e] ta) (hs:F1 [e] X.env=[(false,L3 e X.env)]:=by rfl) :
  PI X (.Tuple elts x1 tpos) (.Call (.Name "enumerate" p) [e] [] pos) (ieL X.K ta):=by
 intro n s σ H R I h;refine Call_ (ld_blt I hg hm boot_enumerate (j3 (thn (ha pos n s σ H _ I h) λ x d ⟨vs,H1,I1,r1,q1⟩=>?_) (by rw [hs];rfl) rfl));obtain ⟨a,w,r,v,q⟩:=q1;subst r;obtain ⟨u,rfl,l⟩:=vals1 r1;cases (show u=C1 a from l);obtain ⟨k,z,b,_⟩:=I1.list v;have b:d.heap.IsList a k.toArray:=b.isList;have f:a < d.heap.objs.size:=by obtain ⟨o,e,_⟩:=id b;exact L0 e
 refine call_enumerate_list b λ y j t _ m=>?_;refine K8 j ?_;refine ⟨_,_,_,_,H1,rfl,I1.kept (t':=d.toks) m,zfm (V2 (C2 _)) (X0 (P1 f)) (X0 f),⟨⟨_,j⟩,t⟩,λ c g=>?_,q⟩;have i:d.heap.objs.size<=c:=by
  simp only [N0,x0,or_false] at g;rcases g with rfl|rfl
  ·exact C4 _ _
  ·exact F0 _
 exact I1.fpOk i (I1.hok.fresh i)
theorem z5z {K:j0} {a:Addr} {xs:List V} {g:TG} {tb:TS} {D:Ends} {σ:St} {H:Hp} (Pv:Nat->St->Hp->Prop) (h0:Pv 0 σ H) (hl :∀i σ H,Pv i σ H->SqL K H a xs)
  (hs :∀i x σ H p,xs[i]? = some x->Pv i σ H->H p=none->g (.ref p) σ (upd H p (.tup [.int i,x])) λ σ2 H2=>tb { D with nx:=Pv (i + 1),ct:=Pv (i + 1),bk:=D.nx } σ2 H2) (hd :∀σ H,Pv xs.length σ H->D.nx σ H) :
  ∃W:Nat->Nat->St->Hp->Prop,(∃m,W 0 m σ H)/\∀i m σ H,W i m σ H->
   ((IteL K a).stop i H/\D.nx σ H)\/((IteL K a).go i H/\∃N:St->Hp->Prop,(∀σ' H',N σ' H'->∃m',m' < m/\W (i + 1) m' σ' H')/\∀x H',(IteL K a).yld i H x H'->g x σ H' λ σ2 H2=>tb { D with nx:=N,ct:=N,bk:=D.nx } σ2 H2):=by
 refine ⟨λ i m σ H=>m=xs.length - i/\i<=xs.length/\Pv i σ H,⟨xs.length,by simp,d3 _,h0⟩,?_⟩;rintro i m σ H ⟨rfl,hi,p⟩;have b:=hl i σ H p;by_cases hlt:i < xs.length
 ·refine .inr ⟨⟨xs,xs[i],b,by simp [hlt]⟩,Pv (i + 1),λ σ' H' h=>⟨xs.length - (i + 1),by omega,rfl,hlt,h⟩,λ v H' y=>?_⟩;obtain ⟨t,f,rfl,d⟩:=y;obtain ⟨c,j,rfl⟩:=d xs b;exact hs i c σ H t j p f
 ·have e:i=xs.length:=by omega
  subst e;exact .inl ⟨⟨xs,b,rfl⟩,hd σ H p⟩
noncomputable def IteT (K:j0) (a:Addr):It:=
  ⟨λ i H=>∃xs x,SqT K H a xs/\xs[i]? = some x,
   λ i H v H'=>∃p,H p=none/\v=.ref p/\∀xs,SqT K H a xs->∃x,xs[i]? = some x/\H'=upd H p (.tup [.int i,x]),
   λ i H=>∃xs,SqT K H a xs/\xs.length=i⟩
theorem zfj {P:Program} {w:j1} {K:j0} {elts:List Expr} {x1:Nat} {pos:Pos} {e it a:Addr} (ne:e≠it) (nae:a≠e) (nai:a≠it):Turn P w K (.Tuple elts x1 pos) (IteT K a) [e,it] e (λ n h=>(∃old,IsEnum h e it (n:Nat) old)/\h.IsTupleIter it a n) where
 mem:=by simp
 obj:=λ n h f c g=>by
  simp only [N0,x0,or_false] at g;rcases g with rfl|rfl
  ·obtain ⟨⟨old,z⟩,_⟩:=f;exact ⟨_,z,λ v z=>by cases (show o9 _=Q6 v from z)⟩
  ·obtain ⟨_,o,e,_,d⟩:=f;exact ⟨o,e,λ v z=>by rw [d] at z;cases z⟩
 keep:=λ n h Q f k=>by obtain ⟨⟨old,z⟩,o,e1,e2⟩:=f;exact ⟨⟨old,k e (by simp) _ z⟩,o,k it (by simp) _ e1,e2⟩
 item:=by
  intro X G hw J g n a5 s σ H E I m f C;subst G hw J;obtain ⟨O,x,q,N⟩:=C;obtain ⟨i,r,j,_⟩:=I.tuple q;have j:s.heap.IsTuple a i.toArray:=j;obtain ⟨u,T,Y⟩:=r.get N;have D:=z7w (prog:=X.prog) (w:=X.w) (A:=X.A.in1) (I.ok.hd g) it a nai i.toArray;have a2:n < i.toArray.size:=by have:=(List.getElem?_eq_some_iff.mp T).1;simpa using this
  obtain ⟨⟨old,M⟩,R⟩:=f;refine wpAny_pyNext_enum_itemD D M ⟨R,j⟩ a2 ne (by simp [ne,nae.symm]) λ y Q t l a6 a0 tT hz F=>?_;have l:i[n]? = some y:=by simpa using l
  rw [T] at l;cases l;have a3:e < s.heap.objs.size:=L0 M;have a1:it < s.heap.objs.size:=by obtain ⟨o,z,_⟩:=R;exact L0 z
  have U:s.heap.objs.size≠e:=V2 a3;have nT:s.heap.objs.size∉[e,it]:=by simp only [N0,x0,or_false,not_or];exact ⟨U,V2 a1⟩
  refine ⟨_,rfl,j3f a6 λ L Z B=>?_⟩;have k2 :∀b o,b∉[e,it]->s.heap.get? b=some o->L.get? b=some o:=λ b o p z=>by simp only [N0,x0,or_false,not_or] at p;exact (B.2 b p.1).trans (F b o p.1 p.2 z)
  have S:=(B.2 _ U).trans tT;have a7:=a0.1.elim λ o z=>(⟨o,(B.2 it ne.symm).trans z.1,z.2⟩:L.IsTupleIter it a (n + 1))
  have fr:H s.heap.objs.size=none:=I.hok.fresh (F0 _);refine ⟨.ref s.heap.objs.size,upd H s.heap.objs.size (.tup [.int n,x]),I.turnedLaid (t':=t + 1) k2 m (F0 _) ⟨w_2,[.int n t,u],.cons ⟨t,rfl⟩ (.cons Y .nil),⟨_,S,rfl,_,rfl⟩,_,S,rfl⟩,rfl,⟨_,fr,rfl,λ a8 a4=>⟨x,?_,rfl⟩⟩,⟨⟨_,Z⟩,a7⟩,λ c g=>?_⟩
  ·rw [I.tuple_inj a4 q];exact N
  ·rw [upd_ne (λ (z:c=s.heap.objs.size)=>nT (z ▸ g))];exact (m c g).1
 done:=by
  intro X G hw J g n a5 s σ H E I m f C;subst G hw J;obtain ⟨O,q,rfl⟩:=C;obtain ⟨i,r,j,_⟩:=I.tuple q;have j:s.heap.IsTuple a i.toArray:=j;have D:=z7w (prog:=X.prog) (w:=X.w) (A:=X.A.in1) (I.ok.hd g) it a nai i.toArray;have W:=WalksT.enumerateD D e ne (by simp [ne,nae.symm]) (by simp);have la:i.toArray.size=O.length:=by simpa using r.length.symm
  exact W.done s _ E (by rw [la];exact ⟨f.1,f.2,j⟩) λ Q V F=>⟨rfl,I.turnedL (t':=V) (λ c o g e=>F c o g e) m⟩
 self:=λ _ _ _ _ _ f h=>f.1.elim λ old z=>K8 z h
noncomputable def ieT (K:j0) (ta:TA):TI:=λ σ H R=>ta σ H λ vs H1=>∃a xs,vs=[.ref a]/\SqT K H1 a xs/\R (IteT K a) H1
theorem zki {X:Cx} {elts:List Expr} {x1:Nat} {tpos:Pos} {e:Expr} {ta:TA} {p pos:Pos} (hg:Gl X "enumerate") (hm:X.mg "enumerate" = none) (ha:PA X [e] ta) (hs:F1 [e] X.env=[(false,L3 e X.env)]:=by rfl) :
  PI X (.Tuple elts x1 tpos) (.Call (.Name "enumerate" p) [e] [] pos) (ieT X.K ta):=by
 intro n s σ H R I h;refine Call_ (ld_blt I hg hm boot_enumerate (j3 (thn (ha pos n s σ H _ I h) λ x d ⟨vs,H1,I1,r1,q1⟩=>?_) (by rw [hs];rfl) rfl));obtain ⟨a,w,r,v,q⟩:=q1;subst r;obtain ⟨u,rfl,l⟩:=vals1 r1;cases (show u=C1 a from l);obtain ⟨k,z,b,_⟩:=I1.tuple v;have b:d.heap.IsTuple a k.toArray:=b;have f:a < d.heap.objs.size:=by obtain ⟨o,e,_⟩:=id b;exact L0 e
 refine zk3 b λ y j t _ m=>?_;refine K8 j ?_;refine ⟨_,_,_,_,H1,rfl,I1.kept (t':=d.toks) m,zfj (V2 (C2 _)) (X0 (P1 f)) (X0 f),⟨⟨_,j⟩,t⟩,λ c g=>?_,q⟩;have i:d.heap.objs.size<=c:=by
  simp only [N0,x0,or_false] at g;rcases g with rfl|rfl
  ·exact C4 _ _
  ·exact F0 _
 exact I1.fpOk i (I1.hok.fresh i)
theorem zhy {K:j0} {a:Addr} {xs:List V} {g:TG} {tb:TS} {D:Ends} {σ:St} {H:Hp} (Pv:Nat->St->Hp->Prop) (h0:Pv 0 σ H) (hl :∀i σ H,Pv i σ H->SqT K H a xs)
  (hs :∀i x σ H p,xs[i]? = some x->Pv i σ H->H p=none->g (.ref p) σ (upd H p (.tup [.int i,x])) λ σ2 H2=>tb { D with nx:=Pv (i + 1),ct:=Pv (i + 1),bk:=D.nx } σ2 H2) (hd :∀σ H,Pv xs.length σ H->D.nx σ H) :
  ∃W:Nat->Nat->St->Hp->Prop,(∃m,W 0 m σ H)/\∀i m σ H,W i m σ H->
   ((IteT K a).stop i H/\D.nx σ H)\/((IteT K a).go i H/\∃N:St->Hp->Prop,(∀σ' H',N σ' H'->∃m',m' < m/\W (i + 1) m' σ' H')/\∀x H',(IteT K a).yld i H x H'->g x σ H' λ σ2 H2=>tb { D with nx:=N,ct:=N,bk:=D.nx } σ2 H2):=by
 refine ⟨λ i m σ H=>m=xs.length - i/\i<=xs.length/\Pv i σ H,⟨xs.length,by simp,d3 _,h0⟩,?_⟩;rintro i m σ H ⟨rfl,hi,p⟩;have b:=hl i σ H p;by_cases hlt:i < xs.length
 ·refine .inr ⟨⟨xs,xs[i],b,by simp [hlt]⟩,Pv (i + 1),λ σ' H' h=>⟨xs.length - (i + 1),by omega,rfl,hlt,h⟩,λ v H' y=>?_⟩;obtain ⟨t,f,rfl,d⟩:=y;obtain ⟨c,j,rfl⟩:=d xs b;exact hs i c σ H t j p f
 ·have e:i=xs.length:=by omega
  subst e;exact .inl ⟨⟨xs,b,rfl⟩,hd σ H p⟩
end L2
set_option maxHeartbeats 400000
namespace L2
open PySem PySem.Spec PyProof.Rows
section
variable {X:Cx}
theorem zie (hc:X.calm=true):CallR X (.builtin "sum") (λ xs H Q=>∃(p:Addr) (ns:List Int),xs=[.ref p]/\SqL X.K H p (ns.map V.int)/\Q (.int ns.sum) H):=by
 intro G s σ H xs E Q I r h;obtain ⟨p,ns,rfl,B,q⟩:=h;obtain ⟨u,rfl,w⟩:=vals1 r;cases w;obtain ⟨d,m,a,F⟩:=I.list B;have y:p≠s.heap.objs.size:=by obtain ⟨o,e,_⟩:=a.isList;exact X0 (L0 e)
 have l:d.length=ns.length:=by have:=m.length;rw [M0] at this;exact this.symm
 refine call_sum_walkAnyS (R6 a.isList ?_);refine ⟨s.heap.objs.size,_,_,_,_,_,_,λ i=>ns[i]?.getD 0,rfl,(Walks.list (show X.A.in1.handled=none from I.ok.hd hc) s.heap.objs.size p y d.toArray).toS,⟨⟨_,Q0 _ rfl,rfl,rfl⟩,a.isList.at λ o e=>D0 _ e⟩,?_,?_,?_⟩
 ·intro b f;simp only [N0,x0,or_false] at f;rcases f with rfl|rfl
  ·rw [A2];exact C2 _
  ·obtain ⟨o,e,_⟩:=a.isList;exact L0 (D0 _ e)
 ·intro i v c;have c:d[i]? = some v:=by simpa using c
  obtain ⟨C,e⟩:=List.getElem?_eq_some_iff.mp c;have j:i < ns.length:=by rw [<-l];exact C
  obtain ⟨u,n,g⟩:=m.get (i:=i) (x:=.int ns[i]) (by simp [j]);rw [c] at n;cases n;obtain ⟨t,g⟩:=g;exact ⟨t,by show v=O6 (ns[i]?.getD 0) t;rw [K0 j];exact g⟩
 ·intro D t' k;have e:preSum (λ i=>ns[i]?.getD 0) d.toArray.size=ns.sum:=by rw [V0,l,z7z ns _ (F0 _),List.take_length]
  rw [e,k.eq_with];refine ⟨.int _,H,I.kept (t':=D.toks) λ b o z=>k.heap b o ?_ (D0 _ z),⟨_,rfl⟩,q⟩;intro f;rw [List.mem_singleton.mp f] at z;exact absurd (L0 z) (o4 _)
theorem zlf {o e:Expr} {es:List Expr} {to:TE} {t:TA} {apos cpos:Pos} (ho:PE X o to) (ha:PA X (e :: es) t)
  (hbase:X5 o "pop" X.env (L3 o X.env)=L3 o X.env:=by rfl)
  (hfew:((c5 cpos (F1 (e :: es) X.env)).all (λ x=>!x.1) && (j03 cpos (E7 [] X.env)).all (λ x=>x.1.isSome)
   && decide ((e :: es).length + ([]:List W6).length + (if ([]:List W6).isEmpty then 0 else 1) < 30))=true:=by rfl)
  (hline:(apos.endLine == cpos.line)=true:=by rfl) (hs:F1 (e :: es) X.env=(false,L3 e X.env) :: F1 es X.env:=by rfl) (hplain:(c5 cpos (F1 es X.env)).any (·.1)=false:=by rfl) :
  PE X (.Call (.Attribute o "pop" apos) (e :: es) [] cpos) (tBM X.K "list" rPopAt to t):=pe_bm b8 PySem.F.slot_list_pop PySem.F.type_list_pop zji ho ha hbase hfew hline hs hplain
end
mutual
noncomputable def IsPd (K:j0) (H:Hp):PyData->V->Prop
 | .none,v=>v=.non
 | .bool b,v=>v=.bl b
 | .int i,v=>v=.int i
 | .str z,v=>v=.str z
 | .list ds,v=>∃a xs,v=.ref a/\SqL K H a xs/\IsPds K H ds xs
 | .tuple ds,v=>∃a xs,v=.ref a/\SqT K H a xs/\IsPds K H ds xs
 | .dict _,_=>False
noncomputable def IsPds (K:j0) (H:Hp):List PyData->List V->Prop
 | [],xs=>xs=[]
 | d :: ds,xs=>∃x r,xs=x :: r/\IsPd K H d x/\IsPds K H ds r
end
mutual
theorem IsPd.mono' {K:j0} {H H':Hp} (s :∀a xs,SqT K H a xs->SqT K H' a xs) (t :∀a xs,SqL K H a xs->SqL K H' a xs) :∀(d:PyData) (v:V),IsPd K H d v->IsPd K H' d v
 | .none,v,h=>h
 | .bool _,v,h=>h
 | .int _,v,h=>h
 | .str _,v,h=>h
 | .list ds,v,h=>by obtain ⟨a,xs,rfl,e,r⟩:=h;exact ⟨a,xs,rfl,t _ _ e,IsPds.mono' s t ds xs r⟩
 | .tuple ds,v,h=>by obtain ⟨a,xs,rfl,e,r⟩:=h;exact ⟨a,xs,rfl,s _ _ e,IsPds.mono' s t ds xs r⟩
 | .dict _,v,h=>h.elim
theorem IsPds.mono' {K:j0} {H H':Hp} (s :∀a xs,SqT K H a xs->SqT K H' a xs) (t :∀a xs,SqL K H a xs->SqL K H' a xs) :∀(ds:List PyData) (xs:List V),IsPds K H ds xs->IsPds K H' ds xs
 | [],xs,h=>h
 | d :: ds,xs,h=>by obtain ⟨x,r,rfl,a,b⟩:=h;exact ⟨x,r,rfl,IsPd.mono' s t d x a,IsPds.mono' s t ds r b⟩
end
section
variable {X:Cx} {pins:List (Addr×Obj)} {σ:St} {H:Hp} {s:B0}
mutual
theorem z6z (I:Inv X pins σ H s) :∀(d:PyData) (v:V) (u:Value),IsPd X.K H d v->RelV v u->∃as,Reads s.heap u d as
 | .none,v,u,h,r=>by cases (show v=.non from h);cases (show u=.none from r);exact ⟨_,.none⟩
 | .bool b,v,u,h,r=>by cases (show v=.bl b from h);cases (show u=.bool b from r);exact ⟨_,.bool b⟩
 | .int i,v,u,h,r=>by cases (show v=.int i from h);obtain ⟨t,rfl⟩:=r;exact ⟨_,.int i t⟩
 | .str z,v,u,h,r=>by cases (show v=.str z from h);obtain ⟨t,rfl⟩:=r;exact ⟨_,.str z t⟩
 | .list ds,v,u,h,r=>by obtain ⟨a,c,rfl,e,k⟩:=h;cases (show u=.ref a from r);obtain ⟨g,f,l,_⟩:=I.list e;obtain ⟨o,p,q,n,j⟩:=l.isList;obtain ⟨as,m⟩:=z9d I ds c g k f;exact ⟨_,.list p q j m⟩
 | .tuple ds,v,u,h,r=>by obtain ⟨a,c,rfl,e,k⟩:=h;cases (show u=.ref a from r);obtain ⟨g,f,l,_⟩:=I.tuple e;obtain ⟨o,p,q,n,j⟩:=l;obtain ⟨as,m⟩:=z9d I ds c g k f;exact ⟨_,.tuple p q j m⟩
 | .dict _,v,u,h,r=>h.elim
theorem z9d (I:Inv X pins σ H s) :∀(ds:List PyData) (xs:List V) (us:List Value),IsPds X.K H ds xs->Vals xs us->∃as,ReadsAll s.heap us ds as
 | [],xs,us,h,r=>by cases (show xs=[] from h);cases r;exact ⟨_,.nil⟩
 | d :: ds,xs,us,h,r=>by
  obtain ⟨x,t,rfl,a,b⟩:=h;cases r with
  | cons r1 r2=>obtain ⟨as,e⟩:=z6z I d x _ a r1;obtain ⟨bs,c⟩:=z9d I ds t _ b r2;exact ⟨_,.cons e c⟩
end
end
mutual
noncomputable def plainP:PyData->Bool
 | .none=>true
 | .bool _=>false
 | .int _=>true
 | .str z=>(PyData.str z).canLay0
 | .list ds=>z1e ds
 | .tuple ds=>z1e ds
 | .dict _=>false
noncomputable def z1e:List PyData->Bool
 | []=>true
 | d :: ds=>plainP d && z1e ds
end
mutual
theorem z4r :∀d:PyData,plainP d=true->d.canLay0=true
 | .none,_=>rfl
 | .bool _,h=>by cases h
 | .int _,_=>rfl
 | .str _,h=>h
 | .list ds,h=>z61 ds h
 | .tuple ds,h=>z61 ds h
 | .dict _,h=>by cases h
theorem z61 :∀ds:List PyData,z1e ds=true->PyData.canLayAll0 ds=true
 | [],_=>rfl
 | d :: ds,h=>by have h:(plainP d && z1e ds)=true:=h;rw [u3] at h;show (d.canLay0 && PyData.canLayAll0 ds)=true;rw [z4r d h.1,z61 ds h.2];rfl
end
mutual
theorem zin :∀d e:PyData,plainP d=true->plainP e=true->(d.eqv e=true↔d=e)
 | .none,e,_,he=>by
  cases e with
  | none=>exact ⟨λ _=>rfl,λ _=>rfl⟩
  | bool b=>cases he
  | dict _=>cases he
  | _=>exact ⟨λ z=>(by cases z),λ z=>(by cases z)⟩
 | .bool _,e,hd,_=>by cases hd
 | .int i,e,_,he=>by
  cases e with
  | int j=>exact ⟨λ z=>congrArg _ (eq_of_beq (show (i == j)=true from z)),λ z=>by cases z;exact beq_self_eq_true i⟩
  | bool b=>cases he
  | dict _=>cases he
  | _=>exact ⟨λ z=>(by cases z),λ z=>(by cases z)⟩
 | .str i,e,_,he=>by
  cases e with
  | str j=>exact ⟨λ z=>congrArg _ (eq_of_beq (show (i == j)=true from z)),λ z=>by cases z;exact beq_self_eq_true i⟩
  | bool b=>cases he
  | dict _=>cases he
  | _=>exact ⟨λ z=>(by cases z),λ z=>(by cases z)⟩
 | .list ds,e,hd,he=>by
  cases e with
  | list es=>exact ⟨λ z=>congrArg _ ((z6j ds es hd he).mp z),λ z=>(z6j ds es hd he).mpr (by cases z;rfl)⟩
  | bool b=>cases he
  | dict _=>cases he
  | _=>exact ⟨λ z=>(by cases z),λ z=>(by cases z)⟩
 | .tuple ds,e,hd,he=>by
  cases e with
  | tuple es=>exact ⟨λ z=>congrArg _ ((z6j ds es hd he).mp z),λ z=>(z6j ds es hd he).mpr (by cases z;rfl)⟩
  | bool b=>cases he
  | dict _=>cases he
  | _=>exact ⟨λ z=>(by cases z),λ z=>(by cases z)⟩
 | .dict _,e,hd,_=>by cases hd
theorem z6j :∀ds es:List PyData,z1e ds=true->z1e es=true->(PyData.eqvAll ds es=true↔ds=es)
 | [],[],_,_=>⟨λ _=>rfl,λ _=>rfl⟩
 | [],e :: es,_,_=>⟨λ z=>(by cases z),λ z=>(by cases z)⟩
 | d :: ds,[],_,_=>⟨λ z=>(by cases z),λ z=>(by cases z)⟩
 | d :: ds,e :: es,a,b=>by have a:(plainP d && z1e ds)=true:=a;have b:(plainP e && z1e es)=true:=b;rw [u3] at a b;show (d.eqv e && PyData.eqvAll ds es)=true↔_;rw [u3,zin d e a.1 b.1,z6j ds es a.2 b.2];exact ⟨λ z=>by rw [z.1,z.2],λ z=>by cases z;exact ⟨rfl,rfl⟩⟩
end
section
variable {X:Cx}
noncomputable def rEqP (K:j0):R2:=λ x y H Q=>∃d e,IsPd K H d x/\IsPd K H e y/\plainP d=true/\plainP e=true/\d.depth<=60/\Q (.bl (d.eqv e)) H
noncomputable def rNeP (K:j0):R2:=λ x y H Q=>∃d e,IsPd K H d x/\IsPd K H e y/\plainP d=true/\plainP e=true/\d.depth<=60/\Q (.bl (!d.eqv e)) H
theorem room60 {A:V1} {k m n:Nat} (hr:Room k A) (h:m<=60):A.units + min m n < cLine:=E1 (Nat.add_le_add_left (G0 (Nat.min_le_left _ _) (G0 h (by decide:60<=64))) _) hr.units
theorem op_eqP {k:Nat} (hr:Room k X.A):OpR X (P2 .Eq) (rEqP X.K):=by intro n s σ H x y v u Q I b i h;obtain ⟨d,e,l,j,c,f,g,q⟩:=h;obtain ⟨o,m⟩:=z6z I d x v l b;obtain ⟨bs,a⟩:=z6z I e y u j i;exact SeqAt.compareEq_reads m a (z4r _ c) (z4r _ f) (room60 hr g) ⟨.bl _,H,I,rfl,q⟩
theorem op_neP {k:Nat} (hr:Room k X.A):OpR X (P2 .NotEq) (rNeP X.K):=by intro n s σ H x y v u Q I b i h;obtain ⟨d,e,l,j,c,f,g,q⟩:=h;obtain ⟨o,m⟩:=z6z I d x v l b;obtain ⟨bs,a⟩:=z6z I e y u j i;exact SeqAt.compareNe_reads m a (z4r _ c) (z4r _ f) (room60 hr g) ⟨.bl _,H,I,rfl,q⟩
end
end L2
set_option maxHeartbeats 1000000
namespace L2
open PySem PySem.Spec PyProof.Rows
section
variable {prog:Program} {w:j1} {A:V1} {E:Value->B0->Prop} {s:B0}
theorem z5w:entryFor table "dict.update.loop" = some S4.«dict.update.loop»:=by kernel_rfl
theorem zig {l:Addr} {items:Array Value} {n:Nat} {sl:Array (Option Value)} {Q:Option Value->B0->Prop} (h:s.heap.get? l=some { cls:=.type "list",data:=.seq items n,slots:=sl }) (hh:A.handled=none)
  (q :∀h' tk,(∀b o,s.heap.get? b=some o->h'.get? b=some o)->Q none { s with heap:=h',toks:=tk }):R0 (v1 prog w) A (j18 (.ref l) (Q1 "keys")) Q E s:=by
 unfold j18;refine c0 (wpAny_mkText ?_);unfold getAttrBy? getAttrBy;have a:j6 { s with toks:=s.toks + 1 } (.ref l) "list":=⟨_,h,rfl⟩
 refine c0 (J4 (X1 (c0 (O4 a ?_))));rw [show j3h (J3 "list") (Q1 "__getattribute__")=G3 (some (.builtin "list.__getattribute__")) from rfl];refine c0 (C0 ?_);show R0 _ _ (J9 (.ref l) (.str (Q1 "keys") s.toks) (.type "list") (.builtin "list.__getattribute__") false false) _ _ _;unfold J9;refine c0 (show R0 _ _ (G3 none) _ _ _ from C0 ?_);refine c0 (J4 (X1 ?_));show R0 _ _ (j02 (.builtin "list.__getattribute__") (.ref l) (.str (Q1 "keys") s.toks)) _ _ _;unfold j02;rw [show bindSpecial (.builtin "list.__getattribute__") (.ref l)=G3 (Value.builtin "list.__getattribute__",[C1 l]) from rfl];refine c0 (C0 ?_);show R0 _ _ (call (.builtin "list.__getattribute__") [.ref l,.str (Q1 "keys") s.toks]) _ _ _;refine j10 F.slot_list_getattribute a am_entry_list_getattribute (F.args_list_getattribute_2 _ _) (meets_getattribute_miss_list l items n sl (Q1 "keys") s.toks rfl (by decide +kernel) (by decide +kernel)) ⟨h,hh,λ h' tk e ne=>?_⟩;obtain ⟨t,u,d⟩:=ne.there;have c:j6 { s with heap:=h',toks:=tk } (.ref e) "AttributeError":=⟨_,d,rfl⟩
 show R0 _ _ (u8 (.ref l) _ (.type "list") (.ref e) none false false) _ _ _;unfold u8;refine c0 (v5 c rfl ?_);show R0 _ _ (j41 (.type "list") none >>= _) _ _ _;rw [show j41 (.type "list") none=G3 none from rfl];refine c0 (C0 ?_);show R0 _ _ (throw (C1 e) >>= _) _ _ _;refine c0 (j28 ?_);show R0 _ _ (j3j (.ref e) (.type "AttributeError") >>= _) _ _ _;refine c0 (v5 c rfl ?_);exact C0 (q h' tk ne.keeps)
theorem zgt {l:Addr} {items:Array Value} {n:Nat} {sl:Array (Option Value)} {Q:Option Value->B0->Prop} (h:s.heap.get? l=some { cls:=.type "tuple",data:=.seq items n,slots:=sl }) (hh:A.handled=none)
  (q :∀h' tk,(∀b o,s.heap.get? b=some o->h'.get? b=some o)->Q none { s with heap:=h',toks:=tk }):R0 (v1 prog w) A (j18 (.ref l) (Q1 "keys")) Q E s:=by
 unfold j18;refine c0 (wpAny_mkText ?_);unfold getAttrBy? getAttrBy;have a:j6 { s with toks:=s.toks + 1 } (.ref l) "tuple":=⟨_,h,rfl⟩
 refine c0 (J4 (X1 (c0 (O4 a ?_))));rw [show j3h (J3 "tuple") (Q1 "__getattribute__")=G3 (some (.builtin "tuple.__getattribute__")) from rfl];refine c0 (C0 ?_);show R0 _ _ (J9 (.ref l) (.str (Q1 "keys") s.toks) (.type "tuple") (.builtin "tuple.__getattribute__") false false) _ _ _;unfold J9;refine c0 (show R0 _ _ (G3 none) _ _ _ from C0 ?_);refine c0 (J4 (X1 ?_));show R0 _ _ (j02 (.builtin "tuple.__getattribute__") (.ref l) (.str (Q1 "keys") s.toks)) _ _ _;unfold j02;rw [show bindSpecial (.builtin "tuple.__getattribute__") (.ref l)=G3 (Value.builtin "tuple.__getattribute__",[C1 l]) from rfl];refine c0 (C0 ?_);show R0 _ _ (call (.builtin "tuple.__getattribute__") [.ref l,.str (Q1 "keys") s.toks]) _ _ _;refine j10 F.slot_tuple_getattribute a am_entry_tuple_getattribute (F.args_tuple_getattribute_2 _ _) (meets_getattribute_miss_tuple l items n sl (Q1 "keys") s.toks rfl (by decide +kernel) (by decide +kernel)) ⟨h,hh,λ h' tk e ne=>?_⟩;obtain ⟨t,u,d⟩:=ne.there;have c:j6 { s with heap:=h',toks:=tk } (.ref e) "AttributeError":=⟨_,d,rfl⟩
 show R0 _ _ (u8 (.ref l) _ (.type "tuple") (.ref e) none false false) _ _ _;unfold u8;refine c0 (v5 c rfl ?_);show R0 _ _ (j41 (.type "tuple") none >>= _) _ _ _;rw [show j41 (.type "tuple") none=G3 none from rfl];refine c0 (C0 ?_);show R0 _ _ (throw (C1 e) >>= _) _ _ _;refine c0 (j28 ?_);show R0 _ _ (j3j (.ref e) (.type "AttributeError") >>= _) _ _ _;refine c0 (v5 c rfl ?_);exact C0 (q h' tk ne.keeps)
theorem z5x (a:Args):(K6 "dict.update.loop" a).quiet=true:=j0h (by decide +kernel) _
def PairOf (prog:Program) (w:j1) (h:Heap) (p:Key×Value) (u:Value):Prop:=∃a kv,u=.ref a/\h.IsTuple a #[kv,p.2]/\(z0l prog w).is p.1 kv=true
theorem PairOf.kept {h h':Heap} {p:Key×Value} {u:Value} {L:List Addr} (k :∀b o,b∉L->h.get? b=some o->h'.get? b=some o) (nt :∀b∈L,∀o,h.get? b=some o->o.cls≠.type "tuple") (x:PairOf prog w h p u):PairOf prog w h' p u:=by obtain ⟨a,g,e,⟨o,d,c,n,f⟩,i⟩:=x;exact ⟨a,g,e,⟨o,k a o (λ z=>nt a z o d c) d,c,n,f⟩,i⟩
theorem za0 {a:Addr} {items:Array Value} {Q:List Value->B0->Prop} (h:s.heap.IsTuple a items) (q:Q items.toList s):R0 (v1 prog w) A (j0i (.ref a)) Q E s:=by obtain ⟨o,b,c,n,d⟩:=h;unfold j0i;refine c0 (O4 (T:="tuple") ⟨o,b,c⟩ ?_);show R0 _ _ (seqItems? (.ref a) >>= _) _ _ _;exact c0 (X3 b d (C0 q))
theorem zfu {d it l:Addr} {items:Array Value} (ndi:d≠it) (ndl:d≠l) (nil':it≠l) :∀(ps:List (Key×Value)) (i:Nat) (kvs:List (Key×Value)) (A:V1) (R:j11->B0->Prop) (s:B0),A.handled=none->s.heap.IsListIter it l i->s.heap.IsList l items->
  All2 (PairOf prog w s.heap) ps (items.toList.drop i)->W3 (z0l prog w) s.heap d kvs->kvs.length + ps.length<=sizeLine->
  (∀h' tk,W3 (z0l prog w) h' d (ps.foldl (λ acc p=>stored acc p.1 p.2) kvs)->(∀b o,b≠d->b≠it->s.heap.get? b=some o->h'.get? b=some o)->R (.ok (.ret .none)) { s with heap:=h',toks:=tk })->
  Q4 (v1 prog w) A (K6 "dict.update.loop" { pos:=[.ref d,.ref it,.int (i:Nat) 0,.none],kw:=[] }) R s
 | [],i,kvs,A,R,s,hh,si,sl,al,n,hz,q=>by
  have T:items[i]? = none:=by
   cases hd:items.toList.drop i with
   | nil=>have:=List.drop_eq_nil_iff.mp hd;rw [v2] at this;exact E3 this
   | cons u us=>rw [hd] at al;cases al
  refine F3 z5w ?_;show R0 _ _ (Z4 (.ref it) >>= _) _ _ s;refine c0 (M9 (show (A.under _).handled=none from hh) si sl T λ h' K=>?_);show R0 _ _ ((do j0d d [];ret .none):Sem j0f) _ _ _;refine c0 (show R0 _ _ (G3 ()) _ _ _ from C0 ?_);have C:W3 (z0l prog w) h' d kvs:=by obtain ⟨o,t,v,j,m⟩:=n;exact ⟨o,t,v,K d o ndi j,m⟩
  exact C0 (q h' s.toks C λ b o _ k e=>K b o k e)
 | p :: ps,i,kvs,A,R,s,hh,si,sl,al,n,hz,q=>by
  cases hd:items.toList.drop i with
  | nil=>rw [hd] at al;cases al
  | cons u us=>
   rw [hd] at al;cases al with
   | cons pu al=>
    have Y:items.toList[i]? = some u:=by have:=congrArg (λ l=>l[0]?) hd;simpa using this
    have hu:items[i]? = some u:=by simpa using Y
    have Q:items.toList.drop (i + 1)=us:=by have:=congrArg j31 hd;simpa using this
    obtain ⟨a,F,rfl,S,ik⟩:=pu;refine F3 z5w ?_;show R0 _ _ (Z4 (.ref it) >>= _) _ _ s;refine c0 (u9 si sl hu λ j a1 D=>?_);have H :∀o,s.heap.get? it=some o->o.cls≠.type "tuple":=λ o e z=>by obtain ⟨o',r,c,_⟩:=si;rw [e] at r;cases r;rw [z] at c;exact absurd c (by decide)
    have Z :∀(h:Heap) (kvs:List (Key×Value)),W3 (z0l prog w) h d kvs->∀o,h.get? d=some o->o.cls≠.type "tuple":=λ h kvs n o e z=>by obtain ⟨o',t,v,r,c,_⟩:=n;rw [e] at r;cases r;have:=c.1;rw [z] at this;exact absurd this (by decide)
    have E :∀b o,b∉[it]->s.heap.get? b=some o->j.get? b=some o:=λ b o k e=>(D.2 b (λ z=>k (by rw [z];exact List.mem_singleton.mpr rfl))).trans e;have M:j.IsTuple a #[F,p.2]:=by obtain ⟨o,g,f,e3⟩:=S;exact ⟨o,E a o (λ z=>H o (List.mem_singleton.mp z ▸ g) f) g,f,e3⟩
    have N:All2 (PairOf prog w j) ps us:=z01 (λ x y z=>PairOf.kept E (λ b k o e=>H o (List.mem_singleton.mp k ▸ e)) z) al;have J:W3 (z0l prog w) j d kvs:=by obtain ⟨o,t,v,g,f⟩:=n;exact ⟨o,t,v,(D.2 d ndi).trans g,f⟩
    have X:j.IsList l items:=by obtain ⟨o,g,f⟩:=sl;exact ⟨o,(D.2 l (N2 nil')).trans g,f⟩
    refine c0 (X1 (c0 (wpAny_tryCatch (za0 (s:={ s with heap:=j }) M ?_))));show R0 _ _ (j0a [F,p.2] (j36 d F p.2)) _ _ _;refine X1 (wpAny_dictSet_pairs ik J (λ m V B=>?_) (G0 (C4 _ _) hz));refine C0 ⟨z5x _,?_⟩;have G :∀b o,b∉[d]->j.get? b=some o->m.get? b=some o:=λ b o k e=>(B.2 b (λ z=>k (by rw [z];exact List.mem_singleton.mpr rfl))).trans e;have W:All2 (PairOf prog w m) ps us:=z01 (λ x y z=>PairOf.kept G (λ b k o e=>Z j kvs J o (List.mem_singleton.mp k ▸ e)) z) N;have P:m.IsListIter it l (i + 1):=by obtain ⟨o,g,f⟩:=a1;exact ⟨o,(B.2 it (N2 ndi)).trans g,f⟩
    have a0:m.IsList l items:=by obtain ⟨o,g,f⟩:=X;exact ⟨o,(B.2 l (N2 ndl)).trans g,f⟩
    have O:(stored kvs p.1 p.2).length + ps.length<=sizeLine:=by
     have:(stored kvs p.1 p.2).length<=kvs.length + 1:=by
      unfold stored;split
      ·rw [M0];exact T2 _
      ·rw [S0];exact F0 _
     rw [y1] at hz;omega
    exact zfu ndi ndl nil' ps (i + 1) (stored kvs p.1 p.2) A R { s with heap:=m,toks:=s.toks + 1 } hh P a0 (by rw [Q];exact W) V O λ h' tk C U=>q h' tk C λ b o I L e=>U b o I L (G b o (λ z=>I (List.mem_singleton.mp z)) (E b o (λ z=>L (List.mem_singleton.mp z)) e))
theorem zcq {d it l:Addr} {items:Array Value} (ndi:d≠it) (ndl:d≠l) (nil':it≠l) :∀(ps:List (Key×Value)) (i:Nat) (kvs:List (Key×Value)) (A:V1) (R:j11->B0->Prop) (s:B0),A.handled=none->s.heap.IsTupleIter it l i->s.heap.IsTuple l items->
  All2 (PairOf prog w s.heap) ps (items.toList.drop i)->W3 (z0l prog w) s.heap d kvs->kvs.length + ps.length<=sizeLine->
  (∀h' tk,W3 (z0l prog w) h' d (ps.foldl (λ acc p=>stored acc p.1 p.2) kvs)->(∀b o,b≠d->b≠it->s.heap.get? b=some o->h'.get? b=some o)->R (.ok (.ret .none)) { s with heap:=h',toks:=tk })->
  Q4 (v1 prog w) A (K6 "dict.update.loop" { pos:=[.ref d,.ref it,.int (i:Nat) 0,.none],kw:=[] }) R s
 | [],i,kvs,A,R,s,hh,si,sl,al,n,hz,q=>by
  have T:items[i]? = none:=by
   cases hd:items.toList.drop i with
   | nil=>have:=List.drop_eq_nil_iff.mp hd;rw [v2] at this;exact E3 this
   | cons u us=>rw [hd] at al;cases al
  refine F3 z5w ?_;show R0 _ _ (Z4 (.ref it) >>= _) _ _ s;refine c0 (q9 (show (A.under _).handled=none from hh) si sl T λ h' K=>?_);show R0 _ _ ((do j0d d [];ret .none):Sem j0f) _ _ _;refine c0 (show R0 _ _ (G3 ()) _ _ _ from C0 ?_);have C:W3 (z0l prog w) h' d kvs:=by obtain ⟨o,t,v,j,m⟩:=n;exact ⟨o,t,v,K d o ndi j,m⟩
  exact C0 (q h' s.toks C λ b o _ k e=>K b o k e)
 | p :: ps,i,kvs,A,R,s,hh,si,sl,al,n,hz,q=>by
  cases hd:items.toList.drop i with
  | nil=>rw [hd] at al;cases al
  | cons u us=>
   rw [hd] at al;cases al with
   | cons pu al=>
    have Y:items.toList[i]? = some u:=by have:=congrArg (λ l=>l[0]?) hd;simpa using this
    have hu:items[i]? = some u:=by simpa using Y
    have Q:items.toList.drop (i + 1)=us:=by have:=congrArg j31 hd;simpa using this
    obtain ⟨a,F,rfl,S,ik⟩:=pu;refine F3 z5w ?_;show R0 _ _ (Z4 (.ref it) >>= _) _ _ s;refine c0 (a9 si sl hu λ j a1 D=>?_);have H :∀o,s.heap.get? it=some o->o.cls≠.type "tuple":=λ o e z=>by obtain ⟨o',r,c,_⟩:=si;rw [e] at r;cases r;rw [z] at c;exact absurd c (by decide)
    have Z :∀(h:Heap) (kvs:List (Key×Value)),W3 (z0l prog w) h d kvs->∀o,h.get? d=some o->o.cls≠.type "tuple":=λ h kvs n o e z=>by obtain ⟨o',t,v,r,c,_⟩:=n;rw [e] at r;cases r;have:=c.1;rw [z] at this;exact absurd this (by decide)
    have E :∀b o,b∉[it]->s.heap.get? b=some o->j.get? b=some o:=λ b o k e=>(D.2 b (λ z=>k (by rw [z];exact List.mem_singleton.mpr rfl))).trans e;have M:j.IsTuple a #[F,p.2]:=by obtain ⟨o,g,f,e3⟩:=S;exact ⟨o,E a o (λ z=>H o (List.mem_singleton.mp z ▸ g) f) g,f,e3⟩
    have N:All2 (PairOf prog w j) ps us:=z01 (λ x y z=>PairOf.kept E (λ b k o e=>H o (List.mem_singleton.mp k ▸ e)) z) al;have J:W3 (z0l prog w) j d kvs:=by obtain ⟨o,t,v,g,f⟩:=n;exact ⟨o,t,v,(D.2 d ndi).trans g,f⟩
    have X:j.IsTuple l items:=by obtain ⟨o,g,f⟩:=sl;exact ⟨o,(D.2 l (N2 nil')).trans g,f⟩
    refine c0 (X1 (c0 (wpAny_tryCatch (za0 (s:={ s with heap:=j }) M ?_))));show R0 _ _ (j0a [F,p.2] (j36 d F p.2)) _ _ _;refine X1 (wpAny_dictSet_pairs ik J (λ m V B=>?_) (G0 (C4 _ _) hz));refine C0 ⟨z5x _,?_⟩;have G :∀b o,b∉[d]->j.get? b=some o->m.get? b=some o:=λ b o k e=>(B.2 b (λ z=>k (by rw [z];exact List.mem_singleton.mpr rfl))).trans e;have W:All2 (PairOf prog w m) ps us:=z01 (λ x y z=>PairOf.kept G (λ b k o e=>Z j kvs J o (List.mem_singleton.mp k ▸ e)) z) N;have P:m.IsTupleIter it l (i + 1):=by obtain ⟨o,g,f⟩:=a1;exact ⟨o,(B.2 it (N2 ndi)).trans g,f⟩
    have a0:m.IsTuple l items:=by obtain ⟨o,g,f⟩:=X;exact ⟨o,(B.2 l (N2 ndl)).trans g,f⟩
    have O:(stored kvs p.1 p.2).length + ps.length<=sizeLine:=by
     have:(stored kvs p.1 p.2).length<=kvs.length + 1:=by
      unfold stored;split
      ·rw [M0];exact T2 _
      ·rw [S0];exact F0 _
     rw [y1] at hz;omega
    exact zcq ndi ndl nil' ps (i + 1) (stored kvs p.1 p.2) A R { s with heap:=m,toks:=s.toks + 1 } hh P a0 (by rw [Q];exact W) V O λ h' tk C U=>q h' tk C λ b o I L e=>U b o I L (G b o (λ z=>I (List.mem_singleton.mp z)) (E b o (λ z=>L (List.mem_singleton.mp z)) e))
theorem z7d {h:Heap} {D:Addr} (e:h.get? D=some { cls:=.type "dict",data:=.dict #[] }):W3 (z0l prog w) h D []:=by obtain ⟨o,c,b,a,r⟩:=j3c (knd:=z0l prog w) h;rw [Q0 _ rfl] at a;cases a;exact ⟨_,c,b,e,r⟩
theorem z8q {D l:Addr} {items:Array Value} {n:Nat} {sl:Array (Option Value)} {ps:List (Key×Value)} {Q:B0->Prop} {A':V1} (hd:s.heap.get? D=some { cls:=.type "dict",data:=.dict #[] }) (hl:s.heap.get? l=some { cls:=.type "list",data:=.seq items n,slots:=sl }) (hh:A.handled=none) (hh':A'.handled=none)
  (al:All2 (PairOf prog w s.heap) ps items.toList) (hz:ps.length<=sizeLine)
  (q :∀h' tk,W3 (z0l prog w) h' D (merged [] ps)->(∀b o,b≠D->s.heap.get? b=some o->h'.get? b=some o)->Q { s with heap:=h',toks:=tk }) :
  R0 (v1 prog w) A (S4.«dict.__init__» { pos:=[.ref D,.ref l] }) (λ fin s'=>match fin with
   | .done f=>wants (λ r s₂=>r=Z2/\Q s₂) E (.ok f) s'
   | .again c'=>c'.quiet=true/\Q4 (v1 prog w) A' c' (wants (λ r s₂=>r=Z2/\Q s₂) E) s') (λ e s'=>wants (λ r s₂=>r=Z2/\Q s₂) E (.error e) s') s:=by
 have m:D≠l:=λ z=>by rw [z,hl] at hd;exact absurd (show J3 "list" = J3 "dict" from congrArg Obj.cls (N1 hd)) (by decide)
 unfold S4.«dict.__init__» j0c;refine c0 (c0 (wpAny_notOrdered_dict ⟨_,hd,rfl⟩ ?_));refine c0 (show R0 _ _ (G3 D) _ _ _ from C0 (C0 ?_));show R0 _ _ (Z5 "dict.__init__" D (.ref l) [] .none) _ _ _;unfold Z5;refine c0 (O4 (T:="list") ⟨_,hl,rfl⟩ ?_);show R0 _ _ (j18 (.ref l) (Q1 "keys") >>= _) _ _ _;refine c0 (zig hl hh λ h tk a=>?_);show R0 _ _ (rule _ >>= _) _ _ _;refine c0 (J5 (c0 (R6 (items:=items) ⟨_,a _ _ hl,rfl,_,rfl⟩ ?_)));refine C0 ⟨z5x _,?_⟩;have t:=L0 (a _ _ hd);have k:=L0 (a _ _ hl);have c :∀b o,s.heap.get? b=some o->(h.push { cls:=.type "list_iterator",data:=.fields #[.ref l,.int 0 0] }).get? b=some o:=λ b o e=>D0 _ (a b o e);refine zfu (d:=D) (it:=h.objs.size) (l:=l) (items:=items) (X0 t) m (V2 k) ps 0 [] A' _ _ hh' ⟨_,Q0 _ rfl,rfl,rfl⟩ ⟨_,c _ _ hl,rfl,_,rfl⟩ ?_ ?_ (by simpa using hz) λ h' i p j=>⟨rfl,q h' i p λ b o g e=>j b o g (λ z=>?_) (c b o e)⟩
 ·rw [D4];exact z01 (λ x y z=>PairOf.kept (L:=[]) (λ b o _ e=>c b o e) (λ b g=>absurd g x0) z) al
 ·exact z7d (c _ _ hd)
 ·rw [z] at e;exact absurd (L0 (a _ _ e)) (o4 _)
theorem z7f {D l:Addr} {items:Array Value} {n:Nat} {sl:Array (Option Value)} {ps:List (Key×Value)} {Q:B0->Prop} {A':V1} (hd:s.heap.get? D=some { cls:=.type "dict",data:=.dict #[] }) (hl:s.heap.get? l=some { cls:=.type "tuple",data:=.seq items n,slots:=sl }) (hh:A.handled=none) (hh':A'.handled=none)
  (al:All2 (PairOf prog w s.heap) ps items.toList) (hz:ps.length<=sizeLine)
  (q :∀h' tk,W3 (z0l prog w) h' D (merged [] ps)->(∀b o,b≠D->s.heap.get? b=some o->h'.get? b=some o)->Q { s with heap:=h',toks:=tk }) :
  R0 (v1 prog w) A (S4.«dict.__init__» { pos:=[.ref D,.ref l] }) (λ fin s'=>match fin with
   | .done f=>wants (λ r s₂=>r=Z2/\Q s₂) E (.ok f) s'
   | .again c'=>c'.quiet=true/\Q4 (v1 prog w) A' c' (wants (λ r s₂=>r=Z2/\Q s₂) E) s') (λ e s'=>wants (λ r s₂=>r=Z2/\Q s₂) E (.error e) s') s:=by
 have m:D≠l:=λ z=>by rw [z,hl] at hd;exact absurd (show J3 "tuple" = J3 "dict" from congrArg Obj.cls (N1 hd)) (by decide)
 unfold S4.«dict.__init__» j0c;refine c0 (c0 (wpAny_notOrdered_dict ⟨_,hd,rfl⟩ ?_));refine c0 (show R0 _ _ (G3 D) _ _ _ from C0 (C0 ?_));show R0 _ _ (Z5 "dict.__init__" D (.ref l) [] .none) _ _ _;unfold Z5;refine c0 (O4 (T:="tuple") ⟨_,hl,rfl⟩ ?_);show R0 _ _ (j18 (.ref l) (Q1 "keys") >>= _) _ _ _;refine c0 (zgt hl hh λ h tk a=>?_);show R0 _ _ (rule _ >>= _) _ _ _;refine c0 (J5 (c0 (O3 (items:=items) ⟨_,a _ _ hl,rfl,_,rfl⟩ ?_)));refine C0 ⟨z5x _,?_⟩;have t:=L0 (a _ _ hd);have k:=L0 (a _ _ hl);have c :∀b o,s.heap.get? b=some o->(h.push { cls:=.type "tuple_iterator",data:=.fields #[.ref l,.int 0 0] }).get? b=some o:=λ b o e=>D0 _ (a b o e);refine zcq (d:=D) (it:=h.objs.size) (l:=l) (items:=items) (X0 t) m (V2 k) ps 0 [] A' _ _ hh' ⟨_,Q0 _ rfl,rfl,rfl⟩ ⟨_,c _ _ hl,rfl,_,rfl⟩ ?_ ?_ (by simpa using hz) λ h' i p j=>⟨rfl,q h' i p λ b o g e=>j b o g (λ z=>?_) (c b o e)⟩
 ·rw [D4];exact z01 (λ x y z=>PairOf.kept (L:=[]) (λ b o _ e=>c b o e) (λ b g=>absurd g x0) z) al
 ·exact z7d (c _ _ hd)
 ·rw [z] at e;exact absurd (L0 (a _ _ e)) (o4 _)
end
section
variable {X:Cx}
def zl4 (K:j0):List V->Hp->VK->Prop:=λ xs H Q=>∃a ys kvs,xs=[.ref a]/\(H a=some (.lst ys)\/H a=some (.tup ys))/\All2 (λ (p:Key×V) y=>∃b,y=.ref b/\SqT K H b [kV p.1,p.2]) kvs ys/\∀p,H p=none->Q (.ref p) (upd H p (.dK (mergeK [] kvs)))
theorem zbc {pins:List (Addr×Obj)} {σ:St} {H:Hp} {s:B0} (I:Inv X pins σ H s) :∀{kvs:List (Key×V)} {ys:List V} {its:List Value},All2 (λ (p:Key×V) y=>∃b,y=.ref b/\SqT X.K H b [kV p.1,p.2]) kvs ys->Vals ys its->
  ∃ps,KV kvs ps/\All2 (PairOf X.prog X.w s.heap) ps its
 | [],_,_,.nil,r=>by cases r;exact ⟨[],.nil,.nil⟩
 | p :: kvs,_,_,.cons ⟨b,e,sb⟩ al,r=>by
  cases r with
  | cons r1 r2=>
   subst e;obtain ⟨ps,f,c⟩:=zbc I al r2;obtain ⟨its,a,d,_⟩:=I.tuple sb;cases a with
   | cons ra a=>
    cases a with
    | cons rb a=>cases a;rename_i u1 u2;exact ⟨(p.1,u2) :: ps,.cons ⟨rfl,rb⟩ f,.cons ⟨b,u1,r1,d,kV_is ra⟩ c⟩
theorem z34 (kvs:List (Key×V)) :∀more:List (Key×V),(mergeK kvs more).length<=kvs.length + more.length
 | []=>F0 _
 | p :: more=>by have b:=z34 (putK kvs p.1 p.2) more;have a:=z3s kvs p.1 p.2;show (mergeK (putK kvs p.1 p.2) more).length<=_;rw [y1];omega
theorem z57 (hc:X.calm=true):CallR X (.type "dict") (zl4 X.K):=by
 intro U s σ H xs us Q I r h;obtain ⟨a,S,m,rfl,l,v,q⟩:=h;obtain ⟨u,rfl,P⟩:=vals1 r;cases (show u=C1 a from P);have t:X.A.handled=none:=I.ok.hd hc;have R:H s.heap.objs.size=none:=I.hok.fresh (F0 _);have big:=I.big;have M :∀(d:List (Key×Value)) (h':Heap) (c:Nat),KV m d->m.length<=sizeLine->W3 (z0l X.prog X.w) h' s.heap.objs.size (merged [] d)->(∀b o,b≠s.heap.objs.size->(s.heap.push { cls:=.type "dict",data:=.dict #[] }).get? b=some o->h'.get? b=some o)->
   EP X U σ Q (.ref s.heap.objs.size) { s with heap:=h',toks:=c }:=λ d h' c f T k g=>by
  refine ⟨.ref s.heap.objs.size,_,I.laid (a:=s.heap.objs.size) (o:=.dK (mergeK [] m)) (h':=h') (t':=c) (λ b o e=>g b o (X0 (L0 e)) (D0 _ e)) (F0 _) ?_,rfl,q _ R⟩;exact dk_new (G0 (z34 [] m) (by simpa using T)) (beq_eq_false_iff_ne.mpr (N2 (X0 big))) (KV.merge f .nil) k
 have p:S.length=m.length:=z04 v;rcases l with l|l
 ·obtain ⟨z,V,n,D,hl,e⟩:=I.lstM l;obtain ⟨d,f,C⟩:=zbc I v D;refine callType_codes F.kt_called_dict (F.kt_typeCall_dict_1 _) F.entry_dict_init (kt_code_dict_new _ (Q₁:=λ j i=>j=.ref s.heap.objs.size/\i={ s with heap:=s.heap.push { cls:=.type "dict",data:=.dict #[] } }) ⟨rfl,rfl⟩) ?_;rintro j i ⟨rfl,rfl⟩;refine ⟨⟨_,Q0 _ rfl,rfl⟩,F.args_dict_init_2 _ _,?_⟩;refine z8q (s:={ s with heap:=s.heap.push { cls:=.type "dict",data:=.dict #[] } }) (Q0 _ rfl) (D0 _ e) t t (by simpa using z01 (λ x y z=>PairOf.kept (L:=[]) (λ b o _ e=>D0 _ e) (λ b B=>absurd B x0) z) C) (by rw [<-Y7 f,<-p];exact z) λ h' c k g=>M d h' c f (by rw [<-p];exact z) k g
 ·obtain ⟨z,V,D,⟨o,O,N,n,G⟩,Y,J,E⟩:=I.hok a _ l;rw [O] at J;cases J;obtain ⟨d,f,C⟩:=zbc I v D;obtain ⟨W,od,a0,Z⟩:=o;dsimp only at N G E;subst N G E;refine callType_codes F.kt_called_dict (F.kt_typeCall_dict_1 _) F.entry_dict_init (kt_code_dict_new _ (Q₁:=λ j i=>j=.ref s.heap.objs.size/\i={ s with heap:=s.heap.push { cls:=.type "dict",data:=.dict #[] } }) ⟨rfl,rfl⟩) ?_;rintro j i ⟨rfl,rfl⟩;refine ⟨⟨_,Q0 _ rfl,rfl⟩,F.args_dict_init_2 _ _,?_⟩;refine z7f (s:={ s with heap:=s.heap.push { cls:=.type "dict",data:=.dict #[] } }) (Q0 _ rfl) (D0 _ O) t t (by simpa using z01 (λ x y z=>PairOf.kept (L:=[]) (λ b o _ e=>D0 _ e) (λ b B=>absurd B x0) z) C) (by rw [<-Y7 f,<-p];exact z) λ h' c k g=>M d h' c f (by rw [<-p];exact z) k g
noncomputable def rNeD0:R2:=λ x y H Q=>∃a b kvs,x=.ref a/\y=.ref b/\H a=some (.dK kvs)/\H b=some (.dK [])/\Q (.bl (decide (kvs≠[]))) H
theorem zlq (hu:X.A.units + 1 < cLine):OpR X (P2 .NotEq) rNeD0:=by
 intro C s σ H x y v u Q I j w h;obtain ⟨a,b,f,rfl,rfl,n,o,q⟩:=h;cases j;cases w;obtain ⟨_,k,c,z,i⟩:=dk_of I.hok n;obtain ⟨_,t,m,g,B⟩:=dk_of I.hok o;have l:m=[]:=by have:=g.length;exact List.length_eq_zero_iff.mp (by simpa using this.symm)
 subst l;refine PySem.W.keq_ne (r:=true) k t i B (j0g hu) (λ e=>?_) ⟨.bl _,H,I,?_,q⟩
 ·have:c=[]:=List.length_eq_zero_iff.mp e;rw [this];exact .nil
 ·show J7 _=J7 _;congr 1;have d:f.length=c.length:=z.length;cases f with
  | nil=>have:c=[]:=List.length_eq_zero_iff.mp d.symm;rw [this];rfl
  | cons p r=>
   cases c with
   | nil=>cases d
   | cons p r=>rfl
end
end L2
set_option maxHeartbeats 400000
namespace L2
open PySem PySem.Spec PyProof.Rows
structure RunsR (S:Hp->Hp->Prop) (J:It) (H1:Hp) (n:Nat) (Item:Nat->V->Hp->Prop):Prop where
 go :∀i,i < n->∀H,S H1 H->J.go i H
 stop :∀H,S H1 H->J.stop n H
 item :∀i,i < n->∀H v H',S H1 H->J.yld i H v H'->S H H'/\Item i v H'
theorem z2i {S:Hp->Hp->Prop} {J:It} {H1:Hp} {n m:Nat} {Item:Nat->V->Hp->Prop} {fr:List (Nat×Str)} {g:TG} {tc:TT} {te:TE} {σ:St} {Q:VK} (s0:S H1 H1) (st :∀a b c,S a b->S b c->S a c) (p:Nat->Bool) (R:Nat->V->Hp->Prop) (hR :∀i y H H',S H H'->R i y H->R i y H') (r:RunsR S J H1 n Item) (hn:n<=sizeLine)
  (body :∀i,i < n->∀v H,S H1 H->Item i v H->∀(KT:VK) (KF:Hp->Prop),(p i=true->∀y H',S H H'->R i y H'->KT y H')->(p i=false->∀H',S H H'->KF H')->
   g v (cStG σ fr (D2 m none)) H λ σ6 H6=>∃us,us.length=m/\σ6=cStG σ fr us/\tc (cStG σ fr us) H6 λ b H2=>if b=true then te (cStG σ fr us) H2 KT else KF H2)
  (hQ :∀l H' ys,S H1 H'->H' l=none->All2 (λ i y=>R i y H') ((J1 n).filter p) ys->Q (.ref l) (upd H' l (.lst ys))) :
  ∃W:Nat->Nat->List V->Hp->Prop,(∃m,W 0 m [] H1)/\∀i k ys H,W i k ys H->
   (J.stop i H/\ys.length<=sizeLine/\∀p,H p=none->Q (.ref p) (upd H p (.lst ys)))\/
   (J.go i H/\ys.length<=sizeLine/\∀v H',J.yld i H v H'->g v (cStG σ fr (D2 m none)) H' λ σ6 H6=>∃us,us.length=m/\σ6=cStG σ fr us/\tc (cStG σ fr us) H6 λ b H2=>if b=true then te (cStG σ fr us) H2 λ y H3=>∃m',m' < k/\W (i + 1) m' (ys++[y]) H3 else∃m',m' < k/\W (i + 1) m' ys H2):=by
 refine ⟨λ i k ys H'=>k=n - i/\i<=n/\S H1 H'/\All2 (λ i y=>R i y H') ((J1 i).filter p) ys,⟨n,by simp,d3 _,s0,.nil⟩,?_⟩;rintro i k ys H' ⟨rfl,hi,sm,fa⟩;have j:ys.length<=sizeLine:=by rw [z04 fa];have:=G2 p (J1 i);rw [Z1] at this;omega
 by_cases hlt:i < n
 ·refine .inr ⟨r.go i hlt H' sm,j,λ v H2 y=>?_⟩;obtain ⟨f,o⟩:=r.item i hlt H' v H2 sm y;refine body i hlt v H2 (st _ _ _ sm f) o _ _ (λ h y H3 d s=>⟨n - (i + 1),by omega,rfl,hlt,st _ _ _ (st _ _ _ sm f) d,?_⟩) (λ h H3 d=>⟨n - (i + 1),by omega,rfl,hlt,st _ _ _ (st _ _ _ sm f) d,?_⟩)
  ·rw [z2x,if_pos h];exact z6i (z01 (λ a b z=>hR a b _ _ (st _ _ _ f d) z) fa) s
  ·rw [z2x,if_neg (by rw [h];decide),W2];exact z01 (λ a b z=>hR a b _ _ (st _ _ _ f d) z) fa
 ·have e:i=n:=by omega
  subst e;exact .inl ⟨r.stop H' sm,j,λ l q=>hQ l H' ys sm q fa⟩
theorem z9p {S:Hp->Hp->Prop} {K:j0} {a:Addr} {xs:List V} {H1:Hp} (hs :∀H,S H1 H->S H H) (hq :∀H,S H1 H->SqL K H a xs):RunsR S (Itl K a) H1 xs.length (λ i v _=>xs[i]? = some v):=
 ⟨λ i b H s=>⟨xs,xs[i],hq H s,by simp [b]⟩,λ H s=>⟨xs,hq H s,F0 _⟩,λ i b H v c s y=>by obtain ⟨e,y⟩:=y;subst e;exact ⟨hs _ s,y xs (hq _ s)⟩⟩
theorem zdf {S:Hp->Hp->Prop} {K:j0} {a:Addr} {xs:List V} {H1:Hp} (hs :∀H,S H1 H->S H H) (hq :∀H,S H1 H->SqT K H a xs):RunsR S (Itt K a) H1 xs.length (λ i v _=>xs[i]? = some v):=
 ⟨λ i b H s=>⟨xs,xs[i],hq H s,by simp [b]⟩,λ H s=>⟨xs,hq H s,F0 _⟩,λ i b H v c s y=>by obtain ⟨e,y⟩:=y;subst e;exact ⟨hs _ s,y xs (hq _ s)⟩⟩
theorem ze6 {S:Hp->Hp->Prop} {K:j0} {a:Addr} {xs:List V} {tl te:TE} {tc:TT} {g:TG} {m:Nat} {fr:List (Nat×Str)} {σ:St} {H H1:Hp} {Q:VK} (R:V->V->Hp->Prop) (s0:S H1 H1) (st :∀a b c,S a b->S b c->S a c) (hs :∀H,S H1 H->S H H) (hR :∀x y H H',S H H'->R x y H->R x y H')
  (htl :∀R:VK,R (.ref a) H1->tl σ H R) (hq :∀H,S H1 H->SqL K H a xs) (hn:xs.length<=sizeLine)
  (body :∀v∈xs,∀H,S H1 H->∀KT:VK,(∀y H',S H H'->R v y H'->KT y H')->∀KF:Hp->Prop,
   g v (cStG σ fr (D2 m none)) H λ σ6 H6=>∃us,us.length=m/\σ6=cStG σ fr us/\tc (cStG σ fr us) H6 λ b H2=>if b=true then te (cStG σ fr us) H2 KT else KF H2)
  (hQ :∀l H' ys,S H1 H'->H' l=none->All2 (λ x y=>R x y H') xs ys->Q (.ref l) (upd H' l (.lst ys))):tCompG (iList K tl) m fr g tc te σ H Q:=by
 refine htl _ ⟨a,rfl,⟨xs,hq _ s0⟩,z2i s0 st (λ _=>true) (λ i y H=>R (xs[i]?.getD .non) y H) (λ i y H H' s z=>hR _ _ _ _ s z) (z9p hs hq) hn (λ i u v H s f KT KF n j=>?_) λ l H' ys s o k=>hQ l H' ys s o ?_⟩
 ·refine body v (T0 f) H s KT (λ y H' t q=>n rfl y H' t ?_) KF;rw [f];exact q
 ·rw [List.filter_eq_self.mpr (λ _ _=>rfl)] at k;have p :∀(d:List Nat) (ys:List V),All2 (λ i y=>R (xs[i]?.getD .non) y H') d ys->All2 (λ x y=>R x y H') (d.map λ i=>xs[i]?.getD .non) ys:=by
   intro d;induction d with
   | nil=>intro ys h;cases h;exact .nil
   | cons i d ih=>intro ys h;cases h with|cons a r=>exact .cons a (ih _ r)
  have h:=p _ _ k;have e:(J1 xs.length).map (λ i=>xs[i]?.getD V.non)=xs:=by
   apply E8
   ·simp
   ·intro i n j;simp only [List.getElem_map,List.getElem_range,K0 j,Option.getD_some]
  rwa [e] at h
theorem z99 {S:Hp->Hp->Prop} {n:Nat} {H1:Hp} (hs :∀H,S H1 H->S H H):RunsR S (Itr 0 n) H1 n (λ i v _=>v=.int (i:Nat)):=
 ⟨λ i a H s=>a,λ H s=>F0 _,λ i a H v b s y=>by obtain ⟨e,y⟩:=y;subst e;exact ⟨hs _ s,by rw [y,M7]⟩⟩
theorem zf1 {R:V->V->Prop} {xs ys:List V} (fa:All2 (λ (i:Nat) y=>R (xs[i]?.getD .non) y) (J1 xs.length) ys):All2 R xs ys:=by
 have d :∀(b:List Nat) (ys:List V),All2 (λ i y=>R (xs[i]?.getD .non) y) b ys->All2 R (b.map λ i=>xs[i]?.getD .non) ys:=by
  intro b;induction b with
  | nil=>intro ys h;cases h;exact .nil
  | cons i b ih=>intro ys h;cases h with|cons a r=>exact .cons a (ih _ r)
 have h:=d _ _ fa;have e:(J1 xs.length).map (λ i=>xs[i]?.getD V.non)=xs:=by
  apply E8
  ·simp
  ·intro i f c;simp only [List.getElem_map,List.getElem_range,K0 c,Option.getD_some]
 rwa [e] at h
theorem za3 {S:Hp->Hp->Prop} {K:j0} {a:Addr} {xs:List V} {tl te:TE} {tc:TT} {g:TG} {m:Nat} {fr:List (Nat×Str)} {σ:St} {H H1:Hp} {Q:VK} (R:V->V->Hp->Prop) (s0:S H1 H1) (st :∀a b c,S a b->S b c->S a c) (hs :∀H,S H1 H->S H H) (hR :∀x y H H',S H H'->R x y H->R x y H')
  (htl :∀R:VK,R (.ref a) H1->tl σ H R) (hq :∀H,S H1 H->SqT K H a xs) (hn:xs.length<=sizeLine)
  (body :∀v∈xs,∀H,S H1 H->∀KT:VK,(∀y H',S H H'->R v y H'->KT y H')->∀KF:Hp->Prop,
   g v (cStG σ fr (D2 m none)) H λ σ6 H6=>∃us,us.length=m/\σ6=cStG σ fr us/\tc (cStG σ fr us) H6 λ b H2=>if b=true then te (cStG σ fr us) H2 KT else KF H2)
  (hQ :∀l H' ys,S H1 H'->H' l=none->All2 (λ x y=>R x y H') xs ys->Q (.ref l) (upd H' l (.lst ys))):tCompG (iTup K tl) m fr g tc te σ H Q:=by
 refine htl _ ⟨a,rfl,⟨xs,hq _ s0⟩,z2i s0 st (λ _=>true) (λ i y H=>R (xs[i]?.getD .non) y H) (λ i y H H' s z=>hR _ _ _ _ s z) (zdf hs hq) hn (λ i o v H s d KT KF k n=>?_) λ l H' ys s f e=>hQ l H' ys s f ?_⟩
 ·refine body v (T0 d) H s KT (λ y H' j h=>k rfl y H' j ?_) KF;rw [d];exact h
 ·rw [List.filter_eq_self.mpr (λ _ _=>rfl)] at e;exact zf1 (R:=λ x y=>R x y H') e
def Ris (xs:Array Nat):Prop:=xs.toList.Pairwise (· < ·)
theorem Ris.lt {xs:Array Nat} (r:Ris xs) {i k:Nat} (h:i < k) (hk:k < xs.size):xs[i]'(K7 h hk) < xs[k]:=by have:=(List.pairwise_iff_getElem.mp r) i k (by simpa using K7 h hk) (by simpa using hk) h;simpa using this
theorem zf4 {xs:Array Nat} {i d:Nat} (h:i < xs.size):xs.getD i d=xs[i]:=by simp [Array.getD,h]
theorem zbm {xs:Array Nat} {j:Nat} (r:Ris xs) :∀(f lo hi:Nat),lo<=hi->hi<=xs.size->hi - lo<=f->(∀i (h:i < xs.size),i < lo->xs[i] < j)->(∀i (h:i < xs.size),hi<=i->j<=xs[i])->
  U6 xs j f lo hi<=xs.size/\(∀i (h:i < xs.size),i < U6 xs j f lo hi->xs[i] < j)/\(∀i (h:i < xs.size),U6 xs j f lo hi<=i->j<=xs[i])
 | 0,lo,hi,h1,h2,h3,ha,hb=>by
  have:lo=hi:=by omega
  subst this;exact ⟨h2,ha,hb⟩
 | f + 1,lo,hi,h1,h2,h3,ha,hb=>by
  unfold U6;by_cases z:lo < hi
  ·rw [if_pos z];have a:(lo + hi) / 2 < xs.size:=by omega
   dsimp only;rw [zf4 a];by_cases y:xs[(lo + hi) / 2] < j
   ·rw [if_pos y];refine zbm r f _ _ (by omega) h2 (by omega) (λ i h b=>?_) hb;by_cases e:i=(lo + hi) / 2
    ·subst e;exact y
    ·exact K7 (r.lt (by omega) a) y
   ·rw [if_neg y];refine zbm r f _ _ (by omega) (by omega) (by omega) ha λ i h b=>?_;by_cases e:i=(lo + hi) / 2
    ·subst e;omega
    ·exact G0 (Nat.not_lt.mp y) (V3 (r.lt (by omega) h))
  ·rw [if_neg z];have:lo=hi:=by omega
   subst this;exact ⟨h2,ha,hb⟩
theorem z60 {xs:Array Nat} (r:Ris xs) (j:Nat):O1 xs j<=xs.size/\(∀i (h:i < xs.size),i < O1 xs j->xs[i] < j)/\(∀i (h:i < xs.size),O1 xs j<=i->j<=xs[i]):=
 zbm r _ _ _ (d3 _) (F0 _) (F0 _) (λ i h z=>absurd z (C5 _)) (λ i h z=>absurd h (Nat.not_lt.mpr z))
theorem z7q {α:Type} (xs:Array α) (p:Nat) (x:α) (hp:p<=xs.size):(K9 xs p x).toList=xs.toList.take p++x :: xs.toList.drop p:=by unfold K9;simp [N8]
theorem Ris.insert {xs:Array Nat} (r:Ris xs) {j:Nat} (h:¬ xs[O1 xs j]? = some j):Ris (K9 xs (O1 xs j) j):=by
 obtain ⟨w,o,g⟩:=z60 r j;unfold Ris;rw [z7q _ _ _ w];refine List.pairwise_append.mpr ⟨r.sublist (List.take_sublist _ _),List.pairwise_cons.mpr ⟨λ y s=>?_,r.sublist (List.drop_sublist _ _)⟩,λ a t b f=>?_⟩
 ·obtain ⟨i,d,e⟩:=List.mem_drop_iff_getElem.mp s;have l:O1 xs j + i < xs.size:=by simpa [Nat.add_comm] using d
  have c:xs[O1 xs j + i]=y:=by simpa using e
  have le:=g _ l (by omega);rw [c] at le;rcases Nat.lt_or_eq_of_le le with z|z
  ·exact z
  ·exfalso;have f:O1 xs j < xs.size:=by omega
   have x:=g _ f (F0 _);have:xs[O1 xs j]=j:=by
    by_cases i0:i=0
    ·subst i0;exact c.trans z.symm
    ·have:=r.lt (show O1 xs j < O1 xs j + i by omega) l;rw [c] at this;omega
   exact h (by rw [L4 f,this])
 ·obtain ⟨i,d,e⟩:=List.mem_take_iff_getElem.mp t;have v:i < xs.size:=by have:=d;simp at this;omega
  have q:i < O1 xs j:=by have:=d;simp at this;omega
  have lt:=o i v q;have c:xs[i]=a:=by simpa using e
  rw [c] at lt;rcases List.mem_cons.mp f with z|z
  ·rw [z];exact lt
  ·obtain ⟨k,p,u⟩:=List.mem_drop_iff_getElem.mp z;have n:O1 xs j + k < xs.size:=by simpa [Nat.add_comm] using p
   have m:xs[O1 xs j + k]=b:=by simpa using u
   have:=g _ n (by omega);rw [m] at this;omega
theorem zhs (n:Nat):Ris (Array.range n):=by unfold Ris;rw [Array.toList_range];exact j38
def zag (t:M3) (j:Nat):Prop:=¬ t.place[O1 t.place j]? = some j
theorem zan {t:M3} {j:Nat} (h :∀i,t.slot j≠.live i):zag t j:=λ e=>by refine h (O1 t.place j) ?_;unfold SetTable.slot;dsimp only;rw [if_pos (by rw [e];exact beq_self_eq_true _)]
theorem z6x {t:M3} {hs:Nat->Int} {h:Int} :∀(f:Nat) (p:SetTable.Probe) (j:Nat) (d:Option Nat),(∀k,p.dummy=some k->zag t k)->j1c t hs h f p=some (.empty j d)->zag t j/\∀k,d=some k->zag t k
 | 0,p,j,d,hd,e=>by cases e
 | f + 1,p,j,d,hd,e=>by
  unfold j1c at e;cases q:t.slot p.j with
  | empty=>rw [q] at e;cases e;exact ⟨zan (λ i z=>by rw [q] at z;cases z),hd⟩
  | dummy=>rw [q] at e;refine z6x f _ j d (λ k z=>?_) e;unfold j4b at z;dsimp only at z;split at z<;>(cases z;exact zan λ i z=>by rw [q] at z;cases z)
  | live i=>
   rw [q] at e;dsimp only at e;split at e
   ·cases e
   ·refine z6x f _ j d (λ k z=>?_) e;unfold j4b at z;dsimp only at z;split at z<;>exact hd k z
theorem zeg {t:M3} {h:Int} {s:Nat} {b:Bool} (e:t.freeSlot h=some (s,b)):zag t s:=by
 unfold SetTable.freeSlot at e;cases q:t.probe (λ _=>h + 1) h (t.probeStart h) with
 | none=>rw [q] at e;cases e
 | some m=>
  rw [q] at e;cases m with
  | candidate a b c=>cases e
  | empty j d=>
   have:=z6x _ _ j d (λ k z=>by cases z) q;cases e;cases d with
   | none=>exact this.1
   | some k=>exact this.2 k rfl
def Tidy (l:Bool) (t:M3):Prop:=t.led=l/\Ris t.place
theorem Tidy.standIn {l:Bool} {t:M3} (h:Tidy l t) (n:Nat):Tidy l (t.standIn n):=⟨h.1,zhs n⟩
theorem Tidy.layNew {l:Bool} {t:M3} (h:Tidy l t) (es:Array (Int×Value)) (k:Int) (x:Value):Tidy l (layNew t es k x).2.1:=by
 unfold PySem.layNew;cases q:t.freeSlot k with
 | none=>exact h.standIn _
 | some s=>
  obtain ⟨s,b⟩:=s;dsimp only;have a:Tidy l (t.put s).1:=⟨h.1,Ris.insert h.2 (zeg q)⟩
  unfold SetTable.orStandIn;split
  ·exact a
  ·exact a.standIn _
theorem Tidy.relayAll {l:Bool} {t:M3} (h:Tidy l t) (es:Array (Int×Value)) (n:Nat):Tidy l (j3i t es n).2.1:=by
 unfold PySem.relayAll;cases q:t.relaid (es.map (·.1)) n with
 | none=>exact h.standIn _
 | some p=>
  obtain ⟨m,o⟩:=p;dsimp only;split
  ·unfold SetTable.relaid SetTable.laid at q;cases q2:SetTable.layClean (SetTable.sizeAbove n - 1) (es.map (·.1)) with
   | none=>rw [q2] at q;cases q
   | some ow=>rw [q2] at q;cases q;refine ⟨h.1,?_⟩;show (List.map _ _).Pairwise _;rw [List.pairwise_map];refine List.Pairwise.filterMap _ (λ a b e c g d f=>?_) (j38);obtain ⟨k,_,i⟩:=Option.map_eq_some_iff.mp g;obtain ⟨r,_,j⟩:=Option.map_eq_some_iff.mp f;rw [<-i,<-j];exact e
  ·exact h.standIn _
theorem Ris.next {xs:Array Nat} (r:Ris xs) {i:Nat} (h:i < xs.size):O1 xs (xs[i] + 1)=i + 1:=by
 obtain ⟨d,b,c⟩:=z60 r (xs[i] + 1);apply Nat.le_antisymm
 ·apply V6;intro z;have a:i + 1 < xs.size:=by omega
  have:=b (i + 1) a z;have:=r.lt (show i < i + 1 by omega) a;omega
 ·apply V6;intro z;have:=c i h (by omega);omega
theorem Ris.first {xs:Array Nat} (r:Ris xs):O1 xs 0=0:=by obtain ⟨c,a,b⟩:=z60 r 0;apply Nat.eq_zero_of_not_pos;intro z;exact absurd (a 0 (by omega) z) (C5 _)
end L2
set_option maxHeartbeats 1000000
namespace L2
open PySem PySem.Spec PyProof.Rows
noncomputable def intOf:Value->Int
 | .int i _=>i
 | _=>0
theorem z8n {vs:List Value} {ns:List Int} (h:D3 vs ns):ns=vs.map intOf/\∀v∈vs,∃i t,v=.int i t:=by
 induction h with
 | nil=>exact ⟨rfl,λ v a=>by cases a⟩
 | cons n t r ih=>
  refine ⟨by rw [ih.1];rfl,λ v a=>?_⟩;rcases List.mem_cons.mp a with e|a
  ·exact ⟨n,t,e⟩
  ·exact ih.2 v a
theorem zg1 :∀vs:List Value,(∀v∈vs,∃i t,v=.int i t)->D3 vs (vs.map intOf)
 | [],_=>.nil
 | v :: vs,h=>by obtain ⟨i,t,e⟩:=h v (.head _);subst e;exact .cons i t (zg1 vs λ v a=>h v (.tail _ a))
theorem z5y {vs vs':List Value} {ns:List Int} (h:D3 vs ns) (p:vs'.Perm vs) :∃ns',D3 vs' ns'/\ns'.Perm ns:=by obtain ⟨e,k⟩:=z8n h;refine ⟨vs'.map intOf,zg1 vs' λ v a=>k v (p.mem_iff.mp a),?_⟩;rw [e];exact p.map _
theorem zgy {vs:List Value} {ns:List Int} (h:D3 vs ns):ns.length=vs.length:=by rw [(z8n h).1,M0]
theorem zho {vs:List Value} {ns:List Int} (h:D3 vs ns) (n:Int) (t:Tok):D3 (vs++[.int n t]) (ns++[n]):=by
 induction h with
 | nil=>exact .cons n t .nil
 | cons m u r ih=>exact .cons m u ih
section
variable {prog:Program} {w:j1} {A:V1} {E:Value->B0->Prop} {s:B0}
def SetAt (prog:Program) (w:j1) (l:Bool) (h:Heap) (a:Addr) (ns:List Int):Prop:=
 ∃es ep t,h.get? a=some { cls:=.type "set",dict:=none,data:=.set es ep t,slots:=#[] }/\ElemsOf (K5 prog w) es.toList/\D3 (es.toList.map (·.2)) ns/\ns.Nodup/\es.size < scanBound/\t.fits es.size=true/\Tidy l t
theorem zct {l:Bool} {h:Heap} {a:Addr} {es0 es:Array (Int×Value)} {ep:Nat} {t0 t:M3} {ns:List Int} (ho:h.get? a=some { cls:=.type "set",dict:=none,data:=.set es0 ep t0,slots:=#[] })
  (hel:ElemsOf (K5 prog w) es.toList) (hi:D3 (es.toList.map (·.2)) ns) (nd:ns.Nodup) (hb:es.size < scanBound) (hf:t.fits es.size=true) (ht:Tidy l t) :
  (h.update a (j05 es t)).get? a=some { cls:=.type "set",dict:=none,data:=.set es (ep + 1) t,slots:=#[] }/\SetAt prog w l (h.update a (j05 es t)) a ns:=by
 have g:(h.update a (j05 es t)).get? a=some { cls:=.type "set",dict:=none,data:=.set es (ep + 1) t,slots:=#[] }:=v3 (j05 es t) ho rfl;exact ⟨g,es,ep + 1,t,g,hel,hi,nd,hb,hf,ht⟩
theorem zka {es:List (Int×Value)} {ns:List Int} {v:Int} (hi:D3 (es.map (·.2)) ns) (h:es.findIdx? (λ e=>(K5 prog w).is v e.2)=none):¬ v∈ns:=λ a=>by
 obtain ⟨e,k⟩:=z8n hi;rw [e] at a;obtain ⟨y,c,j⟩:=List.mem_map.mp a;obtain ⟨p,g,f⟩:=List.mem_map.mp c;obtain ⟨i,t,b⟩:=k y c;have:=List.findIdx?_eq_none_iff.mp h p g;have d:v=i:=by rw [<-j,b];rfl
 have:(K5 prog w).is v p.2=false:=by simpa using this
 rw [f,b,d,j40] at this;cases this
theorem zlr {es:List (Int×Value)} {ns:List Int} {v:Int} {j:Nat} (hi:D3 (es.map (·.2)) ns) (h:es.findIdx? (λ e=>(K5 prog w).is v e.2)=some j):v∈ns:=by obtain ⟨a,b,_⟩:=List.findIdx?_eq_some_iff_getElem.mp h;obtain ⟨t,e⟩:=Value.isInt_shape (show j44 v es[j].2=true from b);rw [(z8n hi).1];exact List.mem_map.mpr ⟨es[j].2,List.mem_map.mpr ⟨es[j],C8 a,rfl⟩,by rw [e];rfl⟩
theorem zh2 {ns:List Int} {v:Int} (h:ns.Nodup) (n:¬ v∈ns):(ns++[v]).Nodup:=by refine List.nodup_append.mpr ⟨h,by simp,λ a c b d e=>?_⟩;rw [List.mem_singleton.mp d] at e;exact n (e ▸ c)
noncomputable def addI (ns:List Int) (v:Int):List Int:=if v∈ns then ns else ns++[v]
theorem ziy {l:Bool} {a:Addr} {v:Int} {tk:Tok} {ns:List Int} {Q:Bool->B0->Prop} (hS:SetAt prog w l s.heap a ns) (hroom:ns.length + 1 < scanBound)
  (h :∀b h' ns',o5 a s.heap h'->SetAt prog w l h' a ns'->ns'.Perm (addI ns v)->Q b { s with heap:=h' }):R0 (v1 prog w) A (setAddHashed a (.int v tk) ((K5 prog w).hash v)) Q E s:=by
 obtain ⟨f,ep,t,m,p,i,R,V,H,P⟩:=hS;have a2:f.size=ns.length:=by rw [zgy i,M0,v2]
 have J:(K5 prog w).is v (.int v tk)=true:=j40 prog w v tk;unfold setAddHashed setAddHashedIn;refine X1 (c0 (c6 m rfl H ?_));dsimp only;rw [byScan_of rfl V p];simp only [↓reduceIte];unfold setAddByScan;refine c0 (c0 (J5 (c0 (wpAny_setScan_of J m rfl H p ?_))));cases hr:List.findIdx? (λ e=>(K5 prog w).is v e.2) f.toList with
 | some j=>refine C0 (C0 ?_);have:=h false s.heap ns (Heap.SameBut.refl a s.heap) ⟨f,ep,t,m,p,i,R,V,H,P⟩ (by unfold addI;rw [if_pos (zlr i hr)]);exact this
 | none=>
  dsimp only;have g:=layNew_perm t f ((K5 prog w).hash v) (.int v tk);have B:=layNew_fits t f ((K5 prog w).hash v) (.int v tk);have u:=P.layNew f ((K5 prog w).hash v) (.int v tk);generalize layNew t f ((K5 prog w).hash v) (.int v tk)=L at g B u⊢;obtain ⟨c,d,wd,a1⟩:=L;dsimp only at g B u⊢;rw [Array.toList_push] at g;have S:ElemsOf (K5 prog w) c.toList:=(p.push J rfl).perm g;have y :∃k,D3 (c.toList.map (·.2)) k/\k.Perm (ns++[v]):=z5y (zho i v tk) (by have:=g.map (λ e:Int×Value=>e.2);rwa [j2] at this);obtain ⟨k,y,I⟩:=y;have U:=zka i hr;have O:k.Nodup:=I.nodup_iff.mpr (zh2 R U);have K:addI ns v=ns++[v]:=if_neg U;have G:c.size < scanBound:=by rw [<-v2,g.length_eq,S0,v2,a2];exact hroom
  have T :∀(b:Bool) {C:B0} {Q':Unit->B0->Prop},Q' () C->R0 (v1 prog w) A (match b with|true=>rule "set.scan.the-table-gave-way" | false=>G3 ()) Q' E C:=λ b C Q' q=>by cases b with|false=>exact C0 q|true=>exact J5 q
  have a3:R0 (v1 prog w) A (do
    storeSet a c d
    if (!wd && d.tooFull)=true then do
      (match (j3i d c (D5 c.size)).2.2 with|true=>rule "set.scan.the-table-gave-way" | false=>G3 ())
      storeSet a (j3i d c (D5 c.size)).1 (j3i d c (D5 c.size)).2.1
      G3 (some true)
     else G3 (some true)) (λ r o=>∃b,r=some b/\Q b o) E s:=by
   obtain ⟨M,S1⟩:=zct (prog:=prog) (w:=w) m S y O G B u;have N:=i3 s.heap a (j05 c d);refine c0 (wpAny_storeSet_of m rfl ?_ (j19 G));split
   ·have n:=relayAll_perm d c (D5 c.size);have F:=relayAll_fits d c (D5 c.size);have D:=u.relayAll c (D5 c.size);generalize j3i d c (D5 c.size)=L2 at n F D⊢;obtain ⟨Z,t2,g2⟩:=L2;dsimp only at n F D⊢;obtain ⟨a0,a4,Y⟩:=z5y y (n.map (λ e:Int×Value=>e.2));have X:Z.size < scanBound:=by rw [<-v2,n.length_eq,v2];exact G
    refine c0 (T g2 (c0 (wpAny_storeSet_of M rfl ?_ (j19 X))));obtain ⟨_,S2⟩:=zct (prog:=prog) (w:=w) M (S.perm n) a4 (Y.nodup_iff.mpr O) X F D;exact C0 ⟨true,rfl,h true _ a0 (N.trans (i3 _ a _)) S2 (by rw [K];exact Y.trans I)⟩
   ·exact C0 ⟨true,rfl,h true _ k N S1 (by rw [K];exact I)⟩
  refine c0 (T a1 ?_);have W:=y4 a3 (Q':=λ r o=>R0 (v1 prog w) A (match r with|some added=>G3 added|none=>setAddHashedIn a (.int v tk) ((K5 prog w).hash v) 99999) Q E o) (E':=E) (λ r o x=>by obtain ⟨b,e,q⟩:=x;subst e;exact C0 q) (λ e o x=>x);by_cases z:d.plain=true
  ·rw [if_pos z];exact c0 (Y9 (show hashByValue 8 (O6 v tk)=G3 true from rfl) W)
  ·rw [if_neg z];exact c0 (C0 W)
end
theorem zhi {ns ms:List Int} (p:ns.Perm ms) (v:Int):(addI ns v).Perm (addI ms v):=by
 unfold addI;by_cases z:v∈ns
 ·rw [if_pos z,if_pos (p.mem_iff.mp z)];exact p
 ·rw [if_neg z,if_neg (λ y=>z (p.mem_iff.mpr y))];exact p.append_right [v]
theorem z2s :∀(vs:List Int) {ns ms:List Int},ns.Perm ms->(vs.foldl addI ns).Perm (vs.foldl addI ms)
 | [],_,_,p=>p
 | v :: vs,_,_,p=>z2s vs (zhi p v)
theorem zbv (ns:List Int) (v:Int):(addI ns v).length<=ns.length + 1:=by
 unfold addI;split
 ·exact T2 _
 ·rw [S0];exact F0 _
section
variable {prog:Program} {w:j1} {A:V1} {E:Value->B0->Prop} {s:B0}
theorem SetAt.at' {l:Bool} {h h':Heap} {a:Addr} {ns:List Int} (k :∀o,h.get? a=some o->h'.get? a=some o) (x:SetAt prog w l h a ns):SetAt prog w l h' a ns:=by obtain ⟨c,b,t,e,r⟩:=x;exact ⟨c,b,t,k _ e,r⟩
theorem zcz (a:Args):(K6 "set.update.loop" a).quiet=true:=j0h (by decide +kernel) _
theorem zd3 {b:Bool} {S it l:Addr} {items:Array Value} (nsi:S≠it) (nsl:S≠l) (nil':it≠l) :∀(ms:List Int) (i:Nat) (ns:List Int) (A:V1) (R:j11->B0->Prop) (s:B0),A.handled=none->s.heap.IsTupleIter it l i->s.heap.IsTuple l items->
  D3 (items.toList.drop i) ms->SetAt prog w b s.heap S ns->ns.length + ms.length < scanBound->
  (∀h' tk ns',SetAt prog w b h' S ns'->ns'.Perm (ms.foldl addI ns)->(∀c o,c≠S->c≠it->s.heap.get? c=some o->h'.get? c=some o)->R (.ok (.ret .none)) { s with heap:=h',toks:=tk })->
  Q4 (v1 prog w) A (K6 "set.update.loop" { pos:=[.ref S,.ref it],kw:=[] }) R s
 | [],i,ns,A,R,s,hh,si,sl,al,dd,hz,q=>by
  have z:items[i]? = none:=by
   cases hd:items.toList.drop i with
   | nil=>have:=List.drop_eq_nil_iff.mp hd;rw [v2] at this;exact E3 this
   | cons u us=>rw [hd] at al;cases al
  refine F3 J6 ?_;show R0 _ _ (Z4 (.ref it) >>= _) _ _ s;refine c0 (q9 (show (A.under _).handled=none from hh) si sl z λ h' t=>?_);exact C0 (q h' s.toks ns (dd.at' λ o e=>t S o nsi e) (N4 _) λ c o _ G e=>t c o G e)
 | m :: ms,i,ns,A,R,s,hh,si,sl,al,dd,hz,q=>by
  cases hd:items.toList.drop i with
  | nil=>rw [hd] at al;cases al
  | cons u us=>
   rw [hd] at al;cases al with
   | cons _ tk al=>
    have E:items.toList[i]? = some (.int m tk):=by have:=congrArg (λ l=>l[0]?) hd;simpa using this
    have M:items[i]? = some (.int m tk):=by simpa using E
    have y:items.toList.drop (i + 1)=us:=by have:=congrArg j31 hd;simpa using this
    refine F3 J6 ?_;show R0 _ _ (Z4 (.ref it) >>= _) _ _ s;refine c0 (a9 si sl M λ j K h=>?_);have D:j.IsTuple l items:=by obtain ⟨o,d,a⟩:=sl;exact ⟨o,(h.2 l (N2 nil')).trans d,a⟩
    have I:SetAt prog w b j S ns:=dd.at' λ o e=>(h.2 S nsi).trans e;rw [y1] at hz;refine c0 (X1 (show R0 _ _ (setAdd S (.int m tk)) _ _ _ from ?_));unfold setAdd;refine X1 (c0 ((K5 prog w).pyHash (k:=m) (j40 prog w m tk) ?_));refine ziy (s:={ s with heap:=j,toks:=s.toks + 1 }) I (E1 (by omega) hz) λ c f n g C v=>?_;refine C0 ⟨zcz _,?_⟩;have x:f.IsTupleIter it l (i + 1):=by obtain ⟨o,d,a⟩:=K;exact ⟨o,(g.2 it (N2 nsi)).trans d,a⟩
    have J:f.IsTuple l items:=by obtain ⟨o,d,a⟩:=D;exact ⟨o,(g.2 l (N2 nsl)).trans d,a⟩
    have N:n.length<=ns.length + 1:=by rw [v.length_eq];exact zbv ns m
    refine zd3 nsi nsl nil' ms (i + 1) n A R { s with heap:=f,toks:=s.toks + 1 } hh x J (by rw [y];exact al) C (by omega) λ h' H ns' F L B=>q h' H ns' F (L.trans (z2s ms v)) λ c o r p e=>B c o r p ((g.2 c r).trans ((h.2 c p).trans e))
noncomputable def set0 (w:j1):Obj:={ cls:=.type "set",dict:=none,data:=.set #[] 0 (.fresh 0 0 (!w.params.followText "set-order")) }
theorem zjb (a:Value) {Q₁:Value->B0->Prop} (h:Q₁ (.ref s.heap.objs.size) { s with heap:=s.heap.push (set0 w) }):Q4 (v1 prog w) A (.call (.builtin "set.__new__") ⟨[.type "set",a],[]⟩) (wants Q₁ E) s:=by refine j01 F.plain_set_new F.entry_set_new (Y9 (F.newCall_set_1 a) ?_);show R0 _ _ (Builtin.Frozenset.newClass "set" ⟨[.type "set",a],[]⟩ >>= _) _ _ _;refine c0 (c0 (show R0 _ _ (G3 true) _ _ _ from C0 ?_));show R0 _ _ (j23 (.type "set") (.type "set") >>= _) _ _ _;refine c0 (Y9 sub_set_self ?_);refine C0 ?_;show R0 _ _ (newSet (.type "set") >>= _) _ _ _;unfold newSet setsByText;refine c0 (c0 (c0 (j20 (C0 ?_))));exact c0 (wpAny_alloc (C0 (C0 h)))
theorem zja {h:Heap} {a:Addr} (e:h.get? a=some (set0 w)):SetAt prog w (!w.params.followText "set-order") h a []:=
 ⟨#[],0,_,e,λ x b=>by simp at b,.nil,i9,by decide,by rfl,rfl,W8⟩
theorem zg3:j23 (.type "tuple") (.type "set")=G3 false:=by rw [T6];kernel_rfl
theorem zeq:j23 (.type "tuple") (.type "frozenset")=G3 false:=by rw [T6];kernel_rfl
theorem zen {l:Addr} {items:Array Value} {ns:List Int} {Q:Value->B0->Prop} (hh:A.handled=none) (ht:s.heap.IsTuple l items) (hi:D3 items.toList ns) (hb:ns.length < scanBound)
  (h :∀h' tk ns',SetAt prog w (!w.params.followText "set-order") h' s.heap.objs.size ns'->ns'.Perm (ns.foldl addI [])->(∀b o,s.heap.get? b=some o->h'.get? b=some o)->Q (.ref s.heap.objs.size) { s with heap:=h',toks:=tk }) :
  R0 (v1 prog w) A (call (.type "set") [.ref l]) Q E s:=by
 obtain ⟨c,W,L⟩:=F.called_set.mro;have V:=F.called_set.made;have T:=F.called_set.sub;refine j3g (codeAny_of_tree (show R0 _ _ (callAny (.type "set") _) _ _ _ from C0 ⟨Code.quiet_builtin _ (by decide +kernel),F3 F.entry_type_call ?_⟩));rw [j4j (weight_type_call_type "set" [.ref l] []) rfl];have h1:=F.called_set.notType;have K:=F.called_set.canCreate;have N:=F.typeCall_set_1 (.ref l)
 (repeat (any_goals (first|assumption|wp_step)));refine L5 (zjb (.ref l) (E:=E) (Q₁:=λ p k=>p=.ref s.heap.objs.size/\k={ s with heap:=s.heap.push (set0 w) }) ⟨rfl,rfl⟩) λ r k a=>?_
 cases r with
 | error e=>exact a
 | ok fl=>
  cases fl with
  | next=>exact a.elim
  | brk=>exact a.elim
  | cont=>exact a.elim
  | ret p=>
   obtain ⟨rfl,rfl⟩:=a;have g:(s.heap.push (set0 w)).get? s.heap.objs.size=some (set0 w):=Q0 _ rfl;have H:j6 { s with heap:=s.heap.push (set0 w) } (.ref s.heap.objs.size) "set":=⟨_,g,rfl⟩
   have Y:=F.called_set.init.lookup;have Z:=F.called_set.init.bind (.ref s.heap.objs.size)
   (repeat (any_goals (first|assumption|wp_step)))
   have B:Q4 (v1 prog w) A.in1 (.call (.builtin "set.__init__") ⟨[.ref s.heap.objs.size,.ref l],[]⟩) (wants (λ r m=>r=.none/\Q (.ref s.heap.objs.size) m) E) { s with heap:=s.heap.push (set0 w) }:=by
    refine j01 F.called_set.init.plain F.entry_set_init (check_set_init_1 H ?_);obtain ⟨o,i,q,n,u⟩:=ht;obtain ⟨M,C,X,x⟩:=o;dsimp only at q u;subst q u;have I:(s.heap.push (set0 w)).get? l=some { cls:=.type "tuple",dict:=C,data:=.seq items n,slots:=x }:=D0 _ i;have R:=zg3;have P:=zeq;have O:(J3 "tuple" == J3 "dict")=false:=by decide
    have U:(s.heap.push (set0 w)).get? s.heap.objs.size=some { cls:=.type "set",dict:=none,data:=.set #[] 0 (.fresh 0 0 (!w.params.followText "set-order")),slots:=#[] }:=g;have v:(s.heap.push (set0 w)).IsTuple l items:=⟨_,I,rfl,n,rfl⟩
    have t:l < s.heap.objs.size:=L0 i;unfold S4.«set.__init__» noKeywords Y8;generalize hPI:j21=PI
    wp_walk
    subst hPI;refine O3 v (c0 (j3e ?_));have j :∀b o,s.heap.get? b=some o->((s.heap.push (set0 w)).push { cls:=.type "tuple_iterator",data:=.fields #[.ref l,.int 0 0] }).get? b=some o:=λ b o e=>D0 _ (D0 _ e);have f:(s.heap.push (set0 w)).objs.size=s.heap.objs.size + 1:=A2 _ _;refine zd3 (S:=s.heap.objs.size) (it:=(s.heap.push (set0 w)).objs.size) (l:=l) (items:=items) (by rw [f];exact X0 (C2 _)) (V2 t) (by rw [f];exact V2 (P1 t)) ns 0 [] _ _ _ (by simp [hh]) ⟨_,Q0 _ rfl,rfl,rfl⟩ ⟨_,j _ _ i,rfl,n,rfl⟩ (by rw [D4];exact hi) (zja (D0 _ g)) (by simpa using hb) λ h' tk ns' D J y=>?_;refine C0 (C0 ⟨rfl,h h' tk ns' D J λ b o e=>y b o (X0 (L0 e)) (by rw [f];exact X0 (P1 (L0 e))) (j b o e)⟩)
   refine L5 B λ G m d=>?_;cases G with
   | error e=>exact d
   | ok f2=>
    cases f2 with
    | next=>exact d.elim
    | brk=>exact d.elim
    | cont=>exact d.elim
    | ret r=>obtain ⟨rfl,z⟩:=d;exact C0 (C0 z)
end
theorem si_next:Slot "set_iterator" "__next__" "set_iterator.__next__":=.of (owner:="set_iterator") (n:="__next__") (by rw [typeLookup_type,builtinLookup_eq_fast];kernel_rfl) (by decide +kernel) (by decide +kernel) (by decide +kernel) (by first|exact .inl (by decide +kernel)|exact .inr (by decide +kernel)) (by rw [T6];kernel_rfl)
theorem zj2:Slot "set_iterator" "__iter__" "set_iterator.__iter__":=.of (owner:="set_iterator") (n:="__iter__") (by rw [typeLookup_type,builtinLookup_eq_fast];kernel_rfl) (by decide +kernel) (by decide +kernel) (by decide +kernel) (by first|exact .inl (by decide +kernel)|exact .inr (by decide +kernel)) (by rw [T6];kernel_rfl)
theorem z1y:entryFor table "set_iterator.__next__" = some S4.«set_iterator.__next__»:=entryFor_of_tree (by kernel_rfl)
theorem zak:entryFor table "set_iterator.__iter__" = some S4.«dict_keyiterator.__iter__»:=entryFor_alias (id':="dict_keyiterator.__iter__") (by kernel_rfl) rfl (by decide +kernel) (by kernel_rfl)
theorem z8w:entryFor table "set.__iter__" = some S4.«frozenset.__iter__»:=entryFor_alias (id':="frozenset.__iter__") (by kernel_rfl) rfl (by decide +kernel) (by kernel_rfl)
theorem zgv:Manifest.owners.lookup (String.ofList ['r','o','t','a','r','e','t','i','_','t','e','s'].reverse)=some Manifest.sig_set_iterator:=by kernel_rfl
theorem z2q (a:Value):argsOk "set_iterator.__next__" ⟨[a],[]⟩:=by unfold argsOk;rw [signature?_of (id:="set_iterator.__next__") (n:=['_','_','t','x','e','n','_','_']) (o:=['r','o','t','a','r','e','t','i','_','t','e','s']) (by kernel_rfl) zgv];kernel_rfl
theorem zbg (a:Value):argsOk "set_iterator.__iter__" ⟨[a],[]⟩:=by unfold argsOk;rw [signature?_of (id:="set_iterator.__iter__") (n:=['_','_','r','e','t','i','_','_']) (o:=['r','o','t','a','r','e','t','i','_','t','e','s']) (by kernel_rfl) zgv];kernel_rfl
theorem z6b {α:Type} :∀(xs:List α) (i:Nat) (h:i < xs.length),(xs[i] :: xs.eraseIdx i).Perm xs
 | x :: xs,0,_=>N4 _
 | x :: xs,i + 1,h=>(List.Perm.swap x _ _).trans ((z6b xs i (by simpa using h)).cons x)
theorem zcv {α:Type} (nx:Nat->Nat) :∀(f k:Nat) (xs:List α) (out:Array α),xs.length<=f->(pickOrder.go nx f k xs out).toList.Perm (out.toList++xs)
 | 0,k,xs,out,h=>by have:xs=[]:=List.length_eq_zero_iff.mp (Nat.le_zero.mp h);subst this;rw [W2];exact N4 _
 | f + 1,k,xs,out,h=>by
  unfold pickOrder.go;cases xs with
  | nil=>rw [W2];exact N4 _
  | cons x xs=>have lt:nx k % (x :: xs).length < (x :: xs).length:=Nat.mod_lt _ (by simp);rw [K0 lt];dsimp only;have:=zcv nx f (k + 1) ((x :: xs).eraseIdx (nx k % (x :: xs).length)) (out.push (x :: xs)[nx k % (x :: xs).length]) (by rw [j1h lt];simp at h⊢;omega);refine this.trans ?_;rw [Array.toList_push,M5];refine List.Perm.append_left _ ?_;exact z6b _ _ lt
theorem z8s {α:Type} (nx:Nat->Nat) (xs:Array α):(pickOrder nx xs).toList.Perm xs.toList:=by have:=zcv nx xs.size 0 xs.toList #[] (by simp);simpa [pickOrder] using this
section
variable {prog:Program} {w:j1} {A:V1} {E:Value->B0->Prop} {s:B0}
noncomputable abbrev setO (es:Array (Int×Value)) (ep:Nat) (t:M3):Obj:={ cls:=.type "set",dict:=none,data:=.set es ep t,slots:=#[] }
theorem zd1 {Q:Bool->B0->Prop} (q:Q (w.params.followText "set-order") s):R0 (v1 prog w) A setsByText Q E s:=by unfold setsByText;exact c0 (j20 (C0 q))
theorem z6c {S:Addr} {es:Array (Int×Value)} {ep:Nat} {t:M3} {slot i:Nat} {Q:Option (Value×Nat)->B0->Prop} (hx:w.params.followText "set-order" = true) (ho:s.heap.get? S=some (setO es ep t)) (hf:t.fits es.size=true)
  (q:Q (((pickOrder (w.params.setOrder S ep) es)[i]?).map λ e=>(e.2,slot)) s):R0 (v1 prog w) A (j08 S slot i ep) Q E s:=by
 unfold j08;refine c0 (c6 ho rfl hf (c0 (zd1 ?_)));rw [hx];dsimp only;rw [if_pos rfl,if_neg (by simp)];refine c0 ?_;unfold setWalk;refine c0 (c6 ho rfl hf (c0 (zd1 ?_)));rw [hx];refine c0 (j20 ?_);exact C0 (C0 q)
theorem z5j {S:Addr} {es:Array (Int×Value)} {ep:Nat} {t:M3} {slot i k:Nat} {Q:Option (Value×Nat)->B0->Prop} (hx:w.params.followText "set-order" = false) (ho:s.heap.get? S=some (setO es ep t)) (hf:t.fits es.size=true) (hl:t.led=true)
  (hd:(!t.plain && decide (es.size > 1))=false) (hk:O1 t.place slot=k)
  (q:Q (match es[k]?,t.place[k]? with|some (_,x),some j=>some (x,j + 1)|_,_=>none) s):R0 (v1 prog w) A (j08 S slot i ep) Q E s:=by
 unfold j08;refine c0 (c6 ho rfl hf (c0 (zd1 ?_)));rw [hx];dsimp only;rw [if_neg (by decide)];show R0 _ _ (if (!t.plain && decide (es.size > 1))=true then _ else _) _ _ _;rw [hd,if_neg (by decide)];show R0 _ _ ((if (!t.led && !es.isEmpty)=true then _ else _) >>= _) _ _ _;rw [hl,if_neg (by simp),hk];exact c0 (C0 (C0 q))
theorem stops {h1:Heap} {Q:Option Value->B0->Prop} (hh:A.handled=none) (q :∀h',(∀b o,h1.get? b=some o->h'.get? b=some o)->Q none { s with heap:=h' }) :
  R0 (v1 prog w) A.in1 (do raiseNew (<-newExc (.type "StopIteration") [])) (λ (fin:j0f) s'=>∃v,fin=.done (.ret v)/\R0 (v1 prog w) A (G3 (some v)) Q E s')
   (λ e s'=>R0 (v1 prog w) A (do if <-j3j e (.type "StopIteration") then G3 none else throw e) Q E s') { s with heap:=h1 }:=by
 refine c0 ?_;simp only [newExc,newTuple];refine c0 (Q2 (c0 (m:=j00 _ _) (Y9 (a:=Z2) (by first|rfl|(simp only [j00];rfl)) (Q2 ?_ (by size_fits)))) (by size_fits));simp only [raiseNew];refine c0 (wpAny_handled ?_);rw [show A.in1.handled=none from hh];refine c0 (C0 (j28 ?_));refine c0 (v5 (T:="StopIteration") (b:=true) ⟨_,Q0 _ rfl,rfl⟩ isSubtype_stop ?_);exact C0 (q _ λ b o e=>D0 _ (D0 _ e))
noncomputable abbrev setItO (first:Value) (i:Nat) (S:Addr) (n ep:Nat):Obj:={ cls:=.type "set_iterator",data:=.fields #[first,.int i 0,.ref S,.int n 0,.int ep 0] }
theorem zl8 {it S:Addr} {es:Array (Int×Value)} {ep i slot slot':Nat} {t:M3} {x:Value} {Q:Option Value->B0->Prop} (hi:s.heap.get? it=some (setItO (.int slot 0) i S es.size ep)) (ho:s.heap.get? S=some (setO es ep t)) (hf:t.fits es.size=true)
  (hn :∀(A:V1) (E:Value->B0->Prop) (Q:Option (Value×Nat)->B0->Prop),Q (some (x,slot')) s->R0 (v1 prog w) A (j08 S slot i ep) Q E s)
  (q :∀h',o5 it s.heap h'->h'.get? it=some (setItO (.int slot' 0) (i + 1) S es.size ep)->Q (some x) { s with heap:=h' }):R0 (v1 prog w) A (Z4 (.ref it)) Q E s:=by
 have a:s.TypeIs (.ref it) "set_iterator":=⟨_,hi,rfl⟩
 unfold Z4;refine c0 (J4 (J2 (name:=Q1 "__next__") a si_next (O2 si_next a z1y ?_ (z2q _))));unfold S4.«set_iterator.__next__»;refine c0 (show R0 _ _ (G3 (C1 it,[])) _ _ _ from C0 ?_);refine c0 (Z9 hi rfl ?_);dsimp only;refine c0 (B6 ho rfl hf ?_);rw [if_neg (by simp)];refine c0 (hn _ _ _ ?_);dsimp only;refine c0 (u5 hi rfl (by simp) ?_);have b:(s.heap.update it (Y2 (·.setIfInBounds 0 (F4 slot')))).get? it=some (setItO (.int slot' 0) i S es.size ep):=v3 _ hi rfl;refine c0 (u5 (s:={ s with heap:=s.heap.update it (Y2 (·.setIfInBounds 0 (F4 slot'))) }) b rfl (by simp) ?_);have c:((s.heap.update it (Y2 (·.setIfInBounds 0 (F4 slot')))).update it (Y2 (·.setIfInBounds 1 (F4 ((i:Int) + 1))))).get? it=some (setItO (.int slot' 0) (i + 1) S es.size ep):=v3 _ b rfl;exact C0 ⟨x,rfl,C0 (q _ ((i3 ..).trans (i3 ..)) c)⟩
theorem si_end {it S:Addr} {es:Array (Int×Value)} {ep i slot:Nat} {t:M3} {Q:Option Value->B0->Prop} (hh:A.handled=none) (hi:s.heap.get? it=some (setItO (.int slot 0) i S es.size ep)) (ho:s.heap.get? S=some (setO es ep t)) (hf:t.fits es.size=true)
  (hn :∀(A:V1) (E:Value->B0->Prop) (Q:Option (Value×Nat)->B0->Prop),Q none s->R0 (v1 prog w) A (j08 S slot i ep) Q E s)
  (q :∀h',j4h it s.heap h'->Q none { s with heap:=h' }):R0 (v1 prog w) A (Z4 (.ref it)) Q E s:=by
 have c:s.TypeIs (.ref it) "set_iterator":=⟨_,hi,rfl⟩
 unfold Z4;refine c0 (J4 (J2 (name:=Q1 "__next__") c si_next (O2 si_next c z1y ?_ (z2q _))));unfold S4.«set_iterator.__next__»;refine c0 (show R0 _ _ (G3 (C1 it,[])) _ _ _ from C0 ?_);refine c0 (Z9 hi rfl ?_);dsimp only;refine c0 (B6 ho rfl hf ?_);rw [if_neg (by simp)];refine c0 (hn _ _ _ ?_);dsimp only;refine c0 (u5 hi rfl (by simp) ?_);have d :∀b o,b≠it->s.heap.get? b=some o->(s.heap.update it (Y2 (·.setIfInBounds 2 Z2))).get? b=some o:=λ b o a e=>((i3 s.heap it (Y2 (·.setIfInBounds 2 Z2))).2 b a).trans e;generalize s.heap.update it (Y2 (·.setIfInBounds 2 Z2))=h1 at d⊢;exact stops hh λ h' k=>q h' λ b o a e=>k b o (d b o a e)
theorem zk7 {it S tp:Addr} {es:Array (Int×Value)} {ep i k m:Nat} {t:M3} {hx:Int} {x:Value} {ps:Array Value} {o:Obj} {Q:Option Value->B0->Prop} (hi:s.heap.get? it=some (setItO (.ref tp) i S es.size ep)) (ho:s.heap.get? S=some (setO es ep t)) (hf:t.fits es.size=true)
  (ht:s.heap.get? tp=some o) (hd:o.data=.seq ps m) (hp:ps[i]? = some (.int k 0)) (hk:es[k]? = some (hx,x))
  (q :∀h',o5 it s.heap h'->h'.get? it=some (setItO (.ref tp) (i + 1) S es.size ep)->Q (some x) { s with heap:=h' }):R0 (v1 prog w) A (Z4 (.ref it)) Q E s:=by
 have a:s.TypeIs (.ref it) "set_iterator":=⟨_,hi,rfl⟩
 unfold Z4;refine c0 (J4 (J2 (name:=Q1 "__next__") a si_next (O2 si_next a z1y ?_ (z2q _))));unfold S4.«set_iterator.__next__»;refine c0 (show R0 _ _ (G3 (C1 it,[])) _ _ _ from C0 ?_);refine c0 (Z9 hi rfl ?_);dsimp only;refine c0 (B6 ho rfl hf ?_);rw [if_neg (by simp)];refine c0 (X3 ht hd ?_);dsimp only;rw [show (Int.toNat (i:Int))=i from T5 i,hp];dsimp only;refine c0 ?_;unfold setNextDrawn;refine c0 (c6 ho rfl hf ?_);dsimp only;rw [if_neg (by simp),show (Int.toNat (k:Int))=k from T5 k,hk];refine c0 (C0 (C0 ?_));refine c0 (u5 hi rfl (by simp) ?_);have b:(s.heap.update it (Y2 (·.setIfInBounds 1 (F4 ((i:Int) + 1))))).get? it=some (setItO (.ref tp) (i + 1) S es.size ep):=v3 _ hi rfl;exact C0 ⟨x,rfl,C0 (q _ (i3 ..) b)⟩
theorem zce {it S tp:Addr} {es:Array (Int×Value)} {ep i m:Nat} {t:M3} {ps:Array Value} {o:Obj} {Q:Option Value->B0->Prop} (hh:A.handled=none) (hi:s.heap.get? it=some (setItO (.ref tp) i S es.size ep)) (ho:s.heap.get? S=some (setO es ep t)) (hf:t.fits es.size=true)
  (ht:s.heap.get? tp=some o) (hd:o.data=.seq ps m) (hp:ps[i]? = none)
  (q :∀h',j4h it s.heap h'->Q none { s with heap:=h' }):R0 (v1 prog w) A (Z4 (.ref it)) Q E s:=by
 have c:s.TypeIs (.ref it) "set_iterator":=⟨_,hi,rfl⟩
 unfold Z4;refine c0 (J4 (J2 (name:=Q1 "__next__") c si_next (O2 si_next c z1y ?_ (z2q _))));unfold S4.«set_iterator.__next__»;refine c0 (show R0 _ _ (G3 (C1 it,[])) _ _ _ from C0 ?_);refine c0 (Z9 hi rfl ?_);dsimp only;refine c0 (B6 ho rfl hf ?_);rw [if_neg (by simp)];refine c0 (X3 ht hd ?_);dsimp only;rw [show (Int.toNat (i:Int))=i from T5 i,hp];dsimp only;refine c0 (u5 hi rfl (by simp) ?_);have f:(s.heap.update it (Y2 (·.setIfInBounds 0 (F4 0)))).get? it=some (setItO (.int 0 0) i S es.size ep):=v3 _ hi rfl;refine c0 (u5 (s:={ s with heap:=s.heap.update it (Y2 (·.setIfInBounds 0 (F4 0))) }) f rfl (by simp) ?_);have d :∀b o,b≠it->s.heap.get? b=some o->((s.heap.update it (Y2 (·.setIfInBounds 0 (F4 0)))).update it (Y2 (·.setIfInBounds 2 Z2))).get? b=some o:=λ b o a e=>(((i3 s.heap it (Y2 (·.setIfInBounds 0 (F4 0)))).trans (i3 _ it (Y2 (·.setIfInBounds 2 Z2)))).2 b a).trans e;generalize (s.heap.update it (Y2 (·.setIfInBounds 0 (F4 0)))).update it (Y2 (·.setIfInBounds 2 Z2))=h1 at d⊢;exact stops hh λ h' k=>q h' λ b o a e=>k b o (d b o a e)
theorem zj6 {it:Addr} {first:Value} {i n ep:Nat} {S:Addr} {Q:Value->B0->Prop} (hi:s.heap.get? it=some (setItO first i S n ep)) (q:Q (.ref it) s):R0 (v1 prog w) A (j21 (.ref it)) Q E s:=by
 have a:s.TypeIs (.ref it) "set_iterator":=⟨_,hi,rfl⟩
 refine wpAny_pyIter_slot a zj2 (O2 zj2 a zak (show R0 _ _ (ret (.ref it)) _ _ s from ?_) (zbg _));exact C0 ⟨_,rfl,"set_iterator",_,a,si_next.lookup,q⟩
end
section
variable {prog:Program} {w:j1} {A:V1} {E:Value->B0->Prop}
theorem chosen {s:B0} {src:Source} {n:Nat} {Q:Nat->B0->Prop} (hn:n≠0) (q :∀i d,i < n->Q i { s with drawn:=d }):R0 (v1 prog w) A (choose src n) Q E s:=λ Γ p a=>⟨hn,q _ _ (Nat.mod_lt _ (Nat.pos_of_ne_zero hn))⟩
theorem z4n {α:Type} :∀(n:Nat) (xs:List α) (s:B0) (Q:List α->B0->Prop),xs.length<=n->(∀ys d,ys.Perm xs->Q ys { s with drawn:=d })->R0 (v1 prog w) A (drawOrder n xs) Q E s
 | 0,xs,s,Q,h,q=>by have:xs=[]:=List.length_eq_zero_iff.mp (Nat.le_zero.mp h);subst this;exact C0 (q [] s.drawn (N4 _))
 | n + 1,[],s,Q,h,q=>C0 (q [] s.drawn (N4 _))
 | n + 1,x :: xs,s,Q,h,q=>by unfold drawOrder;refine c0 (chosen (by simp) λ i d a=>?_);rw [K0 a];dsimp only;refine c0 (z4n n _ _ _ (by rw [j1h a];simp at h⊢;omega) λ ys b p=>?_);exact C0 (q _ b ((p.cons _).trans (z6b _ _ a)))
theorem ze8 {s:B0} {S:Addr} {es:Array (Int×Value)} {ep:Nat} {t:M3} {Q:Bool->B0->Prop} (ho:s.heap.get? S=some (setO es ep t)) (hf:t.fits es.size=true) (q:Q (!w.params.followText "set-order" && (!t.plain && decide (es.size > 1))) s):R0 (v1 prog w) A (setDrawn S) Q E s:=by unfold setDrawn;exact c0 (c6 ho rfl hf (c0 (zd1 (C0 q))))
theorem zkg {s:B0} {S:Addr} {es:Array (Int×Value)} {ep:Nat} {t:M3} {Q:Value->B0->Prop} (ho:s.heap.get? S=some (setO es ep t)) (hf:t.fits es.size=true) (hz:es.size < scanBound)
  (q1:(!w.params.followText "set-order" && (!t.plain && decide (es.size > 1)))=false->Q (.ref s.heap.objs.size) { s with heap:=s.heap.push (setItO (.int 0 0) 0 S es.size ep) })
  (q2 :∀(ps:List Nat) d,ps.Perm (J1 es.size)->Q (.ref (s.heap.objs.size + 1)) { s with heap:=(s.heap.push { cls:=.type "tuple",data:=.seq (ps.map λ i:Nat=>F4 i).toArray }).push (setItO (.ref s.heap.objs.size) 0 S es.size ep),drawn:=d }) :
  R0 (v1 prog w) A (j21 (.ref S)) Q E s:=by
 have a:s.TypeIs (.ref S) "set":=⟨_,ho,rfl⟩
 refine wpAny_pyIter_slot a F.slot_set_iter (O2 F.slot_set_iter a z8w ?_ (F.args_set_iter_1 _));unfold S4.«frozenset.__iter__»;refine c0 (show R0 _ _ (G3 S) _ _ _ from C0 ?_);unfold Builtin.Frozenset.sizeOf;refine c0 (c0 (B6 ho rfl hf (C0 ?_)));refine c0 (ze8 ho hf ?_);by_cases z:(!w.params.followText "set-order" && (!t.plain && decide (es.size > 1)))=true
 ·rw [if_pos z];refine c0 (z4n _ _ _ _ (by simp) λ ps d p=>?_);have c:ps.length=es.size:=by rw [p.length_eq,Z1]
  unfold newTuple;refine c0 (Q2 ?_ (show (ps.map λ i:Nat=>F4 i).toArray.size<=sizeLine by rw [V0,M0,c];exact j19 hz));refine c0 (wpAny_setEpoch_of (s:={ s with heap:=s.heap.push { cls:=.type "tuple",data:=.seq (ps.map λ i:Nat=>F4 i).toArray },drawn:=d }) (D0 _ ho) rfl hf ?_);have b:(s.heap.push { cls:=.type "tuple",data:=.seq (ps.map λ i:Nat=>F4 i).toArray }).objs.size=s.heap.objs.size + 1:=A2 _ _;refine c0 (Q2 (C0 ⟨_,rfl,"set_iterator",_,⟨_,Q0 _ rfl,rfl⟩,si_next.lookup,?_⟩));have:=q2 ps d p;rw [<-b] at this;exact this
 ·rw [if_neg z];refine c0 (C0 ?_);refine c0 (wpAny_setEpoch_of ho rfl hf ?_);exact c0 (Q2 (C0 ⟨_,rfl,"set_iterator",_,⟨_,Q0 _ rfl,rfl⟩,si_next.lookup,q1 (Bool.eq_false_iff.mpr z)⟩))
theorem zd2 {I S:Addr} {es:Array (Int×Value)} {ep:Nat} {t:M3} (hh:A.handled=none) (hne:S≠I) (hf:t.fits es.size=true) (vs:List Value) (sl:Nat->Nat)
  (hN :∀(i:Nat) (x:Value),vs[i]? = some x->∀(s:B0) (A:V1) (E:Value->B0->Prop) (Q:Option (Value×Nat)->B0->Prop),s.heap.get? S=some (setO es ep t)->Q (some (x,sl (i + 1))) s->R0 (v1 prog w) A (j08 S (sl i) i ep) Q E s)
  (hE :∀(s:B0) (A:V1) (E:Value->B0->Prop) (Q:Option (Value×Nat)->B0->Prop),s.heap.get? S=some (setO es ep t)->Q none s->R0 (v1 prog w) A (j08 S (sl vs.length) vs.length ep) Q E s) :
  Walks prog w A I [I,S] [I] vs.length (λ i v=>vs[i]? = some v) (λ i h=>h.get? I=some (setItO (.int (sl i) 0) i S es.size ep)/\h.get? S=some (setO es ep t)) where
 sub:=λ b c=>List.mem_cons.mpr (.inl (List.mem_singleton.mp c))
 frame:=λ i h d a k=>⟨k I (by simp) _ a.1,k S (by simp) _ a.2⟩
 item:=λ i s Q E f a q=>by refine zl8 a.1 a.2 hf (λ A E Q z=>hN i vs[i] (K0 f) s A E Q a.2 z) λ d j g=>?_;exact q _ d s.toks (K0 f) ⟨g,(j.2 S hne).trans a.2⟩ λ b o c e=>(j.2 b (λ z=>c (by simp [z]))).trans e
 done:=λ s Q E a q=>si_end hh a.1 a.2 hf (λ A E Q z=>hE s A E Q a.2 z) λ d l=>q d s.toks λ b o c e=>l b o (λ z=>c (by simp [z])) e
 self:=λ i s Q E a q=>zj6 a.1 q
theorem zfk {I S tp:Addr} {es:Array (Int×Value)} {ep:Nat} {t:M3} (hh:A.handled=none) (hne:S≠I) (hnt:tp≠I) (hf:t.fits es.size=true) (vs:List Value) (ps:List Nat) (hl:ps.length=vs.length)
  (hN :∀(i:Nat) (x:Value),vs[i]? = some x->∃k hx,ps[i]? = some k/\es[k]? = some (hx,x)) :
  Walks prog w A I [I,S,tp] [I] vs.length (λ i v=>vs[i]? = some v) (λ i h=>h.get? I=some (setItO (.ref tp) i S es.size ep)/\h.get? S=some (setO es ep t)/\h.get? tp=some { cls:=.type "tuple",data:=.seq (ps.map λ i:Nat=>F4 i).toArray }) where
 sub:=λ b c=>List.mem_cons.mpr (.inl (List.mem_singleton.mp c))
 frame:=λ i h d a k=>⟨k I (by simp) _ a.1,k S (by simp) _ a.2.1,k tp (by simp) _ a.2.2⟩
 item:=λ i s Q E j a q=>by obtain ⟨k,hx,m,n⟩:=hN i vs[i] (K0 j);refine zk7 a.1 a.2.1 hf a.2.2 rfl (by rw [j48,W0,m];rfl) n λ d f g=>?_;exact q _ d s.toks (K0 j) ⟨g,(f.2 S hne).trans a.2.1,(f.2 tp hnt).trans a.2.2⟩ λ b o c e=>(f.2 b (λ z=>c (by simp [z]))).trans e
 done:=λ s Q E a q=>zce hh a.1 a.2.1 hf a.2.2 rfl (by rw [j48,E5];simp [hl]) λ d l=>q d s.toks λ b o c e=>l b o (λ z=>c (by simp [z])) e
 self:=λ i s Q E a q=>zj6 a.1 q
noncomputable def slotAt (t:M3):Nat->Nat
 | 0=>0
 | i + 1=>t.place.getD i 0 + 1
theorem z6d {t:M3} (r:Ris t.place) :∀{i:Nat},i<=t.place.size->O1 t.place (slotAt t i)=i
 | 0,_=>r.first
 | i + 1,h=>by show O1 t.place (t.place.getD i 0 + 1)=i + 1;rw [zf4 h];exact r.next h
theorem zih {t:M3} {n:Nat} (h:t.fits n=true):t.place.size=n:=by unfold SetTable.fits at h;exact beq_iff_eq.mp (Bool.and_eq_true_iff.mp h).1
noncomputable def atV (es:Array (Int×Value)) (k:Nat):Value:=((es[k]?).map (·.2)).getD .none
theorem zij (es:Array (Int×Value)):(J1 es.size).map (atV es)=es.toList.map (·.2):=by
 apply E8
 ·simp
 ·intro i b c;have a:i < es.size:=by simpa using b
  simp [atV,a]
theorem zjx {s:B0} {S:Addr} {ns:List Int} {Q:Value->B0->Prop} (hh:A.handled=none) (hS:SetAt prog w (!w.params.followText "set-order") s.heap S ns)
  (q :∀(I:Addr) (fp:List Addr) (h':Heap) (d:Drawn) (vs:List Value) (ms:List Int) (St:Nat->Heap->Prop),s.heap.objs.size<=I->(∀b∈fp,b=S\/s.heap.objs.size<=b)->(∀b o,s.heap.get? b=some o->h'.get? b=some o)->
   (∀A':V1,A'.handled=none->Walks prog w A' I fp [I] vs.length (λ i v=>vs[i]? = some v) St)->St 0 h'->D3 vs ms->ms.Perm ns->Q (.ref I) { s with heap:=h',drawn:=d }) :
  R0 (v1 prog w) A (j21 (.ref S)) Q E s:=by
 obtain ⟨a,B,t,c,P,F,O,j,g,n⟩:=hS;have C:=L0 c;refine zkg c g j (λ z=>?_) λ r d p=>?_
 ·have l :∀b o,s.heap.get? b=some o->(s.heap.push (setItO (.int 0 0) 0 S a.size B)).get? b=some o:=λ b o e=>D0 _ e;have K :∀b∈[s.heap.objs.size,S],b=S\/s.heap.objs.size<=b:=λ b j=>by
   rcases List.mem_cons.mp j with e|e
   ·exact .inr (L7 e.symm)
   ·exact .inl (List.mem_singleton.mp e)
  cases hx:w.params.followText "set-order" with
  | true=>
   have J:=(z8s (w.params.setOrder S B) a).map (λ e:Int×Value=>e.2);obtain ⟨ms,G,H⟩:=z5y F J;refine q s.heap.objs.size [s.heap.objs.size,S] _ s.drawn _ ms _ (F0 _) K l (λ A' m=>zd2 m (X0 C) g ((pickOrder (w.params.setOrder S B) a).toList.map (·.2)) (λ _=>0) (λ i x e s A E Q c q=>z6c hx c g ?_) (λ s A E Q c q=>z6c hx c g ?_)) ⟨Q0 _ rfl,l _ _ c⟩ G H
   ·rw [W0,E4] at e;obtain ⟨y,f,u⟩:=Option.map_eq_some_iff.mp e;rw [f,Z6,u];exact q
   ·rw [E3 (by simp)];exact q
  | false=>
   rw [hx] at z n;have L:(!t.plain && decide (a.size > 1))=false:=by simpa using z
   have sz:=zih g;refine q s.heap.objs.size [s.heap.objs.size,S] _ s.drawn _ ns _ (F0 _) K l (λ A' m=>zd2 m (X0 C) g (a.toList.map (·.2)) (slotAt t) (λ i x e s A E Q c q=>?_) (λ s A E Q c q=>?_)) ⟨Q0 _ rfl,l _ _ c⟩ F (N4 _)
   ·rw [W0,E4] at e;obtain ⟨y,f,u⟩:=Option.map_eq_some_iff.mp e;have N:i < a.size:=by
     cases Nat.lt_or_ge i a.size with
     | inl h=>exact h
     | inr h=>rw [E3 h] at f;cases f
    have D:i < t.place.size:=by rw [sz];exact N
    refine z5j (k:=i) hx c g n.1 L (z6d n.2 (V3 D)) ?_;rw [f,L4 D];have:slotAt t (i + 1)=t.place[i] + 1:=by show t.place.getD i 0 + 1=_;rw [zf4 D]
    rw [this,<-u] at q;exact q
   ·refine z5j (k:=(a.toList.map (·.2)).length) hx c g n.1 L (z6d n.2 (by simp [sz])) ?_;rw [E3 (by simp)];exact q
 ·have l :∀b o,s.heap.get? b=some o->((s.heap.push { cls:=.type "tuple",data:=.seq (r.map λ i:Nat=>F4 i).toArray }).push (setItO (.ref s.heap.objs.size) 0 S a.size B)).get? b=some o:=λ b o e=>D0 _ (D0 _ e);have f:(s.heap.push { cls:=.type "tuple",data:=.seq (r.map λ i:Nat=>F4 i).toArray }).objs.size=s.heap.objs.size + 1:=A2 _ _;have J:(r.map (atV a)).Perm (a.toList.map (·.2)):=by rw [<-zij];exact p.map _
  obtain ⟨ms,G,H⟩:=z5y F J;refine q (s.heap.objs.size + 1) [s.heap.objs.size + 1,S,s.heap.objs.size] _ d _ ms _ (T2 _) (λ b j=>?_) l (λ A' m=>zfk (tp:=s.heap.objs.size) m (X0 (P1 C)) (X0 (C2 _)) g (r.map (atV a)) r (by simp) (λ i x e=>?_)) ⟨?_,l _ _ c,D0 _ (Q0 _ rfl)⟩ G H
  ·rcases List.mem_cons.mp j with e|j
   ·exact .inr (by rw [e];exact T2 _)
   ·rcases List.mem_cons.mp j with e|j
    ·exact .inl e
    ·exact .inr (L7 (List.mem_singleton.mp j).symm)
  ·rw [W0] at e;obtain ⟨k,f,u⟩:=Option.map_eq_some_iff.mp e;have M:k < a.size:=List.mem_range.mp (p.mem_iff.mp (T0 f));refine ⟨k,a[k].1,f,?_⟩;rw [<-u];simp [atV,M]
  ·show Heap.get? _ (s.heap.objs.size + 1)=_;rw [<-f];exact Q0 _ rfl
end
section
variable {prog:Program} {w:j1} {A:V1} {E:Value->B0->Prop} {s:B0}
theorem zjl {r:Addr} {Q:Bool->B0->Prop} (hT:s.TypeIs (.ref r) "set") (h:Q false s):R0 (v1 prog w) A (U9 (.ref r)) Q E s:=by unfold U9;refine c0 (wpAny_specialOf hT PySem.F.slot_set_len.lookup ?_);generalize hid:("set.__len__" : String)=id0;wp_delta;rw [show splitId id0=some ("set","__len__") from by subst hid;decide +kernel];subst hid;refine c0 (v5 (T:="set") (b:=true) hT sub_set_self ?_);refine j2i (λ a=>absurd a (by decide)) (λ _=>j2i (λ _=>?_) (λ a=>absurd (by decide +kernel) a));exact c0 (O4 hT (C0 h))
theorem zl2 {S D:Addr} {ns:List Int} {R:j11->B0->Prop} (hh:A.handled=none) (hS:SetAt prog w (!w.params.followText "set-order") s.heap S ns) (hD:s.heap.get? D=some { cls:=.type "list",data:=.seq #[] }) (hn:ns.length<=sizeLine)
  (hR :∀h' tk d acc c ms,(∀b o,b≠D->s.heap.get? b=some o->h'.get? b=some o)->h'.get? D=some { cls:=.type "list",dict:=none,data:=.seq acc c,slots:=#[] }->D3 acc.toList ms->ms.Perm ns->R (.ok (.ret (.ref D))) { s with heap:=h',toks:=tk,drawn:=d }) :
  R0 (v1 prog w) A.in1 (V9 (.ref D) (.ref S) (.ref D))
   (λ fin s'=>match fin with | .done f=>R (.ok f) s' | .again c'=>c'.quiet=true/\Q4 (v1 prog w) A c' R s') (λ e s'=>R (.error e) s') s:=by
 have U:s.TypeIs (.ref S) "set":=by obtain ⟨p,v,t,j,_⟩:=hS;exact ⟨_,j,rfl⟩
 have q:D≠S:=λ z=>by obtain ⟨p,v,t,j,_⟩:=hS;rw [<-z,hD] at j;exact absurd (show J3 "list" = J3 "set" from congrArg Obj.cls (N1 j)) (by decide)
 unfold V9;refine c0 (O4 (T:="set") U ?_);rw [if_neg (by simp [Builtin.List.listSameRef,q])];refine c0 (zjx (A:=A.in1) hh hS λ I N h' d l ms St V M k W Q x C=>?_);have Y:j6 { s with heap:=h',drawn:=d } (.ref S) "set":=by obtain ⟨p,v,t,j,_⟩:=hS;exact ⟨_,k _ _ j,rfl⟩
 refine c0 (X1 (zjl Y ?_));have n:D∉N:=λ z=>by
  rcases M D z with e|e
  ·exact q e
  ·exact absurd (L0 hD) (Nat.not_lt.mpr e)
 have L:l.length<=sizeLine:=by rw [<-zgy x,C.length_eq];exact hn
 have B :∀(h:Heap) (m:Nat),(∀b o,b≠D->h'.get? b=some o->h.get? b=some o)->h.get? D=some { cls:=.type "list",data:=.seq #[] m }->Q4 (v1 prog w) A (.builtin "list.extend.loop" ⟨[.ref D,.ref I,.ref D],[]⟩) R { s with heap:=h,drawn:=d }:=by
  intro h m r X;refine codeAny_extend_loopS (s:={ s with heap:=h,drawn:=d }) (W A.in1 hh).toS L D n (.ref D) l.length 0 #[] m rfl (d3 _) ((W A.in1 hh).frame 0 h' h Q λ b g o e=>r b o (λ z=>n (z ▸ g)) e) X (ItemsOf.nil _) λ s' acc c u P G=>?_;rw [Moved.eq_with u];refine hR s'.heap s'.toks d acc c ms (λ b o g e=>u.heap b o (λ z=>?_) (r b o g (k b o e))) P ?_ C
  ·rcases List.mem_cons.mp z with y|y
   ·exact g y
   ·exact absurd (L0 e) (by rw [List.mem_singleton.mp y];exact Nat.not_lt.mpr V)
  ·have:acc.toList=l:=by
    apply i8;intro i;by_cases z:i < acc.size
    ·have J:acc[i]? = some acc[i]:=L4 z;rw [E4,J];exact (G.2 i _ J).symm
    ·have O:l.length<=i:=by have:=G.1;omega
     rw [E4,E3 (Nat.not_lt.mp z),E5 O]
   rw [this];exact x
 have H :∀a:Args,(K6 "list.extend.loop" a).quiet=true:=λ a=>j0h PySem.F.plain_extend_loop _;refine j2i (λ _=>?_) (λ _=>C0 ⟨H _,B h' 0 (λ b o _ e=>e) (k _ _ hD)⟩);refine c0 (J5 (c0 (show R0 _ _ (updateSeq D (·.push .none) >>= λ _=>updateSeq D (·.pop)) _ _ _ from c0 (wpAny_updateSeq (k _ _ hD) rfl ?_))));have E:=v3 (X7 (·.push Z2)) (k _ _ hD) rfl;refine wpAny_updateSeq (hz:=by seq_fits) E rfl (C0 ⟨H _,?_⟩);have K:=v3 (X7 (·.pop)) E rfl;exact B _ _ (λ b o g e=>(G6 _ _ (N2 g)).trans ((G6 _ _ (N2 g)).trans e)) K
theorem ze2 {S:Addr} {ns:List Int} {R:List Value->B0->Prop} (hh:A.handled=none) (hS:SetAt prog w (!w.params.followText "set-order") s.heap S ns) (hn:ns.length<=sizeLine)
  (h :∀h' tk d vs ms,(∀b o,s.heap.get? b=some o->h'.get? b=some o)->D3 vs ms->ms.Perm ns->R vs { s with heap:=h',toks:=tk,drawn:=d }):R0 (v1 prog w) A (collect (.ref S)) R E s:=by
 unfold collect;refine c0 (j3e (F3 entry_proto_collect' ?_));rw [j3d PySem.F.plain_proto_collect _];refine (show R0 _ A.in1 (newList [] >>= λ l=>again (.builtin "list.__iadd__" ⟨[l,.ref S],[]⟩)) _ _ s from c0 (Q2 (C0 ⟨j0h j1f _,F3 entry_list_iadd' ?_⟩)));rw [j3d j1f _];have p:(s.heap.push { cls:=.type "list",data:=.seq ([]:List Value).toArray }).get? s.heap.objs.size=some { cls:=.type "list",data:=.seq #[] }:=Q0 _ rfl;have r:=zl2 (A:=A) (s:={ s with heap:=s.heap.push { cls:=.type "list",data:=.seq ([]:List Value).toArray } }) (S:=S) (D:=s.heap.objs.size) (ns:=ns)
  (R:=λ (q:j11) (m:B0)=>∃(h':Heap) (tk:Nat) (d:Drawn) (a:Array Value) (c:Nat) (ms:List Int),q=.ok (.ret (.ref s.heap.objs.size))/\m={ s with heap:=h',toks:=tk,drawn:=d }/\(∀b o,s.heap.get? b=some o->h'.get? b=some o)/\h'.get? s.heap.objs.size=some { cls:=.type "list",dict:=none,data:=.seq a c,slots:=#[] }/\D3 a.toList ms/\ms.Perm ns)
  hh (hS.at' λ o e=>D0 _ e) p hn λ h' tk d a c ms k g j i=>⟨h',tk,d,a,c,ms,rfl,rfl,λ b o e=>k b o (X0 (L0 e)) (D0 _ e),g,j,i⟩
 refine y4 r (λ f m x=>?_) λ e m x=>?_
 ·cases f with
  | done f=>obtain ⟨h',tk,d,a,c,ms,e,rfl,k,g,j,i⟩:=x;cases e;refine (show R0 _ A (load s.heap.objs.size >>= _) _ _ _ from c0 (wpAny_load g (C0 (h h' tk d a.toList ms k j i))))
  | again c₁=>refine ⟨x.1,L5 x.2 λ q t y=>?_⟩;obtain ⟨h',tk,d,a,c,ms,rfl,rfl,k,g,j,i⟩:=y;refine (show R0 _ A (load s.heap.objs.size >>= _) _ _ _ from c0 (wpAny_load g (C0 (h h' tk d a.toList ms k j i))))
 ·obtain ⟨_,_,_,_,_,_,n,_⟩:=x;cases n
theorem zaj {S:Addr} {ns:List Int} {Q:Value->B0->Prop} (hh:A.handled=none) (hS:SetAt prog w (!w.params.followText "set-order") s.heap S ns) (hn:ns.length < 64)
  (h :∀(h1 h':Heap) (tk:Nat) (d:Drawn) (out:Array Value) (ns':List Int) (e:Nat),(∀b o,s.heap.get? b=some o->h1.get? b=some o)->(∀b o,h1.get? b=some o->h'.get? b=some o)->h'.get? h1.objs.size=some { cls:=.type "list",data:=.seq out e }->D3 out.toList ns'->ns'.Perm ns->ns'.Pairwise (·<=·)->Q (.ref h1.objs.size) { s with heap:=h',toks:=tk,drawn:=d }) :
  R0 (v1 prog w) A (call (.builtin "sorted") [.ref S]) Q E s:=by
 refine j1j kind_sorted plain_sorted entry_sorted (args_sorted1 _) ?_;unfold S4.«sorted»;refine c0 (m:=checkCount "sorted" 1 1 _) (C0 (c0 (ze2 (A:=A.in1) hh hS (G0 (V3 hn) (by decide)) λ h1 tk d a r p i f=>?_)));have g:a.length < 64:=by rw [i.length,f.length_eq];exact hn
 refine c0 (wpAny_newList ?_ (G0 (V3 g) (by decide)));have c:(h1.push (seqObj "list" a.toArray 0)).get? h1.objs.size=some (seqObj "list" a.toArray 0):=Q0 _ rfl;refine c0 (X1 (O2 slot_list_sort ⟨_,c,rfl⟩ entry_list_sort (list_sort_tree c i g λ out ns' k n q=>⟨_,rfl,?_⟩) (args_list_sort _)));obtain ⟨e,l⟩:=sortedHeap_at (out:=out) c;refine C0 ⟨_,rfl,h h1 _ tk d out ns' e p (λ b o j=>?_) l k (n.trans f) q⟩;have lt:=L0 j;refine (sortedHeap_old (X0 lt) ?_).trans (D0 _ j);rw [size_push'];exact P1 lt
end
section
variable {X:Cx}
theorem Inv.drew {pins:List (Addr×Obj)} {σ:St} {H:Hp} {s:B0} (I:Inv X pins σ H s) (d:Drawn):Inv X pins σ H { s with drawn:=d }:=⟨I.ok,I.os,I.bare,I.base,I.loc,I.cell,I.free,I.freeC,I.pin,I.hok,I.len⟩
noncomputable def tSSet (K:j0) (te:TE):TE:=λ σ H Q=>te σ H λ x H1=>∃(a:Addr) (ns:List Int),x=.ref a/\SqT K H1 a (ns.map V.int)/\ns.length < 64/\srt (ns.foldl addI []) H1 Q
theorem z22 :∀(vs ns:List Int),(vs.foldl addI ns).length<=ns.length + vs.length
 | [],ns=>F0 _
 | v :: vs,ns=>by have b:=z22 vs (addI ns v);have a:=zbv ns v;show (vs.foldl addI (addI ns v)).length<=_;rw [y1];omega
theorem zc4 {e:Expr} {te:TE} {p1 p2 c1 c2:Pos} (hcalm:X.calm=true) (g1:Gl X "sorted") (m1:X.mg "sorted" = none) (g2:Gl X "set") (m2:X.mg "set" = none) (b1:R4 "sorted" = some (.builtin "sorted")) (b2:R4 "set" = some (.type "set")) (ha:PE X e te)
  (he:F1 [e] X.env=[(false,L3 e X.env)]:=by rfl):PE X (.Call (.Name "sorted" p1) [.Call (.Name "set" p2) [e] [] c2] [] c1) (tSSet X.K te):=by
 intro y s σ H Q I h;have j:X.A.handled=none:=I.ok.hd hcalm;refine P3 (ld_blt I g1 m1 b1 ?_ (by decide) (by decide));refine A6 ?_ rfl rfl;refine (show R0 _ _ (j35 ((false,L3 (.Call (.Name "set" p2) [e] [] c2) X.env) :: [])) _ _ s from m5 ?_);refine P3 (ld_blt I g2 m2 b2 ?_ (by decide) (by decide));refine j3 ?_ he rfl;rw [he];refine (show R0 _ _ (j35 ((false,L3 e X.env) :: [])) _ _ s from m5 (thn (ha y s σ H _ I h) λ u C ⟨x,H1,I1,r1,a,ns,ex,sq,hl,q⟩=>?_));subst ex;cases r1;refine F5 ?_;obtain ⟨N,B,D,J⟩:=I1.tuple sq;refine zen j D (by simpa using z4f B) (K7 hl (by decide)) λ k l t v c m=>F5 ?_;have f:t.length < 64:=by rw [c.length_eq];have:=z22 ns [];rw [m3,j4] at this;omega
 have E:(ns.foldl addI []).length < 64:=by rw [<-c.length_eq];exact f
 refine zaj (s:={ C with heap:=k,toks:=l }) j v f λ M O G d L F e n w g i p r=>?_;exact zck (I1.drew d) E q (λ b o z=>n b o (m b o z)) w g i (p.trans c) r
end
end L2
set_option maxHeartbeats 400000
namespace HT
open PySem PySem.Spec PyProof.Rows L2
variable {prog:Program} {w:j1} {A:V1} {E:Value->B0->Prop} {s:B0}
theorem getItem_tuple_all {t sl:Addr} {items:Array Value} {vl vu:Value} {lo hi:Option Int} {Q:Value->B0->Prop} (ht:IsTup s.heap t items) (hs:s.heap.IsSliceOf sl vl vu .none) (pl:E9 vl lo) (pu:E9 vu hi)
  (h0:sIx items.size 0 lo=0) (h1:sIx items.size items.size hi=items.size) (h:Q (.ref t) s):R0 (v1 prog w) A (L8 (.ref t) (.ref sl)) Q E s:=by
 obtain ⟨e,a,c,f⟩:=id hs;have b:s.TypeIs (.ref sl) "slice":=⟨e,a,c⟩
 unfold L8;try with_reducible refine X1 ?_
 first|refine c0 (C0 ?_)|skip
 refine c0 (wpAny_sequenceKey ht.typeIs (by decide) (c0 (J2 (name:=Q1 "__getitem__") ht.typeIs G4 (O2 G4 ht.typeIs entry_tuple_getitem ?_ (args_tuple_getitem _ _)))));refine (show R0 _ _ (Q9 (.ref t) >>= _) _ _ s from c0 (tupleItemsOf_ ht (c0 (O4 b ?_))));rw [if_pos (by decide)];refine c0 (z31 hs pl pu ?_);have d:(((sIx items.size 0 lo:Nat):Int) == 0 && (1:Int) == 1 && (sIx items.size items.size hi - sIx items.size 0 lo) == items.size)=true:=by rw [h0,h1];simp
 refine (show R0 _ _ (if (((sIx items.size 0 lo:Nat):Int) == 0 && (1:Int) == 1 && (sIx items.size items.size hi - sIx items.size 0 lo) == items.size)=true then _ else _) _ _ s from ?_);rw [if_pos d];refine c0 (show R0 _ _ (typeOf (.ref t) >>= _) _ _ s from c0 (O4 ht.typeIs (C0 ?_)));rw [if_pos (by decide)];first
  | exact c0 (J5 (C0 ⟨_,rfl,C0 h⟩))
  | exact c0 (J5 (C0 (C0 ⟨_,rfl,C0 h⟩)))
  | (trace_state;exact c0 (J5 (C0 ⟨_,rfl,h⟩)))
end HT
namespace L2
open PySem PySem.Spec PyProof.Rows
section
variable {X:Cx}
noncomputable def rCatQ (K:j0):R2:=λ x y H Q=>∃a b xs ys,x=.ref a/\y=.ref b/\SqL K H a xs/\SqL K H b ys/\xs.length + ys.length<=sizeLine/\∀p,H p=none->Q (.ref p) (upd H p (.lst (xs++ys)))
theorem zd0:OpR X (A5 .Add) (rCatQ X.K):=by intro S s σ H x y v u Q I p A h;obtain ⟨a,b,N,M,rfl,rfl,w,z,O,q⟩:=h;cases p;cases A;obtain ⟨c,m,C,_⟩:=I.list w;obtain ⟨d,f,B,_⟩:=I.list z;obtain ⟨⟨J,L,T,t⟩,D,g,o,k,l⟩:=id C;obtain ⟨⟨G,P,R,r⟩,E,n,e,i,j⟩:=id B;simp only at o k l e i j;subst o k l e i j;have t:=m.length;have r:=f.length;refine j1a ⟨_,g,rfl⟩ ⟨_,n,rfl⟩ noFill_list_add seq_list_add PySem.F.slot_list_add PySem.F.entry_list_add (PySem.F.args_list_add_2 _ _) (list_addW a b c.toArray d.toArray D E none none _ _ (by rw [V0,V0];omega)) ⟨g,n,?_⟩;rw [show c.toArray++d.toArray=(c++d).toArray by simp];exact ⟨.ref _,_,I.lnew (t':=s.toks) (m.append f) (by rw [S0];omega),rfl,q _ I.fresh⟩
def rSlW (K:j0):V->Option Int->Option Int->Hp->VK->Prop:=λ x lo hi H Q=>∃a xs,x=.ref a/\SqT K H a xs/\(HT.sIx xs.length 0 lo=0/\HT.sIx xs.length xs.length hi=xs.length)/\Q (.ref a) H
theorem zle:SlR X (rSlW X.K):=by intro w s σ H x v n u p o y Q I f l m i h;obtain ⟨a,j,rfl,g,⟨e,d⟩,q⟩:=h;cases f;obtain ⟨k,r,b,t⟩:=I.tuple g;have c:k.toArray.size=j.length:=(V0 ..).trans r.length.symm;refine ⟨"tuple",_,PyProof.Rows.slot_tuple_getitem.lookup,b.typeIs,HT.getItem_tuple_all b l m i (by rw [c];exact e) (by rw [c];exact d) ⟨.ref a,H,I,rfl,q⟩⟩
theorem slSeqW:SlR X (λ x lo hi H Q=>(rSlL X.K x lo hi H Q\/rSlT X.K x lo hi H Q\/rSlS x lo hi H Q)\/rSlW X.K x lo hi H Q):=slSeq.or zle
end
theorem z83 {names:List (Str×r6)} {ns:List Str} {Q:Str×r6->Prop} (h:(names.all λ y=>y.2 != Y1 || ns.contains y.1)=true) (q :∀n,n∈ns->∀k,Q (n,k)) :∀y∈names,y.2=Y1->Q y:=λ y c e=>by
 have z:=List.all_eq_true.mp h y c;rw [e] at z;have z:ns.contains y.1=true:=by simpa using z
 obtain ⟨a,b⟩:=y;exact q a (by simpa using z) b
theorem z73 {S:Hp->Hp->Prop} {ta:TA} {te:TE} {tc:TT} {g:TG} {m n:Nat} {fr:List (Nat×Str)} {σ:St} {H H1:Hp} {Q:VK} (p:Nat->Bool) (R:Nat->V->Hp->Prop) (s0:S H1 H1) (st :∀a b c,S a b->S b c->S a c) (hs :∀H,S H1 H->S H H) (hR :∀i y H H',S H H'->R i y H->R i y H')
  (hta :∀T:List V->Hp->Prop,T [.int (n:Nat)] H1->ta σ H T) (hn:n<=sizeLine)
  (body :∀i,i < n->∀H,S H1 H->∀(KT:VK) (KF:Hp->Prop),(p i=true->∀y H',S H H'->R i y H'->KT y H')->(p i=false->∀H',S H H'->KF H')->
   g (.int (i:Nat)) (cStG σ fr (D2 m none)) H λ σ6 H6=>∃us,us.length=m/\σ6=cStG σ fr us/\tc (cStG σ fr us) H6 λ b H2=>if b=true then te (cStG σ fr us) H2 KT else KF H2)
  (hQ :∀l H' ys,S H1 H'->H' l=none->All2 (λ i y=>R i y H') ((J1 n).filter p) ys->Q (.ref l) (upd H' l (.lst ys))):tCompG (iRng1 ta) m fr g tc te σ H Q:=by
 have b:(n:Int) < 2 ^ 62:=j06 (Int.ofNat_le.mpr hn) (by decide);refine hta _ ⟨n,rfl,by omega,b,?_⟩;exact z2i s0 st p R hR (z99 hs) hn (λ i f v H s d KT KF h e=>by subst d;exact body i f H s KT KF h e) hQ
def rIndex:V->List V->Hp->VK->Prop:=λ x vs H Q=>∃(l:Addr) (ss:List Str) (z:Str) (j:Nat),x=.ref l/\vs=[.str z]/\H l=some (.lst (ss.map V.str))/\ss.length<=1000/\ss[j]? = some z/\(∀m,m < j->ss[m]?≠some z)/\Q (.int (j:Nat)) H
section
variable {X:Cx}
theorem zli {ss:List Str} :∀{us:List Value},Vals (ss.map V.str) us->∀(j:Nat) (u:Value),us[j]? = some u->∃y t,ss[j]? = some y/\u=B7 y t:=by
 induction ss with
 | nil=>intro us r j u e;rw [C7] at r;cases r;simp at e
 | cons n ss ih=>
  intro us r j u e;rw [A1] at r;cases r with
  | cons r1 r2=>
   obtain ⟨t,rfl⟩:=r1;cases j with
   | zero=>rw [N3] at e;cases e;exact ⟨n,t,rfl,rfl⟩
   | succ j=>rw [X2] at e;exact ih r2 j u e
theorem zju:MtM X "list.index" rIndex:=by
 intro O s σ H x P v L Q I C J h;obtain ⟨l,G,z,j,rfl,rfl,w,K,k,g,q⟩:=h;cases C;obtain ⟨u,rfl,B⟩:=J.one;obtain ⟨t,rfl⟩:=B;obtain ⟨M,d,n,r,N,e⟩:=I.lstM w;have lt:j < d.length:=by rw [<-r.length,M0];exact (List.getElem?_eq_some_iff.mp k).1
 let ev:Value->Bool:=λ y=>match y with | .str a _=>a == z|_=>false
 have i :∀m (g:m < d.toArray.size),∃y c,G[m]? = some y/\d.toArray[m]=B7 y c:=λ m g=>zli r m _ ((K0 (show m < d.length by simpa using g)).trans (by simp));refine j10 F.slot_list_index ⟨_,e,rfl⟩ F.entry_list_index (F.args_list_index_2 _ _) (SeqAt.list_indexAt l d.toArray n none #[] (.str z t) ev j (by simpa using lt) ?_ ?_ ?_) ⟨e,λ y D=>?_,?_⟩
 ·have:=(List.getElem?_eq_some_iff.mp k).1;have:(j:Int) < 1000:=by omega
  exact Int.lt_trans this (by decide)
 ·obtain ⟨y,c,f,b⟩:=i j (by simpa using lt);rw [b];rw [k] at f;cases f;exact beq_self_eq_true z
 ·intro m o E;obtain ⟨y,c,f,b⟩:=i m o;rw [b];refine beq_eq_false_iff_ne.mpr λ e=>g m E ?_;rw [f,e]
 ·obtain ⟨m,o,p⟩:=Array.mem_iff_getElem.mp D;obtain ⟨A,c,f,b⟩:=i m o;rw [b] at p;subst p;exact j2b A c z t
 ·exact ⟨.int (j:Nat),H,I.tok _,⟨_,rfl⟩,q⟩
theorem zbo {o e:Expr} {es:List Expr} {to:TE} {t:TA} {apos cpos:Pos} (ho:PE X o to) (ha:PA X (e :: es) t)
  (hbase:X5 o "index" X.env (L3 o X.env)=L3 o X.env:=by rfl)
  (hfew:((c5 cpos (F1 (e :: es) X.env)).all (λ x=>!x.1) && (j03 cpos (E7 [] X.env)).all (λ x=>x.1.isSome) && decide ((e :: es).length + ([]:List W6).length + (if ([]:List W6).isEmpty then 0 else 1) < 30))=true:=by rfl)
  (hline:(apos.endLine == cpos.line)=true:=by rfl) (hs:F1 (e :: es) X.env=(false,L3 e X.env) :: F1 es X.env:=by rfl) (hplain:(c5 cpos (F1 es X.env)).any (·.1)=false:=by rfl) :
  PE X (.Call (.Attribute o "index" apos) (e :: es) [] cpos) (tBM X.K "list" rIndex to t):=pe_bm b8 PySem.F.slot_list_index PySem.F.type_list_index zju ho ha hbase hfew hline hs hplain
end
theorem ze4 {K:j0} {a:Addr} {xs:List V} {H1:Hp} (hq:SqL K H1 a xs):RunsR Same (IteL K a) H1 xs.length (λ i v H=>∃x p,xs[i]? = some x/\v=.ref p/\H p=some (.tup [.int (i:Nat),x])):=by refine ⟨λ i b H s=>⟨xs,xs[i],s.seq hq,by simp [b]⟩,λ H s=>⟨xs,s.seq hq,rfl⟩,λ i b H v e s y=>?_⟩;obtain ⟨p,c,rfl,f⟩:=y;obtain ⟨x,d,rfl⟩:=f xs (s.seq hq);exact ⟨Same.upd c,x,p,d,rfl,upd_same⟩
end L2
set_option maxHeartbeats 1000000
namespace L2
open PySem PySem.Spec PyProof.Rows
section
variable {prog:Program} {w:j1} {A:V1} {E:Value->B0->Prop} {s:B0}
theorem zf8 {b:Bool} {S it l:Addr} {items:Array Value} (nsi:S≠it) (nsl:S≠l) (nil':it≠l) :∀(ms:List Int) (i:Nat) (ns:List Int) (A:V1) (R:j11->B0->Prop) (s:B0),A.handled=none->s.heap.IsListIter it l i->s.heap.IsList l items->
  D3 (items.toList.drop i) ms->SetAt prog w b s.heap S ns->ns.length + ms.length < scanBound->
  (∀h' tk ns',SetAt prog w b h' S ns'->ns'.Perm (ms.foldl addI ns)->(∀c o,c≠S->c≠it->s.heap.get? c=some o->h'.get? c=some o)->R (.ok (.ret .none)) { s with heap:=h',toks:=tk })->
  Q4 (v1 prog w) A (K6 "set.update.loop" { pos:=[.ref S,.ref it],kw:=[] }) R s
 | [],i,ns,A,R,s,hh,si,sl,al,dd,hz,q=>by
  have z:items[i]? = none:=by
   cases hd:items.toList.drop i with
   | nil=>have:=List.drop_eq_nil_iff.mp hd;rw [v2] at this;exact E3 this
   | cons u us=>rw [hd] at al;cases al
  refine F3 J6 ?_;show R0 _ _ (Z4 (.ref it) >>= _) _ _ s;refine c0 (M9 (show (A.under _).handled=none from hh) si sl z λ h' t=>?_);exact C0 (q h' s.toks ns (dd.at' λ o e=>t S o nsi e) (N4 _) λ c o _ G e=>t c o G e)
 | m :: ms,i,ns,A,R,s,hh,si,sl,al,dd,hz,q=>by
  cases hd:items.toList.drop i with
  | nil=>rw [hd] at al;cases al
  | cons u us=>
   rw [hd] at al;cases al with
   | cons _ tk al=>
    have E:items.toList[i]? = some (.int m tk):=by have:=congrArg (λ l=>l[0]?) hd;simpa using this
    have M:items[i]? = some (.int m tk):=by simpa using E
    have y:items.toList.drop (i + 1)=us:=by have:=congrArg j31 hd;simpa using this
    refine F3 J6 ?_;show R0 _ _ (Z4 (.ref it) >>= _) _ _ s;refine c0 (u9 si sl M λ j K h=>?_);have D:j.IsList l items:=by obtain ⟨o,d,a⟩:=sl;exact ⟨o,(h.2 l (N2 nil')).trans d,a⟩
    have I:SetAt prog w b j S ns:=dd.at' λ o e=>(h.2 S nsi).trans e;rw [y1] at hz;refine c0 (X1 (show R0 _ _ (setAdd S (.int m tk)) _ _ _ from ?_));unfold setAdd;refine X1 (c0 ((K5 prog w).pyHash (k:=m) (j40 prog w m tk) ?_));refine ziy (s:={ s with heap:=j,toks:=s.toks + 1 }) I (E1 (by omega) hz) λ c f n g C v=>?_;refine C0 ⟨zcz _,?_⟩;have x:f.IsListIter it l (i + 1):=by obtain ⟨o,d,a⟩:=K;exact ⟨o,(g.2 it (N2 nsi)).trans d,a⟩
    have J:f.IsList l items:=by obtain ⟨o,d,a⟩:=D;exact ⟨o,(g.2 l (N2 nsl)).trans d,a⟩
    have N:n.length<=ns.length + 1:=by rw [v.length_eq];exact zbv ns m
    refine zf8 nsi nsl nil' ms (i + 1) n A R { s with heap:=f,toks:=s.toks + 1 } hh x J (by rw [y];exact al) C (by omega) λ h' H ns' F L B=>q h' H ns' F (L.trans (z2s ms v)) λ c o r p e=>B c o r p ((g.2 c r).trans ((h.2 c p).trans e))
theorem zf9:j23 (.type "list") (.type "set")=G3 false:=by rw [T6];kernel_rfl
theorem ze5:j23 (.type "list") (.type "frozenset")=G3 false:=by rw [T6];kernel_rfl
theorem zcf {l:Addr} {items:Array Value} {ns:List Int} {Q:Value->B0->Prop} (hh:A.handled=none) (ht:s.heap.IsList l items) (hi:D3 items.toList ns) (hb:ns.length < scanBound)
  (h :∀h' tk ns',SetAt prog w (!w.params.followText "set-order") h' s.heap.objs.size ns'->ns'.Perm (ns.foldl addI [])->(∀b o,s.heap.get? b=some o->h'.get? b=some o)->Q (.ref s.heap.objs.size) { s with heap:=h',toks:=tk }) :
  R0 (v1 prog w) A (call (.type "set") [.ref l]) Q E s:=by
 obtain ⟨c,W,L⟩:=F.called_set.mro;have V:=F.called_set.made;have T:=F.called_set.sub;refine j3g (codeAny_of_tree (show R0 _ _ (callAny (.type "set") _) _ _ _ from C0 ⟨Code.quiet_builtin _ (by decide +kernel),F3 F.entry_type_call ?_⟩));rw [j4j (weight_type_call_type "set" [.ref l] []) rfl];have h1:=F.called_set.notType;have K:=F.called_set.canCreate;have N:=F.typeCall_set_1 (.ref l)
 (repeat (any_goals (first|assumption|wp_step)));refine L5 (zjb (.ref l) (E:=E) (Q₁:=λ p k=>p=.ref s.heap.objs.size/\k={ s with heap:=s.heap.push (set0 w) }) ⟨rfl,rfl⟩) λ r k a=>?_
 cases r with
 | error e=>exact a
 | ok fl=>
  cases fl with
  | next=>exact a.elim
  | brk=>exact a.elim
  | cont=>exact a.elim
  | ret p=>
   obtain ⟨rfl,rfl⟩:=a;have g:(s.heap.push (set0 w)).get? s.heap.objs.size=some (set0 w):=Q0 _ rfl;have H:j6 { s with heap:=s.heap.push (set0 w) } (.ref s.heap.objs.size) "set":=⟨_,g,rfl⟩
   have Y:=F.called_set.init.lookup;have Z:=F.called_set.init.bind (.ref s.heap.objs.size)
   (repeat (any_goals (first|assumption|wp_step)))
   have B:Q4 (v1 prog w) A.in1 (.call (.builtin "set.__init__") ⟨[.ref s.heap.objs.size,.ref l],[]⟩) (wants (λ r m=>r=.none/\Q (.ref s.heap.objs.size) m) E) { s with heap:=s.heap.push (set0 w) }:=by
    refine j01 F.called_set.init.plain F.entry_set_init (check_set_init_1 H ?_);obtain ⟨o,i,q,n,u⟩:=ht;obtain ⟨M,C,X,x⟩:=o;dsimp only at q u;subst q u;have I:(s.heap.push (set0 w)).get? l=some { cls:=.type "list",dict:=C,data:=.seq items n,slots:=x }:=D0 _ i;have R:=zf9;have P:=ze5;have O:(J3 "list" == J3 "dict")=false:=by decide
    have U:(s.heap.push (set0 w)).get? s.heap.objs.size=some { cls:=.type "set",dict:=none,data:=.set #[] 0 (.fresh 0 0 (!w.params.followText "set-order")),slots:=#[] }:=g;have v:(s.heap.push (set0 w)).IsList l items:=⟨_,I,rfl,n,rfl⟩
    have t:l < s.heap.objs.size:=L0 i;unfold S4.«set.__init__» noKeywords Y8;generalize hPI:j21=PI
    wp_walk
    subst hPI;refine R6 v (c0 (j3e ?_));have j :∀b o,s.heap.get? b=some o->((s.heap.push (set0 w)).push { cls:=.type "list_iterator",data:=.fields #[.ref l,.int 0 0] }).get? b=some o:=λ b o e=>D0 _ (D0 _ e);have f:(s.heap.push (set0 w)).objs.size=s.heap.objs.size + 1:=A2 _ _;refine zf8 (S:=s.heap.objs.size) (it:=(s.heap.push (set0 w)).objs.size) (l:=l) (items:=items) (by rw [f];exact X0 (C2 _)) (V2 t) (by rw [f];exact V2 (P1 t)) ns 0 [] _ _ _ (by simp [hh]) ⟨_,Q0 _ rfl,rfl,rfl⟩ ⟨_,j _ _ i,rfl,n,rfl⟩ (by rw [D4];exact hi) (zja (D0 _ g)) (by simpa using hb) λ h' tk ns' D J y=>?_;refine C0 (C0 ⟨rfl,h h' tk ns' D J λ b o e=>y b o (X0 (L0 e)) (by rw [f];exact X0 (P1 (L0 e))) (j b o e)⟩)
   refine L5 B λ G m d=>?_;cases G with
   | error e=>exact d
   | ok f2=>
    cases f2 with
    | next=>exact d.elim
    | brk=>exact d.elim
    | cont=>exact d.elim
    | ret r=>obtain ⟨rfl,z⟩:=d;exact C0 (C0 z)
end
theorem z6s {K:j0} {a:Addr} {xs:List V} {tl te:TE} {tc:TT} {g:TG} {m:Nat} {fr:List (Nat×Str)} {σ:L2.St} {H H1:Hp} {Q:VK} (p:Nat->Bool) (R:Nat->V->Hp->Prop) (hR :∀i y H H',Same H H'->R i y H->R i y H') (htl :∀R:VK,R (.ref a) H1->tl σ H R) (hq:SqL K H1 a xs) (hn:xs.length<=sizeLine)
  (body :∀i,i < xs.length->∀v H,Same H1 H->xs[i]? = some v->∀(KT:VK) (KF:Hp->Prop),(p i=true->∀y H',Same H H'->R i y H'->KT y H')->(p i=false->∀H',Same H H'->KF H')->
   g v (cStG σ fr (D2 m none)) H λ σ6 H6=>∃us,us.length=m/\σ6=cStG σ fr us/\tc (cStG σ fr us) H6 λ b H2=>if b=true then te (cStG σ fr us) H2 KT else KF H2)
  (hQ :∀l H' ys,Same H1 H'->H' l=none->All2 (λ i y=>R i y H') ((J1 xs.length).filter p) ys->Q (.ref l) (upd H' l (.lst ys))):tCompG (iList K tl) m fr g tc te σ H Q:=
 htl _ ⟨a,rfl,⟨xs,hq⟩,z2i (Same.refl _) (λ _ _ _ a b=>a.trans b) p R hR (z9p (S:=Same) (λ _ _=>Same.refl _) λ H s=>s.seq hq) hn body hQ⟩
theorem zi0 {K:j0} {a:Addr} {xs:List V} {ta:TA} {te:TE} {tc:TT} {g:TG} {m:Nat} {fr:List (Nat×Str)} {σ:L2.St} {H H1:Hp} {Q:VK} (p:Nat->Bool) (R:Nat->V->Hp->Prop) (hR :∀i y H H',Same H H'->R i y H->R i y H') (hta :∀T:List V->Hp->Prop,T [.ref a] H1->ta σ H T) (hq:SqL K H1 a xs) (hn:xs.length<=sizeLine)
  (body :∀i,i < xs.length->∀v H,Same H1 H->(∃x p,xs[i]? = some x/\v=.ref p/\H p=some (.tup [.int (i:Nat),x]))->∀(KT:VK) (KF:Hp->Prop),(p i=true->∀y H',Same H H'->R i y H'->KT y H')->(p i=false->∀H',Same H H'->KF H')->
   g v (cStG σ fr (D2 m none)) H λ σ6 H6=>∃us,us.length=m/\σ6=cStG σ fr us/\tc (cStG σ fr us) H6 λ b H2=>if b=true then te (cStG σ fr us) H2 KT else KF H2)
  (hQ :∀l H' ys,Same H1 H'->H' l=none->All2 (λ i y=>R i y H') ((J1 xs.length).filter p) ys->Q (.ref l) (upd H' l (.lst ys))):tCompG (ieL K ta) m fr g tc te σ H Q:=
 hta _ ⟨a,xs,rfl,hq,z2i (Same.refl _) (λ _ _ _ a b=>a.trans b) p R hR (ze4 hq) hn body hQ⟩
theorem z0z {K:j0} {a:Addr} {xs:List V} {tl te:TE} {tc:TT} {g:TG} {m:Nat} {fr:List (Nat×Str)} {σ:L2.St} {H H1:Hp} {Q:VK} (p:Nat->Bool) (R:Nat->V->Hp->Prop) (hR :∀i y H H',Same H H'->R i y H->R i y H') (htl :∀R:VK,R (.ref a) H1->tl σ H R) (hq:SqT K H1 a xs) (hn:xs.length<=sizeLine)
  (body :∀i,i < xs.length->∀v H,Same H1 H->xs[i]? = some v->∀(KT:VK) (KF:Hp->Prop),(p i=true->∀y H',Same H H'->R i y H'->KT y H')->(p i=false->∀H',Same H H'->KF H')->
   g v (cStG σ fr (D2 m none)) H λ σ6 H6=>∃us,us.length=m/\σ6=cStG σ fr us/\tc (cStG σ fr us) H6 λ b H2=>if b=true then te (cStG σ fr us) H2 KT else KF H2)
  (hQ :∀l H' ys,Same H1 H'->H' l=none->All2 (λ i y=>R i y H') ((J1 xs.length).filter p) ys->Q (.ref l) (upd H' l (.lst ys))):tCompG (iTup K tl) m fr g tc te σ H Q:=
 htl _ ⟨a,rfl,⟨xs,hq⟩,z2i (Same.refl _) (λ _ _ _ a b=>a.trans b) p R hR (zdf (S:=Same) (λ _ _=>Same.refl _) λ H s=>s.seqT hq) hn body hQ⟩
theorem e_cb1 {f:List V->Hp->VK->Prop} {te:TE} {σ:L2.St} {H:Hp} {Q:VK} (h:te σ H λ x H1=>f [x] H1 Q):tCB f (tCons te tNil) σ H Q:=h
theorem t_test {r:R2} {ta tb:TE} {σ:L2.St} {H:Hp} {Q:Bool->Hp->Prop} (h:ta σ H λ x H1=>tb σ H1 λ y H2=>r x y H2 λ x H3=>∃c,x=.bl c/\Q c H3):tTest (tOp r ta tb) σ H Q:=h
theorem t_or {t u:TT} {σ:L2.St} {H:Hp} {Q:Bool->Hp->Prop} (h:t σ H λ c H1=>if c=true then Q true H1 else u σ H1 Q):tOr t u σ H Q:=h
theorem sq_if {c:TT} {a b rest:TS} {D:Ends} {σ:L2.St} {H:Hp} (h:c σ H λ k H1=>if k=true then a { D with nx:=rest D } σ H1 else b { D with nx:=rest D } σ H1):tSeq (tIfS c a b) rest D σ H:=h
theorem sq_ret {te:TE} {D:Ends} {σ:L2.St} {H:Hp} (h:te σ H D.rt):tRet te D σ H:=h
end L2
set_option maxHeartbeats 400000
namespace L2
open PySem PySem.Spec PyProof.Rows
end L2
set_option maxHeartbeats 1000000
namespace L2
open PySem PySem.Spec PyProof.Rows
theorem z8b {te:TE} {σ:L2.St} {H:Hp} {Q:List V->Hp->Prop} (h:te σ H λ y H1=>Q [y] H1):tCons te tNil σ H Q:=h
section
variable {X:Cx}
noncomputable def rNeL0 (K:j0):R2:=λ x y H Q=>∃a b xs,x=.ref a/\y=.ref b/\SqL K H a xs/\SqL K H b []/\Q (.bl (decide (xs≠[]))) H
theorem zfz {k:Nat} (hr:Room k X.A):OpR X (P2 .NotEq) (rNeL0 X.K):=by
 intro C s σ H x y v u Q I l p h;obtain ⟨a,b,m,rfl,rfl,n,o,q⟩:=h;cases l;cases p;obtain ⟨B,c,f,_⟩:=I.list n;obtain ⟨D,i,d,_⟩:=I.list o;cases i;have g:X.A.units < cLine:=j0g (hu_of hr);have r:=c.length;cases m with
 | nil=>cases c;exact SeqAt.RcNeAt.lists (e:=λ _=>true) f.isList d.isList rfl g (λ j t _=>absurd t (C5 _)) X.prog X.w _ _ ⟨.bl _,H,I,rfl,q⟩
 | cons z zs=>refine SeqAt.RcNeAt.lists_lengths f.isList d.isList ?_ g X.prog X.w _ _ ⟨.bl _,H,I,rfl,q⟩;rw [V0,<-r];rfl
end
structure ZLAt (h:Heap) (z T U i j a b:Addr) (n:Nat) (f:Value):Prop where
 z:j1d h z T U f
 t:z8 h T (.ref i) (.ref j)
 u :∃p q,z8 h U p q
 i:h.IsListIter i a n
 j:h.IsListIter j b n
theorem ZApart.zip {z T U i j a b:Addr} (D:ZApart z T U i j a b):ZipApart z T U i j a b:=by obtain ⟨⟨t,v,k,f⟩,⟨e,g,l⟩,⟨q,s⟩,c⟩:=D.ne;obtain ⟨p,x,u,h,d⟩:=D.ofA;obtain ⟨m,w,r,n,o⟩:=D.ofB;exact ⟨t.symm,v.symm,k.symm,f.symm,e,g,l,q,s,c,p,u,h,d,m,r,n,o⟩
noncomputable def Itzl (K:j0) (a b:Addr):It:=
  ⟨λ i H=>∃xs ys x y,SqL K H a xs/\SqL K H b ys/\xs[i]? = some x/\ys[i]? = some y,
   λ i H v H'=>∃p,H p=none/\v=.ref p/\∀xs ys,SqL K H a xs->SqL K H b ys->∃x y,xs[i]? = some x/\ys[i]? = some y/\H'=upd H p (.tup [x,y]),
   λ i H=>∃xs ys,SqL K H a xs/\SqL K H b ys/\(xs.length<=i\/ys.length<=i)⟩
theorem zhr {P:Program} {w:j1} {K:j0} {elts:List Expr} {x1:Nat} {pos:Pos} {z T U i j a b:Addr} (D:ZApart z T U i j a b):Turn P w K (.Tuple elts x1 pos) (Itzl K a b) [z,T,U,i,j] z (λ n h=>ZLAt h z T U i j a b n .none) where
 mem:=by simp
 obj:=λ n h f c g=>by
  simp only [N0,x0,or_false] at g;rcases g with rfl|rfl|rfl|rfl|rfl
  ·exact ⟨_,f.z,λ v z=>by cases (show o9 _=Q6 v from z)⟩
  ·exact ⟨_,f.t,λ v z=>by cases (show j1i _ _=Q6 v from z)⟩
  ·obtain ⟨p,q,e⟩:=f.u;exact ⟨_,e,λ v z=>by cases (show j1i _ _=Q6 v from z)⟩
  ·obtain ⟨o,e,_,d⟩:=f.i;exact ⟨o,e,λ v z=>by rw [d] at z;cases z⟩
  ·obtain ⟨o,e,_,d⟩:=f.j;exact ⟨o,e,λ v z=>by rw [d] at z;cases z⟩
 keep:=λ n h Z f k=>by obtain ⟨p,q,e⟩:=f.u;obtain ⟨o,l,A⟩:=f.i;obtain ⟨W,L,J⟩:=f.j;exact ⟨k z (by simp) _ f.z,k T (by simp) _ f.t,⟨p,q,k U (by simp) _ e⟩,⟨o,k i (by simp) _ l,A⟩,⟨W,k j (by simp) _ L,J⟩⟩
 item:=by
  intro X Q hw R g n a3 s σ H E I F f N;subst Q hw R;obtain ⟨xs,ys,x,y,G,B,hx,hy⟩:=N;obtain ⟨ia,ra,Y,_⟩:=I.list G;obtain ⟨ib,M,V,_⟩:=I.list B;obtain ⟨u,hu,ru⟩:=ra.get hx;obtain ⟨v,hv,rv⟩:=M.get hy;obtain ⟨up,uq,S⟩:=f.u;refine wpAny_pyNext_zip_item D.zip f.z f.t S f.i f.j Y.isList V.isList (x:=u) (y:=v) (by simpa using hu) (by simpa using hv) λ Z c1 c2 c3 c4 pr _ C=>?_;have r:ZLAt Z z T U i j a b (n + 1) (F4 s.heap.objs.size):=⟨c1,C _ _ D.zip.TIz D.zip.TITO D.zip.TIi1 D.zip.TIi2 f.t,⟨_,_,c2⟩,c3,c4⟩
  refine ⟨_,rfl,j4a r.z λ h2 z2 m=>?_⟩;have nz:s.heap.objs.size≠z:=V2 (L0 f.z);have k2 :∀c o,c∉[z,T,U,i,j]->s.heap.get? c=some o->h2.get? c=some o:=λ c o g e=>by simp only [N0,x0,or_false,not_or] at g;exact m.extBut _ _ g.1 (C c o g.1 g.2.2.1 g.2.2.2.1 g.2.2.2.2 e)
  have a0:z8 h2 s.heap.objs.size u v:=m.extBut _ _ nz pr;have fr:H s.heap.objs.size=none:=I.hok.fresh (F0 _);refine ⟨.ref s.heap.objs.size,upd H s.heap.objs.size (.tup [x,y]),I.turnedLaid (t':=s.toks) k2 F (F0 _) ⟨w_2,[u,v],.cons ru (.cons rv .nil),⟨_,a0,rfl,_,rfl⟩,_,a0,rfl⟩,rfl,⟨_,fr,rfl,λ a5 a6 a2 a4=>⟨x,y,?_,?_,rfl⟩⟩,?_,λ c g=>?_⟩
  ·rw [I.list_inj a2 G];exact hx
  ·rw [I.list_inj a4 B];exact hy
  ·obtain ⟨⟨zT,zU,zi,zj⟩,_⟩:=D.ne;obtain ⟨p,q,e⟩:=r.u;obtain ⟨o,l,A⟩:=r.i;obtain ⟨W,L,J⟩:=r.j;exact ⟨z2,m.extBut _ _ zT.symm r.t,⟨p,q,m.extBut _ _ zU.symm e⟩,⟨o,m.extBut _ _ zi.symm l,A⟩,⟨W,m.extBut _ _ zj.symm L,J⟩⟩
  ·have a1:c < s.heap.objs.size:=by
    simp only [N0,x0,or_false] at g;rcases g with rfl|rfl|rfl|rfl|rfl
    ·exact L0 f.z
    ·exact L0 f.t
    ·obtain ⟨p,q,e⟩:=f.u;exact L0 e
    ·obtain ⟨o,l,A⟩:=f.i;exact L0 l
    ·obtain ⟨o,l,A⟩:=f.j;exact L0 l
   rw [upd_ne (X0 a1)];exact (F c g).1
 done:=by
  intro X Q hw R g n a3 s σ H E I F f N;subst Q hw R;obtain ⟨xs,ys,G,B,O⟩:=N;obtain ⟨ia,ra,Y,_⟩:=I.list G;obtain ⟨ib,M,V,_⟩:=I.list B;have la:=ra.length;have lb:=M.length;obtain ⟨up,uq,S⟩:=f.u;refine wpAny_pyNext_zip_end (I.ok.hd g) D.zip f.z f.t S f.i f.j Y.isList V.isList ?_ λ Z C=>⟨rfl,I.turnedL (t':=s.toks) (λ c o g e=>?_) F⟩
  ·rcases O with O|O
   ·left;simp;omega
   ·right;simp;omega
  ·simp only [N0,x0,or_false,not_or] at g;exact C c o g.1 g.2.2.1 g.2.2.2.1 g.2.2.2.2 e
 self:=λ _ _ _ _ _ f h=>c9 f.z h
section
variable {X:Cx}
noncomputable def iZipS (K:j0) (ta:TA):TI:=λ σ H R=>ta σ H λ vs H1=>∃a b xs ys,vs=[.ref a,.ref b]/\((SqT K H1 a xs/\SqT K H1 b ys/\R (Itz K a b) H1)\/(SqL K H1 a xs/\SqL K H1 b ys/\R (Itzl K a b) H1))
theorem zkr {elts:List Expr} {x1:Nat} {tpos:Pos} {e f:Expr} {ta:TA} {p pos:Pos} (hg:Gl X "zip") (hm:X.mg "zip" = none) (ha:PA X [e,f] ta) (hs:F1 [e,f] X.env=[(false,L3 e X.env),(false,L3 f X.env)]:=by rfl) (hs2:F1 [f] X.env=[(false,L3 f X.env)]:=by rfl) :
  PI X (.Tuple elts x1 tpos) (.Call (.Name "zip" p) [e,f] [] pos) (iZipS X.K ta):=by
 intro x s σ H R I h;refine Call_ (ld_blt I hg hm boot_zip (j3 (thn (ha pos x s σ H _ I h) λ T d ⟨vs,H1,I1,r1,q1⟩=>?_) (by rw [hs,hs2]) (by rw [hs2];rfl)));obtain ⟨a,b,S,Q,J,q⟩:=q1;subst J;obtain ⟨u,v,rfl,E,L⟩:=vals2 r1;cases (show u=C1 a from E);cases (show v=C1 b from L);have C :∀c,c∈[d.heap.objs.size + 4,d.heap.objs.size + 2,d.heap.objs.size + 3,d.heap.objs.size,d.heap.objs.size + 1]->FpOk X x H1 c:=λ c A=>by
  have B:d.heap.objs.size<=c:=by
   simp only [N0,x0,or_false] at A;rcases A with rfl|rfl|rfl|rfl|rfl
   ·exact C4 _ _
   ·exact C4 _ _
   ·exact C4 _ _
   ·exact F0 _
   ·exact C4 _ _
  exact I1.fpOk B (I1.hok.fresh B)
 rcases q with ⟨n,j,q⟩|⟨n,j,q⟩
 ·obtain ⟨r,O,i,_⟩:=I1.tuple n;obtain ⟨y,D,g,_⟩:=I1.tuple j;have k:a < d.heap.objs.size:=by obtain ⟨o,e,_⟩:=id i;exact L0 e
  have m:b < d.heap.objs.size:=by obtain ⟨o,e,_⟩:=id g;exact L0 e
  refine zlp (show d.heap.IsTuple a r.toArray from i) (show d.heap.IsTuple b y.toArray from g) λ M w l=>c9 w.z ?_;exact ⟨_,_,_,_,H1,rfl,I1.kept (t':=d.toks) l,zjw (zApart k m),w,C,q⟩
 ·obtain ⟨r,O,i,_⟩:=I1.list n;obtain ⟨y,D,g,_⟩:=I1.list j;have k:a < d.heap.objs.size:=by obtain ⟨o,e,_⟩:=i.isList;exact L0 e
  have m:b < d.heap.objs.size:=by obtain ⟨o,e,_⟩:=g.isList;exact L0 e
  refine call_zip_2 i.isList g.isList λ M t G F P N _ l=>c9 t ?_;exact ⟨_,_,_,_,H1,rfl,I1.kept (t':=d.toks) l,zhr (zApart k m),⟨t,G,⟨_,_,F⟩,P,N⟩,C,q⟩
theorem zk8 {K:j0} {a b:Addr} {xs ys:List V} {g:TG} {tb:TS} {D:Ends} {σ:St} {H:Hp} (Pv:Nat->St->Hp->Prop) (h0:Pv 0 σ H) (hl :∀i σ H,Pv i σ H->SqL K H a xs/\SqL K H b ys) (hlen:xs.length=ys.length)
  (hs :∀i x y σ H p,xs[i]? = some x->ys[i]? = some y->Pv i σ H->H p=none->g (.ref p) σ (upd H p (.tup [x,y])) λ σ2 H2=>tb { D with nx:=Pv (i + 1),ct:=Pv (i + 1),bk:=D.nx } σ2 H2) (hd :∀σ H,Pv xs.length σ H->D.nx σ H) :
  ∃W:Nat->Nat->St->Hp->Prop,(∃m,W 0 m σ H)/\∀i m σ H,W i m σ H->
   ((Itzl K a b).stop i H/\D.nx σ H)\/((Itzl K a b).go i H/\∃N:St->Hp->Prop,(∀σ' H',N σ' H'->∃m',m' < m/\W (i + 1) m' σ' H')/\∀x H',(Itzl K a b).yld i H x H'->g x σ H' λ σ2 H2=>tb { D with nx:=N,ct:=N,bk:=D.nx } σ2 H2):=by
 refine ⟨λ i m σ H=>m=xs.length - i/\i<=xs.length/\Pv i σ H,⟨xs.length,by simp,d3 _,h0⟩,?_⟩;rintro i m σ H ⟨rfl,hi,p⟩;obtain ⟨d,c⟩:=hl i σ H p;by_cases hlt:i < xs.length
 ·have q:i < ys.length:=by omega
  refine .inr ⟨⟨xs,ys,xs[i],ys[i],d,c,by simp [hlt],by simp [q]⟩,Pv (i + 1),λ σ' H' l=>⟨xs.length - (i + 1),by omega,rfl,hlt,l⟩,λ v H' y=>?_⟩;obtain ⟨t,k,rfl,f⟩:=y;obtain ⟨h,j,o,n,rfl⟩:=f xs ys d c;exact hs i h j σ H t o n p k
 ·have e:i=xs.length:=by omega
  subst e;exact .inl ⟨⟨xs,ys,d,c,.inl (F0 _)⟩,hd σ H p⟩
end
end L2
namespace L2
open PySem PySem.Spec PyProof.Rows PySem.NumText
end L2
namespace L2
open PySem PySem.Spec PyProof.Rows
end L2
open PySem PySem.W PyProof.Rows
set_option maxHeartbeats 4000000
namespace TJ
section
variable (p:Program) (w:j1) (n₀:Nat) (ann:Option Value) (code:Code) (q:Pos)
theorem zi5 {n m:Nat} :∀{s s' s'':B0} {t t' t'':j46},segGo K3 p w n₀ ann 1 n s t=some (s',t')->segGo K3 p w n₀ ann 1 m s' t'=some (s'',t'')->
  segGo K3 p w n₀ ann 1 (n + m) s t=some (s'',t''):=by
 induction n with
 | zero=>
  intro s s' s'' t t' t'' h k;obtain ⟨rfl,rfl⟩:s=s'/\t=t':=by simpa [segGo] using h
  rw [j4];exact k
 | succ n ih=>
  intro s s' s'' t t' t'' h k;rw [show n + 1 + m=n + m + 1 by omega];unfold segGo at h⊢;cases he:endAt 1 t with
  | some f=>rw [he] at h;cases h
  | none=>
   rw [he] at h;cases hk:stepOk n₀ ann t with
   | false=>rw [hk] at h;cases h
   | true=>
    rw [hk] at h;cases hs:step (denote K3) p w s t with
    | halt o s₂=>rw [hs] at h;cases h
    | go s₂ t₂=>rw [hs] at h;exact ih h k
def Steps (c:Nat) (s:B0) (t:j46) (s':B0) (t':j46):Prop:=∃n,n<=c/\segGo K3 p w n₀ ann 1 n s t=some (s',t')
def Goes {α:Type} (c:Nat) (x:Sem α) (s:B0) (pos:Pos) (a:α) (s':B0) (pos':Pos):Prop:=
 ∀(K:α->Sem Fin) (H:Value->Sem Fin) (gd:Bool->Bool) (lv:List Value->List Value),
  Steps p w n₀ ann c s ⟨x.wrap K H gd lv,code,pos,[topFrame q]⟩ s' ⟨K a,code,pos',[topFrame q]⟩
end
section
variable {p:Program} {w:j1} {n₀:Nat} {ann:Option Value} {code:Code} {q:Pos}
theorem Steps.trans {c d:Nat} {s s' s'':B0} {t t' t'':j46} (h:Steps p w n₀ ann c s t s' t') (k:Steps p w n₀ ann d s' t' s'' t''):Steps p w n₀ ann (c + d) s t s'' t'':=by obtain ⟨n,b,h⟩:=h;obtain ⟨m,a,k⟩:=k;exact ⟨n + m,by omega,zi5 p w n₀ ann h k⟩
theorem Steps.refl {s:B0} {t:j46}:Steps p w n₀ ann 0 s t s t:=⟨0,F0 _,rfl⟩
theorem Steps.le {c d:Nat} {s s':B0} {t t':j46} (h:Steps p w n₀ ann c s t s' t') (l:c<=d):Steps p w n₀ ann d s t s' t':=let ⟨n,a,b⟩:=h;⟨n,G0 a l,b⟩
theorem Steps.one {s s':B0} {t t':j46} (he:endAt 1 t=none) (hk:stepOk n₀ ann t=true) (hs:step (denote K3) p w s t=.go s' t'):Steps p w n₀ ann 1 s t s' t':=by refine ⟨1,F0 _,?_⟩;unfold segGo;rw [he,hk,hs];rfl
variable {α β:Type} {s s' s'':B0} {pos pos' pos'':Pos} {a:α} {b:β} {c d:Nat}
theorem Goes.pure:Goes p w n₀ ann code q 0 (j30 a:Sem α) s pos a s pos:=λ _ _ _ _=>.refl
theorem Goes.le {x:Sem α} (h:Goes p w n₀ ann code q c x s pos a s' pos') (l:c<=d):Goes p w n₀ ann code q d x s pos a s' pos':=λ K H b e=>(h K H b e).le l
theorem Goes.bind {x:Sem α} {f:α->Sem β} (h:Goes p w n₀ ann code q c x s pos a s' pos') (k:Goes p w n₀ ann code q d (f a) s' pos' b s'' pos''):Goes p w n₀ ann code q (c + d) (x >>= f) s pos b s'' pos'':=by
 intro K H i g;have e:(x >>= f).wrap K H i g=x.wrap (λ a=>(f a).wrap K H i g) H i g:=by rw [Sem.bind_eq_wrap',Sem.wrap_wrap];rfl
 rw [e];exact (h _ H i g).trans (k K H i g)
theorem Goes.keep {x:Sem α} {vs:List Value} (h:Goes p w n₀ ann code q c x s pos a s' pos'):Goes p w n₀ ann code q c (x.keep vs) s pos a s' pos':=by intro K H b d;rw [Sem.keep_eq_wrap,Sem.wrap_wrap];exact h K H _ _
theorem Goes.holding {x:Sem α} {vs:List Value} (h:Goes p w n₀ ann code q c x s pos a s' pos'):Goes p w n₀ ann code q c (j0a vs x) s pos a s' pos':=by rw [holding_eq_keep];exact h.keep
theorem Goes.rule {tag:String}:Goes p w n₀ ann code q 1 (PySem.rule tag) s pos () s pos:=λ _ _ _ _=>.one rfl rfl rfl
theorem Goes.at' {pos₁:Pos}:Goes p w n₀ ann code q 1 (j34 pos₁) s pos () s pos₁:=λ _ _ _ _=>.one rfl rfl rfl
theorem Goes.loadPart {A:Addr} {o:Obj} {part:Option Value} (ho:s.heap.get? A=some o):Goes p w n₀ ann code q 1 (loadPart A part) s pos o s pos:=λ K H e a=>.one rfl rfl (by obtain ⟨heap,c,d,b,f⟩:=s;show (match heap.get? A with|some o=>Step.go _ _|none=>_)=_;have ho:heap.get? A=some o:=ho;rw [ho];rfl)
theorem Goes.updatePart {A:Addr} {o:Obj} {f:Obj->Obj} {part:Option Value} (ho:s.heap.get? A=some o) (hn:Nat.ble n₀ A=true):Goes p w n₀ ann code q 1 (updatePart A part f) s pos () { s with heap:=s.heap.update A f } pos:=λ K H e a=>
 .one rfl (by
  show (_ && (Nat.ble n₀ A || _ || _ || _))=true;rw [hn];rfl) (by
  obtain ⟨heap,c,d,b,g⟩:=s;have ho:heap.get? A=some o:=ho;show (if (heap.get? A).isSome=true then Step.go _ _ else _)=_;rw [ho];rfl)
theorem Goes.leaf {x:Sem α} {sT sT':SharedT} (n:Nat) (h :∀K H gd lv,segGoT K3 p w n₀ ann 1 n sT ⟨x.wrap K H gd lv,code,pos,[topFrame q]⟩=some (sT',⟨K a,code,pos',[topFrame q]⟩)) :
  Goes p w n₀ ann code q n x sT.abs pos a sT'.abs pos':=λ K H gd lv=>⟨n,F0 _,segGo_of (h K H gd lv)⟩
end
end TJ
open PySem PySem.W PyProof.Rows
namespace TJ
section
variable {p:Program} {w:j1} {n₀:Nat} {ann:Option Value} {code:Code} {q:Pos} {s:B0} {pos:Pos}
theorem Goes.forIn {γ β:Type} {c:Nat} {f:γ->β->Sem (ForInStep β)} {b:β} :∀{l:List γ},(∀x∈l,Goes p w n₀ ann code q c (f x b) s pos (.yield b) s pos)->Goes p w n₀ ann code q (l.length * c) (ForIn.forIn l b f) s pos b s pos
 | [],_=>by rw [P7];exact Goes.pure.le (d3 _)
 | x :: l,h=>by rw [i7];have k:=Goes.forIn (l:=l) λ y a=>h y (D1 _ a);have e:=Goes.bind (f:=λ r=>match r with | .done b=>(j30 b:Sem β) | .yield b=>ForIn.forIn l b f) (h x B1) k;exact e.le (by rw [y1,Nat.add_mul];omega)
theorem Goes.entries {d:Addr} {o:Obj} {es:Array DictEntry} {ep:Nat} {part:Option Value} (ho:s.heap.get? d=some o) (hd:o.data=.dict es ep):Goes p w n₀ ann code q 1 (dictEntries d part) s pos es s pos:=by unfold dictEntries;refine (Goes.bind (d:=0) (Goes.loadPart ho) ?_);rw [hd];exact Goes.pure
theorem Goes.epoch {d:Addr} {o:Obj} {es:Array DictEntry} {ep:Nat} {part:Option Value} (ho:s.heap.get? d=some o) (hd:o.data=.dict es ep):Goes p w n₀ ann code q 1 (dictEpoch d part) s pos ep s pos:=by unfold dictEpoch;refine (Goes.bind (d:=0) (Goes.loadPart ho) ?_);rw [hd];exact Goes.pure
theorem Goes.mayTell {a:Addr} {stored:List Value} {cq:Nat} (hq:Goes p w n₀ ann code q cq (N6 8 (.ref a)) s pos true s pos) (hs :∀v∈stored,Goes p w n₀ ann code q cq (N6 8 v) s pos true s pos) :
  Goes p w n₀ ann code q (cq + stored.length * cq) (tableMayTell (.ref a) stored) s pos false s pos:=by
 unfold tableMayTell;split
 ·exact Goes.pure.le (d3 _)
 ·refine Goes.bind hq ?_;simp only [Bool.not_true,Bool.false_eq_true,if_false];refine (Goes.bind (a:=(none,())) (d:=0) (Goes.forIn λ v b=>?_) ?_).le (F0 _)
  ·refine (Goes.bind (d:=0) (hs v b) ?_).le (F0 _);simp only [Bool.not_true,Bool.false_eq_true,if_false];exact Goes.pure
  ·exact Goes.pure
theorem Goes.find_none {d a:Addr} {o:Obj} {es:Array DictEntry} {ep:Nat} {h:Int} {cq ce:Nat} (ho:s.heap.get? d=some o) (hd:o.data=.dict es ep)
  (hq:Goes p w n₀ ann code q cq (N6 8 (.ref a)) s pos true s pos)
  (hk :∀e∈es.toList,∃b,e.key=.ref b/\b≠a/\Goes p w n₀ ann code q cq (N6 8 (.ref b)) s pos true s pos/\Goes p w n₀ ann code q ce (eqBool (.ref b) (.ref a)) s pos false s pos) :
  Goes p w n₀ ann code q (2 + cq + es.size * (cq + ce + 10)) (dictFind d (.ref a) h) s pos none s pos:=by
 have m :∀(i:Nat) (e:DictEntry),es[i]? = some e->e∈es.toList:=λ i e y=>Array.mem_toList_iff.mpr (Array.mem_of_getElem? y);have x:¬ (es.any λ e=>e.key == C1 a && e.hash != h)=true:=by rw [<-Array.any_toList,F8];rintro ⟨e,hin,hc⟩;obtain ⟨b,f,g,_⟩:=hk e hin;simp only [f,u3,beq_iff_eq,Value.ref.injEq] at hc;exact g hc.1
 have n :∀v∈(S6 es.size (λ i=>es[i]?.map (·.hash)) h).filterMap (λ i=>es[i]?.map (·.key)),∃b,v=.ref b/\b≠a/\Goes p w n₀ ann code q cq (N6 8 v) s pos true s pos:=by
  intro v k;obtain ⟨i,_,j⟩:=List.mem_filterMap.mp k;cases hei:es[i]? with
  | none=>rw [hei] at j;cases j
  | some e=>
   rw [hei] at j;obtain rfl:e.key=v:=by simpa using j
   obtain ⟨b,f,g,B,_⟩:=hk e (m i e hei);exact ⟨b,f,g,f ▸ B⟩
 have l:(S6 es.size (λ i=>es[i]?.map (·.hash)) h).length<=es.size:=by unfold S6;exact G0 (G2 _ _) (by rw [Z1];exact F0 _)
 have u:((S6 es.size (λ i=>es[i]?.map (·.hash)) h).filterMap (λ i=>es[i]?.map (·.key))).length<=es.size:=G0 (j2f _ _) l;unfold dictFind;refine Goes.holding ?_;refine (Goes.bind (d:=1 + cq + es.size * (cq + ce + 10)) (Goes.entries ho hd) ?_).le (by omega);dsimp only;rw [if_neg (show ¬ ((C1 a :: (S6 es.size (λ i=>es[i]?.map (·.hash)) h).filterMap (λ i=>es[i]?.map (·.key))).all carriedByValue)=true by simp [carriedByValue])];rw [if_neg x];have t:¬ (((S6 es.size (λ i=>es[i]?.map (·.hash)) h).filterMap (λ i=>es[i]?.map (·.key))) == [C1 a])=true:=by intro e;have e:=eq_of_beq e;obtain ⟨b,f,g,_⟩:=n (.ref a) (by rw [e];exact List.mem_singleton.mpr rfl);exact g (by injection f with f;exact f.symm)
 rw [if_neg t];refine (Goes.bind (d:=1 + es.size * (ce + 10)) (Goes.mayTell hq λ v k=>(let ⟨_,_,_,z⟩:=n v k;z)) ?_).le ?_
 ·rw [if_neg (by simp)];refine (Goes.bind (a:=(none,none)) (d:=0) (Goes.forIn (c:=ce + 10) λ i j=>?_) ?_).le ?_
  ·cases hei:es[i]? with
   | none=>exact Goes.pure.le (d3 _)
   | some e=>
    dsimp only;split
    ·obtain ⟨b,f,g,_,r⟩:=hk e (m i e hei);rw [f];refine (Goes.bind (d:=ce + 2) (Goes.epoch ho hd) (Goes.bind (d:=2) r (Goes.bind (d:=1) (Goes.epoch ho hd) ?_))).le (by omega);rw [if_neg (by simp)];rw [if_neg (by simp)];refine Goes.bind (d:=0) Goes.rule ?_;rw [if_neg (by simp)];exact Goes.pure
    ·exact Goes.pure.le (d3 _)
  ·exact Goes.pure
  ·have:=D9 (ce + 10) l;omega
 ·have:=D9 cq u;have A:es.size * (cq + ce + 10)=es.size * cq + es.size * (ce + 10):=by rw [<-Nat.mul_add,Nat.add_assoc]
  rw [A];omega
end
end TJ
open PySem PySem.W PyProof.Rows
namespace TJ
noncomputable abbrev dObj (es:Array DictEntry) (ep:Nat):Obj:={ cls:=.type "dict",data:=.dict es ep }
noncomputable abbrev KV3:=Addr×Value×Int
noncomputable def ent (x:KV3):DictEntry:=⟨x.2.2,.ref x.1,x.2.1⟩
noncomputable def unh (a:Addr):Sem Value:=do rule "hash.unhashable";raiseError "TypeError" s!"unhashable type: '{← typeNameOf (.ref a)}'"
noncomputable def zd5 (d:Addr) (vs:List (Value×Value)):Sem PUnit:=forIn vs P9 λ (x:Value×Value) (_:PUnit)=>(do j36 d x.1 x.2;G3 (v4 P9):Sem (ForInStep PUnit))
section
variable {p:Program} {w:j1} {n₀:Nat} {ann:Option Value} {code:Code} {q:Pos} {pos:Pos} {F:Obj->Nat->SharedT} {d:Addr}
structure Fam (n₀:Nat) (d:Addr) (F:Obj->Nat->SharedT):Prop where
 le:Nat.ble n₀ d=true
 get :∀es ep tk,(F (dObj es ep) tk).abs.heap.get? d=some (dObj es ep)
 upd :∀es ep tk (e:DictEntry),({ (F (dObj es ep) tk).abs with heap:=(F (dObj es ep) tk).abs.heap.update d (Z8 (·.push e)) }:B0)=(F (dObj (es.push e) (ep + 1)) tk).abs
theorem Goes.updKeys (Z:Fam n₀ d F) {es:Array DictEntry} {ep tk:Nat} {e:DictEntry} {part:Option Value} (hsz:es.size < sizeLine) :
  Goes p w n₀ ann code q 3 (updateDictKeys d (·.push e) part) (F (dObj es ep) tk).abs pos () (F (dObj (es.push e) (ep + 1)) tk).abs pos:=by
 unfold updateDictKeys;refine (Goes.bind (d:=2) (Goes.loadPart (Z.get es ep tk)) ?_);dsimp only;have u:=Goes.updatePart (p:=p) (w:=w) (ann:=ann) (code:=code) (q:=q) (pos:=pos) (part:=part) (f:=Z8 (·.push e)) (Z.get es ep tk) Z.le;rw [Z.upd es ep tk e] at u;refine Goes.bind (d:=1) u ?_;unfold lookBehind;refine Goes.bind (d:=0) (Goes.loadPart (Z.get _ _ tk)) ?_;have a:(dObj (es.push e) (ep + 1)).data.pastItsLine=none:=by unfold Data.pastItsLine;dsimp only;rw [if_neg (by rw [Array.size_push];omega)]
 rw [a];exact Goes.pure
theorem Goes.set (Z:Fam n₀ d F) {a:Addr} {v:Value} {es:Array DictEntry} {ep tk k cp cq ce:Nat} {hsh:Int} (hsz:es.size < sizeLine)
  (hpy:Goes p w n₀ ann code q cp (pyHash (.ref a)) (F (dObj es ep) tk).abs pos hsh (F (dObj es ep) (tk + k)).abs pos)
  (hq:Goes p w n₀ ann code q cq (N6 8 (.ref a)) (F (dObj es ep) (tk + k)).abs pos true (F (dObj es ep) (tk + k)).abs pos)
  (hk :∀e∈es.toList,∃b,e.key=.ref b/\b≠a/\Goes p w n₀ ann code q cq (N6 8 (.ref b)) (F (dObj es ep) (tk + k)).abs pos true (F (dObj es ep) (tk + k)).abs pos/\
   Goes p w n₀ ann code q ce (eqBool (.ref b) (.ref a)) (F (dObj es ep) (tk + k)).abs pos false (F (dObj es ep) (tk + k)).abs pos) :
  Goes p w n₀ ann code q (cp + (2 + cq + es.size * (cq + ce + 10)) + 4) (j36 d (.ref a) v) (F (dObj es ep) tk).abs pos () (F (dObj (es.push ⟨hsh,.ref a,v⟩) (ep + 1)) (tk + k)).abs pos:=by
 unfold j36;refine Goes.holding ?_;refine (Goes.bind (d:=(2 + cq + es.size * (cq + ce + 10)) + 4) hpy ?_).le (by omega);unfold dictSetHashed;refine Goes.holding ?_;refine Goes.bind (d:=4) (Goes.find_none (h:=hsh) (Z.get es ep (tk + k)) rfl hq hk) ?_;exact Goes.bind (d:=3) Goes.rule (Goes.updKeys Z hsz)
theorem zl5 {γ β:Type} {f:γ->β->Sem (ForInStep β)} {x:γ} {xs:List γ} {b b' b'':β} {c c':Nat} {s s' s'':B0} (h:Goes p w n₀ ann code q c (f x b) s pos (.yield b') s' pos) (k:Goes p w n₀ ann code q c' (forIn xs b' f) s' pos b'' s'' pos) :
  Goes p w n₀ ann code q (c + c') (forIn (x :: xs) b f) s pos b'' s'' pos:=by
 rw [i7];exact Goes.bind (f:=λ r=>match r with | .done b=>(j30 b:Sem β) | .yield b=>forIn xs b f) h k
theorem Goes.loop (Z:Fam n₀ d F) {cp cq ce N:Nat} (all:List KV3) (hN:all.length<=N) (hN':N < sizeLine) (hnd:(all.map (·.1)).Nodup)
  (hQ :∀x∈all,∀oD tk,Goes p w n₀ ann code q cq (N6 8 (.ref x.1)) (F oD tk).abs pos true (F oD tk).abs pos)
  (hE:all.Pairwise λ x y=>∀oD tk,Goes p w n₀ ann code q ce (eqBool (.ref x.1) (.ref y.1)) (F oD tk).abs pos false (F oD tk).abs pos)
  (hH :∀x∈all,∀oD tk,Goes p w n₀ ann code q cp (pyHash (.ref x.1)) (F oD tk).abs pos x.2.2 (F oD (tk + 3)).abs pos) :
  ∀(todo done:List KV3) (tk:Nat),all=done++todo->
   Goes p w n₀ ann code q (todo.length * (cp + (2 + cq + N * (cq + ce + 10)) + 4)) (zd5 d (todo.map λ x=>(C1 x.1,x.2.1)))
    (F (dObj (done.map ent).toArray done.length) tk).abs pos () (F (dObj (all.map ent).toArray all.length) (tk + 3 * todo.length)).abs pos:=by
 intro todo;induction todo with
 | nil=>intro done tk e;rw [W2] at e;subst e;unfold zd5;rw [C7,P7];exact Goes.pure.le (d3 _)
 | cons x todo ih=>
  intro done tk e;have h:x∈all:=by rw [e];exact G1 _ B1
  have c:=ih (done++[x]) (tk + 3) (by rw [e,M5];rfl);unfold zd5 at c⊢;rw [A1];have g:(done.map ent).toArray.size<=N:=by rw [V0,M0];rw [e,S0] at hN;omega
  have f:=Goes.set (p:=p) (w:=w) (ann:=ann) (code:=code) (q:=q) (pos:=pos) (v:=x.2.1) (ep:=done.length) Z (E1 g hN') (hH x h _ tk) (hQ x h _ _) (es:=(done.map ent).toArray) (ce:=ce) (by
   intro s n;obtain ⟨y,a,rfl⟩:=List.mem_map.mp n;have l:y∈all:=by rw [e];exact a7 _ a
   have k:y.1≠x.1:=by rw [e,j2,A1] at hnd;intro q;exact (List.nodup_append.mp hnd).2.2 y.1 (List.mem_map.mpr ⟨y,a,rfl⟩) x.1 B1 q
   rw [e] at hE;exact ⟨y.1,rfl,k,hQ y l _ _,(List.pairwise_append.mp hE).2.2 y a x B1 _ _⟩)
  have r:((done.map ent).toArray.push ⟨x.2.2,.ref x.1,x.2.1⟩)=((done++[x]).map ent).toArray:=by rw [List.push_toArray,j2];rfl
  have j:done.length + 1=(done++[x]).length:=by rw [S0];rfl
  rw [r,j] at f;have m:tk + 3 * (x :: todo).length=(tk + 3) + 3 * todo.length:=by rw [y1];omega
  rw [m];have i:Goes p w n₀ ann code q (_ + 0) (do j36 d (C1 x.1,x.2.1).1 (C1 x.1,x.2.1).2;j30 (v4 P9):Sem (ForInStep PUnit)) _ pos (v4 P9) _ pos:=Goes.bind f Goes.pure;have o:=zl5 (b:=P9) (xs:=todo.map λ x=>(C1 x.1,x.2.1)) i c;refine o.le ?_;rw [y1,Nat.add_mul];have:=D9 (cq + ce + 10) g;omega
noncomputable def zc0 (acc:Nat):Int:=if acc == 2 ^ 64 - 1 then 1546275796 else if acc < 2 ^ 63 then acc else (acc:Int) - (2 ^ 64:Nat)
theorem z8e (acc:Nat) (h:acc < 2 ^ 64):-(2:Int) ^ 63<=zc0 acc/\zc0 acc < 2 ^ 63:=by
 unfold zc0;split
 ·constructor<;>decide
 ·split
  ·constructor<;>omega
  ·constructor<;>omega
theorem z7s (hs:List Int):-(2:Int) ^ 63<=A0 hs/\A0 hs < 2 ^ 63:=
 z8e _ (Nat.mod_lt _ (by decide))
theorem Goes.pyHashT {a:Addr} {s s':B0} {hs:List Int} {tok:Tok} (h1:Goes p w n₀ ann code q 1 (cRoomFor "hash" [.ref a]) s pos () s pos)
  (h2:Goes p w n₀ ann code q 1 (specialOf (.ref a) "__hash__") s pos (some (.builtin "tuple.__hash__")) s pos)
  (h3:Goes p w n₀ ann code q 22 (F7 (.ref a) "__hash__" (unh a)) s pos (some (.int (A0 hs) tok)) s' pos) :
  Goes p w n₀ ann code q 25 (pyHash (.ref a)) s pos (K1 (A0 hs)) s' pos:=by
 have e:pyHash (.ref a)=pyHashByItsType (.ref a):=rfl;rw [e];unfold pyHashByItsType;refine Goes.bind (d:=24) h1 ?_;refine Goes.bind (d:=23) h2 ?_;rw [if_neg (by rw [beq_builtin_none];exact U0)];refine Goes.bind (d:=22) h2 ?_;show Goes p w n₀ ann code q 22 (F7 (.ref a) "__hash__" (unh a) >>= _) s pos _ s' pos;refine Goes.bind (d:=0) h3 ?_;have r:(decide (-(2:Int) ^ 63<=A0 hs) && decide (A0 hs < 2 ^ 63))=true:=by have r:=z7s hs;rw [decide_eq_true r.1,decide_eq_true r.2];rfl
 show Goes p w n₀ ann code q 0 (if (decide (-(2:Int) ^ 63<=A0 hs) && decide (A0 hs < 2 ^ 63))=true then _ else _) s' pos _ s' pos;have b:K1 (A0 hs)=(if (A0 hs == -1)=true then -2 else A0 hs):=by unfold K1;rw [if_pos r]
 rw [if_pos r,b];exact Goes.pure
theorem Goes.subDict {pairs:List (Sem Value×Sem Value)} {s s₁ s':B0} {vs:List (Value×Value)} {c c':Nat} {d:Addr} (hlen:pairs.length<=15) (hd:s.heap.objs.size=d)
  (h1:Goes p w n₀ ann code q c (evalPairs pairs) { s with heap:=s.heap.push { cls:=.type "dict",data:=.dict #[] } } pos vs s₁ pos)
  (h2:Goes p w n₀ ann code q c' (zd5 d vs) s₁ pos () s' pos):Goes p w n₀ ann code q (1 + (c + c')) (subDict pairs) s pos d s' pos:=by
 subst hd;unfold PySem.subDict;refine Goes.bind (a:=s.heap.objs.size) (λ _ _ _ _=>.one rfl rfl rfl) ?_;refine (Goes.bind (d:=0) (a:=()) (Goes.holding ?_) Goes.pure);rw [if_pos hlen];refine Goes.bind h1 ?_;exact Goes.holding (Goes.bind (d:=0) h2 Goes.pure)
theorem Goes.execs1 {st:Stmt} {env:Env} {s s':B0} {pos':Pos} {c:Nat} (h:Goes p w n₀ ann code q c (exec st env) s pos .next s' pos'):Goes p w n₀ ann code q c (execs [st] env) s pos .next s' pos':=by rw [execs_cons];exact Goes.bind (d:=0) h Goes.pure
theorem Goes.seg {l:List Stmt} {env:Env} {s s':B0} {pos':Pos} {c:Nat} (h:Goes p w n₀ ann code q c (execs l env) s pos .next s' pos') :∃n,n<=c + 1/\segRun K3 p w n₀ ann 1 n s (piecesOf l env code pos [topFrame q])=some (.next,s',code,pos'):=by obtain ⟨n,a,h⟩:=h doneF deadEnd id id;exact ⟨n + 1,by omega,seg_go h rfl⟩
end
theorem zkf {p q:Program} {loose:List Str} {Xt:B0->Bool} {α:Type} {Yf:B0->α} {Ya:j1->α} {N:Nat} {H₀:J0->Heap} {gs₀:Array GenState} {d₀:Drawn} {k₀ m₀:Nat} {ann:Option Value} {S:j1->A3->B0}
  (opens :∀w:j1,(fencedOpening K3 p w N).map (λ s=>(s.heap,s.gens,s.drawn,s.toks))=some (H₀ w.params,gs₀,d₀,k₀))
  (sizes :∀w:j1,(((H₀ w.params).isNs O0 && gs₀.size == 0),(H₀ w.params).objs.size,(H₀ w.params).nsMap O0 "__annotations__")=(true,m₀,ann))
  (runs :∀(w:j1) (os:A3),∃M,M<=N/\topRun K3 p w m₀ ann M ⟨H₀ w.params,gs₀,d₀,k₀,os⟩ (topStub p)=some (S w os))
  (looks1 :∀(w:j1) (os:A3),(staticsOk (U7 p.main.body) (H₀ w.params) (S w os).heap && namesBound p (S w os).heap && gensDone (S w os) && laidKept (H₀ w.params) (S w os).heap)=true)
  (looks2 :∀(w:j1) (os:A3),openSeen q loose (U7 p.main.body) Xt true (S w os)=openGood q loose) (looks3 :∀(w:j1) (os:A3),Yf (S w os)=Ya w):LeftO p q loose Xt Yf Ya N:=by
 intro w;obtain ⟨⟨h,f,g,k,os⟩,e,a⟩:=Option.map_eq_some_iff.mp (opens w);simp only [Prod.mk.injEq] at a;obtain ⟨rfl,rfl,rfl,rfl⟩:=a;have z:=sizes w;simp only [Prod.mk.injEq] at z;obtain ⟨c,d,i⟩:=z;obtain ⟨M,b,r⟩:=runs w os;have r:=topRun_mono (N - M) _ _ _ _ r;rw [Nat.add_sub_cancel' b] at r;have t:topFrom K3 p w N ⟨H₀ w.params,f,g,k,os⟩=some (S w os):=by unfold topFrom;dsimp only;rw [c,d,i,r];show (match (staticsOk (U7 p.main.body) (H₀ w.params) (S w os).heap && namesBound p (S w os).heap && gensDone (S w os) && laidKept (H₀ w.params) (S w os).heap) with|true=>some (S w os)|false=>none)=_;rw [looks1 w os]
 unfold openEnds;rw [e];show (topFrom K3 p w N _).map _=_;rw [t];show some (_,_)=some (_,_);rw [looks2 w os,looks3 w os]
theorem zga {p:Program} {w:j1} {n₀:Nat} {ann:Option Value} {env:Env} {q:Pos} {c N:Nat} {s s' r:B0} {l rest:List Stmt} {b:Code} {pos pos':Pos} (h:Goes p w n₀ ann b q c (execs l env) s pos .next s' pos')
  (k:topRun K3 p w n₀ ann N s' (restOf rest env b pos' [topFrame q])=some r) :∃M,M<=c + 1 + N/\topRun K3 p w n₀ ann M s (restOf (l++rest) env b pos [topFrame q])=some r:=by
 obtain ⟨n,a,g⟩:=Goes.seg h;exact ⟨n + N,by omega,piece_app g k⟩
end TJ
open PySem PySem.Spec PyProof.Rows
namespace L2
noncomputable abbrev fnX (x q:Str) (s:Stmt) (m:Str) (k c:Nat):FuncData:=C6 x q (z9w s) (z72 s) (z06 s) .none .none .none (.str m k) none (.ref c) .none
noncomputable abbrev fY (x q:Str) (s:Stmt):=fnX x q s "law_talejudge_k53_what_may_be_next" 685
noncomputable abbrev fO (x q:Str) (s:Stmt) (m:Str) (k c:Nat):Obj:=⟨.type "function",none,.func (fnX x q s m k c),#[]⟩
noncomputable abbrev fL (x q:Str) (s:Stmt):=fO x q s "law_talejudge_k53_what_may_be_next" 685
noncomputable abbrev cO (x q:Str) (i l n a j:Nat):Obj:=
 ⟨.type "code",none,.fields #[.str x i,.str q (i + 1),.str "/claim/cut.py" (i + 2),.int l 0,.int n 0,.int 0 0,.int 0 0,.int 3 0,.ref a,.bool true,.int 181 0,.ref (a + 1),.none,.ref (a + 2),.ref (a + 3),.ref (a + 4),.int j 0,.int l 0,.str "/claim/cut.py" (j + 1)],#[]⟩
noncomputable abbrev cP (x q:Str) (i l n a j:Nat):Obj:=
 ⟨.type "code",none,.fields #[.str x i,.str q (i + 1),.str "/claim/cut.py" (i + 2),.int l 0,.int n 0,.int 0 0,.int 0 0,.int 3 0,.ref a,.bool true,.int 181 0,.ref (a + 1),.none,.none,.none,.ref (a + 2),.int j 0,.int l 0,.str "/claim/cut.py" (j + 1)],#[]⟩
noncomputable abbrev kR (P:J0) (x:Str) (i a:Nat):DictEntry:=⟨o0 P x,.str x i,.ref a⟩
section
variable {P:Program} {w:j1} {K:j0} {mg:Str->Option Value} {base:Heap} {x q:Str} {st:Stmt} {f:Addr} {fd:FuncData} {k:Nat} {ps:List Str} {sp:Sp}
theorem z0d {m:Str} {i c:Nat} (l:K.lookup f=some (fO x q st m i c):=by kernel_rfl) (hc:V8 K (.ref c) q=true:=by kernel_rfl) (hk:Q3 K (.ref f)=true:=by kernel_rfl):Fun K x q st f (fnX x q st m i c):=fun_mk l hc hk
theorem cal_mk (T:TX K mg) (F:Fun K x q st f fd) (g:P0 K O0 x=some (some (.ref f))) (b:Binds K fd ps []) (G:FnOk P w K mg base CX0 k f fd ps sp):Cal P w K mg base x ps k sp:=⟨⟨f,fd,G,T.of g,F.kp,b⟩⟩
end
section
variable {p:List Value->Prop}
theorem us1 (h :∀a,p [a]) :∀us:List Value,us.length=1->p us | [a],_=>h a
theorem us2 (h :∀a b,p [a,b]) :∀us:List Value,us.length=2->p us | [a,b],_=>h a b
theorem us3 (h :∀a b c,p [a,b,c]) :∀us:List Value,us.length=3->p us | [a,b,c],_=>h a b c
theorem us4 (h :∀a b c d,p [a,b,c,d]) :∀us:List Value,us.length=4->p us | [a,b,c,d],_=>h a b c d
theorem us6 (h :∀a b c d e f,p [a,b,c,d,e,f]) :∀us:List Value,us.length=6->p us | [a,b,c,d,e,f],_=>h a b c d e f
end
end L2
set_option maxHeartbeats 1000000
namespace L2
open PySem PySem.Spec PyProof.Rows
section
variable {X:Cx}
noncomputable def rEqL0 (K:j0):R2:=λ x y H Q=>∃a b xs,x=.ref a/\y=.ref b/\SqL K H a xs/\SqL K H b []/\Q (.bl (decide (xs=[]))) H
theorem zgi {k:Nat} (hr:Room k X.A):OpR X (P2 .Eq) (rEqL0 X.K):=by
 intro C s σ H x y v u Q I l p h;obtain ⟨a,b,m,rfl,rfl,n,o,q⟩:=h;cases l;cases p;obtain ⟨B,c,f,_⟩:=I.list n;obtain ⟨D,i,d,_⟩:=I.list o;cases i;have g:X.A.units < cLine:=j0g (hu_of hr);have r:=c.length;cases m with
 | nil=>cases c;exact SeqAt.RcAt.lists (e:=λ _=>true) f.isList d.isList rfl g (λ j t _=>absurd t (C5 _)) X.prog X.w _ _ ⟨.bl _,H,I,rfl,q⟩
 | cons z zs=>refine SeqAt.RcAt.lists_lengths f.isList d.isList ?_ g X.prog X.w _ _ ⟨.bl _,H,I,rfl,q⟩;rw [V0,<-r];rfl
theorem z1d:CallR X (.builtin "isinstance") (λ xs H Q=>∃a ys,xs=[.ref a,.ty "tuple"]/\SqT X.K H a ys/\Q (.bl true) H):=by intro k s σ H xs j Q I r h;obtain ⟨a,ys,rfl,f,q⟩:=h;obtain ⟨u,e,rfl,d,g⟩:=vals2 r;cases (show e=J3 "tuple" from g);cases (show u=C1 a from d);obtain ⟨l,_,p,_⟩:=I.tuple f;obtain ⟨o,i,b,_⟩:=p;exact C3 j47 I.kIn ⟨o,i,b⟩ (kit_of X.K (T:="tuple") (by simp) (C:="tuple") (by decide)) (λ z=>nomatch z) λ c=>⟨.bl _,H,I.tok c,rfl,q⟩
end
noncomputable def tSSetL (K:j0) (te:TE):TE:=λ σ H Q=>te σ H λ x H1=>∃(a:Addr) (ns:List Int),x=.ref a/\SqL K H1 a (ns.map V.int)/\ns.length < 64/\srt (ns.foldl addI []) H1 Q
section
variable {X:Cx}
theorem zad {e:Expr} {te:TE} {p1 p2 c1 c2:Pos} (hcalm:X.calm=true) (g1:Gl X "sorted") (m1:X.mg "sorted" = none) (g2:Gl X "set") (m2:X.mg "set" = none) (b1:R4 "sorted" = some (.builtin "sorted")) (b2:R4 "set" = some (.type "set")) (ha:PE X e te)
  (he:F1 [e] X.env=[(false,L3 e X.env)]:=by rfl):PE X (.Call (.Name "sorted" p1) [.Call (.Name "set" p2) [e] [] c2] [] c1) (tSSetL X.K te):=by
 intro y s σ H Q I h;have j:X.A.handled=none:=I.ok.hd hcalm;refine P3 (ld_blt I g1 m1 b1 ?_ (by decide) (by decide));refine A6 ?_ rfl rfl;refine (show R0 _ _ (j35 ((false,L3 (.Call (.Name "set" p2) [e] [] c2) X.env) :: [])) _ _ s from m5 ?_);refine P3 (ld_blt I g2 m2 b2 ?_ (by decide) (by decide));refine j3 ?_ he rfl;rw [he];refine (show R0 _ _ (j35 ((false,L3 e X.env) :: [])) _ _ s from m5 (thn (ha y s σ H _ I h) λ u C ⟨x,H1,I1,r1,a,ns,ex,sq,hl,q⟩=>?_));subst ex;cases r1;refine F5 ?_;obtain ⟨N,B,D,J⟩:=I1.list sq;refine zcf j D.isList (by simpa using z4f B) (K7 hl (by decide)) λ k l t v c m=>F5 ?_;have f:t.length < 64:=by rw [c.length_eq];have:=z22 ns [];rw [m3,j4] at this;omega
 have E:(ns.foldl addI []).length < 64:=by rw [<-c.length_eq];exact f
 refine zaj (s:={ C with heap:=k,toks:=l }) j v f λ M O G d L F e n w g i p r=>?_;exact zck (I1.drew d) E q (λ b o z=>n b o (m b o z)) w g i (p.trans c) r
end
end L2
set_option maxHeartbeats 0
namespace K53
open PySem PySem.W PyProof.Rows TJ L2
noncomputable abbrev PX:Program:=PySem.Challenge.pw_talejudge_k53_what_may_be_next
noncomputable abbrev annX:Option Value:=some (.ref 6)
noncomputable def tp (a b:Str) (t:Nat):Obj:={ cls:=.type "tuple",data:=.seq #[.str a t,.str b (t + 1)] 0 }
noncomputable def tups:List Obj:=[tp "register" "read" 391,tp "register" "write" 393,tp "counter" "read" 395,tp "counter" "add" 397,tp "queue" "put" 399,tp "queue" "take" 401,tp "set" "put" 403,tp "set" "cut" 405,tp "set" "has" 407,tp "cell" "read" 409,tp "cell" "write" 411,tp "cell" "swap" 413]
noncomputable def insAll:List Obj->Nat->BT->BT
 | [],_,t=>t
 | x :: r,n,t=>insAll r (n + 1) (t.ins n x)
noncomputable def treeD (P:J0) (oD:Obj):BT:=insAll tups 153 ((K53.pre.tree_169 P).ins 152 oD)
noncomputable def FX (w:j1) (os:A3) (oD:Obj) (tk:Nat):SharedT:=⟨treeD w.params oD,165,{},⟨[]⟩,{},tk,os⟩
noncomputable abbrev cdX:Code:=.body (behindTheImports PX) K53.pre.env_1
noncomputable abbrev qX:Pos:=⟨0,0,0,0⟩
noncomputable abbrev BX:List Frame:=[topFrame qX]
noncomputable abbrev GX {α:Type} (w:j1) (c:Nat) (x:Sem α) (s:B0) (pos:Pos) (a:α) (s':B0) (pos':Pos):Prop:=Goes PX w 11 annX cdX qX c x s pos a s' pos'
def LX (n:Nat) {α:Type} (x:Sem α) (w:j1) (pos:Pos) (s:A3->Obj->Nat->SharedT) (a:Nat->α) (s':A3->Obj->Nat->SharedT) (pos':Pos):Prop:=
 ∀(os:A3) (oD:Obj) (tk:Nat) (K:α->Sem j0f) (H:Value->Sem j0f) (gd:Bool->Bool) (lv:List Value->List Value),
  PySem.W.Fast.tw10295753902157049106 J8 PX w 11 annX 1 n (s os oD tk) ⟨x.wrap K H gd lv,cdX,pos,BX⟩=some (s' os oD tk,⟨K (a tk),cdX,pos',BX⟩)
theorem LX.goes {n:Nat} {α:Type} {x:Sem α} {w:j1} {pos pos':Pos} {s s':A3->Obj->Nat->SharedT} {a:Nat->α} (h:LX n x w pos s a s' pos') (os:A3) (oD:Obj) (tk:Nat):GX w n x (s os oD tk).abs pos (a tk) (s' os oD tk).abs pos':=by refine Goes.leaf n λ K H c b=>?_;have e:=h os oD tk K H c b;rw [<-PySem.W.Fast.te10295753902157049106,<-S5] at e;exact e
noncomputable abbrev stay (w:j1):A3->Obj->Nat->SharedT:=FX w
noncomputable abbrev plus3 (w:j1):A3->Obj->Nat->SharedT:=λ os oD tk=>FX w os oD (tk + 3)
theorem qtH (a:Addr) (h :∀(w:j1) (pos:Pos),LX 3 (PySem.W.Fast.tw13066428366354244818 8 (.ref a)) w pos (stay w) (λ _=>true) (stay w) pos:=by intro w pos os oD tk K H gd lv;kernel_rfl) (w:j1) (pos:Pos):LX 3 (N6 8 (.ref a)) w pos (stay w) (λ _=>true) (stay w) pos:=by rw [PySem.W.Fast.te13066428366354244818];exact h w pos
noncomputable def qt0:=qtH 153
noncomputable def qt1:=qtH 154
noncomputable def qt2:=qtH 155
noncomputable def qt3:=qtH 156
noncomputable def qt4:=qtH 157
noncomputable def qt5:=qtH 158
noncomputable def qt6:=qtH 159
noncomputable def qt7:=qtH 160
noncomputable def qt8:=qtH 161
noncomputable def qt9:=qtH 162
noncomputable def qt10:=qtH 163
noncomputable def qt11:=qtH 164
theorem eqH (n:Nat) (a b:Addr) (hf :∀(w:j1) (pos:Pos),LX n (P5 (.ref a) (.ref b)) (w.withFollow "special-get-raises" false) pos (stay (w.withFollow "special-get-raises" false)) (λ _=>false) (stay (w.withFollow "special-get-raises" false)) pos:=by intro w pos os oD tk K H gd lv;kernel_rfl) (ht :∀(w:j1) (pos:Pos),LX n (P5 (.ref a) (.ref b)) (w.withFollow "special-get-raises" true) pos (stay (w.withFollow "special-get-raises" true)) (λ _=>false) (stay (w.withFollow "special-get-raises" true)) pos:=by intro w pos os oD tk K H gd lv;kernel_rfl) (w:j1) (pos:Pos):LX n (eqBool (.ref a) (.ref b)) w pos (stay w) (λ _=>false) (stay w) pos:=by rw [PySem.W.Fast.te13926502685295537346];exact byRow2 "special-get-raises" (P:=λ w=>LX n (P5 (.ref a) (.ref b)) w pos (stay w) (λ _=>false) (stay w) pos) (λ w=>hf w pos) (λ w=>ht w pos) w
noncomputable def eq0_1:=eqH 20 153 154
noncomputable def eq0_2:=eqH 16 153 155
noncomputable def eq0_3:=eqH 16 153 156
noncomputable def eq0_4:=eqH 16 153 157
noncomputable def eq0_5:=eqH 16 153 158
noncomputable def eq0_6:=eqH 16 153 159
noncomputable def eq0_7:=eqH 16 153 160
noncomputable def eq0_8:=eqH 16 153 161
noncomputable def eq0_9:=eqH 16 153 162
noncomputable def eq0_10:=eqH 16 153 163
noncomputable def eq0_11:=eqH 16 153 164
noncomputable def eq1_2:=eqH 16 154 155
noncomputable def eq1_3:=eqH 16 154 156
noncomputable def eq1_4:=eqH 16 154 157
noncomputable def eq1_5:=eqH 16 154 158
noncomputable def eq1_6:=eqH 16 154 159
noncomputable def eq1_7:=eqH 16 154 160
noncomputable def eq1_8:=eqH 16 154 161
noncomputable def eq1_9:=eqH 16 154 162
noncomputable def eq1_10:=eqH 16 154 163
noncomputable def eq1_11:=eqH 16 154 164
noncomputable def eq2_3:=eqH 20 155 156
noncomputable def eq2_4:=eqH 16 155 157
noncomputable def eq2_5:=eqH 16 155 158
noncomputable def eq2_6:=eqH 16 155 159
noncomputable def eq2_7:=eqH 16 155 160
noncomputable def eq2_8:=eqH 16 155 161
noncomputable def eq2_9:=eqH 16 155 162
noncomputable def eq2_10:=eqH 16 155 163
noncomputable def eq2_11:=eqH 16 155 164
noncomputable def eq3_4:=eqH 16 156 157
noncomputable def eq3_5:=eqH 16 156 158
noncomputable def eq3_6:=eqH 16 156 159
noncomputable def eq3_7:=eqH 16 156 160
noncomputable def eq3_8:=eqH 16 156 161
noncomputable def eq3_9:=eqH 16 156 162
noncomputable def eq3_10:=eqH 16 156 163
noncomputable def eq3_11:=eqH 16 156 164
noncomputable def eq4_5:=eqH 20 157 158
noncomputable def eq4_6:=eqH 16 157 159
noncomputable def eq4_7:=eqH 16 157 160
noncomputable def eq4_8:=eqH 16 157 161
noncomputable def eq4_9:=eqH 16 157 162
noncomputable def eq4_10:=eqH 16 157 163
noncomputable def eq4_11:=eqH 16 157 164
noncomputable def eq5_6:=eqH 16 158 159
noncomputable def eq5_7:=eqH 16 158 160
noncomputable def eq5_8:=eqH 16 158 161
noncomputable def eq5_9:=eqH 16 158 162
noncomputable def eq5_10:=eqH 16 158 163
noncomputable def eq5_11:=eqH 16 158 164
noncomputable def eq6_7:=eqH 20 159 160
noncomputable def eq6_8:=eqH 20 159 161
noncomputable def eq6_9:=eqH 16 159 162
noncomputable def eq6_10:=eqH 16 159 163
noncomputable def eq6_11:=eqH 16 159 164
noncomputable def eq7_8:=eqH 20 160 161
noncomputable def eq7_9:=eqH 16 160 162
noncomputable def eq7_10:=eqH 16 160 163
noncomputable def eq7_11:=eqH 16 160 164
noncomputable def eq8_9:=eqH 16 161 162
noncomputable def eq8_10:=eqH 16 161 163
noncomputable def eq8_11:=eqH 16 161 164
noncomputable def eq9_10:=eqH 20 162 163
noncomputable def eq9_11:=eqH 20 162 164
noncomputable def zkk:=eqH 20 163 164
theorem crH (a:Addr) (hf :∀(w:j1) (pos:Pos),LX 1 (Q5 "hash" [.ref a]) (w.withFollow "special-get-raises" false) pos (stay (w.withFollow "special-get-raises" false)) (λ _=>()) (stay (w.withFollow "special-get-raises" false)) pos:=by intro w pos os oD tk K H gd lv;kernel_rfl) (ht :∀(w:j1) (pos:Pos),LX 1 (Q5 "hash" [.ref a]) (w.withFollow "special-get-raises" true) pos (stay (w.withFollow "special-get-raises" true)) (λ _=>()) (stay (w.withFollow "special-get-raises" true)) pos:=by intro w pos os oD tk K H gd lv;kernel_rfl) (w:j1) (pos:Pos):LX 1 (cRoomFor "hash" [.ref a]) w pos (stay w) (λ _=>()) (stay w) pos:=by rw [PySem.W.Fast.te13383273872528276517];exact byRow2 "special-get-raises" (P:=λ w=>LX 1 (Q5 "hash" [.ref a]) w pos (stay w) (λ _=>()) (stay w) pos) (λ w=>hf w pos) (λ w=>ht w pos) w
theorem soH (a:Addr) (hf :∀(w:j1) (pos:Pos),LX 1 (Y5 (.ref a) "__hash__") (w.withFollow "special-get-raises" false) pos (stay (w.withFollow "special-get-raises" false)) (λ _=>some (.builtin "tuple.__hash__")) (stay (w.withFollow "special-get-raises" false)) pos:=by intro w pos os oD tk K H gd lv;kernel_rfl) (ht :∀(w:j1) (pos:Pos),LX 1 (Y5 (.ref a) "__hash__") (w.withFollow "special-get-raises" true) pos (stay (w.withFollow "special-get-raises" true)) (λ _=>some (.builtin "tuple.__hash__")) (stay (w.withFollow "special-get-raises" true)) pos:=by intro w pos os oD tk K H gd lv;kernel_rfl) (w:j1) (pos:Pos):LX 1 (specialOf (.ref a) "__hash__") w pos (stay w) (λ _=>some (.builtin "tuple.__hash__")) (stay w) pos:=by rw [PySem.W.Fast.te4214721358667687652];exact byRow2 "special-get-raises" (P:=λ w=>LX 1 (Y5 (.ref a) "__hash__") w pos (stay w) (λ _=>some (.builtin "tuple.__hash__")) (stay w) pos) (λ w=>hf w pos) (λ w=>ht w pos) w
theorem csH (a:Addr) (k l:Str) (hf :∀(w:j1) (pos:Pos),LX 22 (O5 (.ref a) "__hash__" (unh a)) (w.withFollow "special-get-raises" false) pos (stay (w.withFollow "special-get-raises" false)) (λ tk=>some (.int (A0 [o0 (w.withFollow "special-get-raises" false).params k,o0 (w.withFollow "special-get-raises" false).params l]) (tk + 2))) (plus3 (w.withFollow "special-get-raises" false)) pos:=by intro w pos os oD tk K H gd lv;kernel_rfl) (ht :∀(w:j1) (pos:Pos),LX 22 (O5 (.ref a) "__hash__" (unh a)) (w.withFollow "special-get-raises" true) pos (stay (w.withFollow "special-get-raises" true)) (λ tk=>some (.int (A0 [o0 (w.withFollow "special-get-raises" true).params k,o0 (w.withFollow "special-get-raises" true).params l]) (tk + 2))) (plus3 (w.withFollow "special-get-raises" true)) pos:=by intro w pos os oD tk K H gd lv;kernel_rfl) (w:j1) (pos:Pos):LX 22 (F7 (.ref a) "__hash__" (unh a)) w pos (stay w) (λ tk=>some (.int (A0 [o0 w.params k,o0 w.params l]) (tk + 2))) (plus3 w) pos:=by rw [PySem.W.Fast.te16697807410369149715];exact byRow2 "special-get-raises" (P:=λ w=>LX 22 (O5 (.ref a) "__hash__" (unh a)) w pos (stay w) (λ tk=>some (.int (A0 [o0 w.params k,o0 w.params l]) (tk + 2))) (plus3 w) pos) (λ w=>hf w pos) (λ w=>ht w pos) w
noncomputable def cr0:=crH 153
noncomputable def so0:=soH 153
noncomputable def cs0:=csH 153 "register" "read"
noncomputable def cr1:=crH 154
noncomputable def so1:=soH 154
noncomputable def cs1:=csH 154 "register" "write"
noncomputable def cr2:=crH 155
noncomputable def so2:=soH 155
noncomputable def cs2:=csH 155 "counter" "read"
noncomputable def cr3:=crH 156
noncomputable def so3:=soH 156
noncomputable def cs3:=csH 156 "counter" "add"
noncomputable def cr4:=crH 157
noncomputable def so4:=soH 157
noncomputable def cs4:=csH 157 "queue" "put"
noncomputable def cr5:=crH 158
noncomputable def so5:=soH 158
noncomputable def cs5:=csH 158 "queue" "take"
noncomputable def cr6:=crH 159
noncomputable def so6:=soH 159
noncomputable def cs6:=csH 159 "set" "put"
noncomputable def cr7:=crH 160
noncomputable def so7:=soH 160
noncomputable def cs7:=csH 160 "set" "cut"
noncomputable def cr8:=crH 161
noncomputable def so8:=soH 161
noncomputable def cs8:=csH 161 "set" "has"
noncomputable def cr9:=crH 162
noncomputable def so9:=soH 162
noncomputable def cs9:=csH 162 "cell" "read"
noncomputable def cr10:=crH 163
noncomputable def so10:=soH 163
noncomputable def cs10:=csH 163 "cell" "write"
noncomputable def cr11:=crH 164
noncomputable def so11:=soH 164
noncomputable def cs11:=csH 164 "cell" "swap"
noncomputable def allX (P:J0):List KV3:=[(153,(.ref 97),(K1 (A0 [o0 P "register",o0 P "read"]))),(154,(.ref 104),(K1 (A0 [o0 P "register",o0 P "write"]))),(155,(.ref 97),(K1 (A0 [o0 P "counter",o0 P "read"]))),(156,(.ref 111),(K1 (A0 [o0 P "counter",o0 P "add"]))),(157,(.ref 118),(K1 (A0 [o0 P "queue",o0 P "put"]))),(158,(.ref 125),(K1 (A0 [o0 P "queue",o0 P "take"]))),(159,(.ref 132),(K1 (A0 [o0 P "set",o0 P "put"]))),(160,(.ref 137),(K1 (A0 [o0 P "set",o0 P "cut"]))),(161,(.ref 144),(K1 (A0 [o0 P "set",o0 P "has"]))),(162,(.ref 97),(K1 (A0 [o0 P "cell",o0 P "read"]))),(163,(.ref 104),(K1 (A0 [o0 P "cell",o0 P "write"]))),(164,(.ref 151),(K1 (A0 [o0 P "cell",o0 P "swap"])))]
theorem zkl (w:j1) (os:A3) (pos:Pos):(allX w.params).Pairwise λ x y=>∀oD tk,GX w 20 (eqBool (.ref x.1) (.ref y.1)) (FX w os oD tk).abs pos false (FX w os oD tk).abs pos:=by
 unfold allX;refine
 .cons (λ y a oD tk=>(by
  revert y;simp only [W1,x0,false_implies,implies_true,and_true];exact ⟨(eq0_1 w pos).goes os oD tk |>.le (by decide),(eq0_2 w pos).goes os oD tk |>.le (by decide),(eq0_3 w pos).goes os oD tk |>.le (by decide),(eq0_4 w pos).goes os oD tk |>.le (by decide),(eq0_5 w pos).goes os oD tk |>.le (by decide),(eq0_6 w pos).goes os oD tk |>.le (by decide),(eq0_7 w pos).goes os oD tk |>.le (by decide),(eq0_8 w pos).goes os oD tk |>.le (by decide),(eq0_9 w pos).goes os oD tk |>.le (by decide),(eq0_10 w pos).goes os oD tk |>.le (by decide),(eq0_11 w pos).goes os oD tk |>.le (by decide)⟩))
  (.cons (λ y a oD tk=>(by
  revert y;simp only [W1,x0,false_implies,implies_true,and_true];exact ⟨(eq1_2 w pos).goes os oD tk |>.le (by decide),(eq1_3 w pos).goes os oD tk |>.le (by decide),(eq1_4 w pos).goes os oD tk |>.le (by decide),(eq1_5 w pos).goes os oD tk |>.le (by decide),(eq1_6 w pos).goes os oD tk |>.le (by decide),(eq1_7 w pos).goes os oD tk |>.le (by decide),(eq1_8 w pos).goes os oD tk |>.le (by decide),(eq1_9 w pos).goes os oD tk |>.le (by decide),(eq1_10 w pos).goes os oD tk |>.le (by decide),(eq1_11 w pos).goes os oD tk |>.le (by decide)⟩))
  (.cons (λ y a oD tk=>(by
  revert y;simp only [W1,x0,false_implies,implies_true,and_true];exact ⟨(eq2_3 w pos).goes os oD tk |>.le (by decide),(eq2_4 w pos).goes os oD tk |>.le (by decide),(eq2_5 w pos).goes os oD tk |>.le (by decide),(eq2_6 w pos).goes os oD tk |>.le (by decide),(eq2_7 w pos).goes os oD tk |>.le (by decide),(eq2_8 w pos).goes os oD tk |>.le (by decide),(eq2_9 w pos).goes os oD tk |>.le (by decide),(eq2_10 w pos).goes os oD tk |>.le (by decide),(eq2_11 w pos).goes os oD tk |>.le (by decide)⟩))
  (.cons (λ y a oD tk=>(by
  revert y;simp only [W1,x0,false_implies,implies_true,and_true];exact ⟨(eq3_4 w pos).goes os oD tk |>.le (by decide),(eq3_5 w pos).goes os oD tk |>.le (by decide),(eq3_6 w pos).goes os oD tk |>.le (by decide),(eq3_7 w pos).goes os oD tk |>.le (by decide),(eq3_8 w pos).goes os oD tk |>.le (by decide),(eq3_9 w pos).goes os oD tk |>.le (by decide),(eq3_10 w pos).goes os oD tk |>.le (by decide),(eq3_11 w pos).goes os oD tk |>.le (by decide)⟩))
  (.cons (λ y a oD tk=>(by
  revert y;simp only [W1,x0,false_implies,implies_true,and_true];exact ⟨(eq4_5 w pos).goes os oD tk |>.le (by decide),(eq4_6 w pos).goes os oD tk |>.le (by decide),(eq4_7 w pos).goes os oD tk |>.le (by decide),(eq4_8 w pos).goes os oD tk |>.le (by decide),(eq4_9 w pos).goes os oD tk |>.le (by decide),(eq4_10 w pos).goes os oD tk |>.le (by decide),(eq4_11 w pos).goes os oD tk |>.le (by decide)⟩))
  (.cons (λ y a oD tk=>(by
  revert y;simp only [W1,x0,false_implies,implies_true,and_true];exact ⟨(eq5_6 w pos).goes os oD tk |>.le (by decide),(eq5_7 w pos).goes os oD tk |>.le (by decide),(eq5_8 w pos).goes os oD tk |>.le (by decide),(eq5_9 w pos).goes os oD tk |>.le (by decide),(eq5_10 w pos).goes os oD tk |>.le (by decide),(eq5_11 w pos).goes os oD tk |>.le (by decide)⟩))
  (.cons (λ y a oD tk=>(by
  revert y;simp only [W1,x0,false_implies,implies_true,and_true];exact ⟨(eq6_7 w pos).goes os oD tk |>.le (by decide),(eq6_8 w pos).goes os oD tk |>.le (by decide),(eq6_9 w pos).goes os oD tk |>.le (by decide),(eq6_10 w pos).goes os oD tk |>.le (by decide),(eq6_11 w pos).goes os oD tk |>.le (by decide)⟩))
  (.cons (λ y a oD tk=>(by
  revert y;simp only [W1,x0,false_implies,implies_true,and_true];exact ⟨(eq7_8 w pos).goes os oD tk |>.le (by decide),(eq7_9 w pos).goes os oD tk |>.le (by decide),(eq7_10 w pos).goes os oD tk |>.le (by decide),(eq7_11 w pos).goes os oD tk |>.le (by decide)⟩))
  (.cons (λ y a oD tk=>(by
  revert y;simp only [W1,x0,false_implies,implies_true,and_true];exact ⟨(eq8_9 w pos).goes os oD tk |>.le (by decide),(eq8_10 w pos).goes os oD tk |>.le (by decide),(eq8_11 w pos).goes os oD tk |>.le (by decide)⟩))
  (.cons (λ y a oD tk=>(by
  revert y;simp only [W1,x0,false_implies,implies_true,and_true];exact ⟨(eq9_10 w pos).goes os oD tk |>.le (by decide),(eq9_11 w pos).goes os oD tk |>.le (by decide)⟩))
  (.cons (λ y a oD tk=>(by
  revert y;simp only [W1,x0,false_implies,implies_true,and_true];exact (zkk w pos).goes os oD tk |>.le (by decide)))
  (.cons (λ y a=>nomatch a)
  (W8))))))))))))
theorem allX_q (w:j1) (os:A3) (pos:Pos) :∀x∈allX w.params,∀oD tk,GX w 3 (N6 8 (.ref x.1)) (FX w os oD tk).abs pos true (FX w os oD tk).abs pos:=by unfold allX;simp only [W1,x0,false_implies,implies_true,and_true];exact ⟨λ oD tk=>(qt0 w pos).goes os oD tk,λ oD tk=>(qt1 w pos).goes os oD tk,λ oD tk=>(qt2 w pos).goes os oD tk,λ oD tk=>(qt3 w pos).goes os oD tk,λ oD tk=>(qt4 w pos).goes os oD tk,λ oD tk=>(qt5 w pos).goes os oD tk,λ oD tk=>(qt6 w pos).goes os oD tk,λ oD tk=>(qt7 w pos).goes os oD tk,λ oD tk=>(qt8 w pos).goes os oD tk,λ oD tk=>(qt9 w pos).goes os oD tk,λ oD tk=>(qt10 w pos).goes os oD tk,λ oD tk=>(qt11 w pos).goes os oD tk⟩
theorem allX_h (w:j1) (os:A3) (pos:Pos) :∀x∈allX w.params,∀oD tk,GX w 25 (pyHash (.ref x.1)) (FX w os oD tk).abs pos x.2.2 (FX w os oD (tk + 3)).abs pos:=by unfold allX;simp only [W1,x0,false_implies,implies_true,and_true];exact ⟨λ oD tk=>Goes.pyHashT ((cr0 w pos).goes os oD tk) ((so0 w pos).goes os oD tk) ((cs0 w pos).goes os oD tk),λ oD tk=>Goes.pyHashT ((cr1 w pos).goes os oD tk) ((so1 w pos).goes os oD tk) ((cs1 w pos).goes os oD tk),λ oD tk=>Goes.pyHashT ((cr2 w pos).goes os oD tk) ((so2 w pos).goes os oD tk) ((cs2 w pos).goes os oD tk),λ oD tk=>Goes.pyHashT ((cr3 w pos).goes os oD tk) ((so3 w pos).goes os oD tk) ((cs3 w pos).goes os oD tk),λ oD tk=>Goes.pyHashT ((cr4 w pos).goes os oD tk) ((so4 w pos).goes os oD tk) ((cs4 w pos).goes os oD tk),λ oD tk=>Goes.pyHashT ((cr5 w pos).goes os oD tk) ((so5 w pos).goes os oD tk) ((cs5 w pos).goes os oD tk),λ oD tk=>Goes.pyHashT ((cr6 w pos).goes os oD tk) ((so6 w pos).goes os oD tk) ((cs6 w pos).goes os oD tk),λ oD tk=>Goes.pyHashT ((cr7 w pos).goes os oD tk) ((so7 w pos).goes os oD tk) ((cs7 w pos).goes os oD tk),λ oD tk=>Goes.pyHashT ((cr8 w pos).goes os oD tk) ((so8 w pos).goes os oD tk) ((cs8 w pos).goes os oD tk),λ oD tk=>Goes.pyHashT ((cr9 w pos).goes os oD tk) ((so9 w pos).goes os oD tk) ((cs9 w pos).goes os oD tk),λ oD tk=>Goes.pyHashT ((cr10 w pos).goes os oD tk) ((so10 w pos).goes os oD tk) ((cs10 w pos).goes os oD tk),λ oD tk=>Goes.pyHashT ((cr11 w pos).goes os oD tk) ((so11 w pos).goes os oD tk) ((cs11 w pos).goes os oD tk)⟩
theorem famX (w:j1) (os:A3):Fam 11 152 (FX w os):=by
 have g :∀c,(treeD w.params c).get 152=some c:=λ c=>by kernel_rfl
 refine ⟨by decide,λ b a d=>abs_get (show 152 < 165 by decide) (g _),λ b a d e=>?_⟩;have u:(absHeap (treeD w.params (dObj b a)) 165 {}).update 152 (Z8 (·.push e))=absHeap (treeD w.params (dObj (b.push e) (a + 1))) 165 {}:=by
  rw [<-absHeap_set (g _)];have v:(treeD w.params (dObj b a)).set 152 (Z8 (·.push e))=treeD w.params (dObj (b.push e) (a + 1)):=by kernel_rfl
  rw [v]
 exact congrArg (λ h=>(⟨h,⟨[]⟩,{},d,os⟩:B0)) u
noncomputable def stD:Stmt:=(behindTheImports PX).getD 23 (.Pass ⟨0,0,0,0⟩)
noncomputable def sufX:List Stmt:=(behindTheImports PX).drop 24
theorem bodyX:behindTheImports PX=K53.pre.sts_7++(K53.pre.sts_61++(K53.pre.sts_80++(K53.pre.sts_104++([stD]++sufX)))):=by kernel_rfl
noncomputable def dKeys:Stmt->List (Option Expr)
 | .Assign _ (.Dict ks _ _) _=>ks
 | _=>[]
noncomputable def dVals:Stmt->List Expr
 | .Assign _ (.Dict _ vs _) _=>vs
 | _=>[]
noncomputable def dPos:Stmt->Pos
 | .Assign _ (.Dict _ _ p) _=>p
 | _=>⟨0,0,0,0⟩
noncomputable def sPos:Stmt->Pos
 | .Assign _ _ p=>p
 | _=>⟨0,0,0,0⟩
noncomputable abbrev p1X:Pos:=sPos stD
noncomputable abbrev p2X:Pos:=dPos stD
noncomputable abbrev p3X:Pos:=⟨50,0,50,5⟩
noncomputable def runX:List (Sem Value×Sem Value):=(((evalEachOpt (dKeys stD) K53.pre.env_1).zip ((evalEach (dVals stD) K53.pre.env_1).map λ v=>do let x <-v;j34 p2X;G3 x))).filterMap λ x=>x.1.map (·,x.2)
theorem stD_eq:stD=.Assign [.Name "DOERS" p3X] (.Dict (dKeys stD) (dVals stD) p2X) p1X:=by kernel_rfl
theorem evD:L3 (.Dict (dKeys stD) (dVals stD) p2X) K53.pre.env_1=(do j34 p2X;let r <-(do let x <-subDict runX;G3 (some x));match r with|some x=>G3 (C1 x)|none=>newDict):=by kernel_rfl
theorem swD:j8 (.Dict (dKeys stD) (dVals stD) p2X) (some (.Name "DOERS" p3X)) p1X.line K53.pre.env_1=G3 false:=by kernel_rfl
noncomputable def F0X (w:j1) (os:A3):SharedT:=⟨K53.pre.tree_169 w.params,152,{},⟨[]⟩,{},391,os⟩
noncomputable def F1X (w:j1) (os:A3):SharedT:=⟨(K53.pre.tree_169 w.params).ins 152 (dObj #[] 0),153,{},⟨[]⟩,{},391,os⟩
noncomputable def vsX:List (Value×Value):=[(.ref 153,(.ref 97)),(.ref 154,(.ref 104)),(.ref 155,(.ref 97)),(.ref 156,(.ref 111)),(.ref 157,(.ref 118)),(.ref 158,(.ref 125)),(.ref 159,(.ref 132)),(.ref 160,(.ref 137)),(.ref 161,(.ref 144)),(.ref 162,(.ref 97)),(.ref 163,(.ref 104)),(.ref 164,(.ref 151))]
theorem zh6 (w:j1):LX 84 (evalPairs runX) w p2X (λ os _ _=>F1X w os) (λ _=>vsX) (λ os _ _=>FX w os (dObj #[] 0) 415) p2X:=by rw [PySem.W.Fast.te1788576489739465902];exact λ os c a K H d b=>by kernel_rfl
noncomputable def F2X (w:j1) (os:A3) (oD:Obj) (tk:Nat):SharedT:=⟨(treeD w.params oD).set 3 (Obj.putName "DOERS" (o0 w.params "DOERS") (.str "DOERS" tk) (.ref 152)),165,{},⟨[]⟩,{},tk + 1,os⟩
theorem zhc (w:j1) (pos:Pos):LX 6 (bindName K53.pre.env_1 "DOERS" (.ref 152)) w pos (stay w) (λ _=>()) (λ os oD tk=>F2X w os oD tk) pos:=by
 rw [PySem.W.Fast.te7536695828754713326];exact byRow2 "special-get-raises" (P:=λ w=>LX 6 (PySem.W.Fast.tw7536695828754713326 K53.pre.env_1 "DOERS" (.ref 152)) w pos (stay w) (λ _=>()) (λ os oD tk=>F2X w os oD tk) pos)
  (λ w os oD tk K H a b=>by kernel_rfl) (λ w os oD tk K H a b=>by kernel_rfl) w
noncomputable abbrev oDX (P:J0):Obj:=dObj ((allX P).map ent).toArray 12
noncomputable abbrev S2X (w:j1) (os:A3):SharedT:=F2X w os (oDX w.params) 451
theorem stD_go (w:j1) (os:A3) (pos:Pos):GX w 100000 (exec stD K53.pre.env_1) (F0X w os).abs pos .next (S2X w os).abs p3X:=by
 rw [stD_eq,exec_Assign_Name _ _ _ _ _ swD];have l:=Goes.loop (p:=PX) (w:=w) (ann:=annX) (code:=cdX) (q:=qX) (pos:=p2X) (famX w os) (N:=12) (allX w.params) (show 12<=12 by decide) (by decide) (show ([153,154,155,156,157,158,159,160,161,162,163,164]:List Nat).Nodup by decide) (allX_q w os p2X) (zkl w os p2X) (allX_h w os p2X) (allX w.params) [] 415 rfl;have b:=(zh6 w).goes os (dObj #[] 0) 0;have d:GX w _ (subDict runX) (F0X w os).abs p2X 152 (FX w os (oDX w.params) 451).abs p2X:=
  Goes.subDict (by decide +kernel) (absHeap_size _ _ _) (show GX w _ (evalPairs runX) _ p2X vsX _ p2X from by
   have e:({ (F0X w os).abs with heap:=(F0X w os).abs.heap.push { cls:=.type "dict",data:=.dict #[] } }:B0)=(F1X w os).abs:=by have i:=absHeap_ins (t:=K53.pre.tree_169 w.params) (n:=152) (life:={}) (o:=dObj #[] 0) (by kernel_rfl);exact congrArg (λ h=>(⟨h,⟨[]⟩,{},391,os⟩:B0)) i.symm
   rw [e];exact b) l
 refine (Goes.bind Goes.at' (Goes.bind (a:=C1 152) (pos':=p2X) ?_ (Goes.bind Goes.at' (Goes.bind (f:=λ _=>G3 Flow.next) ((zhc w p3X).goes os (oDX w.params) 451) Goes.pure)))).le (c:=1 + (((1 + ((1 + (84 + 12 * (25 + (2 + 3 + 12 * (3 + 20 + 10)) + 4))) + 0 + 0)) + (1 + (6 + 0))))) (by decide);rw [evD];exact Goes.bind Goes.at' (Goes.bind (Goes.bind d Goes.pure) Goes.pure)
noncomputable abbrev pLX:Pos:=⟨378,0,388,97⟩
noncomputable def R3X (w:j1) (os:A3):Option (Flow×SharedT×Code×Pos):=PySem.W.Fast.tw10110043849684766642 J8 PX w 11 annX 1 1741 (S2X w os) ⟨(PySem.W.Fast.tw12563942051412417395 sufX K53.pre.env_1).wrap doneF deadEnd id id,cdX,p3X,BX⟩
noncomputable def S3X (w:j1) (os:A3):SharedT:=match R3X w os with|some r=>r.2.1|none=>S2X w os
theorem R3X_eq (w:j1) (os:A3):R3X w os=some (.next,S3X w os,cdX,pLX):=by kernel_rfl
theorem zkn (w:j1) (os:A3):segRun K3 PX w 11 annX 1 1741 (S2X w os).abs (piecesOf sufX K53.pre.env_1 cdX p3X BX)=some (.next,(S3X w os).abs,cdX,pLX):=by have e:=R3X_eq w os;unfold R3X at e;rw [<-PySem.W.Fast.te10110043849684766642,<-S5,<-PySem.W.Fast.te12563942051412417395] at e;exact segRun_of e
noncomputable def S0X (w:j1) (os:A3):SharedT:=⟨K53.pre.tree_6 w.params,15,{},⟨[]⟩,{},187,os⟩
theorem pre_go (w:j1) (os:A3):topGo K3 PX w 11 annX 12 ⟨boot_heap w.params,Array.mk [],boot_drawn,boot_toks,os⟩ (topStub PX)=some ((S0X w os).abs,⟨denote K3 cdX,cdX,qX,BX⟩):=by rw [PySem.W.Fast.te15667345088766844465,S5,PySem.W.Fast.te11892475500146522536];kernel_rfl
theorem zjg (w:j1) (os:A3) :∃M,M<=200000/\topRun K3 PX w 11 annX M ⟨boot_heap w.params,Array.mk [],boot_drawn,boot_toks,os⟩ (topStub PX)=some (S3X w os).abs:=by have g:topRun K3 PX w 11 annX 2 (S3X w os).abs (restOf [] K53.pre.env_1 cdX pLX BX)=some (S3X w os).abs:=rfl;have a:=piece_app (zkn w os) g;rw [W2] at a;obtain ⟨M,h,d⟩:=zga (Goes.execs1 (stD_go w os ⟨46,0,49,21⟩)) a;have b:=K53.pre.chain PX (behindTheImports PX) w os _ M _ d;rw [<-bodyX] at b;have e:segRun K3 PX w 11 annX 1 1 (S0X w os).abs (blockOf (behindTheImports PX) K53.pre.env_1 cdX qX BX)=some (.next,(S0X w os).abs,cdX,qX):=rfl;have f:=piece_block e b;have c:=go_top (pre_go w os) f;refine ⟨_,?_,c⟩;simp only [Nat.add_eq];omega
noncomputable def looseX:List Str:=[("_wall" : Str),("GREATEST_WORTH" : Str),("is_whole" : Str),("is_within" : Str),("is_worth" : Str),("is_tuple_of" : Str),("TaleError" : Str),("NoDeed" : Str),("NoStrictness" : Str),("FIRST_STATES" : Str),("WORTHS_OF_VERBS" : Str),("read_state" : Str),("write_state" : Str),("add_to_number" : Str),("put_behind" : Str),("take_first" : Str),("put_into_set" : Str),("cut_from_set" : Str),("has_in_set" : Str),("swap_state" : Str),("DOERS" : Str),("is_kind" : Str),("first_state" : Str),("is_deed" : Str),("do" : Str),("deeds" : Str),("STRICTNESSES" : Str),("has_to" : Str),("check_strictness" : Str),("goes_ahead" : Str),("Candidate" : Str),("Board" : Str),("step_of" : Str),("ended_numbers" : Str),("holds_all" : Str),("first_place" : Str),("nexts" : Str),("is_full" : Str),("_law_hand" : Str),("_law_draw" : Str),("_law_begun" : Str),("_law_does" : Str),("_law_worth" : Str),("_law_act" : Str),("_law_things" : Str),("_law_ended" : Str),("_law_tale" : Str),("_law_acts" : Str),("_law_must" : Str),("_law_alike" : Str),("_law_on" : Str),("_law_musts" : Str),("_law_all" : Str),("_law_is_full" : Str),("_law_place_alike" : Str),("_law_nexts_right" : Str),("_law_way" : Str),("_law_any_state" : Str),("_law_may" : Str),("_law_anywhere" : Str)]
noncomputable def viewX:Program:={ PX with main:={ PX.main with body:=(PX.main.body[67]?).toList } }
noncomputable def top (i:Nat):Stmt:=PX.main.body.getD i (.Pass ⟨0,0,0,0⟩)
noncomputable def subS (s:Stmt) (j:Nat):Stmt:=match s with
 | .ClassDef _ _ _ b _ _ _ _ _ _ _=>b.getD j s
 | _=>s
noncomputable def asX:List Addr:=[3,27,28,34,35,41,42,48,49,50,52,57,58,59,63,65,70,71,72,75,77,82,83,84,87,88,89,90,96,97,103,104,110,111,117,118,124,125,131,132,136,137,143,144,150,151,152,153,154,155,156,157,158,159,160,161,162,163,164,170,171,177,178,182,183,189,190,196,197,198,204,205,211,212,218,219,220,222,230,231,237,238,239,240,241,246,248,256,257,263,264,279,280,281,291,292,296,297,301,302,306,307,313,314,320,321,327,328,334,335,341,342,346,347,353,354,360,361,365,366,372,373,377,378,384,385,391,392,398,399,403,404,408,409,418,419,425,426,432,433,437,438,442,443,447,448,452,453,459,460]
noncomputable def KX (P:J0):Frag:=[
 (3,⟨(.type "dict"),none,(.dict #[⟨(o0 P "__name__"),(.str "__name__" 165),(.str "law_talejudge_k53_what_may_be_next" 685)⟩,⟨(o0 P "__doc__"),(.str "__doc__" 166),.none⟩,⟨(o0 P "__package__"),(.str "__package__" 167),.none⟩,⟨(o0 P "__loader__"),(.str "__loader__" 168),(.builtin "__main__.__loader__#opaque")⟩,⟨(o0 P "__spec__"),(.str "__spec__" 169),.none⟩,kR P "__annotations__" 170 6,kR P "__builtins__" 171 4,⟨(o0 P "__file__"),(.str "__file__" 173),(.str "/claim/cut.py" 172)⟩,⟨(o0 P "__cached__"),(.str "__cached__" 174),.none⟩,kR P "_wall" 193 21,⟨(o0 P "GREATEST_WORTH"),(.str "GREATEST_WORTH" 197),(.int (1000000000) 196)⟩,kR P "is_whole" 204 28,kR P "is_within" 212 35,kR P "is_worth" 219 42,kR P "is_tuple_of" 227 49,kR P "TaleError" 247 59,kR P "NoDeed" 263 72,kR P "NoStrictness" 279 84,kR P "FIRST_STATES" 295 87,kR P "WORTHS_OF_VERBS" 320 90,kR P "read_state" 328 97,kR P "write_state" 336 104,kR P "add_to_number" 344 111,kR P "put_behind" 352 118,kR P "take_first" 360 125,kR P "put_into_set" 368 132,kR P "cut_from_set" 374 137,kR P "has_in_set" 382 144,kR P "swap_state" 390 151,kR P "DOERS" 451 152,kR P "is_kind" 458 171,kR P "first_state" 465 178,kR P "is_deed" 471 183,kR P "do" 482 190,kR P "deeds" 497 197,kR P "STRICTNESSES" 503 198,kR P "has_to" 517 205,kR P "check_strictness" 524 212,kR P "goes_ahead" 533 219,kR P "Candidate" 579 241,kR P "Board" 636 281,kR P "step_of" 648 292,kR P "ended_numbers" 654 297,kR P "holds_all" 660 302,kR P "first_place" 666 307,kR P "nexts" 676 314,kR P "is_full" 684 321,kR P "_law_hand" 696 328,kR P "_law_draw" 705 335,kR P "_law_begun" 712 342,kR P "_law_does" 718 347,kR P "_law_worth" 725 354,kR P "_law_act" 735 361,kR P "_law_things" 741 366,kR P "_law_ended" 756 373,kR P "_law_tale" 762 378,kR P "_law_acts" 774 385,kR P "_law_must" 784 392,kR P "_law_alike" 792 399,kR P "_law_on" 798 404,kR P "_law_musts" 804 409,kR P "_law_all" 810 414,kR P "_law_is_full" 816 419,kR P "_law_place_alike" 824 426,kR P "_law_nexts_right" 837 433,kR P "_law_way" 843 438,kR P "_law_any_state" 849 443,kR P "_law_may" 855 448,kR P "_law_anywhere" 861 453,kR P "law" 873 460] 70),#[]⟩),
 (27,cO "is_whole" "is_whole" 198 6 1 22 202),
 (28,fO "is_whole" "is_whole" (top 3) "talejudge.basics" 194 27),
 (34,cO "is_within" "is_within" 205 8 2 29 210),
 (35,fO "is_within" "is_within" (top 4) "talejudge.basics" 194 34),
 (41,cO "is_worth" "is_worth" 213 10 1 36 217),
 (42,fO "is_worth" "is_worth" (top 5) "talejudge.basics" 194 41),
 (48,cO "is_tuple_of" "is_tuple_of" 220 12 2 43 225),
 (49,fO "is_tuple_of" "is_tuple_of" (top 6) "talejudge.basics" 194 48),
 (50,⟨(.type "tuple"),none,(.seq #[(.type "ValueError")] 0),#[]⟩),
 (52,⟨(.type "dict"),none,(.dict #[⟨(o0 P "__module__"),(.str "__module__" 237),(.str "talejudge.errors" 228)⟩,⟨(o0 P "__qualname__"),(.str "__qualname__" 239),(.str "TaleError" 238)⟩,⟨(o0 P "__firstlineno__"),(.str "__firstlineno__" 241),(.int (15) 240)⟩,kR P "__static_attributes__" 242 57] 4),#[]⟩),
 (57,⟨(.type "tuple"),none,(.seq #[] 0),#[]⟩),
 (58,⟨(.type "dict"),none,(.dict #[⟨(o0 P "__module__"),(.str "__module__" 237),(.str "talejudge.errors" 228)⟩,⟨(o0 P "__firstlineno__"),(.str "__firstlineno__" 241),(.int (15) 240)⟩,kR P "__static_attributes__" 242 57,kR P "__weakref__" 244 60,⟨(o0 P "__doc__"),(.str "__doc__" 245),.none⟩] 3),#[]⟩),
 (59,⟨(.type "type"),none,(.cls ⟨"TaleError",[(.type "ValueError")],[(.ref 59),(.type "ValueError"),(.type "Exception"),(.type "BaseException"),(.type "object")],58,"TaleError",true,[],[(.ref 72),(.ref 84)],false,none,false⟩),#[some (.ref 50),none,some (.str "TaleError" 230),some (.str "TaleError" 238),some (.builtin "ValueError.__new__"),some (.bool true)]⟩),
 (63,⟨(.type "tuple"),none,(.seq #[(.ref 59)] 0),#[]⟩),
 (65,⟨(.type "dict"),none,(.dict #[⟨(o0 P "__module__"),(.str "__module__" 255),(.str "talejudge.errors" 228)⟩,⟨(o0 P "__qualname__"),(.str "__qualname__" 257),(.str "NoDeed" 256)⟩,⟨(o0 P "__firstlineno__"),(.str "__firstlineno__" 259),(.int (17) 258)⟩,kR P "__static_attributes__" 260 70] 4),#[]⟩),
 (70,⟨(.type "tuple"),none,(.seq #[] 0),#[]⟩),
 (71,⟨(.type "dict"),none,(.dict #[⟨(o0 P "__module__"),(.str "__module__" 255),(.str "talejudge.errors" 228)⟩,⟨(o0 P "__firstlineno__"),(.str "__firstlineno__" 259),(.int (17) 258)⟩,kR P "__static_attributes__" 260 70,⟨(o0 P "__doc__"),(.str "__doc__" 261),.none⟩] 2),#[]⟩),
 (72,⟨(.type "type"),none,(.cls ⟨"NoDeed",[(.ref 59)],[(.ref 72),(.ref 59),(.type "ValueError"),(.type "Exception"),(.type "BaseException"),(.type "object")],71,"NoDeed",true,[],[],false,none,false⟩),#[some (.ref 63),none,some (.str "NoDeed" 248),some (.str "NoDeed" 256),some (.builtin "ValueError.__new__"),some (.bool true)]⟩),
 (75,⟨(.type "tuple"),none,(.seq #[(.ref 59)] 0),#[]⟩),
 (77,⟨(.type "dict"),none,(.dict #[⟨(o0 P "__module__"),(.str "__module__" 271),(.str "talejudge.errors" 228)⟩,⟨(o0 P "__qualname__"),(.str "__qualname__" 273),(.str "NoStrictness" 272)⟩,⟨(o0 P "__firstlineno__"),(.str "__firstlineno__" 275),(.int (19) 274)⟩,kR P "__static_attributes__" 276 82] 4),#[]⟩),
 (82,⟨(.type "tuple"),none,(.seq #[] 0),#[]⟩),
 (83,⟨(.type "dict"),none,(.dict #[⟨(o0 P "__module__"),(.str "__module__" 271),(.str "talejudge.errors" 228)⟩,⟨(o0 P "__firstlineno__"),(.str "__firstlineno__" 275),(.int (19) 274)⟩,kR P "__static_attributes__" 276 82,⟨(o0 P "__doc__"),(.str "__doc__" 277),.none⟩] 2),#[]⟩),
 (84,⟨(.type "type"),none,(.cls ⟨"NoStrictness",[(.ref 59)],[(.ref 84),(.ref 59),(.type "ValueError"),(.type "Exception"),(.type "BaseException"),(.type "object")],83,"NoStrictness",true,[],[],false,none,false⟩),#[some (.ref 75),none,some (.str "NoStrictness" 264),some (.str "NoStrictness" 272),some (.builtin "ValueError.__new__"),some (.bool true)]⟩),
 (87,⟨(.type "dict"),none,(.dict #[⟨(o0 P "register"),(.str "register" 282),(.int (0) 283)⟩,⟨(o0 P "counter"),(.str "counter" 284),(.int (0) 285)⟩,kR P "queue" 286 88,kR P "set" 287 89,⟨(o0 P "cell"),(.str "cell" 288),(.int (0) 289)⟩] 5),#[]⟩),
 (88,⟨(.type "tuple"),none,(.seq #[] 0),#[]⟩),
 (89,⟨(.type "tuple"),none,(.seq #[] 0),#[]⟩),
 (90,⟨(.type "dict"),none,(.dict #[⟨(o0 P "read"),(.str "read" 296),(.int (0) 297)⟩,⟨(o0 P "take"),(.str "take" 298),(.int (0) 299)⟩,⟨(o0 P "write"),(.str "write" 300),(.int (1) 301)⟩,⟨(o0 P "add"),(.str "add" 302),(.int (1) 303)⟩,⟨(o0 P "put"),(.str "put" 304),(.int (1) 305)⟩,⟨(o0 P "cut"),(.str "cut" 306),(.int (1) 307)⟩,⟨(o0 P "has"),(.str "has" 308),(.int (1) 309)⟩,⟨(o0 P "swap"),(.str "swap" 310),(.int (2) 311)⟩] 8),#[]⟩),
 (96,cO "read_state" "read_state" 321 24 2 91 326),
 (97,fO "read_state" "read_state" (top 14) "talejudge.store" 280 96),
 (103,cO "write_state" "write_state" 329 26 2 98 334),
 (104,fO "write_state" "write_state" (top 15) "talejudge.store" 280 103),
 (110,cO "add_to_number" "add_to_number" 337 28 2 105 342),
 (111,fO "add_to_number" "add_to_number" (top 16) "talejudge.store" 280 110),
 (117,cO "put_behind" "put_behind" 345 30 2 112 350),
 (118,fO "put_behind" "put_behind" (top 17) "talejudge.store" 280 117),
 (124,cO "take_first" "take_first" 353 32 2 119 358),
 (125,fO "take_first" "take_first" (top 18) "talejudge.store" 280 124),
 (131,cO "put_into_set" "put_into_set" 361 36 2 126 366),
 (132,fO "put_into_set" "put_into_set" (top 19) "talejudge.store" 280 131),
 (136,cP "cut_from_set" "cut_from_set" 369 40 2 133 372),
 (137,fO "cut_from_set" "cut_from_set" (top 20) "talejudge.store" 280 136),
 (143,cO "has_in_set" "has_in_set" 375 44 2 138 380),
 (144,fO "has_in_set" "has_in_set" (top 21) "talejudge.store" 280 143),
 (150,cO "swap_state" "swap_state" 383 46 2 145 388),
 (151,fO "swap_state" "swap_state" (top 22) "talejudge.store" 280 150),
 (152,⟨(.type "dict"),none,(.dict #[⟨(K1 (A0 [o0 P "register",o0 P "read"])),(.ref 153),(.ref 97)⟩,⟨(K1 (A0 [o0 P "register",o0 P "write"])),(.ref 154),(.ref 104)⟩,⟨(K1 (A0 [o0 P "counter",o0 P "read"])),(.ref 155),(.ref 97)⟩,⟨(K1 (A0 [o0 P "counter",o0 P "add"])),(.ref 156),(.ref 111)⟩,⟨(K1 (A0 [o0 P "queue",o0 P "put"])),(.ref 157),(.ref 118)⟩,⟨(K1 (A0 [o0 P "queue",o0 P "take"])),(.ref 158),(.ref 125)⟩,⟨(K1 (A0 [o0 P "set",o0 P "put"])),(.ref 159),(.ref 132)⟩,⟨(K1 (A0 [o0 P "set",o0 P "cut"])),(.ref 160),(.ref 137)⟩,⟨(K1 (A0 [o0 P "set",o0 P "has"])),(.ref 161),(.ref 144)⟩,⟨(K1 (A0 [o0 P "cell",o0 P "read"])),(.ref 162),(.ref 97)⟩,⟨(K1 (A0 [o0 P "cell",o0 P "write"])),(.ref 163),(.ref 104)⟩,⟨(K1 (A0 [o0 P "cell",o0 P "swap"])),(.ref 164),(.ref 151)⟩] 12),#[]⟩),
 (153,⟨(.type "tuple"),none,(.seq #[(.str "register" 391),(.str "read" 392)] 0),#[]⟩),
 (154,⟨(.type "tuple"),none,(.seq #[(.str "register" 393),(.str "write" 394)] 0),#[]⟩),
 (155,⟨(.type "tuple"),none,(.seq #[(.str "counter" 395),(.str "read" 396)] 0),#[]⟩),
 (156,⟨(.type "tuple"),none,(.seq #[(.str "counter" 397),(.str "add" 398)] 0),#[]⟩),
 (157,⟨(.type "tuple"),none,(.seq #[(.str "queue" 399),(.str "put" 400)] 0),#[]⟩),
 (158,⟨(.type "tuple"),none,(.seq #[(.str "queue" 401),(.str "take" 402)] 0),#[]⟩),
 (159,⟨(.type "tuple"),none,(.seq #[(.str "set" 403),(.str "put" 404)] 0),#[]⟩),
 (160,⟨(.type "tuple"),none,(.seq #[(.str "set" 405),(.str "cut" 406)] 0),#[]⟩),
 (161,⟨(.type "tuple"),none,(.seq #[(.str "set" 407),(.str "has" 408)] 0),#[]⟩),
 (162,⟨(.type "tuple"),none,(.seq #[(.str "cell" 409),(.str "read" 410)] 0),#[]⟩),
 (163,⟨(.type "tuple"),none,(.seq #[(.str "cell" 411),(.str "write" 412)] 0),#[]⟩),
 (164,⟨(.type "tuple"),none,(.seq #[(.str "cell" 413),(.str "swap" 414)] 0),#[]⟩),
 (170,cO "is_kind" "is_kind" 452 51 1 165 456),
 (171,fO "is_kind" "is_kind" (top 24) "talejudge.store" 280 170),
 (177,cO "first_state" "first_state" 459 53 1 172 463),
 (178,fO "first_state" "first_state" (top 25) "talejudge.store" 280 177),
 (182,cP "is_deed" "is_deed" 466 57 3 179 469),
 (183,fO "is_deed" "is_deed" (top 26) "talejudge.store" 280 182),
 (189,cO "do" "do" 472 66 4 184 480),
 (190,fO "do" "do" (top 27) "talejudge.store" 280 189),
 (196,cO "deeds" "deeds" 485 72 1 191 495),
 (197,fO "deeds" "deeds" (top 29) "talejudge.tales" 483 196),
 (198,⟨(.type "tuple"),none,(.seq #[(.str "strict" 500),(.str "hands" 501),(.str "bare" 502)] 0),#[]⟩),
 (204,cO "has_to" "has_to" 504 86 2 199 515),
 (205,fO "has_to" "has_to" (top 32) "talejudge.orders" 498 204),
 (211,cO "check_strictness" "check_strictness" 518 95 1 206 522),
 (212,fO "check_strictness" "check_strictness" (top 33) "talejudge.orders" 498 211),
 (218,cO "goes_ahead" "goes_ahead" 525 98 3 213 531),
 (219,fO "goes_ahead" "goes_ahead" (top 34) "talejudge.orders" 498 218),
 (220,⟨(.type "tuple"),none,(.seq #[] 0),#[]⟩),
 (222,⟨(.type "dict"),none,(.dict #[⟨(o0 P "__module__"),(.str "__module__" 543),(.str "talejudge.places" 534)⟩,⟨(o0 P "__qualname__"),(.str "__qualname__" 545),(.str "Candidate" 544)⟩,⟨(o0 P "__firstlineno__"),(.str "__firstlineno__" 547),(.int (105) 546)⟩,kR P "__init__" 553 231,kR P "may_stand" 563 238,kR P "__static_attributes__" 572 239] 6),#[]⟩),
 (230,cP "__init__" "Candidate.__init__" 548 107 6 227 551),
 (231,fO "__init__" "Candidate.__init__" (subS (top 36) 0) "talejudge.places" 534 230),
 (237,cO "may_stand" "Candidate.may_stand" 554 117 2 232 561),
 (238,fO "may_stand" "Candidate.may_stand" (subS (top 36) 1) "talejudge.places" 534 237),
 (239,⟨(.type "tuple"),none,(.seq #[(.str "aheads" 564),(.str "answer" 565),(.str "behinds" 566),(.str "kind" 567),(.str "number" 568),(.str "thing" 569),(.str "verb" 570),(.str "worth" 571)] 0),#[]⟩),
 (240,⟨(.type "dict"),none,(.dict #[⟨(o0 P "__module__"),(.str "__module__" 543),(.str "talejudge.places" 534)⟩,⟨(o0 P "__firstlineno__"),(.str "__firstlineno__" 547),(.int (105) 546)⟩,kR P "__init__" 553 231,kR P "may_stand" 563 238,kR P "__static_attributes__" 572 239,kR P "__dict__" 574 242,kR P "__weakref__" 576 243,⟨(o0 P "__doc__"),(.str "__doc__" 577),.none⟩] 4),#[]⟩),
 (241,⟨(.type "type"),none,(.cls ⟨"Candidate",[(.type "object")],[(.ref 241),(.type "object")],240,"Candidate",true,[],[],false,none,false⟩),#[none,none,some (.str "Candidate" 536),some (.str "Candidate" 544),some (.builtin "object.__new__"),some (.bool true)]⟩),
 (246,⟨(.type "tuple"),none,(.seq #[] 0),#[]⟩),
 (248,⟨(.type "dict"),none,(.dict #[⟨(o0 P "__module__"),(.str "__module__" 587),(.str "talejudge.places" 534)⟩,⟨(o0 P "__qualname__"),(.str "__qualname__" 589),(.str "Board" 588)⟩,⟨(o0 P "__firstlineno__"),(.str "__firstlineno__" 591),(.int (127) 590)⟩,kR P "__init__" 597 257,kR P "steps_from" 608 264,kR P "ends_at" 616 271,kR P "has_place" 624 278,kR P "__static_attributes__" 629 279] 8),#[]⟩),
 (256,cP "__init__" "Board.__init__" 592 129 3 253 595),
 (257,fO "__init__" "Board.__init__" (subS (top 37) 0) "talejudge.places" 534 256),
 (263,cO "steps_from" "Board.steps_from" 598 141 2 258 606),
 (264,fO "steps_from" "Board.steps_from" (subS (top 37) 1) "talejudge.places" 534 263),
 (279,⟨(.type "tuple"),none,(.seq #[(.str "candidates" 625),(.str "ended" 626),(.str "first" 627),(.str "kinds" 628)] 0),#[]⟩),
 (280,⟨(.type "dict"),none,(.dict #[⟨(o0 P "__module__"),(.str "__module__" 587),(.str "talejudge.places" 534)⟩,⟨(o0 P "__firstlineno__"),(.str "__firstlineno__" 591),(.int (127) 590)⟩,kR P "__init__" 597 257,kR P "steps_from" 608 264,kR P "ends_at" 616 271,kR P "has_place" 624 278,kR P "__static_attributes__" 629 279,kR P "__dict__" 631 282,kR P "__weakref__" 633 283,⟨(o0 P "__doc__"),(.str "__doc__" 634),.none⟩] 4),#[]⟩),
 (281,⟨(.type "type"),none,(.cls ⟨"Board",[(.type "object")],[(.ref 281),(.type "object")],280,"Board",true,[],[],false,none,false⟩),#[none,none,some (.str "Board" 580),some (.str "Board" 588),some (.builtin "object.__new__"),some (.bool true)]⟩),
 (291,cO "step_of" "step_of" 637 155 2 286 646),
 (292,fO "step_of" "step_of" (top 38) "talejudge.places" 534 291),
 (296,cP "ended_numbers" "ended_numbers" 649 161 1 293 652),
 (297,fO "ended_numbers" "ended_numbers" (top 39) "talejudge.places" 534 296),
 (301,cP "holds_all" "holds_all" 655 163 2 298 658),
 (302,fO "holds_all" "holds_all" (top 40) "talejudge.places" 534 301),
 (306,cP "first_place" "first_place" 661 165 1 303 664),
 (307,fO "first_place" "first_place" (top 41) "talejudge.places" 534 306),
 (313,cO "nexts" "nexts" 667 167 3 308 674),
 (314,fO "nexts" "nexts" (top 42) "talejudge.places" 534 313),
 (320,cO "is_full" "is_full" 677 170 2 315 682),
 (321,fO "is_full" "is_full" (top 43) "talejudge.places" 534 320),
 (327,cO "_law_hand" "_law_hand" 687 173 3 322 694),
 (328,fL "_law_hand" "_law_hand" (top 45) 327),
 (334,cO "_law_draw" "_law_draw" 697 178 2 329 703),
 (335,fL "_law_draw" "_law_draw" (top 46) 334),
 (341,cO "_law_begun" "_law_begun" 706 185 1 336 710),
 (342,fL "_law_begun" "_law_begun" (top 47) 341),
 (346,cP "_law_does" "_law_does" 713 189 4 343 716),
 (347,fL "_law_does" "_law_does" (top 48) 346),
 (353,cO "_law_worth" "_law_worth" 719 208 1 348 723),
 (354,fL "_law_worth" "_law_worth" (top 49) 353),
 (360,cO "_law_act" "_law_act" 726 212 2 355 733),
 (361,fL "_law_act" "_law_act" (top 50) 360),
 (365,cP "_law_things" "_law_things" 736 222 1 362 739),
 (366,fL "_law_things" "_law_things" (top 51) 365),
 (372,cO "_law_ended" "_law_ended" 742 228 4 367 754),
 (373,fL "_law_ended" "_law_ended" (top 52) 372),
 (377,cP "_law_tale" "_law_tale" 757 236 4 374 760),
 (378,fL "_law_tale" "_law_tale" (top 53) 377),
 (384,cO "_law_acts" "_law_acts" 763 261 1 379 772),
 (385,fL "_law_acts" "_law_acts" (top 54) 384),
 (391,cO "_law_must" "_law_must" 775 274 4 386 782),
 (392,fL "_law_must" "_law_must" (top 55) 391),
 (398,cO "_law_alike" "_law_alike" 785 278 2 393 790),
 (399,fL "_law_alike" "_law_alike" (top 56) 398),
 (403,cP "_law_on" "_law_on" 793 280 4 400 796),
 (404,fL "_law_on" "_law_on" (top 57) 403),
 (408,cP "_law_musts" "_law_musts" 799 295 2 405 802),
 (409,fL "_law_musts" "_law_musts" (top 58) 408),
 (418,cP "_law_is_full" "_law_is_full" 811 315 2 415 814),
 (419,fL "_law_is_full" "_law_is_full" (top 60) 418),
 (425,cO "_law_place_alike" "_law_place_alike" 817 317 2 420 822),
 (426,fL "_law_place_alike" "_law_place_alike" (top 61) 425),
 (432,cO "_law_nexts_right" "_law_nexts_right" 825 319 4 427 835),
 (433,fL "_law_nexts_right" "_law_nexts_right" (top 62) 432),
 (437,cP "_law_way" "_law_way" 838 330 3 434 841),
 (438,fL "_law_way" "_law_way" (top 63) 437),
 (442,cP "_law_any_state" "_law_any_state" 844 347 2 439 847),
 (443,fL "_law_any_state" "_law_any_state" (top 64) 442),
 (447,cP "_law_may" "_law_may" 850 354 4 444 853),
 (448,fL "_law_may" "_law_may" (top 65) 447),
 (452,cP "_law_anywhere" "_law_anywhere" 856 369 3 449 859),
 (453,fL "_law_anywhere" "_law_anywhere" (top 66) 452),
 (459,cO "law" "law" 862 378 1 454 871),
 (460,fL "law" "law" (top 67) 459)]
noncomputable def HX:Hook:=kHook KX asX (λ _=>by kernel_rfl)
noncomputable abbrev XtX:B0->Bool:=λ s=>xlAt viewX [] s && recOk (RowW.records (OpenRow.toRowW PySem.Challenge.rw_talejudge_k53_what_may_be_next.row)) s
theorem look1 (w:j1) (os:A3):(staticsOk (U7 PX.main.body) (boot_heap w.params) (S3X w os).abs.heap && namesBound PX (S3X w os).abs.heap && gensDone (S3X w os).abs && laidKept (boot_heap w.params) (S3X w os).abs.heap)=true:=by kernel_rfl
theorem look2 (w:j1) (os:A3):openSeen viewX looseX (U7 PX.main.body) XtX true (S3X w os).abs=openGood viewX looseX:=by rw [PySem.W.Fast.te4187177175401517315];kernel_rfl
theorem look3 (w:j1) (os:A3):Hook.obs HX (S3X w os).abs=Hook.val HX w:=by kernel_rfl
theorem leftX:LeftO PX viewX looseX XtX (Hook.obs HX) (Hook.val HX) 200000:=
 zkf (H₀:=boot_heap) (gs₀:=Array.mk []) (boot_open (by kernel_rfl) (by decide) (λ s=>rfl)) (λ w=>by kernel_rfl) zjg look1 look2 look3
end K53
set_option maxHeartbeats 4000000
namespace K53
open PySem PySem.Spec PyProof.Rows TJ L2
theorem z0g (P:J0):P0 (KX P) O0 "isinstance" = some none:=by kernel_rfl
theorem n_len (P:J0):P0 (KX P) O0 "len" = some none:=by kernel_rfl
theorem n_all (P:J0):P0 (KX P) O0 "all" = some none:=by kernel_rfl
theorem n_int (P:J0):P0 (KX P) O0 "int" = some none:=by kernel_rfl
theorem n_str (P:J0):P0 (KX P) O0 "str" = some none:=by kernel_rfl
theorem n_bool (P:J0):P0 (KX P) O0 "bool" = some none:=by kernel_rfl
theorem z0y (P:J0):P0 (KX P) O0 "tuple" = some none:=by kernel_rfl
theorem n_list (P:J0):P0 (KX P) O0 "list" = some none:=by kernel_rfl
theorem z3x (P:J0):P0 (KX P) O0 "range" = some none:=by kernel_rfl
theorem z47 (P:J0):P0 (KX P) O0 "sorted" = some none:=by kernel_rfl
theorem n_zip (P:J0):P0 (KX P) O0 "zip" = some none:=by kernel_rfl
theorem n_sum (P:J0):P0 (KX P) O0 "sum" = some none:=by kernel_rfl
theorem n_dict (P:J0):P0 (KX P) O0 "dict" = some none:=by kernel_rfl
theorem n_set (P:J0):P0 (KX P) O0 "set" = some none:=by kernel_rfl
theorem z1n (P:J0):P0 (KX P) O0 "enumerate" = some none:=by kernel_rfl
theorem z6t (P:J0):P0 (KX P) O0 "GREATEST_WORTH" = some (some (.int (1000000000) 196)):=by kernel_rfl
theorem zg8 (P:J0):P0 (KX P) O0 "is_whole" = some (some (.ref 28)):=by kernel_rfl
theorem ze1 (P:J0):P0 (KX P) O0 "is_within" = some (some (.ref 35)):=by kernel_rfl
theorem zfi (P:J0):P0 (KX P) O0 "is_worth" = some (some (.ref 42)):=by kernel_rfl
theorem za5 (P:J0):P0 (KX P) O0 "is_tuple_of" = some (some (.ref 49)):=by kernel_rfl
theorem z4l (P:J0):P0 (KX P) O0 "FIRST_STATES" = some (some (.ref 87)):=by kernel_rfl
theorem z5u (P:J0):P0 (KX P) O0 "WORTHS_OF_VERBS" = some (some (.ref 90)):=by kernel_rfl
theorem z6r (P:J0):P0 (KX P) O0 "read_state" = some (some (.ref 97)):=by kernel_rfl
theorem z5m (P:J0):P0 (KX P) O0 "write_state" = some (some (.ref 104)):=by kernel_rfl
theorem z3w (P:J0):P0 (KX P) O0 "add_to_number" = some (some (.ref 111)):=by kernel_rfl
theorem z7b (P:J0):P0 (KX P) O0 "put_behind" = some (some (.ref 118)):=by kernel_rfl
theorem z6a (P:J0):P0 (KX P) O0 "take_first" = some (some (.ref 125)):=by kernel_rfl
theorem z4k (P:J0):P0 (KX P) O0 "put_into_set" = some (some (.ref 132)):=by kernel_rfl
theorem z4i (P:J0):P0 (KX P) O0 "cut_from_set" = some (some (.ref 137)):=by kernel_rfl
theorem z78 (P:J0):P0 (KX P) O0 "has_in_set" = some (some (.ref 144)):=by kernel_rfl
theorem z7c (P:J0):P0 (KX P) O0 "swap_state" = some (some (.ref 151)):=by kernel_rfl
theorem ziw (P:J0):P0 (KX P) O0 "DOERS" = some (some (.ref 152)):=by kernel_rfl
theorem zik (P:J0):P0 (KX P) O0 "is_kind" = some (some (.ref 171)):=by kernel_rfl
theorem z9l (P:J0):P0 (KX P) O0 "first_state" = some (some (.ref 178)):=by kernel_rfl
theorem zi7 (P:J0):P0 (KX P) O0 "is_deed" = some (some (.ref 183)):=by kernel_rfl
theorem g_do (P:J0):P0 (KX P) O0 "do" = some (some (.ref 190)):=by kernel_rfl
theorem zl7 (P:J0):P0 (KX P) O0 "deeds" = some (some (.ref 197)):=by kernel_rfl
theorem z92 (P:J0):P0 (KX P) O0 "STRICTNESSES" = some (some (.ref 198)):=by kernel_rfl
theorem zk6 (P:J0):P0 (KX P) O0 "has_to" = some (some (.ref 205)):=by kernel_rfl
theorem z59 (P:J0):P0 (KX P) O0 "check_strictness" = some (some (.ref 212)):=by kernel_rfl
theorem zc6 (P:J0):P0 (KX P) O0 "goes_ahead" = some (some (.ref 219)):=by kernel_rfl
theorem zel (P:J0):P0 (KX P) O0 "Candidate" = some (some (.ref 241)):=by kernel_rfl
theorem zll (P:J0):P0 (KX P) O0 "Board" = some (some (.ref 281)):=by kernel_rfl
theorem zhg (P:J0):P0 (KX P) O0 "step_of" = some (some (.ref 292)):=by kernel_rfl
theorem z7l (P:J0):P0 (KX P) O0 "ended_numbers" = some (some (.ref 297)):=by kernel_rfl
theorem zdy (P:J0):P0 (KX P) O0 "holds_all" = some (some (.ref 302)):=by kernel_rfl
theorem za8 (P:J0):P0 (KX P) O0 "first_place" = some (some (.ref 307)):=by kernel_rfl
theorem zlj (P:J0):P0 (KX P) O0 "nexts" = some (some (.ref 314)):=by kernel_rfl
theorem zhf (P:J0):P0 (KX P) O0 "is_full" = some (some (.ref 321)):=by kernel_rfl
theorem ze0 (P:J0):P0 (KX P) O0 "_law_hand" = some (some (.ref 328)):=by kernel_rfl
theorem zdt (P:J0):P0 (KX P) O0 "_law_draw" = some (some (.ref 335)):=by kernel_rfl
theorem zbt (P:J0):P0 (KX P) O0 "_law_begun" = some (some (.ref 342)):=by kernel_rfl
theorem zee (P:J0):P0 (KX P) O0 "_law_does" = some (some (.ref 347)):=by kernel_rfl
theorem zbr (P:J0):P0 (KX P) O0 "_law_worth" = some (some (.ref 354)):=by kernel_rfl
theorem zgz (P:J0):P0 (KX P) O0 "_law_act" = some (some (.ref 361)):=by kernel_rfl
theorem zai (P:J0):P0 (KX P) O0 "_law_things" = some (some (.ref 366)):=by kernel_rfl
theorem zb2 (P:J0):P0 (KX P) O0 "_law_ended" = some (some (.ref 373)):=by kernel_rfl
theorem zed (P:J0):P0 (KX P) O0 "_law_tale" = some (some (.ref 378)):=by kernel_rfl
theorem zdz (P:J0):P0 (KX P) O0 "_law_acts" = some (some (.ref 385)):=by kernel_rfl
theorem zec (P:J0):P0 (KX P) O0 "_law_must" = some (some (.ref 392)):=by kernel_rfl
theorem zc5 (P:J0):P0 (KX P) O0 "_law_alike" = some (some (.ref 399)):=by kernel_rfl
theorem zhl (P:J0):P0 (KX P) O0 "_law_on" = some (some (.ref 404)):=by kernel_rfl
theorem zb8 (P:J0):P0 (KX P) O0 "_law_musts" = some (some (.ref 409)):=by kernel_rfl
theorem z9g (P:J0):P0 (KX P) O0 "_law_is_full" = some (some (.ref 419)):=by kernel_rfl
theorem z52 (P:J0):P0 (KX P) O0 "_law_place_alike" = some (some (.ref 426)):=by kernel_rfl
theorem z5d (P:J0):P0 (KX P) O0 "_law_nexts_right" = some (some (.ref 433)):=by kernel_rfl
theorem zgq (P:J0):P0 (KX P) O0 "_law_way" = some (some (.ref 438)):=by kernel_rfl
theorem z6e (P:J0):P0 (KX P) O0 "_law_any_state" = some (some (.ref 443)):=by kernel_rfl
theorem zff (P:J0):P0 (KX P) O0 "_law_may" = some (some (.ref 448)):=by kernel_rfl
theorem z7m (P:J0):P0 (KX P) O0 "_law_anywhere" = some (some (.ref 453)):=by kernel_rfl
theorem g_law (P:J0):P0 (KX P) O0 "law" = some (some (.ref 460)):=by kernel_rfl
noncomputable def kl_FIRST_STATES:List (Str×V):=[("register",.int (0)),("counter",.int (0)),("queue",.ref 88),("set",.ref 89),("cell",.int (0))]
theorem z3v (P:J0):KDict (KX P) P 87 kl_FIRST_STATES:=⟨⟨#[⟨(o0 P "register"),(.str "register" 282),(.int (0) 283)⟩,⟨(o0 P "counter"),(.str "counter" 284),(.int (0) 285)⟩,⟨(o0 P "queue"),(.str "queue" 286),(.ref 88)⟩,⟨(o0 P "set"),(.str "set" 287),(.ref 89)⟩,⟨(o0 P "cell"),(.str "cell" 288),(.int (0) 289)⟩],5,by kernel_rfl,(.cons ⟨⟨_,rfl⟩,rfl,⟨_,rfl⟩⟩ (.cons ⟨⟨_,rfl⟩,rfl,⟨_,rfl⟩⟩ (.cons ⟨⟨_,rfl⟩,rfl,rfl⟩ (.cons ⟨⟨_,rfl⟩,rfl,rfl⟩ (.cons ⟨⟨_,rfl⟩,rfl,⟨_,rfl⟩⟩ .nil)))))⟩,by decide⟩
noncomputable def kl_WORTHS_OF_VERBS:List (Str×V):=[("read",.int (0)),("take",.int (0)),("write",.int (1)),("add",.int (1)),("put",.int (1)),("cut",.int (1)),("has",.int (1)),("swap",.int (2))]
theorem z58 (P:J0):KDict (KX P) P 90 kl_WORTHS_OF_VERBS:=⟨⟨#[⟨(o0 P "read"),(.str "read" 296),(.int (0) 297)⟩,⟨(o0 P "take"),(.str "take" 298),(.int (0) 299)⟩,⟨(o0 P "write"),(.str "write" 300),(.int (1) 301)⟩,⟨(o0 P "add"),(.str "add" 302),(.int (1) 303)⟩,⟨(o0 P "put"),(.str "put" 304),(.int (1) 305)⟩,⟨(o0 P "cut"),(.str "cut" 306),(.int (1) 307)⟩,⟨(o0 P "has"),(.str "has" 308),(.int (1) 309)⟩,⟨(o0 P "swap"),(.str "swap" 310),(.int (2) 311)⟩],8,by kernel_rfl,(.cons ⟨⟨_,rfl⟩,rfl,⟨_,rfl⟩⟩ (.cons ⟨⟨_,rfl⟩,rfl,⟨_,rfl⟩⟩ (.cons ⟨⟨_,rfl⟩,rfl,⟨_,rfl⟩⟩ (.cons ⟨⟨_,rfl⟩,rfl,⟨_,rfl⟩⟩ (.cons ⟨⟨_,rfl⟩,rfl,⟨_,rfl⟩⟩ (.cons ⟨⟨_,rfl⟩,rfl,⟨_,rfl⟩⟩ (.cons ⟨⟨_,rfl⟩,rfl,⟨_,rfl⟩⟩ (.cons ⟨⟨_,rfl⟩,rfl,⟨_,rfl⟩⟩ .nil))))))))⟩,by decide⟩
noncomputable def kl_DOERS:List ((Str×Str)×V):=[(("register","read"),.ref 97),(("register","write"),.ref 104),(("counter","read"),.ref 97),(("counter","add"),.ref 111),(("queue","put"),.ref 118),(("queue","take"),.ref 125),(("set","put"),.ref 132),(("set","cut"),.ref 137),(("set","has"),.ref 144),(("cell","read"),.ref 97),(("cell","write"),.ref 104),(("cell","swap"),.ref 151)]
theorem zgo (P:J0):KDictT (KX P) P 152 kl_DOERS:=⟨⟨#[⟨(K1 (A0 [o0 P "register",o0 P "read"])),(.ref 153),(.ref 97)⟩,⟨(K1 (A0 [o0 P "register",o0 P "write"])),(.ref 154),(.ref 104)⟩,⟨(K1 (A0 [o0 P "counter",o0 P "read"])),(.ref 155),(.ref 97)⟩,⟨(K1 (A0 [o0 P "counter",o0 P "add"])),(.ref 156),(.ref 111)⟩,⟨(K1 (A0 [o0 P "queue",o0 P "put"])),(.ref 157),(.ref 118)⟩,⟨(K1 (A0 [o0 P "queue",o0 P "take"])),(.ref 158),(.ref 125)⟩,⟨(K1 (A0 [o0 P "set",o0 P "put"])),(.ref 159),(.ref 132)⟩,⟨(K1 (A0 [o0 P "set",o0 P "cut"])),(.ref 160),(.ref 137)⟩,⟨(K1 (A0 [o0 P "set",o0 P "has"])),(.ref 161),(.ref 144)⟩,⟨(K1 (A0 [o0 P "cell",o0 P "read"])),(.ref 162),(.ref 97)⟩,⟨(K1 (A0 [o0 P "cell",o0 P "write"])),(.ref 163),(.ref 104)⟩,⟨(K1 (A0 [o0 P "cell",o0 P "swap"])),(.ref 164),(.ref 151)⟩],12,by kernel_rfl,(.cons ⟨⟨153,391,392,0,rfl,by kernel_rfl⟩,rfl,rfl⟩ (.cons ⟨⟨154,393,394,0,rfl,by kernel_rfl⟩,rfl,rfl⟩ (.cons ⟨⟨155,395,396,0,rfl,by kernel_rfl⟩,rfl,rfl⟩ (.cons ⟨⟨156,397,398,0,rfl,by kernel_rfl⟩,rfl,rfl⟩ (.cons ⟨⟨157,399,400,0,rfl,by kernel_rfl⟩,rfl,rfl⟩ (.cons ⟨⟨158,401,402,0,rfl,by kernel_rfl⟩,rfl,rfl⟩ (.cons ⟨⟨159,403,404,0,rfl,by kernel_rfl⟩,rfl,rfl⟩ (.cons ⟨⟨160,405,406,0,rfl,by kernel_rfl⟩,rfl,rfl⟩ (.cons ⟨⟨161,407,408,0,rfl,by kernel_rfl⟩,rfl,rfl⟩ (.cons ⟨⟨162,409,410,0,rfl,by kernel_rfl⟩,rfl,rfl⟩ (.cons ⟨⟨163,411,412,0,rfl,by kernel_rfl⟩,rfl,rfl⟩ (.cons ⟨⟨164,413,414,0,rfl,by kernel_rfl⟩,rfl,rfl⟩ .nil))))))))))))⟩,by decide +kernel,by decide⟩
noncomputable abbrev st_is_whole:Stmt:=top 3
noncomputable abbrev fd_is_whole:FuncData:=fnX "is_whole" "is_whole" (top 3) "talejudge.basics" 194 27
theorem z6l (P:J0):Fun (KX P) "is_whole" "is_whole" st_is_whole 28 fd_is_whole:=z0d
theorem zgn (P:J0):Binds (KX P) fd_is_whole ["value"] []:=(z6l P).binds λ _ _ _ _ _ _=>us1 λ _=>rfl
theorem zdq:FnScope ["value"] ["value"] (z06 st_is_whole):=⟨rfl,rfl,rfl,by decide +kernel,rfl,by decide +kernel,by decide +kernel⟩
noncomputable abbrev st_is_within:Stmt:=top 4
noncomputable abbrev fd_is_within:FuncData:=fnX "is_within" "is_within" (top 4) "talejudge.basics" 194 34
theorem z5i (P:J0):Fun (KX P) "is_within" "is_within" st_is_within 35 fd_is_within:=z0d
theorem ze9 (P:J0):Binds (KX P) fd_is_within ["value","greatest"] []:=(z5i P).binds λ _ _ _ _ _ _=>us2 λ _ _=>rfl
theorem zc1:FnScope ["value","greatest"] ["value","greatest"] (z06 st_is_within):=⟨rfl,rfl,rfl,by decide +kernel,rfl,by decide +kernel,by decide +kernel⟩
noncomputable abbrev st_is_worth:Stmt:=top 5
noncomputable abbrev fd_is_worth:FuncData:=fnX "is_worth" "is_worth" (top 5) "talejudge.basics" 194 41
theorem z70 (P:J0):Fun (KX P) "is_worth" "is_worth" st_is_worth 42 fd_is_worth:=z0d
theorem zfb (P:J0):Binds (KX P) fd_is_worth ["value"] []:=(z70 P).binds λ _ _ _ _ _ _=>us1 λ _=>rfl
theorem zer:FnScope ["value"] ["value"] (z06 st_is_worth):=⟨rfl,rfl,rfl,by decide +kernel,rfl,by decide +kernel,by decide +kernel⟩
noncomputable abbrev st_is_tuple_of:Stmt:=top 6
noncomputable abbrev fd_is_tuple_of:FuncData:=fnX "is_tuple_of" "is_tuple_of" (top 6) "talejudge.basics" 194 48
theorem z32 (P:J0):Fun (KX P) "is_tuple_of" "is_tuple_of" st_is_tuple_of 49 fd_is_tuple_of:=z0d
theorem zal (P:J0):Binds (KX P) fd_is_tuple_of ["value","many"] []:=(z32 P).binds λ _ _ _ _ _ _=>us2 λ _ _=>rfl
theorem z97:FnScope ["value","many"] ["value","many"] (z06 st_is_tuple_of):=⟨rfl,rfl,rfl,by decide +kernel,rfl,by decide +kernel,by decide +kernel⟩
noncomputable abbrev st_read_state:Stmt:=top 14
noncomputable abbrev fd_read_state:FuncData:=fnX "read_state" "read_state" (top 14) "talejudge.store" 280 96
theorem z45 (P:J0):Fun (KX P) "read_state" "read_state" st_read_state 97 fd_read_state:=z0d
theorem zch (P:J0):Binds (KX P) fd_read_state ["state","worth"] []:=(z45 P).binds λ _ _ _ _ _ _=>us2 λ _ _=>rfl
theorem za1:FnScope ["state","worth"] ["state","worth"] (z06 st_read_state):=⟨rfl,rfl,rfl,by decide +kernel,rfl,by decide +kernel,by decide +kernel⟩
noncomputable abbrev st_write_state:Stmt:=top 15
noncomputable abbrev fd_write_state:FuncData:=fnX "write_state" "write_state" (top 15) "talejudge.store" 280 103
theorem z3e (P:J0):Fun (KX P) "write_state" "write_state" st_write_state 104 fd_write_state:=z0d
theorem zaa (P:J0):Binds (KX P) fd_write_state ["state","worth"] []:=(z3e P).binds λ _ _ _ _ _ _=>us2 λ _ _=>rfl
theorem z8u:FnScope ["state","worth"] ["state","worth"] (z06 st_write_state):=⟨rfl,rfl,rfl,by decide +kernel,rfl,by decide +kernel,by decide +kernel⟩
noncomputable abbrev st_add_to_number:Stmt:=top 16
noncomputable abbrev fd_add_to_number:FuncData:=fnX "add_to_number" "add_to_number" (top 16) "talejudge.store" 280 110
theorem z2a (P:J0):Fun (KX P) "add_to_number" "add_to_number" st_add_to_number 111 fd_add_to_number:=z0d
theorem z7i (P:J0):Binds (KX P) fd_add_to_number ["state","worth"] []:=(z2a P).binds λ _ _ _ _ _ _=>us2 λ _ _=>rfl
theorem z75:FnScope ["state","worth"] ["state","worth"] (z06 st_add_to_number):=⟨rfl,rfl,rfl,by decide +kernel,rfl,by decide +kernel,by decide +kernel⟩
noncomputable abbrev st_put_behind:Stmt:=top 17
noncomputable abbrev fd_put_behind:FuncData:=fnX "put_behind" "put_behind" (top 17) "talejudge.store" 280 117
theorem z4c (P:J0):Fun (KX P) "put_behind" "put_behind" st_put_behind 118 fd_put_behind:=z0d
theorem zb7 (P:J0):Binds (KX P) fd_put_behind ["state","worth"] []:=(z4c P).binds λ _ _ _ _ _ _=>us2 λ _ _=>rfl
theorem zb1:FnScope ["state","worth"] ["state","worth"] (z06 st_put_behind):=⟨rfl,rfl,rfl,by decide +kernel,rfl,by decide +kernel,by decide +kernel⟩
noncomputable abbrev st_take_first:Stmt:=top 18
noncomputable abbrev fd_take_first:FuncData:=fnX "take_first" "take_first" (top 18) "talejudge.store" 280 124
theorem z43 (P:J0):Fun (KX P) "take_first" "take_first" st_take_first 125 fd_take_first:=z0d
theorem zb3 (P:J0):Binds (KX P) fd_take_first ["state","worth"] []:=(z43 P).binds λ _ _ _ _ _ _=>us2 λ _ _=>rfl
theorem zaq:FnScope ["state","worth"] ["state","worth"] (z06 st_take_first):=⟨rfl,rfl,rfl,by decide +kernel,rfl,by decide +kernel,by decide +kernel⟩
noncomputable abbrev st_put_into_set:Stmt:=top 19
noncomputable abbrev fd_put_into_set:FuncData:=fnX "put_into_set" "put_into_set" (top 19) "talejudge.store" 280 131
theorem z2k (P:J0):Fun (KX P) "put_into_set" "put_into_set" st_put_into_set 132 fd_put_into_set:=z0d
theorem z9b (P:J0):Binds (KX P) fd_put_into_set ["state","worth"] []:=(z2k P).binds λ _ _ _ _ _ _=>us2 λ _ _=>rfl
theorem z7n:FnScope ["state","worth"] ["state","worth"] (z06 st_put_into_set):=⟨rfl,rfl,rfl,by decide +kernel,rfl,by decide +kernel,by decide +kernel⟩
noncomputable abbrev st_cut_from_set:Stmt:=top 20
noncomputable abbrev fd_cut_from_set:FuncData:=fnX "cut_from_set" "cut_from_set" (top 20) "talejudge.store" 280 136
theorem z2o (P:J0):Fun (KX P) "cut_from_set" "cut_from_set" st_cut_from_set 137 fd_cut_from_set:=z0d
theorem z8m (P:J0):Binds (KX P) fd_cut_from_set ["state","worth"] []:=(z2o P).binds λ _ _ _ _ _ _=>us2 λ _ _=>rfl
theorem z7j:FnScope ["state","worth"] ["state","worth"] (z06 st_cut_from_set):=⟨rfl,rfl,rfl,by decide +kernel,rfl,by decide +kernel,by decide +kernel⟩
noncomputable abbrev st_has_in_set:Stmt:=top 21
noncomputable abbrev fd_has_in_set:FuncData:=fnX "has_in_set" "has_in_set" (top 21) "talejudge.store" 280 143
theorem z40 (P:J0):Fun (KX P) "has_in_set" "has_in_set" st_has_in_set 144 fd_has_in_set:=z0d
theorem zbn (P:J0):Binds (KX P) fd_has_in_set ["state","worth"] []:=(z40 P).binds λ _ _ _ _ _ _=>us2 λ _ _=>rfl
theorem z9m:FnScope ["state","worth"] ["state","worth"] (z06 st_has_in_set):=⟨rfl,rfl,rfl,by decide +kernel,rfl,by decide +kernel,by decide +kernel⟩
noncomputable abbrev st_swap_state:Stmt:=top 22
noncomputable abbrev fd_swap_state:FuncData:=fnX "swap_state" "swap_state" (top 22) "talejudge.store" 280 150
theorem z44 (P:J0):Fun (KX P) "swap_state" "swap_state" st_swap_state 151 fd_swap_state:=z0d
theorem zca (P:J0):Binds (KX P) fd_swap_state ["state","worth"] []:=(z44 P).binds λ _ _ _ _ _ _=>us2 λ _ _=>rfl
theorem z9r:FnScope ["state","worth"] ["state","worth"] (z06 st_swap_state):=⟨rfl,rfl,rfl,by decide +kernel,rfl,by decide +kernel,by decide +kernel⟩
noncomputable abbrev st_is_kind:Stmt:=top 24
noncomputable abbrev fd_is_kind:FuncData:=fnX "is_kind" "is_kind" (top 24) "talejudge.store" 280 170
theorem z8r (P:J0):Fun (KX P) "is_kind" "is_kind" st_is_kind 171 fd_is_kind:=z0d
theorem zhj (P:J0):Binds (KX P) fd_is_kind ["kind"] []:=(z8r P).binds λ _ _ _ _ _ _=>us1 λ _=>rfl
theorem zew:FnScope ["kind"] ["kind"] (z06 st_is_kind):=⟨rfl,rfl,rfl,by decide +kernel,rfl,by decide +kernel,by decide +kernel⟩
noncomputable abbrev st_first_state:Stmt:=top 25
noncomputable abbrev fd_first_state:FuncData:=fnX "first_state" "first_state" (top 25) "talejudge.store" 280 177
theorem z3c (P:J0):Fun (KX P) "first_state" "first_state" st_first_state 178 fd_first_state:=z0d
theorem z9v (P:J0):Binds (KX P) fd_first_state ["kind"] []:=(z3c P).binds λ _ _ _ _ _ _=>us1 λ _=>rfl
theorem z98:FnScope ["kind"] ["kind"] (z06 st_first_state):=⟨rfl,rfl,rfl,by decide +kernel,rfl,by decide +kernel,by decide +kernel⟩
noncomputable abbrev st_is_deed:Stmt:=top 26
noncomputable abbrev fd_is_deed:FuncData:=fnX "is_deed" "is_deed" (top 26) "talejudge.store" 280 182
theorem z94 (P:J0):Fun (KX P) "is_deed" "is_deed" st_is_deed 183 fd_is_deed:=z0d
theorem zif (P:J0):Binds (KX P) fd_is_deed ["kind","verb","worth"] []:=(z94 P).binds λ _ _ _ _ _ _=>us3 λ _ _ _=>rfl
theorem sc_is_deed:FnScope ["kind","verb","worth","many"] ["kind","verb","worth"] (z06 st_is_deed):=⟨rfl,rfl,rfl,by decide +kernel,rfl,by decide +kernel,by decide +kernel⟩
noncomputable abbrev st_do:Stmt:=top 27
noncomputable abbrev fd_do:FuncData:=fnX "do" "do" (top 27) "talejudge.store" 280 189
theorem F_do (P:J0):Fun (KX P) "do" "do" st_do 190 fd_do:=z0d
theorem b_do (P:J0):Binds (KX P) fd_do ["kind","state","verb","worth"] []:=(F_do P).binds λ _ _ _ _ _ _=>us4 λ _ _ _ _=>rfl
theorem sc_do:FnScope ["kind","state","verb","worth","doer"] ["kind","state","verb","worth"] (z06 st_do):=⟨rfl,rfl,rfl,by decide +kernel,rfl,by decide +kernel,by decide +kernel⟩
noncomputable abbrev st_deeds:Stmt:=top 29
noncomputable abbrev fd_deeds:FuncData:=fnX "deeds" "deeds" (top 29) "talejudge.tales" 483 196
theorem zgl (P:J0):Fun (KX P) "deeds" "deeds" st_deeds 197 fd_deeds:=z0d
theorem zkz (P:J0):Binds (KX P) fd_deeds ["tale"] []:=(zgl P).binds λ _ _ _ _ _ _=>us1 λ _=>rfl
theorem sc_deeds:FnScope ["tale","told","numbers","place","event","number","begun"] ["tale"] (z06 st_deeds):=⟨rfl,rfl,rfl,by decide +kernel,rfl,by decide +kernel,by decide +kernel⟩
noncomputable abbrev st_has_to:Stmt:=top 32
noncomputable abbrev fd_has_to:FuncData:=fnX "has_to" "has_to" (top 32) "talejudge.orders" 498 204
theorem zbu (P:J0):Fun (KX P) "has_to" "has_to" st_has_to 205 fd_has_to:=z0d
theorem zjz (P:J0):Binds (KX P) fd_has_to ["tale","strictness"] []:=(zbu P).binds λ _ _ _ _ _ _=>us2 λ _ _=>rfl
theorem sc_has_to:FnScope ["tale","strictness","told","pairs","ahead","one","behind","other"] ["tale","strictness"] (z06 st_has_to):=⟨rfl,rfl,rfl,by decide +kernel,rfl,by decide +kernel,by decide +kernel⟩
noncomputable abbrev st_check_strictness:Stmt:=top 33
noncomputable abbrev fd_check_strictness:FuncData:=fnX "check_strictness" "check_strictness" (top 33) "talejudge.orders" 498 211
theorem z18 (P:J0):Fun (KX P) "check_strictness" "check_strictness" st_check_strictness 212 fd_check_strictness:=z0d
theorem z5a (P:J0):Binds (KX P) fd_check_strictness ["strictness"] []:=(z18 P).binds λ _ _ _ _ _ _=>us1 λ _=>rfl
theorem z4s:FnScope ["strictness"] ["strictness"] (z06 st_check_strictness):=⟨rfl,rfl,rfl,by decide +kernel,rfl,by decide +kernel,by decide +kernel⟩
noncomputable abbrev st_goes_ahead:Stmt:=top 34
noncomputable abbrev fd_goes_ahead:FuncData:=fnX "goes_ahead" "goes_ahead" (top 34) "talejudge.orders" 498 218
theorem z4d (P:J0):Fun (KX P) "goes_ahead" "goes_ahead" st_goes_ahead 219 fd_goes_ahead:=z0d
theorem zbi (P:J0):Binds (KX P) fd_goes_ahead ["one","other","strictness"] []:=(z4d P).binds λ _ _ _ _ _ _=>us3 λ _ _ _=>rfl
theorem za2:FnScope ["one","other","strictness"] ["one","other","strictness"] (z06 st_goes_ahead):=⟨rfl,rfl,rfl,by decide +kernel,rfl,by decide +kernel,by decide +kernel⟩
noncomputable abbrev st_step_of:Stmt:=top 38
noncomputable abbrev fd_step_of:FuncData:=fnX "step_of" "step_of" (top 38) "talejudge.places" 534 291
theorem z8f (P:J0):Fun (KX P) "step_of" "step_of" st_step_of 292 fd_step_of:=z0d
theorem zht (P:J0):Binds (KX P) fd_step_of ["candidate","place"] []:=(z8f P).binds λ _ _ _ _ _ _=>us2 λ _ _=>rfl
theorem sc_step_of:FnScope ["candidate","place","thing","states","done","numbers"] ["candidate","place"] (z06 st_step_of):=⟨rfl,rfl,rfl,by decide +kernel,rfl,by decide +kernel,by decide +kernel⟩
noncomputable abbrev st_ended_numbers:Stmt:=top 39
noncomputable abbrev fd_ended_numbers:FuncData:=fnX "ended_numbers" "ended_numbers" (top 39) "talejudge.places" 534 296
theorem z25 (P:J0):Fun (KX P) "ended_numbers" "ended_numbers" st_ended_numbers 297 fd_ended_numbers:=z0d
theorem z7k (P:J0):Binds (KX P) fd_ended_numbers ["told"] []:=(z25 P).binds λ _ _ _ _ _ _=>us1 λ _=>rfl
theorem z68:FnScope ["told"] ["told"] (z06 st_ended_numbers):=⟨rfl,rfl,rfl,by decide +kernel,rfl,by decide +kernel,by decide +kernel⟩
noncomputable abbrev st_holds_all:Stmt:=top 40
noncomputable abbrev fd_holds_all:FuncData:=fnX "holds_all" "holds_all" (top 40) "talejudge.places" 534 301
theorem z5e (P:J0):Fun (KX P) "holds_all" "holds_all" st_holds_all 302 fd_holds_all:=z0d
theorem zes (P:J0):Binds (KX P) fd_holds_all ["done","numbers"] []:=(z5e P).binds λ _ _ _ _ _ _=>us2 λ _ _=>rfl
theorem zbd:FnScope ["done","numbers"] ["done","numbers"] (z06 st_holds_all):=⟨rfl,rfl,rfl,by decide +kernel,rfl,by decide +kernel,by decide +kernel⟩
noncomputable abbrev st_first_place:Stmt:=top 41
noncomputable abbrev fd_first_place:FuncData:=fnX "first_place" "first_place" (top 41) "talejudge.places" 534 306
theorem z35 (P:J0):Fun (KX P) "first_place" "first_place" st_first_place 307 fd_first_place:=z0d
theorem z9s (P:J0):Binds (KX P) fd_first_place ["tale"] []:=(z35 P).binds λ _ _ _ _ _ _=>us1 λ _=>rfl
theorem z8z:FnScope ["tale"] ["tale"] (z06 st_first_place):=⟨rfl,rfl,rfl,by decide +kernel,rfl,by decide +kernel,by decide +kernel⟩
noncomputable abbrev st_nexts:Stmt:=top 42
noncomputable abbrev fd_nexts:FuncData:=fnX "nexts" "nexts" (top 42) "talejudge.places" 534 313
theorem zgu (P:J0):Fun (KX P) "nexts" "nexts" st_nexts 314 fd_nexts:=z0d
theorem zkq (P:J0):Binds (KX P) fd_nexts ["tale","strictness","place"] []:=(zgu P).binds λ _ _ _ _ _ _=>us3 λ _ _ _=>rfl
theorem sc_nexts:FnScope ["tale","strictness","place","board"] ["tale","strictness","place"] (z06 st_nexts):=⟨rfl,rfl,rfl,by decide +kernel,rfl,by decide +kernel,by decide +kernel⟩
noncomputable abbrev st_is_full:Stmt:=top 43
noncomputable abbrev fd_is_full:FuncData:=fnX "is_full" "is_full" (top 43) "talejudge.places" 534 320
theorem z9f (P:J0):Fun (KX P) "is_full" "is_full" st_is_full 321 fd_is_full:=z0d
theorem zh9 (P:J0):Binds (KX P) fd_is_full ["tale","place"] []:=(z9f P).binds λ _ _ _ _ _ _=>us2 λ _ _=>rfl
theorem zfo:FnScope ["tale","place"] ["tale","place"] (z06 st_is_full):=⟨rfl,rfl,rfl,by decide +kernel,rfl,by decide +kernel,by decide +kernel⟩
noncomputable abbrev st__law_hand:Stmt:=top 45
noncomputable abbrev fd__law_hand:FuncData:=fY "_law_hand" "_law_hand" (top 45) 327
theorem z5h (P:J0):Fun (KX P) "_law_hand" "_law_hand" st__law_hand 328 fd__law_hand:=z0d
theorem zdw (P:J0):Binds (KX P) fd__law_hand ["script","cell","k"] []:=(z5h P).binds λ _ _ _ _ _ _=>us3 λ _ _ _=>rfl
theorem sc__law_hand:FnScope ["script","cell","k","way"] ["script","cell","k"] (z06 st__law_hand):=⟨rfl,rfl,rfl,by decide +kernel,rfl,by decide +kernel,by decide +kernel⟩
noncomputable abbrev st__law_draw:Stmt:=top 46
noncomputable abbrev fd__law_draw:FuncData:=fY "_law_draw" "_law_draw" (top 46) 334
theorem z50 (P:J0):Fun (KX P) "_law_draw" "_law_draw" st__law_draw 335 fd__law_draw:=z0d
theorem zem (P:J0):Binds (KX P) fd__law_draw ["hand","limit"] []:=(z50 P).binds λ _ _ _ _ _ _=>us2 λ _ _=>rfl
theorem sc__law_draw:FnScope ["hand","limit","got"] ["hand","limit"] (z06 st__law_draw):=⟨rfl,rfl,rfl,by decide +kernel,rfl,by decide +kernel,by decide +kernel⟩
noncomputable abbrev st__law_begun:Stmt:=top 47
noncomputable abbrev fd__law_begun:FuncData:=fY "_law_begun" "_law_begun" (top 47) 341
theorem z41 (P:J0):Fun (KX P) "_law_begun" "_law_begun" st__law_begun 342 fd__law_begun:=z0d
theorem zbq (P:J0):Binds (KX P) fd__law_begun ["kind"] []:=(z41 P).binds λ _ _ _ _ _ _=>us1 λ _=>rfl
theorem z9z:FnScope ["kind"] ["kind"] (z06 st__law_begun):=⟨rfl,rfl,rfl,by decide +kernel,rfl,by decide +kernel,by decide +kernel⟩
noncomputable abbrev st__law_does:Stmt:=top 48
noncomputable abbrev fd__law_does:FuncData:=fY "_law_does" "_law_does" (top 48) 346
theorem z55 (P:J0):Fun (KX P) "_law_does" "_law_does" st__law_does 347 fd__law_does:=z0d
theorem zeo (P:J0):Binds (KX P) fd__law_does ["kind","state","verb","worth"] []:=(z55 P).binds λ _ _ _ _ _ _=>us4 λ _ _ _ _=>rfl
theorem sc__law_does:FnScope ["kind","state","verb","worth","answer"] ["kind","state","verb","worth"] (z06 st__law_does):=⟨rfl,rfl,rfl,by decide +kernel,rfl,by decide +kernel,by decide +kernel⟩
noncomputable abbrev st__law_worth:Stmt:=top 49
noncomputable abbrev fd__law_worth:FuncData:=fY "_law_worth" "_law_worth" (top 49) 353
theorem z4b (P:J0):Fun (KX P) "_law_worth" "_law_worth" st__law_worth 354 fd__law_worth:=z0d
theorem zbf (P:J0):Binds (KX P) fd__law_worth ["hand"] []:=(z4b P).binds λ _ _ _ _ _ _=>us1 λ _=>rfl
theorem zae:FnScope ["hand"] ["hand"] (z06 st__law_worth):=⟨rfl,rfl,rfl,by decide +kernel,rfl,by decide +kernel,by decide +kernel⟩
noncomputable abbrev st__law_act:Stmt:=top 50
noncomputable abbrev fd__law_act:FuncData:=fY "_law_act" "_law_act" (top 50) 360
theorem z6o (P:J0):Fun (KX P) "_law_act" "_law_act" st__law_act 361 fd__law_act:=z0d
theorem zgw (P:J0):Binds (KX P) fd__law_act ["hand","kind"] []:=(z6o P).binds λ _ _ _ _ _ _=>us2 λ _ _=>rfl
theorem sc__law_act:FnScope ["hand","kind","verbs","verb"] ["hand","kind"] (z06 st__law_act):=⟨rfl,rfl,rfl,by decide +kernel,rfl,by decide +kernel,by decide +kernel⟩
noncomputable abbrev st__law_things:Stmt:=top 51
noncomputable abbrev fd__law_things:FuncData:=fY "_law_things" "_law_things" (top 51) 365
theorem z30 (P:J0):Fun (KX P) "_law_things" "_law_things" st__law_things 366 fd__law_things:=z0d
theorem za4 (P:J0):Binds (KX P) fd__law_things ["hand"] []:=(z30 P).binds λ _ _ _ _ _ _=>us1 λ _=>rfl
theorem sc__law_things:FnScope ["hand","known","many"] ["hand"] (z06 st__law_things):=⟨rfl,rfl,rfl,by decide +kernel,rfl,by decide +kernel,by decide +kernel⟩
noncomputable abbrev st__law_ended:Stmt:=top 52
noncomputable abbrev fd__law_ended:FuncData:=fY "_law_ended" "_law_ended" (top 52) 372
theorem z4e (P:J0):Fun (KX P) "_law_ended" "_law_ended" st__law_ended 373 fd__law_ended:=z0d
theorem zba (P:J0):Binds (KX P) fd__law_ended ["hand","things","states","act"] []:=(z4e P).binds λ _ _ _ _ _ _=>us4 λ _ _ _ _=>rfl
theorem sc__law_ended:FnScope ["hand","things","states","act","name","verb","worth","heard","kind"] ["hand","things","states","act"] (z06 st__law_ended):=⟨rfl,rfl,rfl,by decide +kernel,rfl,by decide +kernel,by decide +kernel⟩
noncomputable abbrev st__law_tale:Stmt:=top 53
noncomputable abbrev fd__law_tale:FuncData:=fY "_law_tale" "_law_tale" (top 53) 377
theorem z5b (P:J0):Fun (KX P) "_law_tale" "_law_tale" st__law_tale 378 fd__law_tale:=z0d
theorem zdx (P:J0):Binds (KX P) fd__law_tale ["script","first","hands","most"] []:=(z5b P).binds λ _ _ _ _ _ _=>us4 λ _ _ _ _=>rfl
theorem sc__law_tale:FnScope ["script","first","hands","most","head","things","states","calm","busy","many","events","k","cell","hand","one","name","kind","verb","worth","heard"] ["script","first","hands","most"] (z06 st__law_tale):=⟨rfl,rfl,rfl,by decide +kernel,rfl,by decide +kernel,by decide +kernel⟩
noncomputable abbrev st__law_acts:Stmt:=top 54
noncomputable abbrev fd__law_acts:FuncData:=fY "_law_acts" "_law_acts" (top 54) 384
theorem z54 (P:J0):Fun (KX P) "_law_acts" "_law_acts" st__law_acts 385 fd__law_acts:=z0d
theorem zdr (P:J0):Binds (KX P) fd__law_acts ["tale"] []:=(z54 P).binds λ _ _ _ _ _ _=>us1 λ _=>rfl
theorem sc__law_acts:FnScope ["tale","acts","open_ones","at","event","act"] ["tale"] (z06 st__law_acts):=⟨rfl,rfl,rfl,by decide +kernel,rfl,by decide +kernel,by decide +kernel⟩
noncomputable abbrev st__law_must:Stmt:=top 55
noncomputable abbrev fd__law_must:FuncData:=fY "_law_must" "_law_must" (top 55) 391
theorem z56 (P:J0):Fun (KX P) "_law_must" "_law_must" st__law_must 392 fd__law_must:=z0d
theorem zds (P:J0):Binds (KX P) fd__law_must ["acts","strictness","one","other"] []:=(z56 P).binds λ _ _ _ _ _ _=>us4 λ _ _ _ _=>rfl
theorem zcc:FnScope ["acts","strictness","one","other"] ["acts","strictness","one","other"] (z06 st__law_must):=⟨rfl,rfl,rfl,by decide +kernel,rfl,by decide +kernel,by decide +kernel⟩
noncomputable abbrev st__law_alike:Stmt:=top 56
noncomputable abbrev fd__law_alike:FuncData:=fY "_law_alike" "_law_alike" (top 56) 398
theorem z49 (P:J0):Fun (KX P) "_law_alike" "_law_alike" st__law_alike 399 fd__law_alike:=z0d
theorem zbz (P:J0):Binds (KX P) fd__law_alike ["one","other"] []:=(z49 P).binds λ _ _ _ _ _ _=>us2 λ _ _=>rfl
theorem za9:FnScope ["one","other"] ["one","other"] (z06 st__law_alike):=⟨rfl,rfl,rfl,by decide +kernel,rfl,by decide +kernel,by decide +kernel⟩
noncomputable abbrev st__law_on:Stmt:=top 57
noncomputable abbrev fd__law_on:FuncData:=fY "_law_on" "_law_on" (top 57) 403
theorem z93 (P:J0):Fun (KX P) "_law_on" "_law_on" st__law_on 404 fd__law_on:=z0d
theorem zhu (P:J0):Binds (KX P) fd__law_on ["tale","acts","must","place"] []:=(z93 P).binds λ _ _ _ _ _ _=>us4 λ _ _ _ _=>rfl
theorem sc__law_on:FnScope ["tale","acts","must","place","told","names","gone","number","act","at","state","heard","states","new"] ["tale","acts","must","place"] (z06 st__law_on):=⟨rfl,rfl,rfl,by decide +kernel,rfl,by decide +kernel,by decide +kernel⟩
noncomputable abbrev st__law_musts:Stmt:=top 58
noncomputable abbrev fd__law_musts:FuncData:=fY "_law_musts" "_law_musts" (top 58) 408
theorem z3y (P:J0):Fun (KX P) "_law_musts" "_law_musts" st__law_musts 409 fd__law_musts:=z0d
theorem zb9 (P:J0):Binds (KX P) fd__law_musts ["acts","strictness"] []:=(z3y P).binds λ _ _ _ _ _ _=>us2 λ _ _=>rfl
theorem sc__law_musts:FnScope ["acts","strictness","must","number"] ["acts","strictness"] (z06 st__law_musts):=⟨rfl,rfl,rfl,by decide +kernel,rfl,by decide +kernel,by decide +kernel⟩
noncomputable abbrev st__law_is_full:Stmt:=top 60
noncomputable abbrev fd__law_is_full:FuncData:=fY "_law_is_full" "_law_is_full" (top 60) 418
theorem z2j (P:J0):Fun (KX P) "_law_is_full" "_law_is_full" st__law_is_full 419 fd__law_is_full:=z0d
theorem z8y (P:J0):Binds (KX P) fd__law_is_full ["acts","place"] []:=(z2j P).binds λ _ _ _ _ _ _=>us2 λ _ _=>rfl
theorem z7p:FnScope ["acts","place"] ["acts","place"] (z06 st__law_is_full):=⟨rfl,rfl,rfl,by decide +kernel,rfl,by decide +kernel,by decide +kernel⟩
noncomputable abbrev st__law_place_alike:Stmt:=top 61
noncomputable abbrev fd__law_place_alike:FuncData:=fY "_law_place_alike" "_law_place_alike" (top 61) 425
theorem z19 (P:J0):Fun (KX P) "_law_place_alike" "_law_place_alike" st__law_place_alike 426 fd__law_place_alike:=z0d
theorem z5f (P:J0):Binds (KX P) fd__law_place_alike ["got","due"] []:=(z19 P).binds λ _ _ _ _ _ _=>us2 λ _ _=>rfl
theorem z4o:FnScope ["got","due"] ["got","due"] (z06 st__law_place_alike):=⟨rfl,rfl,rfl,by decide +kernel,rfl,by decide +kernel,by decide +kernel⟩
noncomputable abbrev st__law_nexts_right:Stmt:=top 62
noncomputable abbrev fd__law_nexts_right:FuncData:=fY "_law_nexts_right" "_law_nexts_right" (top 62) 432
theorem z1a (P:J0):Fun (KX P) "_law_nexts_right" "_law_nexts_right" st__law_nexts_right 433 fd__law_nexts_right:=z0d
theorem z51 (P:J0):Binds (KX P) fd__law_nexts_right ["tale","strictness","place","due"] []:=(z1a P).binds λ _ _ _ _ _ _=>us4 λ _ _ _ _=>rfl
theorem sc__law_nexts_right:FnScope ["tale","strictness","place","due","got","one","other"] ["tale","strictness","place","due"] (z06 st__law_nexts_right):=⟨rfl,rfl,rfl,by decide +kernel,rfl,by decide +kernel,by decide +kernel⟩
noncomputable abbrev st__law_way:Stmt:=top 63
noncomputable abbrev fd__law_way:FuncData:=fY "_law_way" "_law_way" (top 63) 437
theorem z6f (P:J0):Fun (KX P) "_law_way" "_law_way" st__law_way 438 fd__law_way:=z0d
theorem zfv (P:J0):Binds (KX P) fd__law_way ["hand","tale","strictness"] []:=(z6f P).binds λ _ _ _ _ _ _=>us3 λ _ _ _=>rfl
theorem sc__law_way:FnScope ["hand","tale","strictness","acts","must","place","due","full"] ["hand","tale","strictness"] (z06 st__law_way):=⟨rfl,rfl,rfl,by decide +kernel,rfl,by decide +kernel,by decide +kernel⟩
noncomputable abbrev st__law_any_state:Stmt:=top 64
noncomputable abbrev fd__law_any_state:FuncData:=fY "_law_any_state" "_law_any_state" (top 64) 442
theorem z1q (P:J0):Fun (KX P) "_law_any_state" "_law_any_state" st__law_any_state 443 fd__law_any_state:=z0d
theorem z76 (P:J0):Binds (KX P) fd__law_any_state ["hand","kind"] []:=(z1q P).binds λ _ _ _ _ _ _=>us2 λ _ _=>rfl
theorem sc__law_any_state:FnScope ["hand","kind","some"] ["hand","kind"] (z06 st__law_any_state):=⟨rfl,rfl,rfl,by decide +kernel,rfl,by decide +kernel,by decide +kernel⟩
noncomputable abbrev st__law_may:Stmt:=top 65
noncomputable abbrev fd__law_may:FuncData:=fY "_law_may" "_law_may" (top 65) 447
theorem z6n (P:J0):Fun (KX P) "_law_may" "_law_may" st__law_may 448 fd__law_may:=z0d
theorem zf2 (P:J0):Binds (KX P) fd__law_may ["tale","acts","strictness","place"] []:=(z6n P).binds λ _ _ _ _ _ _=>us4 λ _ _ _ _=>rfl
theorem sc__law_may:FnScope ["tale","acts","strictness","place","told","names_there","number","ahead_ones","lacking","behind","act","at","state","heard","new"] ["tale","acts","strictness","place"] (z06 st__law_may):=⟨rfl,rfl,rfl,by decide +kernel,rfl,by decide +kernel,by decide +kernel⟩
noncomputable abbrev st__law_anywhere:Stmt:=top 66
noncomputable abbrev fd__law_anywhere:FuncData:=fY "_law_anywhere" "_law_anywhere" (top 66) 452
theorem z29 (P:J0):Fun (KX P) "_law_anywhere" "_law_anywhere" st__law_anywhere 453 fd__law_anywhere:=z0d
theorem z7e (P:J0):Binds (KX P) fd__law_anywhere ["hand","tale","strictness"] []:=(z29 P).binds λ _ _ _ _ _ _=>us3 λ _ _ _=>rfl
theorem sc__law_anywhere:FnScope ["hand","tale","strictness","acts","most","gone","place","full"] ["hand","tale","strictness"] (z06 st__law_anywhere):=⟨rfl,rfl,rfl,by decide +kernel,rfl,by decide +kernel,by decide +kernel⟩
noncomputable abbrev st_law:Stmt:=top 67
noncomputable abbrev fd_law:FuncData:=fY "law" "law" (top 67) 459
theorem F_law (P:J0):Fun (KX P) "law" "law" st_law 460 fd_law:=z0d
theorem sc_law:FnScope ["script","head","tale","cell","strictness","k"] ["script"] (z06 st_law):=⟨rfl,rfl,rfl,by decide +kernel,rfl,by decide +kernel,by decide +kernel⟩
noncomputable abbrev st_Candidate___init__:Stmt:=subS (top 36) 0
noncomputable abbrev fd_Candidate___init__:FuncData:=fnX "__init__" "Candidate.__init__" (subS (top 36) 0) "talejudge.places" 534 230
theorem z1v (P:J0):Fun (KX P) "__init__" "Candidate.__init__" st_Candidate___init__ 231 fd_Candidate___init__:=z0d
theorem z3z (P:J0):Binds (KX P) fd_Candidate___init__ ["self","number","deed","thing","kind","pairs"] []:=(z1v P).binds λ _ _ _ _ _ _=>us6 λ _ _ _ _ _ _=>rfl
theorem z3u:FnScope ["self","number","deed","thing","kind","pairs"] ["self","number","deed","thing","kind","pairs"] (z06 st_Candidate___init__):=⟨rfl,rfl,rfl,by decide +kernel,rfl,by decide +kernel,by decide +kernel⟩
theorem zcg (P:J0):Mk (KX P) 241 231:=⟨by kernel_rfl,by kernel_rfl,by kernel_rfl,by kernel_rfl⟩
theorem z0b (P:J0):Cls (KX P) 241:=⟨by kernel_rfl,by kernel_rfl,by kernel_rfl,by kernel_rfl⟩
theorem z0t (P:J0):NoAttr (KX P) 241 "number":=by unfold NoAttr;kernel_rfl
theorem z2d (P:J0):NoAttr (KX P) 241 "thing":=by unfold NoAttr;kernel_rfl
theorem z2w (P:J0):NoAttr (KX P) 241 "kind":=by unfold NoAttr;kernel_rfl
theorem z2u (P:J0):NoAttr (KX P) 241 "verb":=by unfold NoAttr;kernel_rfl
theorem z2f (P:J0):NoAttr (KX P) 241 "worth":=by unfold NoAttr;kernel_rfl
theorem z10 (P:J0):NoAttr (KX P) 241 "answer":=by unfold NoAttr;kernel_rfl
theorem z21 (P:J0):NoAttr (KX P) 241 "aheads":=by unfold NoAttr;kernel_rfl
theorem z1r (P:J0):NoAttr (KX P) 241 "behinds":=by unfold NoAttr;kernel_rfl
noncomputable abbrev st_Candidate_may_stand:Stmt:=subS (top 36) 1
noncomputable abbrev fd_Candidate_may_stand:FuncData:=fnX "may_stand" "Candidate.may_stand" (subS (top 36) 1) "talejudge.places" 534 237
theorem z1k (P:J0):Fun (KX P) "may_stand" "Candidate.may_stand" st_Candidate_may_stand 238 fd_Candidate_may_stand:=z0d
theorem z3t (P:J0):Binds (KX P) fd_Candidate_may_stand ["self","done"] []:=(z1k P).binds λ _ _ _ _ _ _=>us2 λ _ _=>rfl
theorem sc_Candidate_may_stand:FnScope ["self","done","ahead","behind"] ["self","done"] (z06 st_Candidate_may_stand):=⟨rfl,rfl,rfl,by decide +kernel,rfl,by decide +kernel,by decide +kernel⟩
theorem z39 (P:J0):Meth (KX P) 241 "may_stand" 238:=⟨by kernel_rfl,by kernel_rfl,by kernel_rfl⟩
noncomputable abbrev st_Board___init__:Stmt:=subS (top 37) 0
noncomputable abbrev fd_Board___init__:FuncData:=fnX "__init__" "Board.__init__" (subS (top 37) 0) "talejudge.places" 534 256
theorem z3h (P:J0):Fun (KX P) "__init__" "Board.__init__" st_Board___init__ 257 fd_Board___init__:=z0d
theorem z71 (P:J0):Binds (KX P) fd_Board___init__ ["self","tale","strictness"] []:=(z3h P).binds λ _ _ _ _ _ _=>us3 λ _ _ _=>rfl
theorem sc_Board___init__:FnScope ["self","tale","strictness","pairs","told","names","number","deed","thing"] ["self","tale","strictness"] (z06 st_Board___init__):=⟨rfl,rfl,rfl,by decide +kernel,rfl,by decide +kernel,by decide +kernel⟩
theorem zkd (P:J0):Mk (KX P) 281 257:=⟨by kernel_rfl,by kernel_rfl,by kernel_rfl,by kernel_rfl⟩
theorem z3l (P:J0):Cls (KX P) 281:=⟨by kernel_rfl,by kernel_rfl,by kernel_rfl,by kernel_rfl⟩
theorem z4g (P:J0):NoAttr (KX P) 281 "kinds":=by unfold NoAttr;kernel_rfl
theorem z8l (P:J0):NoAttr (KX P) 281 "first":=by unfold NoAttr;kernel_rfl
theorem z8d (P:J0):NoAttr (KX P) 281 "ended":=by unfold NoAttr;kernel_rfl
theorem z11 (P:J0):NoAttr (KX P) 281 "candidates":=by unfold NoAttr;kernel_rfl
noncomputable abbrev st_Board_steps_from:Stmt:=subS (top 37) 1
noncomputable abbrev fd_Board_steps_from:FuncData:=fnX "steps_from" "Board.steps_from" (subS (top 37) 1) "talejudge.places" 534 263
theorem z2h (P:J0):Fun (KX P) "steps_from" "Board.steps_from" st_Board_steps_from 264 fd_Board_steps_from:=z0d
theorem z53 (P:J0):Binds (KX P) fd_Board_steps_from ["self","place"] []:=(z2h P).binds λ _ _ _ _ _ _=>us2 λ _ _=>rfl
theorem sc_Board_steps_from:FnScope ["self","place","steps","candidate","step"] ["self","place"] (z06 st_Board_steps_from):=⟨rfl,rfl,rfl,by decide +kernel,rfl,by decide +kernel,by decide +kernel⟩
theorem z4x (P:J0):Meth (KX P) 281 "steps_from" 264:=⟨by kernel_rfl,by kernel_rfl,by kernel_rfl⟩
section
variable {P:Program} {w:j1} {mg:Str->Option Value} {base:Heap}
def z86:Sp:=λ vs H Q _=>∃x T,vs=[x]/\TagOf H x T/\Q (.bl (decide (T = "int"))) H
theorem zep (T:TX (KX w.params) mg):FnOk P w (KX w.params) mg base CX0 1 28 fd_is_whole ["value"] z86:=by
 refine (z6l w.params).ok zdq (λ b H Q E h=>?_) (λ c A d s H b Q E e h=>?_)
 ·obtain ⟨x,t,rfl,_⟩:=h;rfl
 ·obtain ⟨x,t,rfl,a,q⟩:=h;refine ⟨_,(z03 (ps_ret (pe_and (z09 call_isinst rfl (T.no (z0g _)) F2 (z00 (pv 0) (z00 (z1l (v:=.ty "int") rfl (T.no (n_int _)) j43 rfl) pa_nil))) (pe_one (pe_not (z09 call_isinst rfl (T.no (z0g _)) F2 (z00 (pv 0) (z00 (z1l (v:=.ty "bool") rfl (T.no (n_bool _)) boot_bool rfl) pa_nil)))))))),?_⟩;refine ⟨_,rfl,_,_,_,rfl,a,by decide,_,rfl,?_⟩;by_cases h1:instB t "int" = true
  ·rw [if_pos h1];refine ⟨_,rfl,_,_,_,rfl,a,by decide,_,rfl,?_⟩;rw [z8t a (by decide)];have:(!decide (t = "bool"))=decide (t = "int"):=by rcases a.one with rfl|rfl|rfl|rfl|rfl|rfl|rfl<;>revert h1<;>decide
   rw [this];exact q
  ·rw [if_neg h1];have:decide (t = "int")=false:=by rcases a.one with rfl|rfl|rfl|rfl|rfl|rfl|rfl<;>revert h1<;>decide
   rw [this] at q;exact q
def z6q:Sp:=λ vs H Q _=>∃x T g,vs=[x,.int g]/\TagOf H x T/\Q (.bl (z17 x g)) H
theorem zci (T:TX (KX w.params) mg) (c0:Cal P w (KX w.params) mg base "is_whole" ["value"] 1 z86):FnOk P w (KX w.params) mg base CX0 2 35 fd_is_within ["value","greatest"] z6q:=by
 refine (z5i w.params).ok zc1 (λ b H Q E h=>?_) (λ d A e s H b Q E c h=>?_)
 ·obtain ⟨x,t,g,rfl,_⟩:=h;rfl
 ·obtain ⟨x,t,g,rfl,a,q⟩:=h;refine ⟨_,(z03 (ps_ret (pe_and (pe_cal c0 (c.mono (by decide)) rfl (z00 (pv 0) pa_nil)) (pe_one (zjq op_le op_le (pe_un un_neg (pv 1)) (pv 0) (pv 1)))))),?_⟩;refine ⟨_,rfl,x,t,rfl,a,_,rfl,?_⟩;by_cases h1:t = "int"
  ·subst h1;obtain ⟨i,rfl⟩:=a.int;refine iteT ?_;refine ⟨_,rfl,_,rfl,_,rfl,_,_,rfl,rfl,_,rfl,?_⟩;unfold z17 at q;dsimp only at q;by_cases h2:-g<=i
   ·rw [decide_eq_true h2] at q⊢;refine iteT ⟨_,rfl,_,_,rfl,rfl,?_⟩;rw [Y6] at q;exact q
   ·rw [decide_eq_false h2] at q⊢;refine iteF ?_;rw [S7] at q;exact q
  ·rw [decide_eq_false h1];refine iteF ?_;rw [noInt a h1] at q;exact q
def z80:Sp:=λ vs H Q _=>∃x T,vs=[x]/\TagOf H x T/\Q (.bl (z17 x 1000000000)) H
theorem zdu (T:TX (KX w.params) mg) (c0:Cal P w (KX w.params) mg base "is_within" ["value","greatest"] 2 z6q):FnOk P w (KX w.params) mg base CX0 3 42 fd_is_worth ["value"] z80:=by
 refine (z70 w.params).ok zer (λ a H Q E h=>?_) (λ d A e s H a Q E b h=>?_)
 ·obtain ⟨x,t,rfl,_⟩:=h;rfl
 ·obtain ⟨x,t,rfl,c,q⟩:=h;refine ⟨_,(z03 (ps_ret (pe_cal c0 (b.mono (by decide)) rfl (z00 (pv 0) (z00 (z77 (v:=.int (1000000000)) rfl (T.of (z6t _)) ⟨_,rfl⟩) pa_nil))))),?_⟩;exact ⟨_,rfl,x,t,1000000000,rfl,c,q⟩
def z4t:Sp:=λ vs H Q _=>∃x T m,vs=[x,.int m]/\TagOf H x T/\Q (.bl (match tupOf H x with|some xs=>decide ((xs.length:Int)=m)|none=>false)) H
theorem z96 (T:TX (KX w.params) mg):FnOk P w (KX w.params) mg base CX0 1 49 fd_is_tuple_of ["value","many"] z4t:=by
 refine (z32 w.params).ok z97 (λ i H Q E h=>?_) (λ j A k s H i Q E l h=>?_)
 ·obtain ⟨x,t,g,rfl,_⟩:=h;rfl
 ·obtain ⟨x,t,g,rfl,b,q⟩:=h;refine ⟨_,(z03 (ps_ret (pe_and (z09 call_isinst rfl (T.no (z0g _)) F2 (z00 (pv 0) (z00 (z1l (v:=.ty "tuple") rfl (T.no (z0y _)) B3 rfl) pa_nil))) (pe_one (z0u opEq (z09 z12 rfl (T.no (n_len _)) Y3 (z00 (pv 0) pa_nil)) (pv 1) (nomark _)))))),?_⟩;refine ⟨_,rfl,_,_,_,rfl,b,by decide,_,rfl,?_⟩;rw [z8t b (by decide)];by_cases h1:t = "tuple"
  ·subst h1;obtain ⟨a,c,rfl,d⟩:=b.tuple;refine iteT ⟨_,rfl,.inl ⟨a,c,rfl,.inr (SqT.of d),_,rfl,rfl,?_⟩⟩;have e:tupOf H (.ref a)=some c:=by unfold tupOf;dsimp only;rw [d]
   rw [e] at q;have f:decide (V.int (c.length:Int)=V.int g)=decide ((c.length:Int)=g):=by simp
   rw [f];exact q
  ·rw [decide_eq_false h1];refine iteF ?_;rw [noTup b h1] at q;exact q
noncomputable def kindB (x:V):Bool:=match x with
 | .str z=>(kl_FIRST_STATES.lookup z).isSome
 | _=>false
def z66:Sp:=λ vs H Q _=>∃x T,vs=[x]/\TagOf H x T/\Q (.bl (kindB x)) H
theorem zft (T:TX (KX w.params) mg):FnOk P w (KX w.params) mg base CX0 1 171 fd_is_kind ["kind"] z66:=by
 refine (z8r w.params).ok zew (λ b H Q E h=>?_) (λ c A d s H b Q E e h=>?_)
 ·obtain ⟨x,t,rfl,_⟩:=h;rfl
 ·obtain ⟨x,t,rfl,a,q⟩:=h;refine ⟨_,(z03 (ps_ret (pe_and (z09 call_isinst rfl (T.no (z0g _)) F2 (z00 (pv 0) (z00 (z1l (v:=.ty "str") rfl (T.no (n_str _)) j42 rfl) pa_nil))) (pe_one (z0u (zke (z3v _)) (pv 0) (z77 (v:=.ref 87) rfl (T.of (z4l _)) rfl) (by with_unfolding_all rfl)))))),?_⟩;refine ⟨_,rfl,_,_,_,rfl,a,by decide,_,rfl,?_⟩;rw [z8t a (by decide)];by_cases h1:t = "str"
  ·subst h1;obtain ⟨z,rfl⟩:=a.str;exact iteT ⟨_,rfl,z,rfl,rfl,q⟩
  ·rw [decide_eq_false h1];refine iteF ?_;cases x with
   | str z=>exact absurd a h1
   | _=>exact q
noncomputable def formOf (k v:Str):Int:=match kl_DOERS.lookup (k,v) with
 | none=>-1
 | some _=>(match kl_WORTHS_OF_VERBS.lookup v with|some (.int i)=>i|_=>-1)
noncomputable def deedB (H:Hp) (k v x:V):Bool:=match k,v with
 | .str a,.str b=>if formOf a b=0 then decide (x=.non) else if formOf a b=1 then z17 x 1000000000 else if formOf a b=2 then
   (match tupOf H x with|some xs=>decide (xs.length=2) && xs.all λ y=>z17 y 1000000000|none=>false) else false
 | _,_=>false
theorem z9q {a b:Str} {v:V} (h:kl_DOERS.lookup (a,b)=some v):(kl_FIRST_STATES.lookup a).isSome=true/\∃i,kl_WORTHS_OF_VERBS.lookup b=some (.int i)/\(i=0\/i=1\/i=2):=by
 have m:=zbj h;have all :∀p∈kl_DOERS,(kl_FIRST_STATES.lookup p.1.1).isSome=true/\(kl_WORTHS_OF_VERBS.lookup p.1.2=some (.int 0)\/kl_WORTHS_OF_VERBS.lookup p.1.2=some (.int 1)\/kl_WORTHS_OF_VERBS.lookup p.1.2=some (.int 2)):=by decide +kernel
 obtain ⟨d,c⟩:=all _ m;refine ⟨d,?_⟩;rcases c with c|c|c
 ·exact ⟨0,c,.inl rfl⟩
 ·exact ⟨1,c,.inr (.inl rfl)⟩
 ·exact ⟨2,c,.inr (.inr rfl)⟩
def z9y:Sp:=λ vs H Q _=>∃k v x Tk Tv Tx,vs=[k,v,x]/\TagOf H k Tk/\TagOf H v Tv/\TagOf H x Tx/\Flat H x/\∀H',Same H H'->Q (.bl (deedB H k v x)) H'
theorem zf5 (T:TX (KX w.params) mg) (c0:Cal P w (KX w.params) mg base "is_kind" ["kind"] 1 z66) (c1:Cal P w (KX w.params) mg base "is_worth" ["value"] 3 z80) (c2:Cal P w (KX w.params) mg base "is_tuple_of" ["value","many"] 1 z4t):FnOk P w (KX w.params) mg base CX0 4 183 fd_is_deed ["kind","verb","worth"] z9y:=by
 refine (z94 w.params).ok sc_is_deed (λ U H Q E h=>?_) (λ a2 A a1 s H U Q E n h=>?_)
 ·obtain ⟨k,v,x,S,I,D,rfl,_⟩:=h;rfl
 ·obtain ⟨k,v,x,S,I,D,rfl,W,r,u,hf,q⟩:=h;refine ⟨_,(z02 (ps_if (PW.pt (pw_or (pt_not (pt_val (pe_cal c0 (n.mono (by decide)) rfl (z00 (pv 0) pa_nil)) (λ _=>rfl))) (pw_or (pt_not (pt_val (z09 call_isinst rfl (T.no (z0g _)) F2 (z00 (pv 1) (z00 (z1l (v:=.ty "str") rfl (T.no (n_str _)) j42 rfl) pa_nil))) (λ _=>rfl))) (pw_or1 (z08 (zc7 (hu_of n) (zgo _)) (pe_tup (z00 (pv 0) (z00 (pv 1) pa_nil))) (z77 (v:=.ref 152) rfl (T.of (ziw _)) rfl) (by with_unfolding_all rfl))))))
   (z03 (ps_ret pe_bl))
   z0c)
   (z02 (ps_set (i:=3) sc_is_deed.nd rfl (Z0 rfl) (pe_ix (ix_kd (z58 _)) (z77 (v:=.ref 90) rfl (T.of (z5u _)) rfl) (pv 1) (λ _ _=>rfl)))
   (z02 (ps_if (z08 opEq (pv 3) pe_int (nomark _))
   (z03 (ps_ret (z0u op_isN (pv 2) pe_non (nomark _))))
   z0c)
   (z02 (ps_if (z08 opEq (pv 3) pe_int (nomark _))
   (z03 (ps_ret (pe_cal c1 (n.mono (by decide)) rfl (z00 (pv 2) pa_nil))))
   z0c)
   (z03 (ps_ret (pe_and (pe_cal c2 (n.mono (by decide)) rfl (z00 (pv 2) (z00 (pv 3) pa_nil))) (pe_one (z09 (zd7 rfl) rfl (T.no (n_all _)) boot_all (z00 (z0q (xs:=["part"]) (g:=gName 0) (fr:=[]) rfl (pi_tup (pv 2)) (λ _ z=>absurd z x0) (z1b rfl) (λ _ z=>absurd z x0) (by decide +kernel) rfl (by decide +kernel) (λ _ _ _ _ _=>(z0e (N:=["part"]) 0 (by decide +kernel) rfl rfl)) (λ _ _ _ _ _=>pf_nil) (λ _ _ _ _ _=>(pe_cal c1 (n.mono (by decide)) rfl (z00 (pv 0) pa_nil)))) pa_nil)))))))))),?_⟩
  refine ⟨_,rfl,k,S,rfl,W,_,rfl,?_⟩;have J:deedB H k v x=false->Q (.bl false) H:=λ e=>by have:=q H (Same.refl H);rw [e] at this;exact this
  by_cases j :∃a,k=.str a/\(kl_FIRST_STATES.lookup a).isSome=true
  ·obtain ⟨a,rfl,j⟩:=j;have Y:kindB (.str a)=true:=j;rw [Y];refine iteF ?_;refine ⟨_,rfl,_,_,_,rfl,r,by decide,_,rfl,?_⟩;rw [z8t r (by decide)];by_cases o:I = "str"
   ·subst o;obtain ⟨b,rfl⟩:=r.str;refine iteF ?_;refine ⟨_,rfl,_,rfl,?_⟩;refine ⟨w_2,λ p Z=>⟨p,a,b,rfl,upd_same,rfl,_,rfl,?_⟩⟩;have d:Same H (upd H p (.tup [.str a,.str b])):=Same.upd Z;cases h3:kl_DOERS.lookup (a,b) with
    | none=>
     refine iteT ?_;have:=q _ d;have e:deedB H (.str a) (.str b) x=false:=by unfold deedB formOf;dsimp only;rw [h3];rfl
     rw [e] at this;exact this
    | some z=>
     refine iteF ?_;obtain ⟨_,i,O,X⟩:=z9q h3;have t:formOf a b=i:=by unfold formOf;rw [h3];dsimp only;rw [O]
     refine ⟨_,rfl,b,.int i,rfl,rfl,O,?_⟩;refine ⟨_,rfl,rfl,_,rfl,?_⟩;rcases X with rfl|rfl|rfl
     ·refine iteT ⟨_,rfl,rfl,?_⟩;have:=q _ d;have e:deedB H (.str a) (.str b) x=decide (x=.non):=by unfold deedB;dsimp only;rw [t];rfl
      rw [e] at this;exact this
     ·refine iteF ⟨_,rfl,rfl,_,rfl,?_⟩;refine iteT ⟨_,rfl,x,D,rfl,u.same d,?_⟩;have:=q _ d;have e:deedB H (.str a) (.str b) x=z17 x 1000000000:=by unfold deedB;dsimp only;rw [t];rfl
      rw [e] at this;exact this
     ·refine iteF ⟨_,rfl,rfl,_,rfl,?_⟩;refine iteF ⟨_,rfl,_,rfl,x,D,2,rfl,u.same d,_,rfl,?_⟩;rw [zgs u d];have e:deedB H (.str a) (.str b) x=(match tupOf H x with|some xs=>decide (xs.length=2) && xs.all λ y=>z17 y 1000000000|none=>false):=by unfold deedB;dsimp only;rw [t];rfl
      rw [e] at q;cases ht:tupOf H x with
      | none=>rw [ht] at q;exact iteF (q _ d)
      | some xs=>
       rw [ht] at q;dsimp only at q⊢;by_cases m:xs.length=2
       ·have C:((xs.length:Nat):Int)=2:=by omega
        rw [if_pos (decide_eq_true C)];rw [decide_eq_true m,Y6] at q;obtain ⟨c,rfl,hc⟩:=zf3 ht;have a0:xs.length<=sizeLine:=by rw [m];decide
        refine e_cb1 ?_;refine z0z (K:=KX w.params) (a:=c) (xs:=xs) (H1:=upd H p (.tup [.str a,.str b])) (λ _=>true) (λ i y _=>y=.bl (z17 (xs[i]?.getD .non) 1000000000)) (λ _ _ _ _ _ z=>z) (λ R h=>⟨_,rfl,h⟩) (SqT.of (d _ _ hc)) a0 ?_ ?_
        ·intro i L B H' F M KT KF k1 k2;obtain ⟨Ty,ty⟩:=(hf xs ht).2 B (T0 M);refine ⟨[some B],rfl,rfl,iteT ?_⟩;exact ⟨_,rfl,B,Ty,rfl,(ty.same d).same F,k1 rfl _ _ (Same.refl _) (by rw [M];rfl)⟩
        ·intro l H' ys F m G;rw [List.filter_eq_self.mpr (λ _ _=>rfl)] at G;have ey:ys=xs.map λ y=>V.bl (z17 y 1000000000):=by
          rw [z82 (f:=λ i=>V.bl (z17 (xs[i]?.getD .non) 1000000000)) G];apply E8
          ·simp
          ·intro i j o;have L:i < xs.length:=by simpa using j
           simp [K0 L]
         subst ey;refine ⟨l,_,rfl,SqL.of upd_same,λ y hy=>?_,?_⟩
         ·obtain ⟨z,_,rfl⟩:=List.mem_map.mp hy;exact ⟨_,rfl⟩
         ·have e9:((xs.map λ y=>V.bl (z17 y 1000000000)).all λ y=>decide (y=V.bl true))=xs.all λ y=>z17 y 1000000000:=by rw [List.all_map];congr 1;funext y;simp
          rw [e9];exact q _ ((d.trans F).trans (Same.upd m))
       ·have C:¬ ((xs.length:Nat):Int)=2:=by omega
        rw [if_neg (by rw [decide_eq_false C];exact U0)];rw [decide_eq_false m,S7] at q;exact q _ d
   ·rw [decide_eq_false o];refine iteT ?_;exact J (by unfold deedB;cases v with|str z=>exact absurd r o|_=>rfl)
  ·have e1:kindB k=false:=by
    cases k with
    | str z=>exact Bool.eq_false_iff.mpr λ e=>j ⟨z,rfl,e⟩
    | _=>rfl
   rw [e1];refine iteT ?_;refine J ?_;cases k with
   | str a=>
    cases v with
    | str b=>
     unfold deedB formOf;dsimp only;cases h3:kl_DOERS.lookup (a,b) with
     | none=>rfl
     | some z=>exact absurd ⟨a,rfl,(z9q h3).1⟩ j
    | _=>rfl
   | _=>rfl
theorem deedB0 {H:Hp} {a b:Str} {x:V} (h:formOf a b=0):deedB H (.str a) (.str b) x=decide (x=.non):=by unfold deedB;dsimp only;rw [h];rfl
theorem deedB1 {H:Hp} {a b:Str} {x:V} (h:formOf a b=1):deedB H (.str a) (.str b) x=z17 x 1000000000:=by unfold deedB;dsimp only;rw [h];rfl
theorem deedB2 {H:Hp} {a b:Str} {x:V} {xs:List V} (h:formOf a b=2) (e:tupOf H x=some xs):deedB H (.str a) (.str b) x=(decide (xs.length=2) && xs.all λ y=>z17 y 1000000000):=by unfold deedB;dsimp only;rw [h,e];rfl
def z3g:Sp:=λ vs H Q _=>∃st x,vs=[st,x]/\∀p,H p=none->Q (.ref p) (upd H p (.tup [st,st]))
theorem zax (T:TX (KX w.params) mg):FnOk P w (KX w.params) mg base CX0 1 97 fd_read_state ["state","worth"] z3g:=by
 refine (z45 w.params).ok za1 (λ b H Q E h=>?_) (λ c A e s H b Q E d h=>?_)
 ·obtain ⟨a,x,rfl,_⟩:=h;rfl
 ·obtain ⟨a,x,rfl,q⟩:=h;refine ⟨_,(z03 (ps_ret (pe_tup (z00 (pv 0) (z00 (pv 0) pa_nil))))),?_⟩;exact ⟨_,rfl,_,rfl,w_2,q⟩
def z2p:Sp:=λ vs H Q _=>∃st x,vs=[st,x]/\∀p,H p=none->Q (.ref p) (upd H p (.tup [x,.str "ok"]))
theorem z8x (T:TX (KX w.params) mg):FnOk P w (KX w.params) mg base CX0 1 104 fd_write_state ["state","worth"] z2p:=by
 refine (z3e w.params).ok z8u (λ b H Q E h=>?_) (λ c A e s H b Q E d h=>?_)
 ·obtain ⟨a,x,rfl,_⟩:=h;rfl
 ·obtain ⟨a,x,rfl,q⟩:=h;refine ⟨_,(z03 (ps_ret (pe_tup (z00 (pv 1) (z00 pe_str pa_nil))))),?_⟩;exact ⟨_,rfl,w_2,q⟩
def z1p:Sp:=λ vs H Q _=>∃i j:Int,vs=[.int i,.int j]/\∀p,H p=none->Q (.ref p) (upd H p (.tup [.int (i + j),.int i]))
theorem z65 (T:TX (KX w.params) mg):FnOk P w (KX w.params) mg base CX0 1 111 fd_add_to_number ["state","worth"] z1p:=by
 refine (z2a w.params).ok z75 (λ a H Q E h=>?_) (λ b A d s H a Q E c h=>?_)
 ·obtain ⟨e,x,rfl,_⟩:=h;rfl
 ·obtain ⟨i,j,rfl,q⟩:=h;refine ⟨_,(z03 (ps_ret (pe_tup (z00 (pe_op opAdd (pv 0) (pv 1)) (z00 (pv 0) pa_nil))))),?_⟩;exact ⟨_,rfl,_,rfl,.inl ⟨_,_,rfl,rfl,_,rfl,w_2,q⟩⟩
def z3n (K:j0):Sp:=λ vs H Q _=>∃(i a b:Int) (t:Addr),vs=[.int i,.ref t]/\SqT K H t [.int a,.int b]/\∀p,H p=none->Q (.ref p) (upd H p (.tup (if i=a then [.int b,.int 1] else [.int i,.int 0])))
theorem zao (T:TX (KX w.params) mg):FnOk P w (KX w.params) mg base CX0 1 151 fd_swap_state ["state","worth"] (z3n (KX w.params)):=by
 refine (z44 w.params).ok z9r (λ d H Q E h=>?_) (λ f A g s H d Q E j h=>?_)
 ·obtain ⟨i,a,b,t,rfl,_⟩:=h;rfl
 ·obtain ⟨i,a,b,t,rfl,c,q⟩:=h;refine ⟨_,(z02 (ps_if (z08 opEq (pv 0) (pe_ix ix_seq (pv 1) pe_int (λ _ _=>rfl)) (nomark _))
   (z03 (ps_ret (pe_tup (z00 (pe_ix ix_seq (pv 1) pe_int (λ _ _=>rfl)) (z00 pe_int pa_nil)))))
   z0c)
   (z03 (ps_ret (pe_tup (z00 (pv 0) (z00 pe_int pa_nil)))))),?_⟩
  refine ⟨_,rfl,_,rfl,.inr (.inl ⟨t,_,0,.int a,rfl,rfl,c,rfl,rfl,_,rfl,?_⟩)⟩;by_cases e:i=a
  ·subst e;rw [decide_eq_true rfl];simp only [if_true] at q;exact iteT ⟨_,rfl,.inr (.inl ⟨t,_,1,.int b,rfl,rfl,c,rfl,w_2,q⟩)⟩
  ·rw [decide_eq_false (λ z=>e (by cases z;rfl))];simp only [if_neg e] at q;exact iteF ⟨_,rfl,w_2,q⟩
def z36 (K:j0):Sp:=λ vs H Q _=>∃(t:Addr) (ns:List V) (x:V),vs=[.ref t,x]/\SqT K H t ns/\ns.length < 1000/\∀p p' H',Same H H'->H' p=some (.tup [.ref p',.str "ok"])->SqT K H' p' (ns++[x])->Q (.ref p) H'
theorem za7 (T:TX (KX w.params) mg):FnOk P w (KX w.params) mg base CX0 1 118 fd_put_behind ["state","worth"] (z36 (KX w.params)):=by
 refine (z4c w.params).ok zb1 (λ d H Q E h=>?_) (λ p A r s H d Q E u h=>?_)
 ·obtain ⟨t,c,x,rfl,_⟩:=h;rfl
 ·obtain ⟨t,c,x,rfl,i,f,q⟩:=h;refine ⟨_,(z03 (ps_ret (pe_tup (z00 (pe_op op_catS (pv 0) (pe_tup (z00 (pv 1) pa_nil))) (z00 pe_str pa_nil))))),?_⟩;refine ⟨_,rfl,_,rfl,w_1,λ g m=>?_⟩;have b:=Same.upd (o:=.tup [x]) m;refine ⟨t,g,c,[x],rfl,rfl,b.seqT i,SqT.of upd_same,by simp,G0 (Nat.add_le_add_right (V3 f) _) (show 1000 + 1<=sizeLine by decide),λ l n e j=>?_⟩;refine ⟨w_2,λ k a=>?_⟩;exact q k l _ ((b.trans e).trans (Same.upd a)) upd_same ((Same.upd a).seqT j)
def z3m (K:j0):Sp:=λ vs H Q _=>∃(t:Addr) (ns:List V) (x:V),vs=[.ref t,x]/\SqT K H t ns/\
 (ns=[]->∀p H',Same H H'->H' p=some (.tup [.ref t,.str "none"])->Q (.ref p) H')/\(∀n r,ns=n :: r->∀p p' H',Same H H'->H' p=some (.tup [.ref p',n])->SqT K H' p' r->Q (.ref p) H')
theorem zaw (T:TX (KX w.params) mg):FnOk P w (KX w.params) mg base CX0 1 125 fd_take_first ["state","worth"] (z3m (KX w.params)):=by
 refine (z43 w.params).ok zaq (λ e H Q E h=>?_) (λ u A v s H e Q E y h=>?_)
 ·obtain ⟨t,b,x,rfl,_⟩:=h;rfl
 ·obtain ⟨t,b,x,rfl,a,i,k⟩:=h;refine ⟨_,(z02 (ps_if (z08 opEq (z09 z12 rfl (T.no (n_len _)) Y3 (z00 (pv 0) pa_nil)) pe_int (nomark _))
   (z03 (ps_ret (pe_tup (z00 (pv 0) (z00 pe_str pa_nil)))))
   z0c)
   (z03 (ps_ret (pe_tup (z00 (z1i slSeq (pv 0) (z2e pe_int) z3k) (z00 (pe_ix ix_seq (pv 0) pe_int (λ _ _=>rfl)) pa_nil)))))),?_⟩
  refine ⟨_,rfl,.inl ⟨t,b,rfl,.inr a,rfl,_,rfl,?_⟩⟩;cases b with
  | nil=>exact iteT ⟨_,rfl,w_2,λ p f=>i rfl p _ (Same.upd f) upd_same⟩
  | cons n r=>
   rw [decide_eq_false (show ¬ V.int (((n :: r).length:Nat):Int)=V.int 0 from λ z=>by injection z with z;rw [y1] at z;omega)];refine iteF ⟨_,rfl,_,rfl,.inr (.inl ⟨t,_,rfl,a,?_,λ g q=>?_⟩)⟩
   ·intro z;have:HT.sIx (n :: r).length 0 (some 1)=1:=by rw [y1];simp [HT.sIx]
    omega
   ·have c:=Same.upd (o:=.tup (cutV (n :: r) (some 1) none)) q;have l:cutV (n :: r) (some 1) none=r:=by unfold cutV;simp [HT.sIx]
    refine ⟨_,rfl,.inr (.inl ⟨t,_,0,n,rfl,rfl,c.seqT a,z05 (j:=0) rfl,w_2,λ m d=>?_⟩)⟩;refine k n r rfl m g _ (c.trans (Same.upd d)) upd_same ((Same.upd d).seqT (SqT.of ?_));rw [upd_same,l]
theorem dec_i0 (i j:Int):decide (V.int i=V.int j)=decide (i=j):=by simp
theorem zcw {q:Int->Bool} :∀(ns:List Int) (ys:List V),All2 (λ (i:Nat) y=>ns[i]?.map V.int=some y) ((J1 ns.length).filter λ i=>(ns[i]?.map q).getD false) ys->ys=(ns.filter q).map V.int
 | [],ys,h=>by cases h;rfl
 | n :: ns,ys,h=>by
  have un :∀{is:List Nat} {ys:List V},All2 (λ (i:Nat) y=>(n :: ns)[i]?.map V.int=some y) (is.map Nat.succ) ys->All2 (λ (i:Nat) y=>ns[i]?.map V.int=some y) is ys:=λ {is}=>by
   induction is with
   | nil=>intro ys h;cases h;exact .nil
   | cons i is ih=>intro ys h;cases h with|cons a r=>exact .cons a (ih r)
  rw [y1,List.range_succ_eq_map,X4,List.filter_map] at h;rw [X4];by_cases z:q n=true
  ·rw [if_pos (show (j12 q (n :: ns)[0]?).getD false=true from z)] at h;rw [if_pos z,A1];cases h with
   | cons a r=>rw [<-zcw ns _ (un r),<-N1 a]
  ·rw [if_neg (show ¬ (j12 q (n :: ns)[0]?).getD false=true from z)] at h;rw [if_neg z];exact zcw ns _ (un h)
def z27 (K:j0):Sp:=λ vs H Q _=>∃(t:Addr) (ns:List Int) (i:Int),vs=[.ref t,.int i]/\SqT K H t (ns.map V.int)/\ns.length < 63/\
 (i∈ns->∀p H',Same H H'->H' p=some (.tup [.ref t,.int 0])->Q (.ref p) H')/\(i∉ns->∀(p p':Addr) (ns':List Int) (H':Hp),Same H H'->H' p=some (.tup [.ref p',.int 1])->SqT K H' p' (ns'.map V.int)->ns'.Perm (ns++[i])->ns'.Pairwise (·<=·)->Q (.ref p) H')
theorem z7r (T:TX (KX w.params) mg):FnOk P w (KX w.params) mg base CX0 1 132 fd_put_into_set ["state","worth"] (z27 (KX w.params)):=by
 refine (z2k w.params).ok z7n (λ C H Q E h=>?_) (λ J A I s H C Q E K h=>?_)
 ·obtain ⟨t,a,i,rfl,_⟩:=h;rfl
 ·obtain ⟨t,a,i,rfl,e,c,z,B⟩:=h;refine ⟨_,(z02 (ps_if (z08 z24 (pv 1) (pv 0) (by with_unfolding_all rfl))
   (z03 (ps_ret (pe_tup (z00 (pv 0) (z00 pe_int pa_nil)))))
   z0c)
   (z03 (ps_ret (pe_tup (z00 (z0k z0f rfl (T.no (z0y _)) B3 (z00 (z09 z2t rfl (T.no (z47 _)) G7 (z00 (pe_op op_catS (pv 0) (pe_tup (z00 (pv 1) pa_nil))) pa_nil)) pa_nil)) (z00 pe_int pa_nil)))))),?_⟩
  refine ⟨_,rfl,_,rfl,t,_,rfl,.inr e,rfl,z3p a,_,rfl,?_⟩;rw [if_neg U0,z5g];by_cases hi:i∈a
  ·rw [decide_eq_true hi];exact iteT ⟨_,rfl,w_2,λ p m=>z hi p _ (Same.upd m) upd_same⟩
  ·rw [decide_eq_false hi];refine iteF ⟨_,rfl,_,rfl,w_1,λ n F=>?_⟩;have g:=Same.upd (o:=.tup [.int i]) F;refine ⟨t,n,a.map V.int,[.int i],rfl,rfl,g.seqT e,SqT.of upd_same,by simp,?_,λ D G k f=>?_⟩
   ·rw [M0];exact G0 (Nat.succ_le_of_lt (P1 c)) (by decide)
   rw [show a.map V.int++[V.int i]=(a++[i]).map V.int by rw [j2];rfl] at f;refine ⟨D,a++[i],rfl,.inr f,by rw [S0];exact Nat.succ_lt_succ c,λ l d v y x=>?_⟩;have u:=Same.upd (o:=.lst (d.map V.int)) v;refine ⟨l,_,rfl,.inl ⟨SqL.of upd_same,λ j q=>⟨w_2,λ r b=>?_⟩⟩⟩;exact B hi r j d _ ((((g.trans k).trans u).trans (Same.upd q)).trans (Same.upd b)) upd_same (SqT.of ((Same.upd b) _ _ upd_same)) y x
def z28 (K:j0):Sp:=λ vs H Q _=>∃(t:Addr) (ns:List Int) (i:Int),vs=[.ref t,.int i]/\SqT K H t (ns.map V.int)/\ns.length < 64/\
 (i∉ns->∀p H',Same H H'->H' p=some (.tup [.ref t,.int 0])->Q (.ref p) H')/\(i∈ns->∀p p' H',Same H H'->H' p=some (.tup [.ref p',.int 1])->SqT K H' p' ((ns.filter λ j=>!decide (j=i)).map V.int)->Q (.ref p) H')
theorem z7h (T:TX (KX w.params) mg):FnOk P w (KX w.params) mg base CX0 1 137 fd_cut_from_set ["state","worth"] (z28 (KX w.params)):=by
 refine (z2o w.params).ok z7j (λ x H Q E h=>?_) (λ U A W s H x Q E X h=>?_)
 ·obtain ⟨t,b,i,rfl,_⟩:=h;rfl
 ·obtain ⟨t,b,i,rfl,m,C,O,S⟩:=h;refine ⟨_,(z02 (ps_if (z08 z1u (pv 1) (pv 0) (by with_unfolding_all rfl))
   (z03 (ps_ret (pe_tup (z00 (pv 0) (z00 pe_int pa_nil)))))
   z0c)
   (z03 (ps_ret (pe_tup (z00 (z0k z0f rfl (T.no (z0y _)) B3 (z00 (z0q (xs:=["held"]) (g:=gName 0) (fr:=[(1,"worth")]) rfl (pi_tup (pv 0)) (by intro p c;obtain rfl:=List.mem_singleton.mp c;first|exact ⟨rfl,.inl rfl⟩|exact ⟨rfl,.inr rfl⟩) (z2r (n:="worth") (by decide +kernel) (λ _=>by first|exact .inl rfl|exact .inr rfl)) (by intro p c;obtain rfl:=List.mem_singleton.mp c;exact ⟨by decide +kernel,by first|exact .inl rfl|exact .inr rfl⟩) (by decide +kernel) rfl (by decide +kernel) (λ _ _ _ _ _=>(z0e (N:=["held","worth"]) 0 (by decide +kernel) rfl rfl)) (λ _ _ _ _ _=>(pf_one (z08 opNe (pv 0) (pv 1) (nomark _)))) (λ _ _ _ _ _=>(pv 0))) pa_nil)) (z00 pe_int pa_nil)))))),?_⟩
  refine ⟨_,rfl,_,rfl,t,_,rfl,.inr m,rfl,z3p b,_,rfl,?_⟩;rw [if_pos rfl,z5g];by_cases hi:i∈b
  ·rw [decide_eq_true hi];refine iteF ?_;have L:(b.map V.int).length<=sizeLine:=by rw [M0];exact G0 (V3 C) (by decide)
   refine t_next ?_;simp only [tRet,tTup,tCB,tCons,tNil];refine z0z (K:=KX w.params) (a:=t) (xs:=b.map V.int) (H1:=H) (λ j=>(b[j]?.map λ n=>!decide (n=i)).getD false) (λ j y _=>b[j]?.map V.int=some y) (λ _ _ _ _ _ z=>z) (λ R h=>⟨_,rfl,h⟩) m L (λ j Y v D r e KT Z q k=>?_) λ l D F r M d=>?_
   ·rw [W0] at e;obtain ⟨n,B,rfl⟩:=Option.map_eq_some_iff.mp e;rw [B] at q k;refine ⟨[some (.int n)],rfl,rfl,_,rfl,_,rfl,rfl,_,rfl,?_⟩;rw [dec_i0];exact ite2 (λ z=>⟨_,rfl,q z _ _ (Same.refl _) rfl⟩) λ z=>k (Bool.eq_false_iff.mpr z) _ (Same.refl _)
   ·rw [M0] at d;rw [zcw b F d];have J:=Same.upd (o:=.lst ((b.filter λ j=>!decide (j=i)).map V.int)) M;refine ⟨l,_,rfl,.inl ⟨SqL.of upd_same,λ u G=>⟨w_2,λ I f=>?_⟩⟩⟩;exact S hi I u _ (((r.trans J).trans (Same.upd G)).trans (Same.upd f)) upd_same (SqT.of ((Same.upd f) _ _ upd_same))
  ·rw [decide_eq_false hi];exact iteT ⟨_,rfl,w_2,λ p c=>O hi p _ (Same.upd c) upd_same⟩
def z3a (K:j0):Sp:=λ vs H Q _=>∃(t:Addr) (ns:List Int) (i:Int),vs=[.ref t,.int i]/\SqT K H t (ns.map V.int)/\∀p H',Same H H'->H' p=some (.tup [.ref t,.int (if i∈ns then 1 else 0)])->Q (.ref p) H'
theorem z9t (T:TX (KX w.params) mg):FnOk P w (KX w.params) mg base CX0 1 144 fd_has_in_set ["state","worth"] (z3a (KX w.params)):=by
 refine (z40 w.params).ok z9m (λ c H Q E h=>?_) (λ e A f s H c Q E g h=>?_)
 ·obtain ⟨t,b,i,rfl,_⟩:=h;rfl
 ·obtain ⟨t,b,i,rfl,d,q⟩:=h;refine ⟨_,(z03 (ps_ret (pe_tup (z00 (pv 0) (z00 (zk0 (z08 z24 (pv 1) (pv 0) (by with_unfolding_all rfl)) pe_int pe_int) pa_nil))))),?_⟩;refine ⟨_,rfl,_,rfl,_,rfl,t,_,rfl,.inr d,rfl,z3p b,_,rfl,?_⟩;rw [if_neg U0,z5g];by_cases hi:i∈b
  ·rw [if_pos hi] at q;rw [decide_eq_true hi];exact iteT ⟨w_2,λ p a=>q p _ (Same.upd a) upd_same⟩
  ·rw [if_neg hi] at q;rw [decide_eq_false hi];exact iteF ⟨w_2,λ p a=>q p _ (Same.upd a) upd_same⟩
def doTb (K:j0) (f:Addr) (sp:Sp):Prop:=(f=97/\sp=z3g)\/(f=104/\sp=z2p)\/(f=111/\sp=z1p)\/(f=118/\sp=z36 K)\/(f=125/\sp=z3m K)\/(f=132/\sp=z27 K)\/(f=137/\sp=z28 K)\/(f=144/\sp=z3a K)\/(f=151/\sp=z3n K)
theorem cal_fn {x:Str} {ps:List Str} {k f:Nat} {sp:Sp} {K:j0} (c:Cal P w K mg base x ps k sp) (e:mg x=some (.ref f)) :∃fd ps,FnOk P w K mg base CX0 k f fd ps sp/\Q3 K (.ref f)=true/\Binds K fd ps []:=by obtain ⟨h,fd,g,a,b,d⟩:=c.ex;rw [e] at a;cases a;exact ⟨fd,ps,g,b,d⟩
def sp_do (K:j0):Sp:=λ vs H Q _=>∃(k v:Str) (st x:V) (f:Addr) (sp:Sp) (Tx:String),vs=[.str k,st,.str v,x]/\TagOf H x Tx/\Flat H x/\deedB H (.str k) (.str v) x=true/\kl_DOERS.lookup (k,v)=some (.ref f)/\doTb K f sp/\∀H',Same H H'->sp [st,x] H' Q E0
theorem ok_do (T:TX (KX w.params) mg) (c0:Cal P w (KX w.params) mg base "is_deed" ["kind","verb","worth"] 4 z9y) (c1:Cal P w (KX w.params) mg base "read_state" ["state","worth"] 1 z3g) (c2:Cal P w (KX w.params) mg base "write_state" ["state","worth"] 1 z2p) (c3:Cal P w (KX w.params) mg base "add_to_number" ["state","worth"] 1 z1p) (c4:Cal P w (KX w.params) mg base "put_behind" ["state","worth"] 1 (z36 (KX w.params))) (c5:Cal P w (KX w.params) mg base "take_first" ["state","worth"] 1 (z3m (KX w.params))) (c6:Cal P w (KX w.params) mg base "put_into_set" ["state","worth"] 1 (z27 (KX w.params))) (c7:Cal P w (KX w.params) mg base "cut_from_set" ["state","worth"] 1 (z28 (KX w.params))) (c8:Cal P w (KX w.params) mg base "has_in_set" ["state","worth"] 1 (z3a (KX w.params))) (c9:Cal P w (KX w.params) mg base "swap_state" ["state","worth"] 1 (z3n (KX w.params))):FnOk P w (KX w.params) mg base CX0 5 190 fd_do ["kind","state","verb","worth"] (sp_do (KX w.params)):=by
 refine (F_do w.params).ok sc_do (λ C H Q E h=>?_) (λ m A F s H C Q E g h=>?_)
 ·obtain ⟨k,v,u,x,f,j,l,rfl,_⟩:=h;rfl
 ·obtain ⟨k,v,u,x,f,j,l,rfl,y,o,D,r,n,q⟩:=h;have G :∀f j,doTb (KX w.params) f j->∃k b a,FnOk P w (KX w.params) mg base CX0 k f b a j/\Room k (A.deeper (A9 "do" (z06 st_do) s.heap.objs.size 190 m))/\Q3 (KX w.params) (.ref f)=true/\Binds (KX w.params) b a []:=λ f j z=>by
   rcases z with ⟨rfl,rfl⟩|⟨rfl,rfl⟩|⟨rfl,rfl⟩|⟨rfl,rfl⟩|⟨rfl,rfl⟩|⟨rfl,rfl⟩|⟨rfl,rfl⟩|⟨rfl,rfl⟩|⟨rfl,rfl⟩
   ·obtain ⟨b,a,e,c,d⟩:=cal_fn c1 (T.of (z6r _));exact ⟨1,b,a,e,g.mono (by decide),c,d⟩
   ·obtain ⟨b,a,e,c,d⟩:=cal_fn c2 (T.of (z5m _));exact ⟨1,b,a,e,g.mono (by decide),c,d⟩
   ·obtain ⟨b,a,e,c,d⟩:=cal_fn c3 (T.of (z3w _));exact ⟨1,b,a,e,g.mono (by decide),c,d⟩
   ·obtain ⟨b,a,e,c,d⟩:=cal_fn c4 (T.of (z7b _));exact ⟨1,b,a,e,g.mono (by decide),c,d⟩
   ·obtain ⟨b,a,e,c,d⟩:=cal_fn c5 (T.of (z6a _));exact ⟨1,b,a,e,g.mono (by decide),c,d⟩
   ·obtain ⟨b,a,e,c,d⟩:=cal_fn c6 (T.of (z4k _));exact ⟨1,b,a,e,g.mono (by decide),c,d⟩
   ·obtain ⟨b,a,e,c,d⟩:=cal_fn c7 (T.of (z4i _));exact ⟨1,b,a,e,g.mono (by decide),c,d⟩
   ·obtain ⟨b,a,e,c,d⟩:=cal_fn c8 (T.of (z78 _));exact ⟨1,b,a,e,g.mono (by decide),c,d⟩
   ·obtain ⟨b,a,e,c,d⟩:=cal_fn c9 (T.of (z7c _));exact ⟨1,b,a,e,g.mono (by decide),c,d⟩
  refine ⟨_,(z02 (ps_if (pt_not (pt_val (pe_cal c0 (g.mono (by decide)) rfl (z00 (pv 0) (z00 (pv 2) (z00 (pv 3) pa_nil)))) (λ _=>rfl)))
   (z03 zcd)
   z0c)
   (z02 (ps_set (i:=4) sc_do.nd rfl (Z0 rfl) (pe_ix (ix_kdt (hu_of g) (zgo _)) (z77 (v:=.ref 152) rfl (T.of (ziw _)) rfl) (pe_tup (z00 (pv 0) (z00 (pv 2) pa_nil))) (λ _ _=>rfl)))
   (z03 (ps_ret (zku (doTb (KX w.params)) (i:=4) rfl (by first|exact Z0 rfl|exact Y0 (Z0 rfl)) G (z00 (pv 1) (z00 (pv 3) pa_nil))))))),?_⟩
  refine ⟨_,rfl,_,rfl,_,rfl,.str k,.str v,x,"str","str",l,rfl,rfl,rfl,y,o,λ I B=>⟨_,rfl,?_⟩⟩;rw [D];refine iteF ?_;refine ⟨_,rfl,_,rfl,w_2,λ p t=>⟨p,k,v,.ref f,rfl,rfl,upd_same,r,?_⟩⟩;exact ⟨f,j,rfl,n,_,rfl,_,rfl,q _ (B.trans (Same.upd t))⟩
def z4j:Sp:=λ vs H Q _=>∃(k:Str) (v:V),vs=[.str k]/\kl_FIRST_STATES.lookup k=some v/\Q v H
theorem z95 (T:TX (KX w.params) mg) (c0:Cal P w (KX w.params) mg base "is_kind" ["kind"] 1 z66):FnOk P w (KX w.params) mg base CX0 2 178 fd_first_state ["kind"] z4j:=by
 refine (z3c w.params).ok z98 (λ c H Q E h=>?_) (λ d A f s H c Q E b h=>?_)
 ·obtain ⟨k,v,rfl,_⟩:=h;rfl
 ·obtain ⟨k,v,rfl,a,q⟩:=h;refine ⟨_,(z02 (ps_if (pt_not (pt_val (pe_cal c0 (b.mono (by decide)) rfl (z00 (pv 0) pa_nil)) (λ _=>rfl)))
   (z03 zcd)
   z0c)
   (z03 (ps_ret (pe_ix (ix_kd (z3v _)) (z77 (v:=.ref 87) rfl (T.of (z4l _)) rfl) (pv 0) (λ _ _=>rfl))))),?_⟩
  refine ⟨_,rfl,.str k,"str",rfl,rfl,_,rfl,?_⟩;have e:kindB (.str k)=true:=by unfold kindB;dsimp only;rw [a];rfl
  rw [e];exact iteF ⟨_,rfl,k,v,rfl,rfl,a,q⟩
inductive Ev
 | beg (h:Int) (n v x:V)
 | fin (h:Int) (a:V)
noncomputable def EvAt (K:j0) (H:Hp):Ev->V->Prop
 | .beg h n v x,y=>∃p,y=.ref p/\SqT K H p [.str "begin",.int h,n,v,x]
 | .fin h a,y=>∃p,y=.ref p/\SqT K H p [.str "end",.int h,a]
structure Rc where
 h:Int
 n:V
 v:V
 x:V
 a:V
 b:Nat
 e:Option Nat
noncomputable def endV:Option Nat->V
 | none=>.non
 | some i=>.int i
def RcAt (K:j0) (H:Hp) (r:Rc) (y:V):Prop:=∃p,y=.ref p/\SqT K H p [.int r.h,r.n,r.v,r.x,r.a,.int r.b,endV r.e]
def Tups (K:j0) (H H':Hp):Prop:=∀a xs,SqT K H a xs->SqT K H' a xs
theorem Tups.of {K:j0} {H H':Hp} (s:Same H H'):Tups K H H':=λ _ _ q=>s.seqT q
theorem Tups.trans {K:j0} {H H1 H2:Hp} (a:Tups K H H1) (b:Tups K H1 H2):Tups K H H2:=λ _ _ q=>b _ _ (a _ _ q)
theorem Tups.lst {K:j0} {H:Hp} {l:Addr} {o:HO} {zs:List V} (e:H l=some (.lst zs)):Tups K H (upd H l o):=λ _ _ q=>q.wrote e
theorem Tups.dict {K:j0} {H:Hp} {l:Addr} {o:HO} {kvs:List (Key×V)} (e:H l=some (.dK kvs)):Tups K H (upd H l o):=λ a b h=>by
 rcases h with (h|⟨ob,h⟩)|h
 ·exact .inl (.inl (by rw [upd_ne (ne_of h e (by intro z;cases z))];exact h))
 ·exact .inl (.inr ⟨ob,by rw [upd_ne (ne_of h e (by intro z;cases z))];exact h⟩)
 ·exact .inr h
theorem zla {n j:Nat} (h:j < n):ixN n (j:Nat)=some j:=by unfold ixN;rw [if_pos (by omega),if_pos (by omega)];rfl
theorem Same.keep {H H':Hp} {l:Addr} {o:HO} (s:Same H H') (n:H l=none):Same H (upd H' l o):=λ a x e=>by rw [upd_ne (z0a e n)];exact s a x e
theorem z2l {α β:Type} {R:α->β->Prop} {x:α} {y:β} :∀{xs:List α} {ys:List β},All2 R xs ys->R x y->All2 R (xs++[x]) (ys++[y])
 | _,_,.nil,h=>.cons h .nil
 | _,_,.cons a r,h=>.cons a (z2l r h)
theorem zk1 {κ:Type} [DecidableEq κ] {kvs:List (κ×V)} {k:κ} {v:V}:(putK kvs k v).length<=kvs.length + 1:=by
 unfold putK;by_cases z:(kvs.any λ a=>decide (a.1=k))=true
 ·rw [if_pos z,M0];omega
 ·rw [if_neg z,S0];exact F0 _
noncomputable def lastI (h:Int) (hs:List Int):Option Nat:=(hs.foldl (λ (acc:Nat×Option Nat) k=>(acc.1 + 1,if k=h then some acc.1 else acc.2)) (0,none)).2
theorem lastF (h:Int) :∀hs:List Int,(hs.foldl (λ (acc:Nat×Option Nat) k=>(acc.1 + 1,if k=h then some acc.1 else acc.2)) (0,none)).1=hs.length:=by
 have b :∀(hs:List Int) (a:Nat×Option Nat),(hs.foldl (λ (acc:Nat×Option Nat) k=>(acc.1 + 1,if k=h then some acc.1 else acc.2)) a).1=a.1 + hs.length:=by
  intro hs;induction hs with
  | nil=>intro a;rfl
  | cons k hs ih=>intro a;rw [j16,ih,y1];show a.1 + 1 + hs.length=_;omega
 intro hs;rw [b hs (0,none)];simp
theorem z4v (h k:Int) (hs:List Int):lastI h (hs++[k])=if k=h then some hs.length else lastI h hs:=by unfold lastI;rw [F6];show (if k=h then some _ else _)=_;rw [lastF]
theorem z8p {h:Int} {hs:List Int} {j:Nat} (e:lastI h hs=some j):j < hs.length:=by
 have c :∀(hs:List Int) (a:Nat×Option Nat),(∀j,a.2=some j->j < a.1)->∀j,(hs.foldl (λ (acc:Nat×Option Nat) k=>(acc.1 + 1,if k=h then some acc.1 else acc.2)) a).2=some j->j < a.1 + hs.length:=by
  intro hs;induction hs with
  | nil=>intro a b j e;exact b j e
  | cons k hs ih=>
   intro a b j e;rw [j16] at e;have:=ih (a.1 + 1,if k=h then some a.1 else a.2) (λ j e=>by
    dsimp only at e⊢;by_cases z:k=h
    ·rw [if_pos z] at e;cases e;omega
    ·rw [if_neg z] at e;have:=b j e;omega) j e
   rw [y1];dsimp only at this;omega
 have:=c hs (0,none) (λ j e=>by cases e) j e;simpa using this
noncomputable def dstep (i:Nat) (rs:List Rc):Ev->List Rc
 | .beg h n v x=>rs++[⟨h,n,v,x,.non,i,none⟩]
 | .fin h a=>match lastI h (rs.map Rc.h) with|some j=>rs.modify j (λ r=>{ r with a:=a,e:=some i })|none=>rs
noncomputable def dAll:Nat->List Rc->List Ev->List Rc
 | _,rs,[]=>rs
 | i,rs,e :: es=>dAll (i + 1) (dstep i rs e) es
noncomputable def dWf:Nat->List Rc->List Ev->Prop
 | _,_,[]=>True
 | i,rs,e :: es=>(∀h a,e=.fin h a->(lastI h (rs.map Rc.h)).isSome=true)/\dWf (i + 1) (dstep i rs e) es
theorem RcAt.tups {K:j0} {H H':Hp} {r:Rc} {y:V} (t:Tups K H H') (h:RcAt K H r y):RcAt K H' r y:=h.elim λ p z=>⟨p,z.1,t _ _ z.2⟩
theorem EvAt.tups {K:j0} {H H':Hp} (t:Tups K H H') :∀{e:Ev} {y:V},EvAt K H e y->EvAt K H' e y
 | .beg h n v x,_,z=>z.elim λ p z=>⟨p,z.1,t _ _ z.2⟩
 | .fin h a,_,z=>z.elim λ p z=>⟨p,z.1,t _ _ z.2⟩
theorem z81 {α β:Type} {R:α->β->Prop} {f:α->α} {y:β} :∀{xs:List α} {ys:List β} {j:Nat} {x:α},All2 R xs ys->xs[j]? = some x->R (f x) y->All2 R (xs.modify j f) (ys.set j y)
 | _,_,_,_,.nil,e,_=>by simp at e
 | _,_,0,x,.cons a r,e,h=>by rw [N3] at e;cases e;exact .cons h r
 | _,_,j + 1,x,.cons a r,e,h=>by rw [X2] at e;exact .cons a (z81 r e h)
theorem z0n {α β:Type} {R:α->β->Prop} :∀{xs:List α} {ys:List β} {i:Nat} {x:α},All2 R xs ys->xs[i]? = some x->∃y,ys[i]? = some y/\R x y
 | _,_,i,x,.nil,e=>by simp at e
 | _,_,0,x,.cons a _,e=>by rw [N3] at e;cases e;exact ⟨_,N3,a⟩
 | _,_,i + 1,x,.cons _ r,e=>by rw [X2] at e;obtain ⟨y,c,b⟩:=z0n r e;exact ⟨y,by rw [X2];exact c,b⟩
def z8g (K:j0):Sp:=λ vs H Q _=>∃(t te:Addr) (th:V) (ys:List V) (es:List Ev),vs=[.ref t]/\SqT K H t [th,.ref te]/\SqT K H te ys/\All2 (EvAt K H) es ys/\es.length<=100/\dWf 0 [] es/\
 ∀l zs H',Same H H'->H l=none->H' l=some (.lst zs)->All2 (RcAt K H') (dAll 0 [] es) zs->Q (.ref l) H'
theorem zjp (T:TX (KX w.params) mg):FnOk P w (KX w.params) mg base CX0 1 197 fd_deeds ["tale"] (z8g (KX w.params)):=by
 refine (zgl w.params).ok sc_deeds (λ vs H Q E h=>?_) (λ c4 A c3 s H vs Q E hr h=>?_)
 ·obtain ⟨t,Z,th,ys,C,rfl,_⟩:=h;rfl
 ·obtain ⟨t,Z,th,ys,C,rfl,st,se,al,hl,wf,q⟩:=h;refine ⟨_,(z02 (ps_set (i:=1) sc_deeds.nd rfl (Z0 rfl) (pe_lst pa_nil))
   (z02 (ps_set (i:=2) sc_deeds.nd rfl (Z0 rfl) z8i)
   (z02 (ps_for U1 rfl (zki rfl (T.no (z1n _)) (z00 (pe_ix ix_seq (pv 0) pe_int (λ _ _=>rfl)) pa_nil)) (pg_tup rfl (z07 (z0j (i:=3) sc_deeds.nd rfl (Z0 rfl)) (z07 (z0j (i:=4) sc_deeds.nd rfl (Z0 rfl)) z0s)))
   (z03 (ps_if (z08 opEq (pe_ix ix_seq (pv 4) pe_int (λ _ _=>rfl)) pe_str (nomark _))
   (z02 (zd8 (hu_of hr) (pv 2) (pe_ix ix_seq (pv 4) pe_int (λ _ _=>rfl)) (z09 z12 rfl (T.no (n_len _)) Y3 (z00 (pv 1) pa_nil)) rfl)
   (z03 (z2g (z16 (pv 1) (z00 (pe_op opAdd (z1i slSeq (pv 4) (z2e pe_int) z3k) (pe_tup (z00 pe_non (z00 (pv 3) (z00 pe_non pa_nil))))) pa_nil)))))
   (z02 (ps_set (i:=5) sc_deeds.nd rfl (Z0 rfl) (z7v (hu_of hr) (pv 2) (pe_ix ix_seq (pv 4) pe_int (λ _ _=>rfl)) (λ _ _=>rfl)))
   (z02 (ps_set (i:=6) sc_deeds.nd rfl (Z0 rfl) (pe_ix ix_seq (pv 1) (pv 5) (λ _ _=>rfl)))
   (z03 (ps_asg (pe_op opAdd (z1i slSeq (pv 6) z3k (z2e pe_int)) (pe_tup (z00 (pe_ix ix_seq (pv 4) pe_int (λ _ _=>rfl)) (z00 (pe_ix ix_seq (pv 6) pe_int (λ _ _=>rfl)) (z00 (pv 3) pa_nil))))) (pg_sub (pv 1) (pv 5) z69))))))))
   (z03 (ps_ret (pv 1)))))),?_⟩
  refine ⟨w_0,λ l a0=>?_⟩;intro d a3;have O:l≠d:=z0a upd_same a3;have s0:upd H l (.lst []) d=none->H d=none:=λ z=>by rwa [upd_ne O.symm] at z
  have s2:Same H (upd (upd H l (.lst [])) d (.dK [])):=(Same.upd a0).trans (Same.upd a3);have e1:upd (upd H l (.lst [])) d (.dK []) l=some (.lst []):=by rw [upd_ne O];exact upd_same
  have e2:upd (upd H l (.lst [])) d (.dK []) d=some (.dK []):=upd_same;generalize upd (upd H l (.lst [])) d (.dK [])=H2 at s2 e1 e2⊢;have b5:=z04 al;refine ⟨_,rfl,.inr (.inl ⟨t,_,1,.ref Z,rfl,rfl,s2.seqT st,z05 (j:=1) rfl,Z,ys,rfl,s2.seqT se,?_⟩)⟩;refine zhy (K:=KX w.params) (a:=Z) (xs:=ys) (λ i σ S=>∃c f g,S l=some (.lst f)/\All2 (RcAt (KX w.params) S) c f/\S d=some (.dK g)/\g.length<=i/\c.length<=i/\(∀h,valV g (.inl h)=(lastI h (c.map Rc.h)).map λ j=>V.int (j:Nat))/\dAll i c (C.drop i)=dAll 0 [] C/\dWf i c (C.drop i)/\Same H S/\∃x3 x4 x5 x6,σ=[some (.ref t),some (.ref l),some (.ref d),x3,x4,x5,x6])
   ⟨[],[],[],e1,.nil,e2,F0 _,F0 _,λ h=>rfl,by rw [D4],by rw [D4];exact wf,s2,_,_,_,_,rfl⟩ (λ i σ S h=>?_) ?_ ?_
  ·obtain ⟨c,f,g,_,_,_,_,_,_,_,_,s',_⟩:=h;exact s'.seqT se
  ·rintro i y σ H3 p hy ⟨c,f,g,el,ar,ed,hk,hr',hv,D,dw,s3,x3,x4,x5,x6,rfl⟩ hp;obtain ⟨e,he,ev⟩:=z0h al hy;obtain ⟨hi,ee⟩:=List.getElem?_eq_some_iff.mp he;have dr:C.drop i=e :: C.drop (i + 1):=by rw [j26 hi,ee]
   rw [dr] at D dw;have s4:=s3.trans (Same.upd (o:=.tup [.int i,y]) hp);have R:=(Same.upd (o:=.tup [.int i,y]) hp) _ _ el;have U:=(Same.upd (o:=.tup [.int i,y]) hp) _ _ ed;have W:=z01 (λ a b z=>RcAt.tups (.of (Same.upd (o:=.tup [.int i,y]) hp)) z) ar;have a8:upd H3 p (.tup [.int i,y]) p=some (.tup [.int i,y]):=upd_same;generalize upd H3 p (.tup [.int i,y])=H4 at s4 R U W a8⊢;have a7:=EvAt.tups (.of s4) ev;refine ⟨p,_,rfl,SqT.of a8,rfl,.int i,_,rfl,y,_,rfl,rfl,?_⟩;have lz:f.length=c.length:=z04 W;have b3:100<=sizeLine:=by decide
   have a9:i < 100:=L1 hi hl;cases e with
   | beg h n v x=>
    obtain ⟨J,rfl,I⟩:=a7;refine ⟨_,rfl,.inr (.inl ⟨J,_,0,.str "begin",rfl,rfl,I,z05 (j:=0) rfl,rfl,_,rfl,iteP (decide_eq_true rfl) ?_⟩)⟩;refine ⟨_,rfl,.inl ⟨l,f,rfl,.inl (SqL.of R),⟨_,rfl,⟨_,rfl,.inr (.inl ⟨J,_,1,.int h,rfl,rfl,I,z05 (j:=1) rfl,d,_,rfl,DPut.k (k:=.inl h) U (E1 hk (L1 a9 b3)),?_⟩)⟩⟩⟩⟩;have b6:H d=none:=s0 a3;have t5:Tups (KX w.params) H4 (upd H4 d (.dK (putK g (.inl h) (.int (f.length:Nat))))):=Tups.dict U;have s5:=Same.keep (o:=.dK (putK g (.inl h) (.int (f.length:Nat)))) s4 b6;have a4:upd H4 d (.dK (putK g (.inl h) (.int (f.length:Nat)))) l=some (.lst f):=by rw [upd_ne O];exact R
    have b4:upd H4 d (.dK (putK g (.inl h) (.int (f.length:Nat)))) d=some (.dK (putK g (.inl h) (.int (f.length:Nat)))):=upd_same;generalize upd H4 d (.dK (putK g (.inl h) (.int (f.length:Nat))))=H5 at t5 s5 a4 b4⊢;have c0:=t5 _ _ I;have b7:=z01 (λ a b z=>RcAt.tups t5 z) W;refine ⟨_,rfl,.inl ⟨rfl,f,SqL.of a4⟩,⟨_,rfl,1,rfl,.inr (.inl ⟨J,_,rfl,c0,λ z=>absurd z.1 (show ¬ HT.sIx 5 0 (some 1)=0 by decide),λ F Y=>?_⟩)⟩⟩;have c1:cutV [V.str "begin",.int h,n,v,x] (some 1) none=[.int h,n,v,x]:=rfl;rw [c1];refine ⟨_,rfl,w_3,λ G N=>.inr (.inr (.inr ⟨F,G,_,_,rfl,rfl,(Same.upd N).seqT (SqT.of upd_same),SqT.of upd_same,by simp,w_7,λ z=>(by cases z),λ _ u a1=>?_⟩))⟩;have B:Same H5 (upd (upd (upd H5 F (.tup [.int h,n,v,x])) G (.tup [.non,.int i,.non])) u (.tup ([.int h,n,v,x]++[.non,.int i,.non]))):=((Same.upd Y).trans (Same.upd N)).trans (Same.upd a1);have L:upd (upd (upd H5 F (.tup [.int h,n,v,x])) G (.tup [.non,.int i,.non])) u (.tup ([.int h,n,v,x]++[.non,.int i,.non])) u=some (.tup ([.int h,n,v,x]++[.non,.int i,.non])):=upd_same;generalize upd (upd (upd H5 F (.tup [.int h,n,v,x])) G (.tup [.non,.int i,.non])) u (.tup ([.int h,n,v,x]++[.non,.int i,.non]))=H6 at B L⊢;have M:=B _ _ a4;have a2:=B _ _ b4;have a5:=z01 (λ a b z=>RcAt.tups (.of B) z) b7;have X:Tups (KX w.params) H6 (upd H6 l (.lst (f++[.ref u]))):=Tups.lst M;refine ⟨l,f,_,rfl,rfl,M,E1 (G0 (L7 lz) hr') (L1 a9 b3),?_⟩;refine ⟨c++[⟨h,n,v,x,.non,i,none⟩],f++[.ref u],putK g (.inl h) (.int (f.length:Nat)),upd_same,?_,?_,?_,?_,?_,(show dAll (i + 1) (dstep i c (.beg h n v x)) _=_ from D),dw.2,Same.keep (s5.trans B) a0,_,_,_,_,rfl⟩
    ·exact z2l (z01 (λ a b z=>RcAt.tups X z) a5) ⟨u,rfl,X _ _ (SqT.of L)⟩
    ·rw [upd_ne O.symm];exact a2
    ·exact G0 zk1 (by omega)
    ·rw [S0];show c.length + 1<=i + 1;omega
    ·intro k;rw [z2b,j2];show _=j12 _ (lastI k (c.map Rc.h++[h]));rw [z4v,hv k,M0,lz];by_cases z:h=k
     ·rw [if_pos z,if_pos (by rw [z])];rfl
     ·rw [if_neg z,if_neg (λ y=>z (T4 y).symm)]
   | fin h a=>
    obtain ⟨J,rfl,I⟩:=a7;obtain ⟨j,hj⟩:=Option.isSome_iff_exists.mp (dw.1 h a rfl);have b8:valV g (.inl h)=some (.int (j:Nat)):=by rw [hv h,hj];rfl
    have b2:j < c.length:=by have:=z8p hj;rwa [M0] at this
    have b0:c[j]? = some c[j]:=K0 b2;obtain ⟨yj,c2,pj,rfl,sj⟩:=z0n W b0;have b9:DGet H4 d (.int h) (some (.int (j:Nat))):=b8 ▸ DGet.k (k:=.inl h) U;refine ⟨_,rfl,.inr (.inl ⟨J,_,0,.str "end",rfl,rfl,I,z05 (j:=0) rfl,rfl,_,rfl,iteN (by decide +kernel) ?_⟩)⟩;refine ⟨_,rfl,⟨_,rfl,.inr (.inl ⟨J,_,1,.int h,rfl,rfl,I,z05 (j:=1) rfl,d,_,rfl,b9,?_⟩)⟩⟩;refine ⟨_,rfl,_,rfl,.inl ⟨l,f,j,.ref pj,rfl,rfl,SqL.of R,z05 c2,?_⟩⟩;refine ⟨_,rfl,4,rfl,.inr (.inl ⟨pj,_,rfl,sj,λ z=>absurd z.2 (show ¬ HT.sIx 7 7 (some 4)=7 by decide),λ F Y=>?_⟩)⟩;have c1:cutV [.int c[j].h,c[j].n,c[j].v,c[j].x,c[j].a,.int c[j].b,endV c[j].e] none (some 4)=[.int c[j].h,c[j].n,c[j].v,c[j].x]:=rfl;rw [c1];refine ⟨_,rfl,.inr (.inl ⟨J,_,2,a,rfl,rfl,(Same.upd Y).seqT I,z05 (j:=2) rfl,?_⟩)⟩;refine ⟨_,rfl,.inr (.inl ⟨pj,_,5,.int c[j].b,rfl,rfl,(Same.upd Y).seqT sj,z05 (j:=5) rfl,?_⟩)⟩;refine ⟨_,rfl,w_3,λ G N=>.inr (.inr (.inr ⟨F,G,_,_,rfl,rfl,(Same.upd N).seqT (SqT.of upd_same),SqT.of upd_same,by simp,w_7,λ z=>(by cases z),λ _ u a1=>?_⟩))⟩;have B:Same H4 _:=((Same.upd Y).trans (Same.upd N)).trans (Same.upd (o:=.tup ([.int c[j].h,c[j].n,c[j].v,c[j].x]++[a,.int c[j].b,.int (i:Nat)])) a1);have L:upd (upd (upd H4 F (.tup [.int c[j].h,c[j].n,c[j].v,c[j].x])) G (.tup [a,.int c[j].b,.int (i:Nat)])) u (.tup ([.int c[j].h,c[j].n,c[j].v,c[j].x]++[a,.int c[j].b,.int (i:Nat)])) u=some (.tup ([.int c[j].h,c[j].n,c[j].v,c[j].x]++[a,.int c[j].b,.int (i:Nat)])):=upd_same;generalize upd (upd (upd H4 F (.tup [.int c[j].h,c[j].n,c[j].v,c[j].x])) G (.tup [a,.int c[j].b,.int (i:Nat)])) u (.tup ([.int c[j].h,c[j].n,c[j].v,c[j].x]++[a,.int c[j].b,.int (i:Nat)]))=H6 at B L⊢;have M:=B _ _ R;have a2:=B _ _ U;have a5:=z01 (λ a b z=>RcAt.tups (.of B) z) W;have X:Tups (KX w.params) H6 (upd H6 l (.lst (f.set j (.ref u)))):=Tups.lst M;refine ⟨_,rfl,_,rfl,l,f,j,j,rfl,rfl,M,zla (show j < f.length by rw [lz];exact b2),?_⟩;have dd:dstep i c (.fin h a)=c.modify j (λ r=>{ r with a:=a,e:=some i }):=by unfold dstep;dsimp only;rw [hj]
    have b1:dAll (i + 1) (dstep i c (.fin h a)) (List.drop (i + 1) C)=_:=D;have a6:=dw.2;rw [dd] at b1 a6;have mh:(c.modify j (λ r=>{ r with a:=a,e:=some i })).map Rc.h=c.map Rc.h:=by
     apply i8;intro m;rw [W0,W0,c7];cases c[m]? with
     | none=>rfl
     | some r=>
      show some (if j=m then _ else r).h=some r.h;by_cases z:j=m
      ·rw [if_pos z]
      ·rw [if_neg z]
    refine ⟨_,f.set j (.ref u),g,upd_same,?_,?_,?_,?_,?_,b1,a6,Same.keep (s4.trans B) a0,_,_,_,_,rfl⟩
    ·exact z81 (z01 (λ a b z=>RcAt.tups X z) a5) b0 ⟨u,rfl,X _ _ (SqT.of L)⟩
    ·rw [upd_ne O.symm];exact a2
    ·omega
    ·rw [O7];omega
    ·intro k;rw [mh];exact hv k
  ·rintro σ H3 ⟨c,f,g,el,ar,ed,hk,hr',hv,D,dw,s3,x3,x4,x5,x6,rfl⟩;have:C.drop ys.length=[]:=by rw [b5];exact List.drop_length
   rw [this] at D;have D:c=dAll 0 [] C:=D;rw [<-D] at q;exact ⟨_,rfl,q l f H3 s3 a0 el ar⟩
noncomputable def z0w:Nat->Str
 | 0=>"strict"
 | 1=>"hands"
 | _=>"bare"
noncomputable def ltO:Option Nat->Nat->Bool
 | some a,b=>decide (a < b)
 | none,_=>false
noncomputable def aheadB:Nat->Rc->Rc->Bool
 | 0,r,q=>ltO r.e q.b
 | 1,r,q=>decide (r.h=q.h) && decide (r.b < q.b)
 | _,_,_=>false
theorem dec_lt (a b:Nat):decide ((a:Int) < (b:Int))=decide (a < b):=decide_eq_decide.mpr (by omega)
theorem dec_iI (a b:Int):decide (V.int a=V.int b)=decide (a=b):=decide_eq_decide.mpr ⟨λ e=>by cases e;rfl,λ e=>by rw [e]⟩
def z5q (K:j0):Sp:=λ vs H Q _=>∃(x y:V) (r q:Rc) (m:Nat),vs=[x,y,.str (z0w m)]/\RcAt K H r x/\RcAt K H q y/\Q (.bl (aheadB m r q)) H
theorem zav (T:TX (KX w.params) mg):FnOk P w (KX w.params) mg base CX0 1 219 fd_goes_ahead ["one","other","strictness"] (z5q (KX w.params)):=by
 refine (z4d w.params).ok za2 (λ g H Q E h=>?_) (λ i A k s H g Q E l h=>?_)
 ·obtain ⟨x,y,r,q,m,rfl,_⟩:=h;rfl
 ·obtain ⟨x,y,r,q,m,rfl,⟨c,rfl,a⟩,⟨f,rfl,d⟩,h⟩:=h;refine ⟨_,(z02 (ps_if (z08 opEq (pv 2) pe_str (nomark _))
   (z03 (ps_ret (pe_and (z0u z9j (pe_ix ix_seq (pv 0) pe_int (λ _ _=>rfl)) pe_non (nomark _)) (pe_one (z0u op_lt (pe_ix ix_seq (pv 0) pe_int (λ _ _=>rfl)) (pe_ix ix_seq (pv 1) pe_int (λ _ _=>rfl)) (nomark _))))))
   z0c)
   (z02 (ps_if (z08 opEq (pv 2) pe_str (nomark _))
   (z03 (ps_ret (pe_and (z0u opEq (pe_ix ix_seq (pv 0) pe_int (λ _ _=>rfl)) (pe_ix ix_seq (pv 1) pe_int (λ _ _=>rfl)) (nomark _)) (pe_one (z0u op_lt (pe_ix ix_seq (pv 0) pe_int (λ _ _=>rfl)) (pe_ix ix_seq (pv 1) pe_int (λ _ _=>rfl)) (nomark _))))))
   z0c)
   (z03 (ps_ret pe_bl)))),?_⟩
  match m,h with
  | 0,h=>
   refine ⟨_,rfl,rfl,_,rfl,iteP (decide_eq_true rfl) ?_⟩;refine ⟨_,rfl,.inr (.inl ⟨c,_,6,endV r.e,rfl,rfl,a,z05 (j:=6) rfl,rfl,_,rfl,?_⟩)⟩;cases re:r.e with
   | none=>
    refine iteN (by show ¬ (!decide (V.non=V.non))=true;decide) ?_;have:aheadB 0 r q=false:=by show ltO r.e q.b=_;rw [re];rfl
    rw [this] at h;exact h
   | some b=>
    refine iteP rfl ?_;refine ⟨_,rfl,.inr (.inl ⟨c,_,6,.int (b:Nat),rfl,rfl,a,z05 (j:=6) (by rw [re];rfl),?_⟩)⟩;refine ⟨_,rfl,.inr (.inl ⟨f,_,5,.int (q.b:Nat),rfl,rfl,d,z05 (j:=5) rfl,b,q.b,rfl,rfl,?_⟩)⟩;have:aheadB 0 r q=decide (b < q.b):=by show ltO r.e q.b=_;rw [re];rfl
    rw [this,<-dec_lt] at h;exact h
  | 1,h=>
   refine ⟨_,rfl,rfl,_,rfl,iteN (by decide +kernel) ?_⟩;refine ⟨_,rfl,rfl,_,rfl,iteP (decide_eq_true rfl) ?_⟩;refine ⟨_,rfl,.inr (.inl ⟨c,_,0,.int r.h,rfl,rfl,a,z05 (j:=0) rfl,?_⟩)⟩;refine ⟨_,rfl,.inr (.inl ⟨f,_,0,.int q.h,rfl,rfl,d,z05 (j:=0) rfl,rfl,_,rfl,?_⟩)⟩;by_cases z:r.h=q.h
   ·refine iteP (decide_eq_true (by rw [z])) ?_;refine ⟨_,rfl,.inr (.inl ⟨c,_,5,.int (r.b:Nat),rfl,rfl,a,z05 (j:=5) rfl,?_⟩)⟩;refine ⟨_,rfl,.inr (.inl ⟨f,_,5,.int (q.b:Nat),rfl,rfl,d,z05 (j:=5) rfl,r.b,q.b,rfl,rfl,?_⟩)⟩;have:aheadB 1 r q=decide (r.b < q.b):=by show (decide (r.h=q.h) && _)=_;rw [decide_eq_true z];rfl
    rw [this,<-dec_lt] at h;exact h
   ·refine iteN (λ e=>z (V.int.inj (of_decide_eq_true e))) ?_;have:aheadB 1 r q=false:=by show (decide (r.h=q.h) && _)=_;rw [decide_eq_false z];rfl
    rw [this] at h;exact h
  | m + 2,h=>refine ⟨_,rfl,rfl,_,rfl,iteN (show ¬ decide (V.str "bare" = V.str "strict")=true by decide +kernel) ?_⟩;refine ⟨_,rfl,rfl,_,rfl,iteN (show ¬ decide (V.str "bare" = V.str "hands")=true by decide +kernel) ?_⟩;exact h
def z20:Sp:=λ vs H Q _=>∃(m:Nat),vs=[.str (z0w m)]/\Q .non H
theorem zil {H:Hp}:SqT (KX w.params) H 198 [.str "strict",.str "hands",.str "bare"]:=
 .inr ⟨⟨(.type "tuple"),none,(.seq #[(.str "strict" 500),(.str "hands" 501),(.str "bare" 502)] 0),#[]⟩,#[(.str "strict" 500),(.str "hands" 501),(.str "bare" 502)],0,by kernel_rfl,rfl,rfl,w_3,.cons ⟨_,rfl⟩ (.cons ⟨_,rfl⟩ (.cons ⟨_,rfl⟩ .nil))⟩
theorem z4p (T:TX (KX w.params) mg):FnOk P w (KX w.params) mg base CX0 1 212 fd_check_strictness ["strictness"] z20:=by
 refine (z18 w.params).ok z4s (λ a H Q E h=>?_) (λ b A d s H a Q E c h=>?_)
 ·obtain ⟨m,rfl,_⟩:=h;rfl
 ·obtain ⟨m,rfl,h⟩:=h;refine ⟨_,(z03 (ps_if (PW.pt (pw_or (pt_not (pt_val (z09 call_isinst rfl (T.no (z0g _)) F2 (z00 (pv 0) (z00 (z1l (v:=.ty "str") rfl (T.no (n_str _)) j42 rfl) pa_nil))) (λ _=>rfl))) (pw_or1 (z08 z1u (pv 0) (z77 (v:=.ref 198) rfl (T.of (z92 _)) rfl) (by with_unfolding_all rfl)))))
   (z03 zcd)
   z0c)),?_⟩
  refine ⟨_,rfl,_,_,"str",rfl,rfl,by decide +kernel,_,rfl,iteN (by decide) ?_⟩;refine ⟨_,rfl,198,_,rfl,.inr zil,rfl,rfl,_,rfl,iteN ?_ h⟩
  match m with
  | 0=>decide +kernel
  | 1=>decide +kernel
  | m + 2=>exact (by decide +kernel:¬ (if true=true then !inV (.str "bare") [V.str "strict",.str "hands",.str "bare"] else inV (.str "bare") [V.str "strict",.str "hands",.str "bare"])=true)
noncomputable def z0i (m:Nat) (rs:List Rc) (a b:Nat):Bool:=match rs[a]?,rs[b]? with|some r,some q=>aheadB m r q|_,_=>false
noncomputable def rowTo (m:Nat) (rs:List Rc) (a j:Nat):List (Nat×Nat):=((J1 j).filter λ b=>z0i m rs a b).map λ b=>(a,b)
noncomputable def z2v (m:Nat) (rs:List Rc) (i:Nat):List (Nat×Nat):=(J1 i).flatMap λ a=>rowTo m rs a rs.length
theorem zaf {m:Nat} {rs:List Rc} {a j:Nat}:rowTo m rs a (j + 1)=rowTo m rs a j++if z0i m rs a j then [(a,j)] else []:=by
 unfold rowTo;rw [u6,List.filter_append,j2];by_cases z:z0i m rs a j=true
 ·rw [if_pos z];simp [z]
 ·rw [if_neg z];simp [z]
theorem z79 {m:Nat} {rs:List Rc} {i:Nat}:z2v m rs (i + 1)=z2v m rs i++rowTo m rs i rs.length:=by unfold z2v;rw [u6,List.flatMap_append];simp
theorem zda {m:Nat} {rs:List Rc} {a j:Nat}:(rowTo m rs a j).length<=j:=by unfold rowTo;rw [M0];exact G0 (G2 _ _) (by rw [Z1];exact F0 _)
theorem z5c {m:Nat} {rs:List Rc} :∀i:Nat,(z2v m rs i).length<=i * rs.length
 | 0=>by simp [z2v]
 | i + 1=>by rw [z79,S0,Nat.add_mul,Nat.one_mul];exact Nat.add_le_add (z5c i) zda
theorem zhx {i:Nat} {rs:List Rc} {e:Ev}:(dstep i rs e).length<=rs.length + 1:=by
 cases e with
 | beg h n v x=>show (rs++[_]).length<=_;rw [S0];exact F0 _
 | fin h a=>
  unfold dstep;dsimp only;cases lastI h (rs.map Rc.h) with
  | none=>exact T2 _
  | some j=>show (rs.modify j _).length<=_;rw [O7];exact T2 _
theorem z38 :∀{i:Nat} {rs:List Rc} (es:List Ev),(dAll i rs es).length<=rs.length + es.length
 | _,_,[]=>F0 _
 | i,rs,e :: es=>by show (dAll (i + 1) (dstep i rs e) es).length<=_;have:=z38 (i:=i + 1) (rs:=dstep i rs e) es;have:=zhx (i:=i) (rs:=rs) (e:=e);rw [y1];omega
def PairAt (H:Hp) (p:Nat×Nat) (y:V):Prop:=∃a,y=.ref a/\H a=some (.tup [.int p.1,.int p.2])
theorem PairAt.same {H H':Hp} {p:Nat×Nat} {y:V} (s:Same H H') (h:PairAt H p y):PairAt H' p y:=h.elim λ a z=>⟨a,z.1,s _ _ z.2⟩
theorem PairAt.wrote {H:Hp} {l:Addr} {zs ws:List V} {p:Nat×Nat} {y:V} (e:H l=some (.lst zs)) (h:PairAt H p y):PairAt (upd H l (.lst ws)) p y:=h.elim λ a z=>⟨a,z.1,by rw [upd_ne (ne_of z.2 e (by intro z;cases z))];exact z.2⟩
def zcy (K:j0):Sp:=λ vs H Q _=>∃(t te:Addr) (th:V) (ys:List V) (es:List Ev) (m:Nat),vs=[.ref t,.str (z0w m)]/\SqT K H t [th,.ref te]/\SqT K H te ys/\All2 (EvAt K H) es ys/\es.length<=100/\dWf 0 [] es/\
 ∀l zs H',Same H H'->H l=none->H' l=some (.lst zs)->All2 (PairAt H') (z2v m (dAll 0 [] es) (dAll 0 [] es).length) zs->Q (.ref l) H'
theorem zha (T:TX (KX w.params) mg) (c0:Cal P w (KX w.params) mg base "deeds" ["tale"] 1 (z8g (KX w.params))) (c1:Cal P w (KX w.params) mg base "check_strictness" ["strictness"] 1 z20) (c2:Cal P w (KX w.params) mg base "goes_ahead" ["one","other","strictness"] 1 (z5q (KX w.params))):FnOk P w (KX w.params) mg base CX0 2 205 fd_has_to ["tale","strictness"] (zcy (KX w.params)):=by
 refine (zbu w.params).ok sc_has_to (λ vs H Q E h=>?_) (λ b8 A b7 s H vs Q E M h=>?_)
 ·obtain ⟨t,U,th,ys,I,m,rfl,_⟩:=h;rfl
 ·obtain ⟨t,U,th,ys,I,m,rfl,st,se,al,Y,wf,q⟩:=h;refine ⟨_,(z02 (z2g (pe_cal c1 (M.mono (by decide)) rfl (z00 (pv 1) pa_nil)))
   (z02 (ps_set (i:=2) sc_has_to.nd rfl (Z0 rfl) (pe_cal c0 (M.mono (by decide)) rfl (z00 (pv 0) pa_nil)))
   (z02 (ps_set (i:=3) sc_has_to.nd rfl (Z0 rfl) (pe_lst pa_nil))
   (z02 (ps_for U1 rfl (z6w rfl (T.no (z1n _)) (z00 (pv 2) pa_nil)) (pg_tup rfl (z07 (z0j (i:=4) sc_has_to.nd rfl (Z0 rfl)) (z07 (z0j (i:=5) sc_has_to.nd rfl (Z0 rfl)) z0s)))
   (z03 (ps_for U1 rfl (z6w rfl (T.no (z1n _)) (z00 (pv 2) pa_nil)) (pg_tup rfl (z07 (z0j (i:=6) sc_has_to.nd rfl (Z0 rfl)) (z07 (z0j (i:=7) sc_has_to.nd rfl (Z0 rfl)) z0s)))
   (z03 (ps_if (pt_val (pe_cal c2 (M.mono (by decide)) rfl (z00 (pv 5) (z00 (pv 7) (z00 (pv 1) pa_nil)))) (λ _=>rfl))
   (z03 (z2g (z16 (pv 3) (z00 (pe_tup (z00 (pv 4) (z00 (pv 6) pa_nil))) pa_nil))))
   z0c)))))
   (z03 (ps_ret (pv 3))))))),?_⟩
  refine ⟨_,rfl,m,rfl,?_⟩;refine ⟨_,rfl,t,U,th,ys,I,rfl,st,se,al,Y,wf,λ l g D s1 b2 W L=>?_⟩;generalize hrs:dAll 0 [] I=rs at L q;have X:rs.length<=100:=by rw [<-hrs];have:=z38 (i:=0) (rs:=[]) I;simpa using G0 this (by simpa using Y)
  have u:g.length=rs.length:=z04 L;refine ⟨w_0,λ d v=>?_⟩;have a0:H d=none:=s1.free v;have nl:l≠d:=z0a W v;have s2:Same H (upd D d (.lst [])):=s1.trans (Same.upd v);have S:upd D d (.lst []) l=some (.lst g):=(Same.upd v) _ _ W;have Z:=z01 (λ a b z=>RcAt.tups (.of (Same.upd (o:=.lst []) v)) z) L;have a1:upd D d (.lst []) d=some (.lst []):=upd_same;generalize upd D d (.lst [])=H2 at s2 S Z a1⊢;refine ⟨_,rfl,l,g,rfl,SqL.of S,?_⟩;refine z5z (K:=KX w.params) (a:=l) (xs:=g) (λ i σ c=>∃f,c l=some (.lst g)/\All2 (RcAt (KX w.params) c) rs g/\c d=some (.lst f)/\All2 (PairAt c) (z2v m rs i) f/\Same H c/\∃x4 x5 x6 x7,σ=[some (.ref t),some (.str (z0w m)),some (.ref l),some (.ref d),x4,x5,x6,x7])
   ⟨[],S,Z,a1,.nil,s2,_,_,_,_,rfl⟩ (λ i σ c h=>?_) ?_ ?_
  ·obtain ⟨f,e,_⟩:=h;exact SqL.of e
  ·rintro i x σ F p hx ⟨f,e3,a3,f3,b3,s3,x4,x5,x6,x7,rfl⟩ hp;have n:=Same.upd (o:=.tup [.int i,x]) hp;have ep:upd F p (.tup [.int i,x]) p=some (.tup [.int i,x]):=upd_same;generalize upd F p (.tup [.int i,x])=H4 at n ep⊢;have e4:=n _ _ e3;have f4:=n _ _ f3;have a4:=z01 (λ a b z=>RcAt.tups (.of n) z) a3;have b4:=z01 (λ a b z=>PairAt.same n z) b3;have s4:=s3.trans n;refine ⟨p,_,rfl,SqT.of ep,rfl,.int i,_,rfl,x,_,rfl,rfl,?_⟩;have a7:i < rs.length:=by rw [<-u];exact (List.getElem?_eq_some_iff.mp hx).1
   have pl:=z5c (m:=m) (rs:=rs) i;have pm:i * rs.length<=10000:=Nat.mul_le_mul (G0 (V3 a7) X) X;refine ⟨_,rfl,l,g,rfl,SqL.of e4,?_⟩;refine z5z (K:=KX w.params) (a:=l) (xs:=g) (λ j σ c=>∃f,c l=some (.lst g)/\All2 (RcAt (KX w.params) c) rs g/\c d=some (.lst f)/\All2 (PairAt c) (z2v m rs i++rowTo m rs i j) f/\Same H c/\∃x6 x7,σ=[some (.ref t),some (.str (z0w m)),some (.ref l),some (.ref d),some (.int (i:Nat)),some x,x6,x7])
    ⟨f,e4,a4,f4,by rw [show rowTo m rs i 0=[] from rfl,W2];exact b4,s4,_,_,rfl⟩ (λ j σ c h=>?_) ?_ ?_
   ·obtain ⟨f,e,_⟩:=h;exact SqL.of e
   ·rintro j y σ R J hy ⟨zs3,e5,a5,f5,b5,s5,x6,x7,rfl⟩ hp';have k:=Same.upd (o:=.tup [.int j,y]) hp';have a2:upd R J (.tup [.int j,y]) J=some (.tup [.int j,y]):=upd_same;generalize upd R J (.tup [.int j,y])=H6 at k a2⊢;have e6:=k _ _ e5;have N:=k _ _ f5;have C:=z01 (λ a b z=>RcAt.tups (.of k) z) a5;have O:=z01 (λ a b z=>PairAt.same k z) b5;have s6:=s5.trans k;refine ⟨J,_,rfl,SqT.of a2,rfl,.int j,_,rfl,y,_,rfl,rfl,?_⟩;obtain ⟨r1,b0,a8⟩:=z0h C hx;obtain ⟨r2,V,b1⟩:=z0h C hy;have b9:j < rs.length:=(List.getElem?_eq_some_iff.mp V).1;have ah:z0i m rs i j=aheadB m r1 r2:=by unfold z0i;rw [b0,V]
    refine ⟨_,rfl,_,rfl,_,rfl,x,y,r1,r2,m,rfl,a8,b1,_,rfl,?_⟩;rw [<-ah];have rl:=zda (m:=m) (rs:=rs) (a:=i) (j:=j);have zl:zs3.length=(z2v m rs i++rowTo m rs i j).length:=z04 O;rw [S0] at zl;by_cases z:z0i m rs i j=true
    ·refine iteP z ?_;refine ⟨_,rfl,.inl ⟨rfl,zs3,SqL.of N⟩,_,rfl,_,rfl,w_2,λ B a9=>?_⟩;have r:=Same.upd (o:=.tup [.int (i:Nat),.int (j:Nat)]) a9;have e7:upd H6 B (.tup [.int (i:Nat),.int (j:Nat)]) B=some (.tup [.int (i:Nat),.int (j:Nat)]):=upd_same;generalize upd H6 B (.tup [.int (i:Nat),.int (j:Nat)])=H7 at r e7⊢;have G:=r _ _ N;refine ⟨d,zs3,_,rfl,rfl,G,E1 (m:=20000) (by omega) (by decide),?_⟩;refine ⟨zs3++[.ref B],?_,?_,upd_same,?_,Same.keep (s6.trans r) a0,_,_,rfl⟩
     ·rw [upd_ne nl];exact r _ _ e6
     ·exact z01 (λ a b z=>RcAt.tups ((Tups.of r).trans (Tups.lst G)) z) C
     ·rw [zaf,if_pos z,<-M5];exact z2l (z01 (λ a b z=>PairAt.wrote G (PairAt.same r z)) O) (PairAt.wrote G ⟨B,rfl,e7⟩)
    ·refine iteN z ?_;exact ⟨zs3,e6,C,N,by rw [zaf,if_neg z,W2];exact O,s6,_,_,rfl⟩
   ·rintro σ R ⟨zs3,e5,a5,f5,b5,s5,x6,x7,rfl⟩;exact ⟨zs3,e5,a5,f5,by rw [z79,<-u];rw [u] at b5;rw [u];exact b5,s5,_,_,_,_,rfl⟩
  ·rintro σ F ⟨f,e3,a3,f3,b3,s3,x4,x5,x6,x7,rfl⟩;rw [u] at b3;exact ⟨_,rfl,q d f F s3 a0 f3 b3⟩
def HandAt (H:Hp) (r:Addr):Prop:=∃a b c:Int,H r=some (.lst [.int a,.int b,.int c])/\0<=b/\b < 4294967296/\0<=c/\c < 2
theorem HandAt.same {H H':Hp} {r:Addr} (h:HandAt H r) (s:Same H H'):HandAt H' r:=by obtain ⟨a,b,c,e,z⟩:=h;exact ⟨a,b,c,s _ _ e,z⟩
theorem HandAt.fresh {r p:Addr} {H:Hp} (h:HandAt H r) (e:H p=none):p≠r:=λ z=>by obtain ⟨a,b,c,d,_⟩:=h;rw [z,d] at e;cases e
structure Hw (r:Addr) (H H':Hp):Prop where
 k:Kept r H H'
 r:HandAt H' r
theorem Hw.trans {r:Addr} {H H1 H2:Hp} (a:Hw r H H1) (b:Hw r H1 H2):Hw r H H2:=⟨a.k.trans b.k,b.r⟩
theorem Hw.same {r:Addr} {H H1 H2:Hp} (a:Hw r H H1) (s:Same H1 H2):Hw r H H2:=⟨a.k.trans s.kept,a.r.same s⟩
theorem HandAt.hw {r:Addr} {H:Hp} (h:HandAt H r):Hw r H H:=⟨.refl,h⟩
theorem zam {K:j0} {H:Hp} :∀ns:List Int,IsPds K H (ns.map d5) (ns.map V.int)
 | []=>rfl
 | n :: ns=>⟨.int n,ns.map V.int,rfl,rfl,zam ns⟩
theorem z9k :∀ns:List Int,z1e (ns.map d5)=true
 | []=>rfl
 | n :: ns=>by show (true && z1e (ns.map d5))=true;rw [z9k ns];rfl
theorem za6 :∀ns:List Int,o6 (ns.map d5)<=1
 | []=>by decide
 | n :: ns=>by have:=za6 ns;show max (A8 (.int n)) (o6 (ns.map d5))<=1;exact Nat.max_le.mpr ⟨(show (0:Nat)<=1 by decide),this⟩
def z42 (K:j0):Sp:=λ vs H Q _=>∃(a:Addr) (ns:List Int) (c k:Int),vs=[.ref a,.int c,.int k]/\SqL K H a (ns.map V.int)/\0<=k/\k < 1000/\∀r H',Same H H'->HandAt H' r->H r=none->Q (.ref r) H'
theorem zc9 (T:TX (KX w.params) mg):FnOk P w (KX w.params) mg base CX0 1 328 fd__law_hand ["script","cell","k"] (z42 (KX w.params)):=by
 refine (z5h w.params).ok sc__law_hand (λ m H Q E h=>?_) (λ u A v s H m Q E e h=>?_)
 ·obtain ⟨a,d,c,k,rfl,_⟩:=h;rfl
 ·obtain ⟨a,d,c,k,rfl,f,x,z,q⟩:=h;refine ⟨_,(z02 (ps_set (i:=3) sc__law_hand.nd rfl (Z0 rfl) pe_int)
   (z02 (ps_if (z08 (op_neP e) (pv 0) (pe_lst pa_nil) (nomark _))
   (z03 (ps_set (i:=3) sc__law_hand.nd rfl (Z0 rfl) (pe_op op_mod (z09 (zie rfl) rfl (T.no (n_sum _)) boot_sum (z00 (pv 0) pa_nil)) pe_int)))
   z0c)
   (z03 (ps_ret (pe_lst (z00 (pv 1) (z00 (pe_op op_mod (pe_op op_mul (pe_op opAdd (pe_op opAdd (pe_op op_mod (pv 1) pe_int) (pe_op op_mul pe_int (pv 2))) pe_int) pe_int) pe_int) (z00 (pv 3) pa_nil)))))))),?_⟩
  refine z0x ?_;refine g_name ?_;refine z5p (λ j l=>Same H l/\∃y:Int,(0<=y/\y < 2)/\j=[some (.ref a),some (.int c),some (.int k),some (.int y)]) ?_ (λ g=>?_);rotate_left
  ·refine ⟨_,rfl,w_0,λ p n=>?_⟩;have b:=Same.upd (o:=.lst []) n;refine ⟨.list (d.map d5),.list [],⟨a,_,rfl,b.seq f,zam d⟩,⟨p,[],rfl,SqL.of upd_same,rfl⟩,z9k d,rfl,G0 (Nat.add_le_add_right (za6 d) 1) (by decide),_,rfl,?_⟩;refine ite2 (λ _=>?_) λ _=>?_
   ·exact ⟨_,rfl,a,d,rfl,b.seq f,_,_,rfl,rfl,(show (0:Int) < 2 by decide),g _ _ ⟨b,_,⟨A7 _ (by decide),E6 _ (by decide)⟩,rfl⟩⟩
   ·exact g _ _ ⟨b,0,by decide,rfl⟩
  rintro j l ⟨b,y,⟨hy0,hy1⟩,rfl⟩;refine ⟨_,rfl,_,rfl,_,_,rfl,rfl,(show (0:Int) < 2147483629 by decide),?_⟩;refine ⟨_,rfl,_,_,rfl,rfl,.inl (by decide),.inl ⟨_,_,rfl,rfl,.inl ⟨_,_,rfl,rfl,?_⟩⟩⟩;refine ⟨_,_,rfl,rfl,.inr (by decide),_,_,rfl,rfl,(show (0:Int) < 2147483647 by decide),_,rfl,w_3,λ r e=>?_⟩;have t:0<=((c % 2147483629 + 7919 * k + 1) * 48271) % 2147483647:=A7 _ (by decide);have B:((c % 2147483629 + 7919 * k + 1) * 48271) % 2147483647 < 2147483647:=E6 _ (by decide);exact q r _ (b.trans (Same.upd e)) ⟨_,_,_,upd_same,t,by omega,hy0,hy1⟩ (b.free e)
def z0m:Sp:=λ vs H Q _=>∃(r:Addr) (m:Int),vs=[.ref r,.int m]/\HandAt H r/\0 < m/\m < 2 ^ 64/\∀t H',Hw r H H'->0<=t->t < m->Q (.int t) H'
theorem zb6 (T:TX (KX w.params) mg):FnOk P w (KX w.params) mg base CX0 1 335 fd__law_draw ["hand","limit"] z0m:=by
 refine (z50 w.params).ok sc__law_draw (λ n H Q E h=>?_) (λ o A p s H n Q E t h=>?_)
 ·obtain ⟨r,m,rfl,_⟩:=h;rfl
 ·obtain ⟨r,m,rfl,⟨a,b,c,e,k,j,f,g⟩,d,l,q⟩:=h;refine ⟨_,(z02 (ps_if (z08 opEq (pe_ix ix_seq (pv 0) pe_int (λ _ _=>rfl)) pe_int (nomark _))
   (z02 (ps_set (i:=2) sc__law_draw.nd rfl (Z0 rfl) (pe_op op_mod (pe_ix ix_seq (pv 0) pe_int (λ _ _=>rfl)) (pv 1)))
   (z02 (ps_asg (pe_op zbp (pe_ix ix_seq (pv 0) pe_int (λ _ _=>rfl)) (pv 1)) (pg_sub (pv 0) pe_int z69))
   (z03 (ps_ret (pv 2)))))
   z0c)
   (z02 (ps_asg (pe_op opAdd (pe_op op_mod (pe_op op_mul (pe_ix ix_seq (pv 0) pe_int (λ _ _=>rfl)) (pe_ix ix_seq (pv 0) pe_int (λ _ _=>rfl))) pe_int) pe_int) (pg_sub (pv 0) pe_int z69))
   (z03 (ps_ret (pe_op op_mod (pe_op zbp (pe_op op_mod (pe_op op_mul (pe_ix ix_seq (pv 0) pe_int (λ _ _=>rfl)) pe_int) pe_int) pe_int) (pv 1)))))),?_⟩
  refine ⟨_,rfl,.inl ⟨r,_,2,.int c,rfl,rfl,SqL.of e,rfl,rfl,_,rfl,?_⟩⟩;refine ite2 (λ _=>?_) λ _=>?_
  ·refine ⟨_,rfl,.inl ⟨r,_,0,.int a,rfl,rfl,SqL.of e,rfl,_,rfl,_,_,rfl,rfl,d,?_⟩⟩;refine ⟨_,rfl,.inl ⟨r,_,0,.int a,rfl,rfl,SqL.of e,rfl,_,rfl,_,_,rfl,rfl,⟨d,l⟩,?_⟩⟩;refine ⟨_,rfl,r,_,0,0,rfl,rfl,e,rfl,?_⟩;exact ⟨_,rfl,q _ _ ⟨.set,_,b,c,upd_same,k,j,f,g⟩ (A7 _ (by omega)) (E6 _ d)⟩
  ·have u:0<=(b * b) % 2147483629:=A7 _ (by decide);have v:(b * b) % 2147483629 < 2147483629:=E6 _ (by decide);refine ⟨_,rfl,.inl ⟨r,_,1,.int b,rfl,rfl,SqL.of e,rfl,_,rfl,.inl ⟨r,_,1,.int b,rfl,rfl,SqL.of e,rfl,?_⟩⟩⟩;refine ⟨_,_,rfl,rfl,.inl ⟨by omega,by omega⟩,_,_,rfl,rfl,(show (0:Int) < 2147483629 by decide),.inl ⟨_,_,rfl,rfl,?_⟩⟩;refine ⟨_,rfl,r,_,1,1,rfl,rfl,e,rfl,?_⟩;refine ⟨_,rfl,.inl ⟨r,_,1,.int _,rfl,rfl,SqL.of upd_same,rfl,?_⟩⟩;refine ⟨_,_,rfl,rfl,.inr (by decide),_,_,rfl,rfl,(show (0:Int) < 2147483563 by decide),_,_,rfl,rfl,⟨by decide,by decide⟩,_,rfl,_,_,rfl,rfl,d,?_⟩;exact q _ _ ⟨.set,a,_,c,upd_same,by omega,by omega,f,g⟩ (A7 _ (by omega)) (E6 _ d)
def near (i:Int):Prop:=-1000000000<=i/\i<=1000000000
inductive DeedOk:Str->Str->Dt->Prop
 | regR:DeedOk "register" "read" .non
 | regW {i:Int}:near i->DeedOk "register" "write" (.int i)
 | cntR:DeedOk "counter" "read" .non
 | cntA {i:Int}:near i->DeedOk "counter" "add" (.int i)
 | quP {i:Int}:near i->DeedOk "queue" "put" (.int i)
 | quT:DeedOk "queue" "take" .non
 | setP {i:Int}:near i->DeedOk "set" "put" (.int i)
 | setC {i:Int}:near i->DeedOk "set" "cut" (.int i)
 | setH {i:Int}:near i->DeedOk "set" "has" (.int i)
 | celR:DeedOk "cell" "read" .non
 | celW {i:Int}:near i->DeedOk "cell" "write" (.int i)
 | celS {i j:Int}:near i->near j->DeedOk "cell" "swap" (.tup [.int i,.int j])
noncomputable def kinds5:List Str:=["register","counter","queue","set","cell"]
noncomputable def verbsT (k:Str):List Str:=if k = "register" then ["write","read"] else if k = "counter" then ["add","read"] else if k = "queue" then ["put","take"] else if k = "set" then ["put","cut","has"] else ["read","write","swap","swap"]
def VerbOk (k v:Str):Prop:=((v = "read"\/v = "take")/\DeedOk k v .non)\/(v = "swap"/\∀i j,near i->near j->DeedOk k v (.tup [.int i,.int j]))\/(v≠"read"/\v≠"take"/\v≠"swap"/\∀i,near i->DeedOk k v (.int i))
theorem zjm {k v:Str} (hk:k∈kinds5) (hv:v∈verbsT k):VerbOk k v:=by
 unfold kinds5 at hk;simp only [N0,x0,or_false] at hk;rcases hk with rfl|rfl|rfl|rfl|rfl
 ·rw [show verbsT "register" = (["write","read"]:List Str) by decide +kernel] at hv;simp only [N0,x0,or_false] at hv;rcases hv with rfl|rfl
  ·exact .inr (.inr ⟨by decide +kernel,by decide +kernel,by decide +kernel,λ i h=>.regW h⟩)
  ·exact .inl ⟨.inl rfl,.regR⟩
 ·rw [show verbsT "counter" = (["add","read"]:List Str) by decide +kernel] at hv;simp only [N0,x0,or_false] at hv;rcases hv with rfl|rfl
  ·exact .inr (.inr ⟨by decide +kernel,by decide +kernel,by decide +kernel,λ i h=>.cntA h⟩)
  ·exact .inl ⟨.inl rfl,.cntR⟩
 ·rw [show verbsT "queue" = (["put","take"]:List Str) by decide +kernel] at hv;simp only [N0,x0,or_false] at hv;rcases hv with rfl|rfl
  ·exact .inr (.inr ⟨by decide +kernel,by decide +kernel,by decide +kernel,λ i h=>.quP h⟩)
  ·exact .inl ⟨.inr rfl,.quT⟩
 ·rw [show verbsT "set" = (["put","cut","has"]:List Str) by decide +kernel] at hv;simp only [N0,x0,or_false] at hv;rcases hv with rfl|rfl|rfl
  ·exact .inr (.inr ⟨by decide +kernel,by decide +kernel,by decide +kernel,λ i h=>.setP h⟩)
  ·exact .inr (.inr ⟨by decide +kernel,by decide +kernel,by decide +kernel,λ i h=>.setC h⟩)
  ·exact .inr (.inr ⟨by decide +kernel,by decide +kernel,by decide +kernel,λ i h=>.setH h⟩)
 ·rw [show verbsT "cell" = (["read","write","swap","swap"]:List Str) by decide +kernel] at hv;simp only [N0,x0,or_false] at hv;rcases hv with rfl|rfl|rfl|rfl
  ·exact .inl ⟨.inl rfl,.celR⟩
  ·exact .inr (.inr ⟨by decide +kernel,by decide +kernel,by decide +kernel,λ i h=>.celW h⟩)
  ·exact .inr (.inl ⟨rfl,λ i j b a=>.celS b a⟩)
  ·exact .inr (.inl ⟨rfl,λ i j b a=>.celS b a⟩)
theorem zir (z:Str) (ws:List Str):inV (.str z) (ws.map V.str)=decide (z∈ws):=by
 unfold inV;rw [j3a,Bool.eq_iff_iff,F8,decide_eq_true_eq];constructor
 ·rintro ⟨x,hx,e⟩;have e:x=z:=eq_of_beq (show (x == z)=true from e);rw [<-e];exact hx
 ·exact λ h=>⟨z,h,(show (z == z)=true from beq_self_eq_true z)⟩
theorem zbs {L:List Addr} {H H':Hp} (k:KeptL L H H') (n :∀l∈L,H l=none):Same H H':=λ b o e=>k b o (λ z=>by rw [n b z] at e;cases e) e
structure WordsAt (H:Hp) (p:Addr) (n:Nat) (f:Str->Option (List Str)):Prop where
 ex :∃kvs:List (Key×V),H p=some (.dK kvs)/\kvs.length<=n/\∀k ws,f k=some ws->∃l,valV kvs (.inr k)=some (.ref l)/\H l=some (.lst (ws.map V.str))
theorem z8k (kvs:List (Key×V)) (k:Key) (v:V):(putK kvs k v).length<=kvs.length + 1:=by
 unfold putK;split
 ·rw [M0];exact T2 _
 ·rw [S0];exact F0 _
theorem WordsAt.put {H:Hp} {p l:Addr} {n:Nat} {f:Str->Option (List Str)} {kvs:List (Key×V)} {k:Str} {ws:List Str} (hl:H l=none) (e:H p=some (.dK kvs)) (hn:kvs.length<=n) (h :∀k ws,f k=some ws->∃l,valV kvs (.inr k)=some (.ref l)/\H l=some (.lst (ws.map V.str))) :
  ∃H',H'=upd (upd H l (.lst (ws.map V.str))) p (.dK (putK kvs (.inr k) (.ref l)))/\WordsAt H' p (n + 1) (λ j=>if j=k then some ws else f j)/\KeptL [p] H H':=by
 have i:p≠l:=z0a e hl;refine ⟨_,rfl,⟨_,upd_same,G0 (z8k _ _ _) (g6 hn),λ j g a=>?_⟩,λ b o r d=>?_⟩
 ·by_cases z:j=k
  ·subst z;rw [if_pos rfl] at a;cases a;refine ⟨l,by rw [z2b,if_pos rfl],?_⟩;rw [upd_ne i.symm];exact upd_same
  ·rw [if_neg z] at a;obtain ⟨m,t,c⟩:=h j g a;refine ⟨m,by rw [z2b,if_neg (λ y=>z (N7 y))];exact t,?_⟩;have s:m≠p:=λ y=>by rw [y,e] at c;cases c
   rw [upd_ne s,upd_ne (z0a c hl)];exact c
 ·have q:b≠p:=λ z=>r (by rw [z];exact List.mem_singleton.mpr rfl);rw [upd_ne q,upd_ne (z0a d hl)];exact d
theorem words3 {H:Hp} {p l1 l2 l3:Addr} {k1 k2 k3:Str} {w1 w2 w3:List Str} (hp:H p=none) (h1:upd H p (.dK []) l1=none) (h2:upd (upd H p (.dK [])) l1 (.lst (w1.map V.str)) l2=none)
  (h3:upd (upd (upd H p (.dK [])) l1 (.lst (w1.map V.str))) l2 (.lst (w2.map V.str)) l3=none) (n12:k1≠k2) (n13:k1≠k3) (n23:k2≠k3) :
  upd (upd (upd (upd H p (.dK [])) l1 (.lst (w1.map V.str))) l2 (.lst (w2.map V.str))) l3 (.lst (w3.map V.str)) p=some (.dK [])/\
  ∃H',H'=upd (upd (upd (upd (upd H p (.dK [])) l1 (.lst (w1.map V.str))) l2 (.lst (w2.map V.str))) l3 (.lst (w3.map V.str))) p (.dK [(.inr k1,.ref l1),(.inr k2,.ref l2),(.inr k3,.ref l3)])/\Same H H'/\
   H' p=some (.dK [(.inr k1,.ref l1),(.inr k2,.ref l2),(.inr k3,.ref l3)])/\∀k ws,(if k=k1 then some w1 else if k=k2 then some w2 else if k=k3 then some w3 else none)=some ws->∃l,valV [((.inr k1:Key),V.ref l1),(.inr k2,.ref l2),(.inr k3,.ref l3)] (.inr k)=some (.ref l)/\H' l=some (.lst (ws.map V.str)):=by
 have c:p≠l1:=z0a upd_same h1;have d:p≠l2:=z0a (by rw [upd_ne c];exact upd_same) h2;have f:p≠l3:=z0a (by rw [upd_ne d,upd_ne c];exact upd_same) h3;have g:l1≠l2:=z0a upd_same h2;have j:l1≠l3:=z0a (by rw [upd_ne g];exact upd_same) h3;have i:l2≠l3:=z0a upd_same h3;refine ⟨by rw [upd_ne f,upd_ne d,upd_ne c];exact upd_same,_,rfl,λ b o e=>?_,upd_same,λ k ws e=>?_⟩
 ·rw [upd_ne (z0a e hp)];exact ((((Same.upd hp).trans (Same.upd h1)).trans (Same.upd h2)).trans (Same.upd h3)) b o e
 ·have ne :∀{a b:Str},a≠b->(Sum.inr a:Key)≠Sum.inr b:=λ h e=>h (N7 e);by_cases z1:k=k1
  ·rw [if_pos z1] at e;cases e;exact ⟨l1,by rw [z1];exact z0v rfl,by rw [upd_ne c.symm,upd_ne j,upd_ne g];exact upd_same⟩
  ·rw [if_neg z1] at e;by_cases z2:k=k2
   ·rw [if_pos z2] at e;cases e;exact ⟨l2,by rw [z2,z0p (ne n12)];exact z0v rfl,by rw [upd_ne d.symm,upd_ne i];exact upd_same⟩
   ·rw [if_neg z2] at e;by_cases z3:k=k3
    ·rw [if_pos z3] at e;cases e;exact ⟨l3,by rw [z3,z0p (ne n13),z0p (ne n23)];exact z0v rfl,by rw [upd_ne f.symm];exact upd_same⟩
    ·rw [if_neg z3] at e;cases e
def WorthIn (H:Hp) (d:Dt) (x:V):Prop:=∀a b:Int,d=.tup [.int a,.int b]->∃t,x=.ref t/\H t=some (.tup [.int a,.int b])
theorem e9:(10:Int) ^ (9:Int).toNat=1000000000:=by decide
theorem p9:CPow 10 9:=⟨by decide,by decide,by decide⟩
def z3i:Sp:=λ vs H Q _=>∃r:Addr,vs=[.ref r]/\HandAt H r/\∀i H',Hw r H H'->near i->Q (.int i) H'
theorem zap (T:TX (KX w.params) mg) (c0:Cal P w (KX w.params) mg base "_law_draw" ["hand","limit"] 1 z0m):FnOk P w (KX w.params) mg base CX0 2 354 fd__law_worth ["hand"] z3i:=by
 refine (z4b w.params).ok zae (λ z H Q E h=>?_) (λ G A F s H z Q E e h=>?_)
 ·obtain ⟨r,rfl,_⟩:=h;rfl
 ·obtain ⟨r,rfl,R,q⟩:=h;refine ⟨_,(z02 (ps_if (z08 opEq (pe_cal c0 (e.mono (by decide)) rfl (z00 (pv 0) (z00 pe_int pa_nil))) pe_int (nomark _))
   (z03 (ps_ret (pe_ix ix_seq (pe_lst (z00 (pe_op op_pow pe_int pe_int) (z00 (pe_op op_sub pe_int (pe_op op_pow pe_int pe_int)) (z00 (pe_op op_sub (pe_cal c0 (e.mono (by decide)) rfl (z00 (pv 0) (z00 (pe_op opAdd (pe_op op_mul pe_int (pe_op op_pow pe_int pe_int)) pe_int) pa_nil))) (pe_op op_pow pe_int pe_int)) pa_nil)))) (pe_cal c0 (e.mono (by decide)) rfl (z00 (pv 0) (z00 pe_int pa_nil))) (λ _ _=>rfl))))
   z0c)
   (z03 (ps_ret (pe_ix ix_seq (pe_lst (z00 pe_int (z00 pe_int (z00 pe_int (z00 pe_int (z00 (pe_un un_neg pe_int) pa_nil)))))) (pe_cal c0 (e.mono (by decide)) rfl (z00 (pv 0) (z00 pe_int pa_nil))) (λ _ _=>rfl))))),?_⟩
  refine ⟨_,rfl,r,6,rfl,R,by decide,by decide,λ t J b _ _=>⟨rfl,_,rfl,?_⟩⟩;refine ite2 (λ _=>?_) λ _=>?_
  ·refine ⟨_,_,rfl,rfl,p9,_,_,rfl,rfl,p9,_,_,rfl,rfl,_,rfl,_,_,rfl,rfl,p9,_,_,rfl,rfl,.inl ⟨by decide,by decide⟩,.inl ⟨_,_,rfl,rfl,r,_,rfl,b.r,by decide,by decide,λ f n g D y=>?_⟩⟩;rw [e9] at y;refine ⟨_,_,rfl,rfl,p9,_,_,rfl,rfl,w_3,λ l a=>?_⟩;rw [e9];have d:=b.trans g;refine ⟨_,rfl,r,3,rfl,d.r.same (Same.upd a),by decide,by decide,λ x I m u p=>?_⟩;obtain ⟨v,i,c⟩:=atI_of (xs:=[V.int 1000000000,.int (0 - 1000000000),.int (f - 1000000000)]) u p;refine .inl ⟨l,_,x,v,rfl,rfl,SqL.of (m.k _ _ (d.r.fresh a) upd_same),i,?_⟩;have j:=(d.same (Same.upd (o:=.lst [V.int 1000000000,.int (0 - 1000000000),.int (f - 1000000000)]) a)).trans m;simp only [N0,x0,or_false] at c;rcases c with rfl|rfl|rfl
   ·exact q _ _ j ⟨by decide,by decide⟩
   ·exact q _ _ j ⟨by decide,by decide⟩
   ·exact q _ _ j ⟨by omega,by omega⟩
  ·refine ⟨_,rfl,w_5,λ l a=>⟨_,rfl,r,5,rfl,b.r.same (Same.upd a),by decide,by decide,λ f n g B C=>?_⟩⟩;obtain ⟨v,i,c⟩:=atI_of (xs:=[V.int 0,.int 1,.int 2,.int 3,.int (-1)]) B C;refine .inl ⟨l,_,f,v,rfl,rfl,SqL.of (g.k _ _ (b.r.fresh a) upd_same),i,?_⟩;have d:=(b.same (Same.upd (o:=.lst [V.int 0,.int 1,.int 2,.int 3,.int (-1)]) a)).trans g;simp only [N0,x0,or_false] at c;rcases c with rfl|rfl|rfl|rfl|rfl<;>exact q _ _ d ⟨by decide,by decide⟩
def z7u (K:j0):Sp:=λ vs H Q _=>∃(r:Addr) (k:Str),vs=[.ref r,.str k]/\HandAt H r/\k∈kinds5/\∀p v x d H',Hw r H H'->H' p=some (.tup [.str v,x])->H p=none->DeedOk k v d->IsDt K H' d x->WorthIn H' d x->Q (.ref p) H'
theorem zej (T:TX (KX w.params) mg) (c0:Cal P w (KX w.params) mg base "_law_draw" ["hand","limit"] 1 z0m) (c1:Cal P w (KX w.params) mg base "_law_worth" ["hand"] 2 z3i):FnOk P w (KX w.params) mg base CX0 3 361 fd__law_act ["hand","kind"] (z7u (KX w.params)):=by
 refine (z6o w.params).ok sc__law_act (λ vs H Q E h=>?_) (λ b6 A b5 s H vs Q E d h=>?_)
 ·obtain ⟨r,k,rfl,_⟩:=h;rfl
 ·obtain ⟨r,k,rfl,R,M,q⟩:=h;refine q_of (z2n (qs_set (i:=2) sc__law_act.nd rfl (Z0 rfl) (zkp (zbl (QE.mk pe_str) (qe_lst (z0r (QE.mk pe_str) (z0r (QE.mk pe_str) qa_nil))) (zbl (QE.mk pe_str) (qe_lst (z0r (QE.mk pe_str) (z0r (QE.mk pe_str) qa_nil))) (zbl (QE.mk pe_str) (qe_lst (z0r (QE.mk pe_str) (z0r (QE.mk pe_str) qa_nil))) zln))) rfl rfl (by simp) (by decide)))
   (z2n (zj9 (hu_of d) (QE.mk (pv 2)) (QE.mk pe_str) (qe_lst (z0r (QE.mk pe_str) (z0r (QE.mk pe_str) (z0r (QE.mk pe_str) qa_nil)))) rfl)
   (z2n (zj9 (hu_of d) (QE.mk (pv 2)) (QE.mk pe_str) (qe_lst (z0r (QE.mk pe_str) (z0r (QE.mk pe_str) (z0r (QE.mk pe_str) (z0r (QE.mk pe_str) qa_nil))))) rfl)
   (z2n (QS.mk (ps_set (i:=3) sc__law_act.nd rfl (Z0 rfl) (pe_ix ix_seq (z7v (hu_of d) (pv 2) (pv 1) (λ _ _=>rfl)) (pe_cal c0 (d.mono (by decide)) rfl (z00 (pv 0) (z00 (z09 z12 rfl (T.no (n_len _)) Y3 (z00 (z7v (hu_of d) (pv 2) (pv 1) (λ _ _=>rfl)) pa_nil)) pa_nil))) (λ _ _=>rfl))))
   (z2n (QS.mk (ps_if (z08 z24 (pv 3) (pe_tup (z00 pe_str (z00 pe_str pa_nil))) (by with_unfolding_all rfl))
   (z03 (ps_ret (pe_tup (z00 (pv 3) (z00 pe_non pa_nil)))))
   z0c))
   (z2n (QS.mk (ps_if (z08 opEq (pv 3) pe_str (nomark _))
   (z03 (ps_ret (pe_tup (z00 (pv 3) (z00 (pe_tup (z00 (pe_cal c1 (d.mono (by decide)) rfl (z00 (pv 0) pa_nil)) (z00 (pe_cal c1 (d.mono (by decide)) rfl (z00 (pv 0) pa_nil)) pa_nil))) pa_nil)))))
   z0c))
   (zjd (QS.mk (ps_ret (pe_tup (z00 (pv 3) (z00 (pe_cal c1 (d.mono (by decide)) rfl (z00 (pv 0) pa_nil)) pa_nil)))))))))))) ?_
  refine z0x ?_;intro p hp;refine ⟨w_2,λ I X=>⟨w_2,λ Y F=>⟨w_2,λ U N=>?_⟩⟩⟩;obtain ⟨ep,H2,a7,s2,e2,f2⟩:=words3 (H:=H) (k1:="register") (k2:="counter") (k3:="queue") (w1:=["write","read"]) (w2:=["add","read"]) (w3:=["put","take"]) hp X F N (by decide +kernel) (by decide +kernel) (by decide +kernel);refine ⟨ep,[(.inr "register",.ref I),(.inr "counter",.ref Y),(.inr "queue",.ref U)],rfl,(show (3:Nat)<=15 by decide),?_⟩;rw [show mergeK [] [((.inr "register" : Key),V.ref I),(.inr "counter",.ref Y),(.inr "queue",.ref U)]=[(.inr "register",.ref I),(.inr "counter",.ref Y),(.inr "queue",.ref U)] from rfl];refine g_name ?_;refine (show∀A,H2=A->tSeq _ _ _ _ A from ?_) _ a7;intro A x;subst x;refine ⟨w_3,λ l4 h4=>⟨_,rfl,p,_,rfl,DPut.k (k:=.inr "set") ((Same.upd h4) _ _ e2) (show (3:Nat) < sizeLine by decide),?_⟩⟩;obtain ⟨H4,a6,W4,k4⟩:=WordsAt.put (k:="set") (ws:=["put","cut","has"]) h4 e2 (n:=3) (F0 _) f2;refine (show∀A,H4=A->tSeq _ _ _ _ A from ?_) _ a6;intro A x;subst x;obtain ⟨b9,e4,Z,f4⟩:=W4.ex;refine ⟨w_4,λ l5 h5=>⟨_,rfl,p,_,rfl,DPut.k (k:=.inr "cell") ((Same.upd h5) _ _ e4) (E1 Z (by decide)),?_⟩⟩;obtain ⟨K,a3,W5,k5⟩:=WordsAt.put (k:="cell") (ws:=["read","write","swap","swap"]) h5 e4 Z f4;refine (show∀A,K=A->tSeq _ _ _ _ A from ?_) _ a3;intro A x;subst x;have s5:Same H K:=zbs (L:=[p]) ((s2.keptL.trans k4).trans k5) (λ l hl=>by rw [List.mem_singleton.mp hl];exact hp);obtain ⟨b7,e5,_,f5⟩:=W5.ex;have O:=R.hw.same s5;have fk:(if k = "cell" then some ["read","write","swap","swap"] else if k = "set" then some ["put","cut","has"] else if k = "register" then some ["write","read"] else if k = "counter" then some ["add","read"] else if k = "queue" then some ["put","take"] else none:Option (List Str))=some (verbsT k):=by have m:=M;unfold kinds5 at m;simp only [N0,x0,or_false] at m;rcases m with rfl|rfl|rfl|rfl|rfl<;>decide +kernel
  obtain ⟨t,v6,u⟩:=f5 k _ fk;have dg:DGet K p (.str k) (some (.ref t)):=by have:=DGet.k (k:=.inr k) e5;rw [v6] at this;exact this
  refine ⟨_,rfl,_,rfl,p,.ref t,rfl,dg,_,rfl,_,rfl,_,rfl,p,.ref t,rfl,dg,.inl ⟨t,_,rfl,.inl (SqL.of u),?_⟩⟩;have a2:0 < (verbsT k).length/\(verbsT k).length<=4:=by have m:=M;unfold kinds5 at m;simp only [N0,x0,or_false] at m;rcases m with rfl|rfl|rfl|rfl|rfl<;>decide +kernel
  refine ⟨r,_,rfl,O.r,by rw [M0];omega,by rw [M0];omega,λ t7 H7 w7 a5 a4=>?_⟩;obtain ⟨v0,b4,b1⟩:=atI_of (xs:=(verbsT k).map V.str) a5 a4;obtain ⟨v,hv,rfl⟩:=List.mem_map.mp b1;have n6:t≠r:=λ z=>by
   obtain ⟨a,b,c,er,_⟩:=O.r;rw [z,er] at u;cases hws:verbsT k with
   | nil=>rw [hws] at a2;exact absurd a2.1 (by decide)
   | cons y ys=>rw [hws] at u;cases u
  refine .inl ⟨t,_,t7,_,rfl,rfl,SqL.of (w7.k _ _ n6 u),b4,?_⟩;have b3:=O.trans w7;refine ⟨_,rfl,w_2,λ p8 a8=>⟨p8,[V.str "read",.str "take"],rfl,.inr (SqT.of upd_same),rfl,rfl,_,rfl,?_⟩⟩;have iv:inV (.str v) [.str "read",.str "take"]=decide (v∈(["read","take"]:List Str)):=zir v ["read","take"];rw [if_neg U0,iv];have f:=b3.same (Same.upd (o:=.tup [.str "read",.str "take"]) a8);generalize upd H7 p8 (.tup [.str "read",.str "take"])=H8 at f⊢;have S :∀{H':Hp} {p':Addr},Hw r H H'->H' p'=none->H p'=none:=λ {H' p'} hw e=>by
   cases z:H p' with
   | none=>rfl
   | some o=>have nr:p'≠r:=hw.r.fresh e;rw [hw.k _ _ nr z] at e;cases e
  rcases zjm M hv with ⟨a9,B⟩|⟨hsw,B⟩|⟨X,F,N,B⟩
  ·refine iteP (decide_eq_true (by rcases a9 with rfl|rfl<;>decide +kernel)) ?_;exact ⟨_,rfl,w_2,λ p9 a1=>q p9 v .non .non _ (f.same (Same.upd a1)) upd_same (S f a1) B rfl (λ _ _ e=>by cases e)⟩
  ·subst hsw;refine iteN (by decide +kernel) ⟨_,rfl,rfl,_,rfl,iteP (decide_eq_true rfl) ?_⟩;refine ⟨_,rfl,_,rfl,r,rfl,f.r,λ i H9 C G=>⟨_,rfl,r,rfl,C.r,λ j b8 D nj=>⟨w_2,λ J b0=>⟨w_2,λ W g=>?_⟩⟩⟩⟩;have a0:=Same.upd (o:=.tup [.int i,.int j]) b0;have b2:=a0.trans (Same.upd (o:=.tup [.str "swap",.ref J]) g);have D:=(f.trans C).trans D;exact q W "swap" (.ref J) _ _ (D.same b2) upd_same (S (D.same a0) g) (B i j G nj) (.mkT ((Same.upd g) _ _ upd_same) (.mk2 rfl rfl)) (λ a b e=>by cases e;exact ⟨J,rfl,(Same.upd g) _ _ upd_same⟩)
  ·refine iteN (λ z=>?_) ⟨_,rfl,rfl,_,rfl,iteN (by rw [decide_eq_false λ e=>N (by injection e)];decide) ?_⟩
   ·have:=of_decide_eq_true z;simp only [N0,x0,or_false] at this;rcases this with z|z
    ·exact X z
    ·exact F z
   ·exact ⟨_,rfl,_,rfl,r,rfl,f.r,λ i H9 C G=>⟨w_2,λ W g=>q W v (.int i) _ _ ((f.trans C).same (Same.upd g)) upd_same (S (f.trans C) g) (B i G) rfl (λ _ _ e=>by cases e)⟩⟩
end
section
noncomputable def oStep (os:List Int):Ev->List Int
 | .beg h _ _ _=>os++[h]
 | .fin h _=>os.filter λ k=>decide (k≠h)
noncomputable def oOk (os:List Int):Ev->Prop
 | .beg h _ _ _=>h∉os
 | .fin h _=>h∈os
noncomputable def EWf:List Int->List Ev->Prop
 | _,[]=>True
 | os,e :: es=>oOk os e/\EWf (oStep os e) es
theorem EWf.snoc :∀{es:List Ev} {os:List Int} {e:Ev},EWf os es->oOk (es.foldl oStep os) e->EWf os (es++[e])
 | [],os,e,_,h=>⟨h,trivial⟩
 | x :: es,os,e,w,h=>⟨w.1,EWf.snoc w.2 h⟩
theorem zhd {h:Int} (hs:List Int) :∀{j:Nat},lastI h hs=some j->hs[j]? = some h/\∀k,j < k->hs[k]?≠some h:=by
 suffices key :∀n (hs:List Int),hs.length=n->∀{j:Nat},lastI h hs=some j->hs[j]? = some h/\∀k,j < k->hs[k]?≠some h from λ {j} a=>key _ hs rfl a;intro n;induction n with
 | zero=>intro hs e j a;have:=z8p a;omega
 | succ n ih=>
  intro hs e j a;have ne:hs≠[]:=λ z=>by rw [z] at e;cases e
  obtain ⟨b,t,rfl⟩ :∃b t,hs=b++[t]:=⟨hs.dropLast,hs.getLast ne,(j17 ne).symm⟩
  rw [S0] at e;have e:b.length=n:=by simpa using e
  rw [z4v] at a;by_cases z:t=h
  ·rw [if_pos z] at a;cases a;refine ⟨by simp [z],λ k c=>?_⟩;rw [E5 (by rw [S0];show b.length + 1<=k;omega)];intro y;cases y
  ·rw [if_neg z] at a;obtain ⟨f,d⟩:=ih b e a;have lt:=z8p a;refine ⟨by rw [K2 lt];exact f,λ k c=>?_⟩;by_cases y:k < b.length
   ·rw [K2 y];exact d k c
   ·by_cases y2:k=b.length
    ·subst y2;rw [E2 (F0 _)];simp;exact z
    ·rw [E5 (by rw [S0];show b.length + 1<=k;omega)];intro y;cases y
theorem zh4 {h:Int} (hs:List Int) (hm:h∈hs):(lastI h hs).isSome=true:=by
 suffices key :∀n (hs:List Int),hs.length=n->h∈hs->(lastI h hs).isSome=true from key _ hs rfl hm;intro n;induction n with
 | zero=>intro hs e hm;rw [List.length_eq_zero_iff.mp e] at hm;cases hm
 | succ n ih=>
  intro hs e hm;have ne:hs≠[]:=λ z=>by rw [z] at e;cases e
  obtain ⟨a,t,rfl⟩ :∃a t,hs=a++[t]:=⟨hs.dropLast,hs.getLast ne,(j17 ne).symm⟩
  rw [S0] at e;rw [z4v];by_cases z:t=h
  ·rw [if_pos z];rfl
  ·rw [if_neg z];refine ih a (by simpa using e) ?_;rcases List.mem_append.mp hm with y|y
   ·exact y
   ·exact absurd (List.mem_singleton.mp y).symm z
structure DInv (i:Nat) (rs:List Rc) (os:List Int):Prop where
 b :∀r∈rs,r.b < i
 e :∀r∈rs,∀e,r.e=some e->e < i
 p :∀(x y:Nat) (r q:Rc),x < y->rs[x]? = some r->rs[y]? = some q->r.b < q.b/\(r.h=q.h->∃e,r.e=some e/\e < q.b)
 o :∀r∈rs,r.h∉os->r.e.isSome=true
 m :∀h∈os,h∈rs.map Rc.h
theorem DInv.nil:DInv 0 [] []:=⟨λ _ h=>(by cases h),λ _ h=>(by cases h),λ x y r q _ h=>(by simp at h),λ _ h=>(by cases h),λ _ h=>(by cases h)⟩
theorem zet {rs:List Rc} {j:Nat} {f:Rc->Rc} (hf :∀r,(f r).h=r.h):(rs.modify j f).map Rc.h=rs.map Rc.h:=by
 apply i8;intro m;rw [W0,W0,c7];cases rs[m]? with
 | none=>rfl
 | some r=>
  show some (if j=m then f r else r).h=some r.h;by_cases z:j=m
  ·rw [if_pos z,hf]
  ·rw [if_neg z]
theorem DInv.step {i:Nat} {rs:List Rc} {os:List Int} (I:DInv i rs os) {e:Ev} (ok:oOk os e):DInv (i + 1) (dstep i rs e) (oStep os e)/\∀h a,e=.fin h a->(lastI h (rs.map Rc.h)).isSome=true:=by
 cases e with
 | beg h n v x=>
  have ok:h∉os:=ok;refine ⟨⟨λ r d=>?_,λ r d e c=>?_,λ t g r q E H C=>?_,λ r d B=>?_,λ k F=>?_⟩,λ h a e=>by cases e⟩
  ·rcases List.mem_append.mp d with z|z
   ·have:=I.b r z;omega
   ·rw [List.mem_singleton.mp z];exact C2 i
  ·rcases List.mem_append.mp d with z|z
   ·have:=I.e r z e c;omega
   ·rw [List.mem_singleton.mp z] at c;cases c
  ·have a0:g < (dstep i rs (.beg h n v x)).length:=(List.getElem?_eq_some_iff.mp C).1;have hl:(dstep i rs (.beg h n v x)).length=rs.length + 1:=by show (rs++[_]).length=_;rw [S0];rfl
   have S:rs[t]? = some r:=by
    have:(rs++[_])[t]? = some r:=H
    rwa [K2 (by omega)] at this
   by_cases z:g < rs.length
   ·have Z:rs[g]? = some q:=by
     have:(rs++[_])[g]? = some q:=C
     rwa [K2 z] at this
    exact I.p t g r q E S Z
   ·have J:(rs++[_])[g]? = some q:=C;have ey:g=rs.length:=by omega
    subst ey;rw [E2 (F0 _)] at J;simp at J;have O:=T0 S;rw [<-J];refine ⟨I.b r O,λ A=>?_⟩;have:r.e.isSome=true:=I.o r O (by rw [A];exact ok);obtain ⟨e,c⟩:=Option.isSome_iff_exists.mp this;exact ⟨e,c,I.e r O e c⟩
  ·rcases List.mem_append.mp d with z|z
   ·exact I.o r z λ y=>B (List.mem_append.mpr (.inl y))
   ·rw [List.mem_singleton.mp z] at B;exact absurd (List.mem_append.mpr (.inr (List.mem_singleton.mpr rfl))) B
  ·show k∈(rs++[_]).map Rc.h;rw [j2];rcases List.mem_append.mp F with z|z
   ·exact List.mem_append.mpr (.inl (I.m k z))
   ·rw [List.mem_singleton.mp z];exact List.mem_append.mpr (.inr (List.mem_singleton.mpr rfl))
 | fin h a=>
  have ok:h∈os:=ok;obtain ⟨j,K⟩:=Option.isSome_iff_exists.mp (zh4 _ (I.m h ok));refine ⟨?_,λ h' a' e=>by cases e;rw [K];rfl⟩;obtain ⟨P,X⟩:=zhd _ K;have hd:dstep i rs (.fin h a)=rs.modify j (λ r=>{ r with a:=a,e:=some i }):=by unfold dstep;dsimp only;rw [K]
  rw [hd];have hs:oStep os (.fin h a)=os.filter λ k=>decide (k≠h):=rfl;rw [hs];rw [W0] at P;obtain ⟨rj,T,R⟩:=Option.map_eq_some_iff.mp P;have get :∀m q,(rs.modify j (λ r=>{ r with a:=a,e:=some i }))[m]? = some q->∃r,rs[m]? = some r/\q.h=r.h/\q.b=r.b/\(m=j->q.e=some i)/\(m≠j->q=r):=λ m q Q=>by
   rw [c7] at Q;obtain ⟨r,d,e⟩:=Option.map_eq_some_iff.mp Q;refine ⟨r,d,?_⟩;by_cases z:j=m
   ·rw [if_pos z] at e;rw [<-e];exact ⟨rfl,rfl,λ _=>rfl,λ y=>absurd z.symm y⟩
   ·rw [if_neg z] at e;rw [<-e];exact ⟨rfl,rfl,λ y=>absurd y.symm z,λ _=>rfl⟩
  refine ⟨λ r d=>?_,λ r d e c=>?_,λ t g r q E H C=>?_,λ r d B=>?_,λ k F=>?_⟩
  ·obtain ⟨m,D⟩:=List.mem_iff_getElem?.mp d;obtain ⟨s,u,_,h3,_⟩:=get m r D;have:=I.b s (T0 u);omega
  ·obtain ⟨m,D⟩:=List.mem_iff_getElem?.mp d;obtain ⟨s,u,_,_,M,G⟩:=get m r D;by_cases z:m=j
   ·rw [M z] at c;cases c;exact C2 i
   ·rw [G z] at c;have:=I.e s (T0 u) e c;omega
  ·obtain ⟨s,L,Y,r3,r4,r5⟩:=get t r H;obtain ⟨V,U,W,q3,_⟩:=get g q C;obtain ⟨p1,N⟩:=I.p t g s V E L U;refine ⟨by omega,λ A=>?_⟩;by_cases z:t=j
   ·subst z;rw [T] at L;cases L;refine absurd ?_ (X g E);rw [W0,U];show some V.h=some h;rw [<-W,<-A,Y,R]
   ·rw [r5 z] at A⊢;rw [W] at A;obtain ⟨e,c,lt⟩:=N A;exact ⟨e,c,by omega⟩
  ·obtain ⟨m,D⟩:=List.mem_iff_getElem?.mp d;obtain ⟨s,u,h2,_,M,G⟩:=get m r D;by_cases z:m=j
   ·rw [M z];rfl
   ·rw [G z] at B⊢;by_cases y:s.h=h
    ·have lt:m < j:=by
      rcases Nat.lt_or_gt_of_ne z with l|l
      ·exact l
      ·exact absurd (by rw [W0,u];show some s.h=_;rw [y]) (X m l)
     obtain ⟨_,N⟩:=I.p m j s rj lt u T;obtain ⟨e,c,_⟩:=N (by rw [y,R]);rw [c];rfl
    ·exact I.o s (T0 u) λ w=>B (List.mem_filter.mpr ⟨w,decide_eq_true y⟩)
  ·rw [zet (f:=λ r=>{ r with a:=a,e:=some i }) (λ r=>rfl)];exact I.m k (List.mem_filter.mp F).1
theorem DInv.all :∀{es:List Ev} {i:Nat} {rs:List Rc} {os:List Int},DInv i rs os->EWf os es->dWf i rs es/\∃os',DInv (i + es.length) (dAll i rs es) os'
 | [],i,rs,os,I,_=>⟨trivial,os,I⟩
 | e :: es,i,rs,os,I,w=>by obtain ⟨a,d⟩:=I.step w.1;obtain ⟨b,os',c⟩:=DInv.all a w.2;refine ⟨⟨d,b⟩,os',?_⟩;rw [y1,show i + (es.length + 1)=i + 1 + es.length by omega];exact c
theorem zd4 {kvs:List (Key×V)} {k j:Key} (h:j≠k):valV (dropK kvs k) j=valV kvs j:=by
 induction kvs with
 | nil=>rfl
 | cons p r ih=>
  by_cases z:p.1=k
  ·rw [zcn z,ih];have:p.1≠j:=λ y=>h (y.symm.trans z);obtain ⟨a,pv⟩:=p;exact (z0p this).symm
  ·rw [zcr z];obtain ⟨a,pv⟩:=p;by_cases y:a=j
   ·subst y;rw [z0v rfl,z0v rfl]
   ·rw [z0p y,z0p y,ih]
theorem zd9 {kvs:List (Key×V)} {h:Int} :∀{os:List Int},kvs.map (·.1)=os.map Sum.inl->(dropK kvs (.inl h)).map (·.1)=(os.filter λ k=>decide (k≠h)).map Sum.inl:=by
 induction kvs with
 | nil=>intro os e;cases os with|nil=>rfl|cons o os=>cases e
 | cons p r ih=>
  intro os e;cases os with
  | nil=>cases e
  | cons o os=>
   rw [A1,A1] at e;injection e with e1 e2;by_cases z:o=h
   ·rw [zcn (by rw [e1,z]),List.filter_cons_of_neg (by simp [z])];exact ih e2
   ·rw [zcr (by rw [e1];exact λ y=>z (T4 y)),List.filter_cons_of_pos (by simp [z]),A1,A1,e1,ih e2]
theorem valV_isSome {kvs:List (Key×V)} {k:Key}:(valV kvs k).isSome=true↔k∈kvs.map (·.1):=by
 induction kvs with
 | nil=>simp [valV]
 | cons p r ih=>
  obtain ⟨a,pv⟩:=p;by_cases y:a=k
  ·subst y;rw [z0v rfl];simp
  ·rw [z0p y,ih,A1,N0];exact ⟨λ z=>.inr z,λ z=>z.resolve_left λ x=>y x.symm⟩
theorem zar {kvs:List (Key×V)} {k:Key} {v:V} (h:k∉kvs.map (·.1)):putK kvs k v=kvs++[(k,v)]:=by unfold putK;rw [if_neg];intro z;obtain ⟨p,a,e⟩:=List.any_eq_true.mp z;exact h (List.mem_map.mpr ⟨p,a,of_decide_eq_true e⟩)
theorem z84 {α β:Type} {R S:α->β->Prop} :∀{xs:List α} {ys:List β},(∀a b,b∈ys->R a b->S a b)->All2 R xs ys->All2 S xs ys
 | _,_,_,.nil=>.nil
 | _,_,h,.cons a r=>.cons (h _ _ B1 a) (z84 (λ x y c z=>h x y (D1 _ c) z) r)
theorem z1m {α β:Type} {R:α->β->Prop} :∀{xs:List α} {ys:List β},ys.length=xs.length->(∀(k:Nat) a b,xs[k]? = some a->ys[k]? = some b->R a b)->All2 R xs ys
 | [],[],_,_=>.nil
 | [],y :: ys,h,_=>by cases h
 | x :: xs,[],h,_=>by cases h
 | x :: xs,y :: ys,h,f=>.cons (f 0 x y rfl rfl) (z1m (by simpa using h) λ k a b d c=>f (k + 1) a b (by rw [X2];exact d) (by rw [X2];exact c))
end
section
theorem z6g {m:Nat} {rs:List Rc} {a b:Nat} {r q:Rc} (ha:rs[a]? = some r) (hb:rs[b]? = some q):z0i m rs a b=aheadB m r q:=by unfold z0i;rw [ha,hb]
theorem DInv.hands {i:Nat} {rs:List Rc} {os:List Int} (I:DInv i rs os) {a b:Nat} {r q:Rc} (ha:rs[a]? = some r) (hb:rs[b]? = some q):aheadB 1 r q=(decide (a < b) && decide (r.h=q.h)):=by
 show (decide (r.h=q.h) && decide (r.b < q.b))=_;rw [Bool.and_comm];congr 1;apply decide_eq_decide.mpr;constructor
 ·intro lt;rcases Nat.lt_trichotomy a b with l|l|l
  ·exact l
  ·subst l;rw [ha] at hb;cases hb;omega
  ·have:=(I.p b a q r l hb ha).1;omega
 ·exact λ l=>(I.p a b r q l ha hb).1
theorem mem_pairsTo {m:Nat} {rs:List Rc} {p:Nat×Nat} {n:Nat}:p∈z2v m rs n↔p.1 < n/\p.2 < rs.length/\z0i m rs p.1 p.2=true:=by
 unfold z2v rowTo;rw [List.mem_flatMap];constructor
 ·rintro ⟨a,ha,h⟩;obtain ⟨b,e,rfl⟩:=List.mem_map.mp h;obtain ⟨d,c⟩:=List.mem_filter.mp e;exact ⟨List.mem_range.mp ha,List.mem_range.mp d,c⟩
 ·rintro ⟨d,c,h3⟩;exact ⟨p.1,List.mem_range.mpr d,List.mem_map.mpr ⟨p.2,List.mem_filter.mpr ⟨List.mem_range.mpr c,h3⟩,rfl⟩⟩
end
section
inductive Sv
 | num (i:Int)
 | row (ns:List Int)
def rowK (k:Str):Prop:=k = "queue"\/k = "set"
instance (k:Str):Decidable (rowK k):=by unfold rowK;infer_instance
noncomputable def opOf (k v:Str):Nat:=if k = "queue" then (if v = "put" then 0 else 1) else if k = "set" then (if v = "put" then 2 else if v = "cut" then 3 else 4) else if v = "read" then 5 else if v = "add" then 6 else if v = "write" then 7 else 8
noncomputable def dI:Dt->Int
 | .int i=>i
 | _=>0
noncomputable def srtI (ns:List Int):List Int:=ns.mergeSort λ a b=>decide (a<=b)
noncomputable def dzo:Nat->Dt->Sv->Sv×V
 | 0,d,.row ns=>(.row (ns++[dI d]),.str "ok")
 | 1,_,.row []=>(.row [],.str "none")
 | 1,_,.row (m :: r)=>(.row r,.int m)
 | 2,d,.row ns=>if dI d∈ns then (.row ns,.int 0) else (.row (srtI (ns++[dI d])),.int 1)
 | 3,d,.row ns=>(.row (ns.filter λ j=>!decide (j=dI d)),.int (if dI d∈ns then 1 else 0))
 | 4,d,.row ns=>(.row ns,.int (if dI d∈ns then 1 else 0))
 | 5,_,.num i=>(.num i,.int i)
 | 6,d,.num i=>(.num (i + dI d),.int i)
 | 7,d,.num _=>(.num (dI d),.str "ok")
 | 8,.tup [.int a,.int b],.num i=>if i=a then (.num b,.int 1) else (.num i,.int 0)
 | _,_,s=>(s,.non)
noncomputable def dz (k v:Str) (d:Dt) (s:Sv):Sv×V:=dzo (opOf k v) d s
theorem dz_at {k v:Str} {d:Dt} {s:Sv} {n:Nat} (h:opOf k v=n):dz k v d s=dzo n d s:=by unfold dz;rw [h]
theorem dz_quP {i:Int} {ns:List Int}:dz "queue" "put" (.int i) (.row ns)=(.row (ns++[i]),.str "ok"):=dz_at (n:=0) (by decide +kernel)
theorem zge {d:Dt}:dz "queue" "take" d (.row [])=(.row [],.str "none"):=dz_at (n:=1) (by decide +kernel)
theorem dz_quT {d:Dt} {m:Int} {r:List Int}:dz "queue" "take" d (.row (m :: r))=(.row r,.int m):=dz_at (n:=1) (by decide +kernel)
theorem zh1 {i:Int} {ns:List Int}:dz "set" "put" (.int i) (.row ns)=if i∈ns then (.row ns,.int 0) else (.row (srtI (ns++[i])),.int 1):=dz_at (n:=2) (by decide +kernel)
theorem zf0 {i:Int} {ns:List Int}:dz "set" "cut" (.int i) (.row ns)=(.row (ns.filter λ j=>!decide (j=i)),.int (if i∈ns then 1 else 0)):=dz_at (n:=3) (by decide +kernel)
theorem zfe {i:Int} {ns:List Int}:dz "set" "has" (.int i) (.row ns)=(.row ns,.int (if i∈ns then 1 else 0)):=dz_at (n:=4) (by decide +kernel)
theorem zfr {d:Dt} {i:Int}:dz "register" "read" d (.num i)=(.num i,.int i):=dz_at (n:=5) (by decide +kernel)
theorem zf7 {d:Dt} {i:Int}:dz "counter" "read" d (.num i)=(.num i,.int i):=dz_at (n:=5) (by decide +kernel)
theorem zgr {d:Dt} {i:Int}:dz "cell" "read" d (.num i)=(.num i,.int i):=dz_at (n:=5) (by decide +kernel)
theorem zfa {i j:Int}:dz "counter" "add" (.int j) (.num i)=(.num (i + j),.int i):=dz_at (n:=6) (by decide +kernel)
theorem zh7 {i j:Int}:dz "register" "write" (.int j) (.num i)=(.num j,.str "ok"):=dz_at (n:=7) (by decide +kernel)
theorem zg2 {i j:Int}:dz "cell" "write" (.int j) (.num i)=(.num j,.str "ok"):=dz_at (n:=7) (by decide +kernel)
theorem zfn {i a b:Int}:dz "cell" "swap" (.tup [.int a,.int b]) (.num i)=if i=a then (.num b,.int 1) else (.num i,.int 0):=dz_at (n:=8) (by decide +kernel)
theorem z9h (ns:List Int):(srtI ns).Perm ns:=List.mergeSort_perm ns _
theorem z4z (ns:List Int):(srtI ns).Pairwise (·<=·):=by have:=j32 (le:=λ a b:Int=>decide (a<=b)) (λ a b c e d=>decide_eq_true (Int.le_trans (of_decide_eq_true e) (of_decide_eq_true d))) (λ a b=>by rcases Int.le_total a b with h|h<;>simp [h]) ns;exact this.imp λ h=>of_decide_eq_true h
theorem z8o {xs ys:List Int} (p:xs.Perm ys) (hx:xs.Pairwise (·<=·)) (hy:ys.Pairwise (·<=·)):xs=ys:=p.eq_of_pairwise (le:=(·<=·)) (λ _ _ _ _ b a=>Int.le_antisymm b a) hx hy
theorem zfh {ns:List Int} {i:Int} (h:i∉ns):addI ns i=ns++[i]:=by unfold addI;rw [if_neg h]
theorem zjn {ns:List Int} {i:Int} (h:i∈ns):addI ns i=ns:=by unfold addI;rw [if_pos h]
theorem z6y :∀(ns acc:List Int),(acc++ns).Nodup->ns.foldl addI acc=acc++ns
 | [],acc,_=>(W2 acc).symm
 | n :: ns,acc,h=>by
  have a:n∉acc:=λ z=>by have:=(List.nodup_append.mp h).2.2 n z n B1;exact this rfl
  rw [j16,zfh a,z6y ns (acc++[n]) (by rw [M5];exact h),M5];rfl
theorem zb4 {ns:List Int} (h:ns.Pairwise (· < ·)):ns.Nodup:=h.imp λ z e=>by omega
theorem zky {ns ns':List Int} {i:Int} (hs:ns.Pairwise (· < ·)) (hi:i∈ns) (pm:ns'.Perm ((ns++[i]).foldl addI [])) (pw:ns'.Pairwise (·<=·)):ns'=ns:=by rw [F6,z6y ns [] (zb4 hs)] at pm;rw [show [i].foldl addI ([]++ns)=ns from zjn hi] at pm;exact z8o pm pw (hs.imp λ h=>Int.le_of_lt h)
theorem zl9 {ns ns':List Int} {i:Int} (hs:ns.Pairwise (· < ·)) (hi:i∉ns) (pm:ns'.Perm ((ns++[i]).foldl addI [])) (pw:ns'.Pairwise (·<=·)):ns'=srtI (ns++[i]):=by rw [F6,z6y ns [] (zb4 hs)] at pm;rw [show [i].foldl addI ([]++ns)=ns++[i] from zfh hi] at pm;exact z8o (pm.trans (z9h _).symm) pw (z4z _)
noncomputable def SvOk (n:Nat) (k:Str):Sv->Prop
 | .row ns=>rowK k/\ns.length<=n/\(∀i∈ns,near i)/\(k = "set"->ns.Pairwise (· < ·))
 | .num i=>¬ rowK k/\-(1000000000 * (n:Int))<=i/\i<=1000000000 * (n:Int)
def AnsV (a:V):Prop:=a=.str "ok"\/a=.str "none"\/∃i:Int,a=.int i/\-100000000000<=i/\i<=100000000000
theorem SvOk.le {n m:Nat} {k:Str} :∀{s:Sv},n<=m->SvOk n k s->SvOk m k s
 | .row _,l,h=>⟨h.1,G0 h.2.1 l,h.2.2⟩
 | .num _,l,h=>⟨h.1,by have:=h.2.1;omega,by have:=h.2.2;omega⟩
theorem SvOk.isRow {n:Nat} {k:Str} :∀{s:Sv},SvOk n k s->rowK k->∃ns,s=.row ns/\ns.length<=n/\(∀i∈ns,near i)/\(k = "set"->ns.Pairwise (· < ·))
 | .row ns,h,_=>⟨ns,rfl,h.2⟩
 | .num _,h,hk=>absurd hk h.1
theorem SvOk.isNum {n:Nat} {k:Str} :∀{s:Sv},SvOk n k s->¬ rowK k->∃i,s=.num i/\-(1000000000 * (n:Int))<=i/\i<=1000000000 * (n:Int)
 | .row _,h,hk=>absurd h.1 hk
 | .num i,h,_=>⟨i,rfl,h.2⟩
theorem SvOk.row {n:Nat} {k:Str} {ns:List Int} (h1:rowK k) (h2:ns.length<=n) (h3 :∀i∈ns,near i) (h4:k = "set"->ns.Pairwise (· < ·)):SvOk n k (.row ns):=⟨h1,h2,h3,h4⟩
theorem SvOk.num {n:Nat} {k:Str} {i:Int} (h1:¬ rowK k) (h2:-(1000000000 * (n:Int))<=i) (h3:i<=1000000000 * (n:Int)):SvOk n k (.num i):=⟨h1,h2,h3⟩
theorem z1w {i:Int} (h0:-100000000000<=i) (h1:i<=100000000000):AnsV (.int i):=.inr (.inr ⟨i,rfl,h0,h1⟩)
theorem ans_b {p:Prop} [Decidable p]:AnsV (.int (if p then 1 else 0)):=by
 by_cases h:p
 ·rw [if_pos h];exact z1w (by decide) (by decide)
 ·rw [if_neg h];exact z1w (by decide) (by decide)
theorem dz_ok {n:Nat} {k v:Str} {d:Dt} {s:Sv} (hd:DeedOk k v d) (h:SvOk n k s) (hn:n < 63):SvOk (n + 1) k (dz k v d s).1/\AnsV (dz k v d s).2:=by
 have t:rowK "queue":=.inl rfl;have p:rowK "set":=.inr rfl;have x:("queue" : Str)≠"set":=by decide +kernel
 have w:¬ rowK "register":=by decide +kernel
 have u:¬ rowK "counter":=by decide +kernel
 have q:¬ rowK "cell":=by decide +kernel
 cases hd with
 | quP ni=>
  obtain ⟨l,rfl,f,c,o⟩:=h.isRow t;rw [dz_quP];refine ⟨.row t (by rw [S0];exact g6 f) (λ j g=>?_) λ z=>absurd z x,.inl rfl⟩;rcases List.mem_append.mp g with y|y
  ·exact c j y
  ·rw [List.mem_singleton.mp y];exact ni
 | quT=>
  obtain ⟨l,rfl,f,c,o⟩:=h.isRow t;cases l with
  | nil=>rw [zge];exact ⟨.row t (d3 _) (λ j g=>by cases g) (λ z=>absurd z x),.inr (.inl rfl)⟩
  | cons m r=>rw [dz_quT];rw [y1] at f;have B:=c m B1;exact ⟨.row t (by omega) (λ j g=>c j (D1 _ g)) (λ z=>absurd z x),z1w (by have:=B.1;omega) (by have:=B.2;omega)⟩
 | setP ni=>
  rename_i i;obtain ⟨l,rfl,f,c,o⟩:=h.isRow p;rw [zh1];by_cases z:i∈l
  ·rw [if_pos z];exact ⟨.row p (M6 f) c o,z1w (by decide) (by decide)⟩
  ·rw [if_neg z];have A:=z9h (l++[i]);refine ⟨.row p (by rw [A.length_eq,S0];exact g6 f) (λ j g=>?_) (λ _=>?_),z1w (by decide) (by decide)⟩
   ·rcases List.mem_append.mp (A.mem_iff.mp g) with y|y
    ·exact c j y
    ·rw [List.mem_singleton.mp y];exact ni
   ·have C:(srtI (l++[i])).Nodup:=A.nodup_iff.mpr (by rw [d8];exact ⟨zb4 (o rfl),by simp,λ a D b E e=>z (by rw [<-List.mem_singleton.mp E,<-e];exact D)⟩);exact ((z4z (l++[i])).and C).imp λ h=>by have:=h.1;have:=h.2;omega
 | setC ni=>obtain ⟨l,rfl,f,c,o⟩:=h.isRow p;rw [zf0];exact ⟨.row p (G0 (G2 _ _) (M6 f)) (λ j g=>c j (List.mem_filter.mp g).1) (λ z=>(o z).filter _),ans_b⟩
 | setH ni=>obtain ⟨l,rfl,f,c,o⟩:=h.isRow p;rw [zfe];exact ⟨.row p (M6 f) c o,ans_b⟩
 | regR=>obtain ⟨a,rfl,f,c⟩:=h.isNum w;rw [zfr];exact ⟨.num w (by omega) (by omega),z1w (by omega) (by omega)⟩
 | cntR=>obtain ⟨a,rfl,f,c⟩:=h.isNum u;rw [zf7];exact ⟨.num u (by omega) (by omega),z1w (by omega) (by omega)⟩
 | celR=>obtain ⟨a,rfl,f,c⟩:=h.isNum q;rw [zgr];exact ⟨.num q (by omega) (by omega),z1w (by omega) (by omega)⟩
 | cntA ni=>obtain ⟨a,rfl,f,c⟩:=h.isNum u;rw [zfa];have:=ni.1;have:=ni.2;exact ⟨.num u (by omega) (by omega),z1w (by omega) (by omega)⟩
 | regW ni=>obtain ⟨a,rfl,f,c⟩:=h.isNum w;rw [zh7];have:=ni.1;have:=ni.2;exact ⟨.num w (by omega) (by omega),.inl rfl⟩
 | celW ni=>obtain ⟨a,rfl,f,c⟩:=h.isNum q;rw [zg2];have:=ni.1;have:=ni.2;exact ⟨.num q (by omega) (by omega),.inl rfl⟩
 | celS ni nj=>
  rename_i i j;obtain ⟨a,rfl,f,c⟩:=h.isNum q;rw [zfn];have:=nj.1;have:=nj.2;by_cases z:a=i
  ·rw [if_pos z];exact ⟨.num q (by omega) (by omega),z1w (by decide) (by decide)⟩
  ·rw [if_neg z];exact ⟨.num q (by omega) (by omega),z1w (by decide) (by decide)⟩
noncomputable def StZ (K:j0) (H:Hp):Sv->V->Prop
 | .row ns,v=>∃p,v=.ref p/\SqT K H p (ns.map V.int)
 | .num i,v=>v=.int i
theorem StZ.tups {K:j0} {H H':Hp} (t:Tups K H H') :∀{s:Sv} {v:V},StZ K H s v->StZ K H' s v
 | .row _,_,h=>h.elim λ p z=>⟨p,z.1,t _ _ z.2⟩
 | .num _,_,h=>h
def StAt (K:j0) (H:Hp) (n:Nat) (k:Str) (v:V):Prop:=∃s,SvOk n k s/\StZ K H s v
theorem StAt.tups {K:j0} {H H':Hp} {n:Nat} {k:Str} {v:V} (t:Tups K H H') (h:StAt K H n k v):StAt K H' n k v:=h.elim λ s z=>⟨s,z.1,z.2.tups t⟩
theorem StAt.le {K:j0} {H:Hp} {n m:Nat} {k:Str} {v:V} (l:n<=m) (h:StAt K H n k v):StAt K H m k v:=h.elim λ s z=>⟨s,z.1.le l,z.2⟩
noncomputable def zeroK (k:Str):Sv:=if rowK k then .row [] else .num 0
theorem zfy (k:Str):SvOk 0 k (zeroK k):=by
 unfold zeroK;by_cases h:rowK k
 ·rw [if_pos h];exact .row h (F0 _) (λ i a=>by cases a) (λ _=>.nil)
 ·rw [if_neg h];exact .num h (by omega) (by omega)
end
section
variable {P:Program} {w:j1} {mg:Str->Option Value} {base:Heap}
def z3d (K:j0):Sp:=λ vs H Q _=>∃(k:Str),vs=[.str k]/\∀v H',Same H H'->StZ K H' (zeroK k) v->Q v H'
theorem zah (T:TX (KX w.params) mg):FnOk P w (KX w.params) mg base CX0 1 342 fd__law_begun ["kind"] (z3d (KX w.params)):=by
 refine (z41 w.params).ok z9z (λ f H Q E h=>?_) (λ i A j s H f Q E l h=>?_)
 ·obtain ⟨k,rfl,_⟩:=h;rfl
 ·obtain ⟨k,rfl,q⟩:=h;refine ⟨_,(z02 (ps_if (z08 z24 (pv 0) (pe_tup (z00 pe_str (z00 pe_str pa_nil))) (by with_unfolding_all rfl))
   (z03 (ps_ret (pe_tup pa_nil)))
   z0c)
   (z03 (ps_ret pe_int))),?_⟩
  refine ⟨_,rfl,w_2,λ p c=>⟨p,[V.str "queue",.str "set"],rfl,.inr (SqT.of upd_same),rfl,rfl,_,rfl,?_⟩⟩;have e:inV (.str k) [.str "queue",.str "set"]=decide (k∈(["queue","set"]:List Str)):=zir k ["queue","set"];rw [if_neg U0,e];have b:=Same.upd (o:=.tup [.str "queue",.str "set"]) c;by_cases z:k∈(["queue","set"]:List Str)
  ·refine iteP (decide_eq_true z) ⟨w_0,λ g d=>?_⟩;have a:rowK k:=by simpa [rowK] using z
   exact q _ _ (b.trans (Same.upd d)) (by unfold zeroK;rw [if_pos a];exact ⟨g,rfl,SqT.of upd_same⟩)
  ·refine iteN (by rw [decide_eq_false z];decide) ?_;exact q _ _ b (by unfold zeroK;rw [if_neg λ a=>z (by simpa [rowK] using a)];rfl)
def z1t (K:j0):Sp:=λ vs H Q _=>∃(k v:Str) (st x:V) (d:Dt) (n:Nat) (sv:Sv),vs=[.str k,st,.str v,x]/\SvOk n k sv/\StZ K H sv st/\n < 63/\DeedOk k v d/\IsDt K H d x/\WorthIn H d x/\∀p st' H',Same H H'->H' p=some (.tup [st',(dz k v d sv).2])->StZ K H' (dz k v d sv).1 st'->Q (.ref p) H'
theorem zbk (T:TX (KX w.params) mg):FnOk P w (KX w.params) mg base CX0 1 347 fd__law_does ["kind","state","verb","worth"] (z1t (KX w.params)):=by
 refine (z55 w.params).ok sc__law_does (λ vs H Q E h=>?_) (λ b0 A a9 s H vs Q E hr h=>?_)
 ·obtain ⟨k,v,U,x,d,n,sv,rfl,_⟩:=h;rfl
 ·obtain ⟨k,v,U,x,d,n,sv,rfl,B,sz,hn,hd,G,wi,q⟩:=h;refine ⟨_,(z02 (ps_if (z08 opEq (pv 0) pe_str (nomark _))
   (z02 (ps_if (z08 opEq (pv 2) pe_str (nomark _))
   (z03 (ps_ret (pe_tup (z00 (pe_op op_catS (pv 1) (pe_tup (z00 (pv 3) pa_nil))) (z00 pe_str pa_nil)))))
   z0c)
   (z03 (ps_ret (pe_tup (z00 (z1i slSeqW (pv 1) (z2e pe_int) z3k) (z00 (pe_ix ix_seq (pe_op op_catS (pv 1) (pe_tup (z00 pe_str pa_nil))) pe_int (λ _ _=>rfl)) pa_nil))))))
   z0c)
   (z02 (ps_if (z08 opEq (pv 0) pe_str (nomark _))
   (z02 (ps_set (i:=4) sc__law_does.nd rfl (Z0 rfl) (z0k z9e rfl (T.no (n_int _)) j43 (z00 (z0u z24 (pv 3) (pv 1) (by with_unfolding_all rfl)) pa_nil)))
   (z02 (ps_if (z08 opEq (pv 2) pe_str (nomark _))
   (z03 (ps_ret (pe_tup (z00 (z0k z0f rfl (T.no (z0y _)) B3 (z00 (zc4 rfl rfl (T.no (z47 _)) rfl (T.no (n_set _)) G7 boot_set (pe_op op_catS (pv 1) (pe_tup (z00 (pv 3) pa_nil)))) pa_nil)) (z00 (pe_op op_sub pe_int (pv 4)) pa_nil)))))
   z0c)
   (z02 (ps_if (z08 opEq (pv 2) pe_str (nomark _))
   (z03 (ps_ret (pe_tup (z00 (z0k z0f rfl (T.no (z0y _)) B3 (z00 (z0q (xs:=["one"]) (g:=gName 0) (fr:=[(3,"worth")]) rfl (pi_tup (pv 1)) (by intro p c;obtain rfl:=List.mem_singleton.mp c;first|exact ⟨rfl,.inl rfl⟩|exact ⟨rfl,.inr rfl⟩) (z2r (n:="worth") (by decide +kernel) (λ _=>by first|exact .inl rfl|exact .inr rfl)) (by intro p c;obtain rfl:=List.mem_singleton.mp c;exact ⟨by decide +kernel,by first|exact .inl rfl|exact .inr rfl⟩) (by decide +kernel) rfl (by decide +kernel) (λ _ _ _ _ _=>(z0e (N:=["one","worth"]) 0 (by decide +kernel) rfl rfl)) (λ _ _ _ _ _=>(pf_one (z08 opNe (pv 0) (pv 1) (nomark _)))) (λ _ _ _ _ _=>(pv 0))) pa_nil)) (z00 (pv 4) pa_nil)))))
   z0c)
   (z03 (ps_ret (pe_tup (z00 (pv 1) (z00 (pv 4) pa_nil))))))))
   z0c)
   (z02 (ps_if (z08 opEq (pv 2) pe_str (nomark _))
   (z03 (ps_ret (pe_tup (z00 (pv 1) (z00 (pv 1) pa_nil)))))
   z0c)
   (z02 (ps_if (z08 opEq (pv 2) pe_str (nomark _))
   (z03 (ps_ret (pe_tup (z00 (pe_op opAdd (pv 1) (pv 3)) (z00 (pv 1) pa_nil)))))
   z0c)
   (z02 (ps_if (z08 opEq (pv 2) pe_str (nomark _))
   (z03 (ps_ret (pe_tup (z00 (pv 3) (z00 pe_str pa_nil)))))
   z0c)
   (z03 (ps_ret (pe_tup (z00 (pe_ix ix_seq (pe_lst (z00 (pv 1) (z00 (pe_ix ix_seq (pv 3) pe_int (λ _ _=>rfl)) pa_nil))) (z0k z9e rfl (T.no (n_int _)) j43 (z00 (z0u opEq (pv 1) (pe_ix ix_seq (pv 3) pe_int (λ _ _=>rfl)) (nomark _)) pa_nil)) (λ _ _=>rfl)) (z00 (z0k z9e rfl (T.no (n_int _)) j43 (z00 (z0u opEq (pv 1) (pe_ix ix_seq (pv 3) pe_int (λ _ _=>rfl)) (nomark _)) pa_nil)) pa_nil)))))))))),?_⟩
  have big :∀{b:List Int},b.length<=n->(b.map V.int).length + 1<=sizeLine:=λ l=>by rw [M0];exact G0 (m:=64) (by omega) (by decide)
  have a3 :∀(b:List Int) (i:Int),b.map V.int++[V.int i]=(b++[i]).map V.int:=λ b i=>by rw [j2];rfl
  have a4:rowK "queue":=.inl rfl;have a1:rowK "set":=.inr rfl;cases hd with
  | quP ni=>rename_i i;obtain ⟨b,rfl,F,_,_⟩:=B.isRow a4;obtain ⟨t,rfl,f⟩:=sz;cases (show x=V.int i from G);refine ⟨_,rfl,rfl,_,rfl,iteP (decide_eq_true rfl) ⟨_,rfl,rfl,_,rfl,iteP (decide_eq_true rfl) ?_⟩⟩;refine ⟨_,rfl,_,rfl,w_1,λ J S=>?_⟩;have e:=Same.upd (o:=.tup [.int i]) S;refine ⟨t,J,b.map V.int,[.int i],rfl,rfl,e.seqT f,SqT.of upd_same,by simp,big F,λ O H2 C D=>?_⟩;rw [a3] at D;rw [dz_quP] at q;exact ⟨w_2,λ X M=>q X _ _ ((e.trans C).trans (Same.upd M)) upd_same ⟨O,rfl,(Same.upd M).seqT D⟩⟩
  | quT=>
   obtain ⟨b,rfl,F,_,_⟩:=B.isRow a4;obtain ⟨t,rfl,f⟩:=sz;refine ⟨_,rfl,rfl,_,rfl,iteP (decide_eq_true rfl) ⟨_,rfl,rfl,_,rfl,iteN (by decide +kernel) ?_⟩⟩;have a7:(b.map V.int).length + 1<=sizeLine:=big F;cases b with
   | nil=>refine ⟨_,rfl,_,rfl,.inr ⟨t,[],rfl,f,⟨rfl,rfl⟩,?_⟩⟩;refine ⟨_,rfl,w_1,λ J S=>?_⟩;have e:=Same.upd (o:=.tup [.str "none"]) S;refine ⟨t,J,[],[.str "none"],rfl,rfl,e.seqT f,SqT.of upd_same,by simp,w_1,λ O H2 C D=>?_⟩;refine .inr (.inl ⟨O,_,0,_,rfl,rfl,D,z05 (j:=0) rfl,w_2,λ X M=>?_⟩);rw [zge] at q;exact q X _ _ ((e.trans C).trans (Same.upd M)) upd_same ⟨t,rfl,((e.trans C).trans (Same.upd M)).seqT f⟩
   | cons m r=>
    refine ⟨_,rfl,_,rfl,.inl (.inr (.inl ⟨t,_,rfl,f,?_,λ W a6=>?_⟩))⟩
    ·intro z;have:HT.sIx ((m :: r).map V.int).length 0 (some 1)=1:=by rw [M0,y1];simp [HT.sIx]
     omega
    ·have ec:cutV ((m :: r).map V.int) (some 1) none=r.map V.int:=by unfold cutV;simp [HT.sIx];exact N8 (by rw [M0];exact F0 _)
     have s0:=Same.upd (o:=.tup (cutV ((m :: r).map V.int) (some 1) none)) a6;have e0:upd H W (.tup (cutV ((m :: r).map V.int) (some 1) none)) W=some (.tup (r.map V.int)):=by rw [upd_same,ec]
     generalize upd H W (.tup (cutV ((m :: r).map V.int) (some 1) none))=H0 at s0 e0⊢;refine ⟨_,rfl,w_1,λ J S=>?_⟩;have e:=Same.upd (o:=.tup [.str "none"]) S;refine ⟨t,J,(m :: r).map V.int,[.str "none"],rfl,rfl,(s0.trans e).seqT f,SqT.of upd_same,by simp,a7,λ O H2 C D=>?_⟩;refine .inr (.inl ⟨O,_,0,.int m,rfl,rfl,D,z05 (j:=0) rfl,w_2,λ X M=>?_⟩);have L:=(e.trans C).trans (Same.upd (o:=.tup [.ref W,.int m]) M);rw [dz_quT] at q;exact q X _ _ (s0.trans L) upd_same ⟨W,rfl,L.seqT (SqT.of e0)⟩
  | setP ni=>
   rename_i i;obtain ⟨b,rfl,F,_,a0⟩:=B.isRow a1;obtain ⟨t,rfl,f⟩:=sz;cases (show x=V.int i from G);refine ⟨_,rfl,rfl,_,rfl,iteN (by decide +kernel) ⟨_,rfl,rfl,_,rfl,iteP (decide_eq_true rfl) ?_⟩⟩;refine ⟨_,rfl,_,rfl,t,_,rfl,.inr f,rfl,z3p b,.inl (.inr ⟨decide (i∈b),by rw [if_neg U0,z5g],?_⟩)⟩;refine ⟨_,rfl,rfl,_,rfl,iteP (decide_eq_true rfl) ?_⟩;refine ⟨_,rfl,_,rfl,w_1,λ J S=>?_⟩;have e:=Same.upd (o:=.tup [.int i]) S;refine ⟨t,J,b.map V.int,[.int i],rfl,rfl,e.seqT f,SqT.of upd_same,by simp,big F,λ O H2 C D=>?_⟩;rw [a3] at D;refine ⟨O,b++[i],rfl,D,by rw [S0];exact (show b.length + 1 < 64 by omega),λ l a5 hl pm pw=>?_⟩;have L:=Same.upd (o:=.lst (a5.map V.int)) hl;refine ⟨l,_,rfl,.inl ⟨SqL.of upd_same,λ Y Z=>?_⟩⟩;refine ⟨_,rfl,_,_,rfl,rfl,w_2,λ p5 I=>?_⟩;rw [zh1] at q;by_cases z:i∈b
   ·rw [zky (a0 rfl) z pm pw] at *;rw [if_pos z] at q;refine q p5 _ _ ((((e.trans C).trans L).trans (Same.upd Z)).trans (Same.upd I)) (upd_same.trans (by rw [decide_eq_true z];rfl)) ⟨Y,rfl,SqT.of ((Same.upd I) _ _ upd_same)⟩
   ·rw [zl9 (a0 rfl) z pm pw] at *;rw [if_neg z] at q;refine q p5 _ _ ((((e.trans C).trans L).trans (Same.upd Z)).trans (Same.upd I)) (upd_same.trans (by rw [decide_eq_false z];rfl)) ⟨Y,rfl,SqT.of ((Same.upd I) _ _ upd_same)⟩
  | setC ni=>
   rename_i i;obtain ⟨b,rfl,F,_,a0⟩:=B.isRow a1;obtain ⟨t,rfl,f⟩:=sz;cases (show x=V.int i from G);refine ⟨_,rfl,rfl,_,rfl,iteN (by decide +kernel) ⟨_,rfl,rfl,_,rfl,iteP (decide_eq_true rfl) ?_⟩⟩;refine ⟨_,rfl,_,rfl,t,_,rfl,.inr f,rfl,z3p b,.inl (.inr ⟨decide (i∈b),by rw [if_neg U0,z5g],?_⟩)⟩;refine ⟨_,rfl,rfl,_,rfl,iteN (by decide +kernel) ⟨_,rfl,rfl,_,rfl,iteP (decide_eq_true rfl) ?_⟩⟩;have zl:(b.map V.int).length<=sizeLine:=G0 (T2 _) (big F);simp only [tRet,tTup,tCB,tCons,tNil];refine z0z (K:=KX w.params) (a:=t) (xs:=b.map V.int) (H1:=H) (λ j=>(b[j]?.map λ n=>!decide (n=i)).getD false) (λ j y _=>b[j]?.map V.int=some y) (λ _ _ _ _ _ z=>z) (λ R h=>⟨_,rfl,h⟩) f zl (λ j hj v H' s' hv KT KF k1 k2=>?_) λ l H' ys s' a8 al=>?_
   ·rw [W0] at hv;obtain ⟨n,hn,rfl⟩:=Option.map_eq_some_iff.mp hv;rw [hn] at k1 k2;refine ⟨[some (.int n)],rfl,rfl,_,rfl,_,rfl,rfl,_,rfl,?_⟩;rw [dec_i0];exact ite2 (λ z=>⟨_,rfl,k1 z _ _ (Same.refl _) rfl⟩) λ z=>k2 (Bool.eq_false_iff.mpr z) _ (Same.refl _)
   ·rw [M0] at al;rw [zcw b ys al];have L:=Same.upd (o:=.lst ((b.filter λ j=>!decide (j=i)).map V.int)) a8;refine ⟨l,_,rfl,.inl ⟨SqL.of upd_same,λ Y Z=>⟨_,rfl,w_2,λ p5 I=>?_⟩⟩⟩;rw [zf0] at q;exact q p5 _ _ (((s'.trans L).trans (Same.upd Z)).trans (Same.upd I)) (upd_same.trans (by simp only [decide_eq_true_eq])) ⟨Y,rfl,SqT.of ((Same.upd I) _ _ upd_same)⟩
  | setH ni=>rename_i i;obtain ⟨b,rfl,F,_,a0⟩:=B.isRow a1;obtain ⟨t,rfl,f⟩:=sz;cases (show x=V.int i from G);refine ⟨_,rfl,rfl,_,rfl,iteN (by decide +kernel) ⟨_,rfl,rfl,_,rfl,iteP (decide_eq_true rfl) ?_⟩⟩;refine ⟨_,rfl,_,rfl,t,_,rfl,.inr f,rfl,z3p b,.inl (.inr ⟨decide (i∈b),by rw [if_neg U0,z5g],?_⟩)⟩;refine ⟨_,rfl,rfl,_,rfl,iteN (by decide +kernel) ⟨_,rfl,rfl,_,rfl,iteN (by decide +kernel) ?_⟩⟩;rw [zfe] at q;exact ⟨_,rfl,_,rfl,w_2,λ p c=>q p _ _ (Same.upd c) (upd_same.trans (by simp only [decide_eq_true_eq])) ⟨t,rfl,(Same.upd c).seqT f⟩⟩
  | regR=>
   have u:¬ rowK "register":=by decide +kernel
   obtain ⟨a,rfl,_⟩:=B.isNum u;cases (show U=V.int a from sz);refine ⟨_,rfl,rfl,_,rfl,iteN (by decide +kernel) ⟨_,rfl,rfl,_,rfl,iteN (by decide +kernel) ⟨_,rfl,rfl,_,rfl,iteP (decide_eq_true rfl) ?_⟩⟩⟩;rw [zfr] at q;exact ⟨_,rfl,_,rfl,w_2,λ p c=>q p _ _ (Same.upd c) upd_same rfl⟩
  | cntR=>
   have u:¬ rowK "counter":=by decide +kernel
   obtain ⟨a,rfl,_⟩:=B.isNum u;cases (show U=V.int a from sz);refine ⟨_,rfl,rfl,_,rfl,iteN (by decide +kernel) ⟨_,rfl,rfl,_,rfl,iteN (by decide +kernel) ⟨_,rfl,rfl,_,rfl,iteP (decide_eq_true rfl) ?_⟩⟩⟩;rw [zf7] at q;exact ⟨_,rfl,_,rfl,w_2,λ p c=>q p _ _ (Same.upd c) upd_same rfl⟩
  | celR=>
   have u:¬ rowK "cell":=by decide +kernel
   obtain ⟨a,rfl,_⟩:=B.isNum u;cases (show U=V.int a from sz);refine ⟨_,rfl,rfl,_,rfl,iteN (by decide +kernel) ⟨_,rfl,rfl,_,rfl,iteN (by decide +kernel) ⟨_,rfl,rfl,_,rfl,iteP (decide_eq_true rfl) ?_⟩⟩⟩;rw [zgr] at q;exact ⟨_,rfl,_,rfl,w_2,λ p c=>q p _ _ (Same.upd c) upd_same rfl⟩
  | cntA ni=>
   rename_i i;have u:¬ rowK "counter":=by decide +kernel
   obtain ⟨a,rfl,_⟩:=B.isNum u;cases (show U=V.int a from sz);cases (show x=V.int i from G);refine ⟨_,rfl,rfl,_,rfl,iteN (by decide +kernel) ⟨_,rfl,rfl,_,rfl,iteN (by decide +kernel) ⟨_,rfl,rfl,_,rfl,iteN (by decide +kernel) ⟨_,rfl,rfl,_,rfl,iteP (decide_eq_true rfl) ?_⟩⟩⟩⟩;rw [zfa] at q;exact ⟨_,rfl,_,rfl,.inl ⟨a,i,rfl,rfl,_,rfl,w_2,λ p c=>q p _ _ (Same.upd c) upd_same rfl⟩⟩
  | regW ni=>
   rename_i i;have u:¬ rowK "register":=by decide +kernel
   obtain ⟨a,rfl,_⟩:=B.isNum u;cases (show x=V.int i from G);refine ⟨_,rfl,rfl,_,rfl,iteN (by decide +kernel) ⟨_,rfl,rfl,_,rfl,iteN (by decide +kernel) ⟨_,rfl,rfl,_,rfl,iteN (by decide +kernel) ⟨_,rfl,rfl,_,rfl,iteN (by decide +kernel) ⟨_,rfl,rfl,_,rfl,iteP (decide_eq_true rfl) ?_⟩⟩⟩⟩⟩;rw [zh7] at q;exact ⟨_,rfl,w_2,λ p c=>q p _ _ (Same.upd c) upd_same rfl⟩
  | celW ni=>
   rename_i i;have u:¬ rowK "cell":=by decide +kernel
   obtain ⟨a,rfl,_⟩:=B.isNum u;cases (show x=V.int i from G);refine ⟨_,rfl,rfl,_,rfl,iteN (by decide +kernel) ⟨_,rfl,rfl,_,rfl,iteN (by decide +kernel) ⟨_,rfl,rfl,_,rfl,iteN (by decide +kernel) ⟨_,rfl,rfl,_,rfl,iteN (by decide +kernel) ⟨_,rfl,rfl,_,rfl,iteP (decide_eq_true rfl) ?_⟩⟩⟩⟩⟩;rw [zg2] at q;exact ⟨_,rfl,w_2,λ p c=>q p _ _ (Same.upd c) upd_same rfl⟩
  | celS ni nj=>
   rename_i i j;have u:¬ rowK "cell":=by decide +kernel
   obtain ⟨a,rfl,_⟩:=B.isNum u;cases (show U=V.int a from sz);obtain ⟨t,rfl,et⟩:=wi i j rfl;refine ⟨_,rfl,rfl,_,rfl,iteN (by decide +kernel) ⟨_,rfl,rfl,_,rfl,iteN (by decide +kernel) ⟨_,rfl,rfl,_,rfl,iteN (by decide +kernel) ⟨_,rfl,rfl,_,rfl,iteN (by decide +kernel) ⟨_,rfl,rfl,_,rfl,iteN (by decide +kernel) ?_⟩⟩⟩⟩⟩;refine ⟨_,rfl,_,rfl,.inr (.inl ⟨t,_,1,.int j,rfl,rfl,SqT.of et,z05 (j:=1) rfl,w_2,λ l hl=>?_⟩)⟩;have e:=Same.upd (o:=.lst [.int a,.int j]) hl;have e1:upd H l (.lst [.int a,.int j]) l=some (.lst [.int a,.int j]):=upd_same;generalize upd H l (.lst [.int a,.int j])=H1 at e e1⊢;have a2:=e _ _ et;refine ⟨_,rfl,_,rfl,.inr (.inl ⟨t,_,0,.int i,rfl,rfl,SqT.of a2,z05 (j:=0) rfl,rfl,.inl (.inr ⟨_,rfl,?_⟩)⟩)⟩;rw [zfn] at q;by_cases z:a=i
   ·rw [if_pos z] at q;refine .inl ⟨l,_,1,.int j,rfl,by rw [if_pos (decide_eq_true (by rw [z]))],SqL.of e1,rfl,?_⟩;refine ⟨_,rfl,_,rfl,.inr (.inl ⟨t,_,0,.int i,rfl,rfl,SqT.of a2,z05 (j:=0) rfl,rfl,.inl (.inr ⟨_,rfl,?_⟩)⟩)⟩;exact ⟨w_2,λ p c=>q p _ _ (e.trans (Same.upd c)) (upd_same.trans (by rw [if_pos (decide_eq_true (by rw [z]))])) rfl⟩
   ·rw [if_neg z] at q;have nz:¬ decide (V.int a=V.int i)=true:=λ y=>z (by cases of_decide_eq_true y;rfl);refine .inl ⟨l,_,0,.int a,rfl,by rw [if_neg nz],SqL.of e1,rfl,?_⟩;refine ⟨_,rfl,_,rfl,.inr (.inl ⟨t,_,0,.int i,rfl,rfl,SqT.of a2,z05 (j:=0) rfl,rfl,.inl (.inr ⟨_,rfl,?_⟩)⟩)⟩;exact ⟨w_2,λ p c=>q p _ _ (e.trans (Same.upd c)) (upd_same.trans (by rw [if_neg nz])) rfl⟩
theorem do_can {H:Hp} {k v:Str} {st x:V} {d:Dt} {n:Nat} {sv:Sv} {Q:VK} {E:XK} (so:SvOk n k sv) (sz:StZ (KX w.params) H sv st) (hn:n < 63) (hd:DeedOk k v d) (hx:IsDt (KX w.params) H d x) (wi:WorthIn H d x)
  (q :∀p st' H',Same H H'->H' p=some (.tup [st',(dz k v d sv).2])->StZ (KX w.params) H' (dz k v d sv).1 st'->Q (.ref p) H'):sp_do (KX w.params) [.str k,st,.str v,x] H Q E:=by
 have A :∀i:Int,Flat H (.int i):=λ i L e=>by cases e
 have F:Flat H .non:=λ L e=>by cases e
 have s :∀i:Int,near i->z17 (.int i) 1000000000=true:=λ i h=>by unfold z17;dsimp only;rw [decide_eq_true h.1,decide_eq_true h.2];rfl
 have I:rowK "queue":=.inl rfl;have G:rowK "set":=.inr rfl;cases hd with
 | quP ni=>rename_i i;obtain ⟨o,rfl,D,_,_⟩:=so.isRow I;obtain ⟨t,rfl,l⟩:=sz;cases (show x=V.int i from hx);rw [dz_quP] at q;refine ⟨_,_,_,_,_,_,_,rfl,rfl,A i,(deedB1 (by decide +kernel)).trans (s i ni),by decide +kernel,.inr (.inr (.inr (.inl ⟨rfl,rfl⟩))),λ H' b=>⟨t,_,_,rfl,b.seqT l,by rw [M0];omega,λ p C B c f u=>q p _ _ (b.trans c) f ⟨C,rfl,?_⟩⟩⟩;rw [show (o++[i]).map V.int=o.map V.int++[V.int i] by rw [j2];rfl];exact u
 | quT=>
  obtain ⟨o,rfl,D,_,_⟩:=so.isRow I;obtain ⟨t,rfl,l⟩:=sz;cases (show x=V.non from hx);refine ⟨_,_,_,_,_,_,_,rfl,rfl,F,(deedB0 (by decide +kernel)).trans rfl,by decide +kernel,.inr (.inr (.inr (.inr (.inl ⟨rfl,rfl⟩)))),λ H' b=>⟨t,o.map V.int,_,rfl,b.seqT l,λ e p B c f=>?_,λ m r e p C B c f u=>?_⟩⟩
  ·cases o with
   | nil=>rw [zge] at q;exact q p _ _ (b.trans c) f ⟨t,rfl,(b.trans c).seqT l⟩
   | cons m r=>cases e
  ·cases o with
   | nil=>cases e
   | cons m' r'=>rw [dz_quT] at q;rw [A1] at e;injection e with e1 e3;subst e1 e3;exact q p _ _ (b.trans c) f ⟨C,rfl,u⟩
 | setP ni=>
  rename_i i;obtain ⟨o,rfl,D,_,M⟩:=so.isRow G;obtain ⟨t,rfl,l⟩:=sz;cases (show x=V.int i from hx);rw [zh1] at q;refine ⟨_,_,_,_,_,_,_,rfl,rfl,A i,(deedB1 (by decide +kernel)).trans (s i ni),by decide +kernel,.inr (.inr (.inr (.inr (.inr (.inl ⟨rfl,rfl⟩))))),λ H' b=>⟨t,o,_,rfl,b.seqT l,by omega,λ z p B c f=>?_,λ z p C R B c f u P O=>?_⟩⟩
  ·rw [if_pos z] at q;exact q p _ _ (b.trans c) f ⟨t,rfl,(b.trans c).seqT l⟩
  ·rw [if_neg z] at q;rw [z8o (P.trans (z9h _).symm) O (z4z _)] at u;exact q p _ _ (b.trans c) f ⟨C,rfl,u⟩
 | setC ni=>
  rename_i i;obtain ⟨o,rfl,D,_,M⟩:=so.isRow G;obtain ⟨t,rfl,l⟩:=sz;cases (show x=V.int i from hx);rw [zf0] at q;refine ⟨_,_,_,_,_,_,_,rfl,rfl,A i,(deedB1 (by decide +kernel)).trans (s i ni),by decide +kernel,.inr (.inr (.inr (.inr (.inr (.inr (.inl ⟨rfl,rfl⟩)))))),λ H' b=>⟨t,o,_,rfl,b.seqT l,by omega,λ z p B c f=>?_,λ z p C B c f u=>?_⟩⟩
  ·rw [if_neg z,List.filter_eq_self.mpr (λ j N=>by simp;exact λ e=>z (e ▸ N))] at q;exact q p _ _ (b.trans c) f ⟨t,rfl,(b.trans c).seqT l⟩
  ·rw [if_pos z] at q;exact q p _ _ (b.trans c) f ⟨C,rfl,u⟩
 | setH ni=>rename_i i;obtain ⟨o,rfl,D,_,M⟩:=so.isRow G;obtain ⟨t,rfl,l⟩:=sz;cases (show x=V.int i from hx);rw [zfe] at q;exact ⟨_,_,_,_,_,_,_,rfl,rfl,A i,(deedB1 (by decide +kernel)).trans (s i ni),by decide +kernel,.inr (.inr (.inr (.inr (.inr (.inr (.inr (.inl ⟨rfl,rfl⟩))))))),λ H' b=>⟨t,o,_,rfl,b.seqT l,λ p B c f=>q p _ _ (b.trans c) f ⟨t,rfl,(b.trans c).seqT l⟩⟩⟩
 | regR=>obtain ⟨a,rfl,_⟩:=so.isNum (by decide +kernel);cases (show st=V.int a from sz);cases (show x=V.non from hx);rw [zfr] at q;exact ⟨_,_,_,_,_,_,_,rfl,rfl,F,(deedB0 (by decide +kernel)).trans rfl,by decide +kernel,.inl ⟨rfl,rfl⟩,λ H' b=>⟨_,_,rfl,λ p g=>q p _ _ (b.trans (Same.upd g)) upd_same rfl⟩⟩
 | cntR=>obtain ⟨a,rfl,_⟩:=so.isNum (by decide +kernel);cases (show st=V.int a from sz);cases (show x=V.non from hx);rw [zf7] at q;exact ⟨_,_,_,_,_,_,_,rfl,rfl,F,(deedB0 (by decide +kernel)).trans rfl,by decide +kernel,.inl ⟨rfl,rfl⟩,λ H' b=>⟨_,_,rfl,λ p g=>q p _ _ (b.trans (Same.upd g)) upd_same rfl⟩⟩
 | celR=>obtain ⟨a,rfl,_⟩:=so.isNum (by decide +kernel);cases (show st=V.int a from sz);cases (show x=V.non from hx);rw [zgr] at q;exact ⟨_,_,_,_,_,_,_,rfl,rfl,F,(deedB0 (by decide +kernel)).trans rfl,by decide +kernel,.inl ⟨rfl,rfl⟩,λ H' b=>⟨_,_,rfl,λ p g=>q p _ _ (b.trans (Same.upd g)) upd_same rfl⟩⟩
 | cntA ni=>rename_i i;obtain ⟨a,rfl,_⟩:=so.isNum (by decide +kernel);cases (show st=V.int a from sz);cases (show x=V.int i from hx);rw [zfa] at q;exact ⟨_,_,_,_,_,_,_,rfl,rfl,A i,(deedB1 (by decide +kernel)).trans (s i ni),by decide +kernel,.inr (.inr (.inl ⟨rfl,rfl⟩)),λ H' b=>⟨_,_,rfl,λ p g=>q p _ _ (b.trans (Same.upd g)) upd_same rfl⟩⟩
 | regW ni=>rename_i i;obtain ⟨a,rfl,_⟩:=so.isNum (by decide +kernel);cases (show st=V.int a from sz);cases (show x=V.int i from hx);rw [zh7] at q;exact ⟨_,_,_,_,_,_,_,rfl,rfl,A i,(deedB1 (by decide +kernel)).trans (s i ni),by decide +kernel,.inr (.inl ⟨rfl,rfl⟩),λ H' b=>⟨_,_,rfl,λ p g=>q p _ _ (b.trans (Same.upd g)) upd_same rfl⟩⟩
 | celW ni=>rename_i i;obtain ⟨a,rfl,_⟩:=so.isNum (by decide +kernel);cases (show st=V.int a from sz);cases (show x=V.int i from hx);rw [zg2] at q;exact ⟨_,_,_,_,_,_,_,rfl,rfl,A i,(deedB1 (by decide +kernel)).trans (s i ni),by decide +kernel,.inr (.inl ⟨rfl,rfl⟩),λ H' b=>⟨_,_,rfl,λ p g=>q p _ _ (b.trans (Same.upd g)) upd_same rfl⟩⟩
 | celS ni nj=>
  rename_i i j;obtain ⟨a,rfl,_⟩:=so.isNum (by decide +kernel);cases (show st=V.int a from sz);obtain ⟨t,rfl,e⟩:=wi i j rfl;have J:tupOf H (.ref t)=some [.int i,.int j]:=by unfold tupOf;dsimp only;rw [e]
  rw [zfn] at q;refine ⟨_,_,_,_,_,_,"tuple",rfl,.inr (.inl ⟨⟨_,e⟩,rfl⟩),λ L z=>?_,?_,by decide +kernel,.inr (.inr (.inr (.inr (.inr (.inr (.inr (.inr ⟨rfl,rfl⟩))))))),λ H' b=>⟨a,i,j,t,rfl,SqT.of (b _ _ e),λ p g=>?_⟩⟩
  ·rw [J] at z;cases z;exact ⟨(show (2:Nat)<=1000 by decide),λ y K=>⟨"int",by simp only [N0,x0,or_false] at K;rcases K with rfl|rfl<;>rfl⟩⟩
  ·rw [deedB2 (by decide +kernel) J];show (true && (z17 (.int i) 1000000000 && (z17 (.int j) 1000000000 && true)))=true;rw [s i ni,s j nj];rfl
  ·by_cases z:a=i
   ·rw [if_pos z] at q⊢;exact q p _ _ (b.trans (Same.upd g)) upd_same rfl
   ·rw [if_neg z] at q⊢;exact q p _ _ (b.trans (Same.upd g)) upd_same rfl
structure Tt (K:j0) (H H':Hp):Prop where
 t:Tups K H H'
 l :∀a xs,H a=some (.tup xs)->H' a=some (.tup xs)
theorem Tt.of {K:j0} {H H':Hp} (s:Same H H'):Tt K H H':=⟨.of s,λ _ _ h=>s _ _ h⟩
theorem Tt.trans {K:j0} {H H1 H2:Hp} (a:Tt K H H1) (b:Tt K H1 H2):Tt K H H2:=⟨a.t.trans b.t,λ _ _ h=>b.l _ _ (a.l _ _ h)⟩
def MutAt (H:Hp) (l:Addr):Prop:=(∃zs,H l=some (.lst zs))\/∃kvs:List (Key×V),H l=some (.dK kvs)
theorem HandAt.mutAt {H:Hp} {r:Addr} (h:HandAt H r):MutAt H r:=by obtain ⟨a,b,c,e,_⟩:=h;exact .inl ⟨_,e⟩
theorem KeptL.tt {K:j0} {L:List Addr} {H H':Hp} (k:KeptL L H H') (m :∀l∈L,MutAt H l):Tt K H H':=by
 refine ⟨λ a b h=>?_,λ a b h=>k _ _ (λ z=>?_) h⟩
 ·rcases h with (h|⟨ob,h⟩)|h
  ·exact .inl (.inl (k _ _ (λ z=>by rcases m a z with ⟨_,e⟩|⟨_,e⟩<;>(rw [h] at e;cases e)) h))
  ·exact .inl (.inr ⟨ob,k _ _ (λ z=>by rcases m a z with ⟨_,e⟩|⟨_,e⟩<;>(rw [h] at e;cases e)) h⟩)
  ·exact .inr h
 ·rcases m a z with ⟨_,e⟩|⟨_,e⟩<;>(rw [h] at e;cases e)
theorem Hw.keptL {r:Addr} {H H':Hp} {L:List Addr} (h:Hw r H H') (hr:r∈L):KeptL L H H':=λ b o n e=>h.k b o (λ z=>n (z ▸ hr)) e
theorem Hw.tt {K:j0} {r:Addr} {H H':Hp} (R:HandAt H r) (h:Hw r H H'):Tt K H H':=KeptL.tt (h.keptL (List.mem_singleton.mpr rfl)) λ l a=>by rw [List.mem_singleton.mp a];exact R.mutAt
theorem Hw.free {r:Addr} {H H':Hp} {p:Addr} (h:Hw r H H') (e:H' p=none):H p=none:=by
 cases z:H p with
 | none=>rfl
 | some o=>rw [h.k _ _ (h.r.fresh e) z] at e;cases e
def ThAt (H:Hp) (p:Addr) (ts:List (Str×Str)):Prop:=∃ys,H p=some (.tup ys)/\All2 (λ (t:Str×Str) y=>∃b,y=.ref b/\H b=some (.tup [.str t.1,.str t.2])) ts ys
structure ThOk (ts:List (Str×Str)):Prop where
 n0:0 < ts.length
 n6:ts.length<=6
 nd:(ts.map (·.1)).Nodup
 ks :∀t∈ts,t.2∈kinds5
theorem ThAt.tt {K:j0} {H H':Hp} {p:Addr} {ts:List (Str×Str)} (t:Tt K H H') (h:ThAt H p ts):ThAt H' p ts:=h.elim λ a z=>⟨a,t.l _ _ z.1,z01 (λ _ _ y=>y.elim λ b x=>⟨b,x.1,t.l _ _ x.2⟩) z.2⟩
theorem zdk {α β:Type} {f:α->β} :∀(xs:List α) (i:Nat),(xs.map f).eraseIdx i=(xs.eraseIdx i).map f
 | [],_=>rfl
 | x :: xs,0=>rfl
 | x :: xs,i + 1=>by show f x :: (xs.map f).eraseIdx i=f x :: (xs.eraseIdx i).map f;rw [zdk xs i]
theorem z8j {α:Type} {xs:List α} (h:xs.Nodup) (i:Nat):(xs.eraseIdx i).Nodup:=h.sublist (List.eraseIdx_sublist xs i)
theorem zi4 {j n:Nat} (h:j < n):PySem.seqIndex? (j:Int) n=some j:=by
 unfold PySem.seqIndex?;have:¬ ((j:Int) < 0):=by omega
 simp only [if_neg this];rw [if_pos (by simp [h])];rfl
def kindR (K:j0) (x y:V) (H:Hp):Prop:=∃(n k:Str) (b:Addr),x=.str n/\y=.ref b/\k∈kinds5/\H b=some (.tup [.str n,.str k])
theorem z87 {K:j0} {H:Hp} :∀{ks:List Str} {ys:List V},All2 (λ x y=>kindR K x y H) (ks.map V.str) ys->∃ts:List (Str×Str),ts.map (·.1)=ks/\(∀t∈ts,t.2∈kinds5)/\All2 (λ (t:Str×Str) y=>∃b,y=.ref b/\H b=some (.tup [.str t.1,.str t.2])) ts ys
 | [],_,h=>by cases h;exact ⟨[],rfl,λ _ z=>absurd z x0,.nil⟩
 | n :: ks,_,h=>by
  cases h with
  | cons a r=>
   obtain ⟨ts,e,g,f⟩:=z87 r;obtain ⟨m,k,b,d,l,c,i⟩:=a;cases d;refine ⟨(n,k) :: ts,by rw [A1,e],λ t j=>?_,.cons ⟨b,l,i⟩ f⟩;rcases List.mem_cons.mp j with z|z
   ·rw [z];exact c
   ·exact g t z
def z4h:Sp:=λ vs H Q _=>∃(r:Addr),vs=[.ref r]/\HandAt H r/\∀p ts H',Hw r H H'->H p=none->ThAt H' p ts->ThOk ts->Q (.ref p) H'
theorem z90 (T:TX (KX w.params) mg) (c0:Cal P w (KX w.params) mg base "_law_draw" ["hand","limit"] 1 z0m):FnOk P w (KX w.params) mg base CX0 2 366 fd__law_things ["hand"] z4h:=by
 refine (z30 w.params).ok sc__law_things (λ vs H Q E h=>?_) (λ b4 A b3 s H vs Q E J h=>?_)
 ·obtain ⟨r,rfl,_⟩:=h;rfl
 ·obtain ⟨r,rfl,R,q⟩:=h;refine q_of (z2n (qs_set (i:=1) sc__law_things.nd rfl (Z0 rfl) (qe_lst (z0r (QE.mk pe_str) (z0r (QE.mk pe_str) (z0r (QE.mk pe_str) (z0r (QE.mk pe_str) (z0r (QE.mk pe_str) (z0r (QE.mk pe_str) qa_nil))))))))
   (z2n (qs_set (i:=2) sc__law_things.nd rfl (Z0 rfl) (qe_ix ix_seq (qe_lst (z0r (QE.mk pe_int) (z0r (QE.mk pe_int) (z0r (QE.mk pe_int) (z0r (QE.mk pe_int) (z0r (QE.mk pe_int) qa_nil)))))) (QE.mk (pe_cal c0 (J.mono (by decide)) rfl (z00 (pv 0) (z00 pe_int pa_nil)))) (λ _ _=>rfl)))
   (z2n (QS.mk (zfl U1 (z08 op_gt (z09 z12 rfl (T.no (n_len _)) Y3 (z00 (pv 1) pa_nil)) (pv 2) (nomark _))
   (z03 (z2g (zlf (pv 1) (z00 (pe_cal c0 (J.mono (by decide)) rfl (z00 (pv 0) (z00 (z09 z12 rfl (T.no (n_len _)) Y3 (z00 (pv 1) pa_nil)) pa_nil))) pa_nil))))))
   (zjd (QS.mk (ps_ret (z0k z0f rfl (T.no (z0y _)) B3 (z00 (z0q (xs:=["name"]) (g:=gName 0) (fr:=[(0,"hand")]) rfl (z3f (pv 1)) (by intro p Y;obtain rfl:=List.mem_singleton.mp Y;first|exact ⟨rfl,.inl rfl⟩|exact ⟨rfl,.inr rfl⟩) (z2r (n:="hand") (by decide +kernel) (λ _=>by first|exact .inl rfl|exact .inr rfl)) (by intro p Y;obtain rfl:=List.mem_singleton.mp Y;exact ⟨by decide +kernel,by first|exact .inl rfl|exact .inr rfl⟩) (by decide +kernel) rfl (by decide +kernel) (λ _ _ _ _ _=>(z0e (N:=["name","hand"]) 0 (by decide +kernel) rfl rfl)) (λ _ _ _ _ _=>pf_nil) (λ _ _ _ _ _=>(pe_tup (z00 (pv 0) (z00 (pe_ix (z5r (K:=KX w.params) rfl) (pe_lst (z00 pe_str (z00 pe_str (z00 pe_str (z00 pe_str (z00 pe_str pa_nil)))))) (pe_cal c0 (J.mono (by decide)) rfl (z00 (pv 1) (z00 pe_int pa_nil))) (λ _ _=>rfl)) pa_nil))))) pa_nil)))))))) ?_
  refine z0x ?_;refine ⟨w_6,λ l M=>?_⟩;refine g_name ?_;have G:l≠r:=R.fresh M;have s1:=Same.upd (o:=.lst [.str "a",.str "b",.str "it",.str "thing",.str "x",.str "zzzzzzzz"]) M;have c:upd H l (.lst [.str "a",.str "b",.str "it",.str "thing",.str "x",.str "zzzzzzzz"]) l=some (.lst ((["a","b","it","thing","x","zzzzzzzz"]:List Str).map V.str)):=upd_same;generalize upd H l (.lst [.str "a",.str "b",.str "it",.str "thing",.str "x",.str "zzzzzzzz"])=H1 at s1 c⊢;have X:Hw r H H1:=R.hw.same s1;refine z0x ?_;refine ⟨w_5,λ l2 F=>⟨_,rfl,r,5,rfl,X.r.same (Same.upd F),by decide,by decide,λ t H2 C h0 h1=>?_⟩⟩;obtain ⟨v,L,hm⟩:=atI_of (xs:=[V.int 1,.int 1,.int 2,.int 3,.int 6]) h0 h1;refine .inl ⟨l2,_,t,v,rfl,rfl,SqL.of (C.k _ _ (X.r.fresh F) upd_same),L,?_⟩;refine g_name ?_;have u:=C.k _ _ G ((Same.upd (o:=.lst [V.int 1,.int 1,.int 2,.int 3,.int 6]) F) _ _ c);have C:=(X.same (Same.upd (o:=.lst [V.int 1,.int 1,.int 2,.int 3,.int 6]) F)).trans C;obtain ⟨m,rfl,m1⟩ :∃m:Int,v=.int m/\1<=m:=by simp only [N0,x0,or_false] at hm;rcases hm with rfl|rfl|rfl|rfl|rfl<;>exact ⟨_,rfl,by decide⟩
  refine z5p (λ B d=>∃ks:List Str,B=[some (.ref r),some (.ref l),some (.int m)]/\d l=some (.lst (ks.map V.str))/\ks.Nodup/\0 < ks.length/\ks.length<=6/\Hw r H d) ?_ (λ tl=>?_);rotate_left
  ·refine ⟨λ k B d=>∃ks:List Str,k=ks.length/\B=[some (.ref r),some (.ref l),some (.int m)]/\d l=some (.lst (ks.map V.str))/\ks.Nodup/\0 < ks.length/\ks.length<=6/\Hw r H d,⟨6,["a","b","it","thing","x","zzzzzzzz"],rfl,rfl,u,by decide +kernel,by decide,by decide,C⟩,?_⟩;rintro k B d ⟨ks,rfl,rfl,e3,nd,k0,k6,w3⟩;refine ⟨_,rfl,.inl ⟨l,_,rfl,.inl (SqL.of e3),_,rfl,_,_,rfl,rfl,_,rfl,?_⟩⟩;refine ite2 (λ z=>?_) λ z=>tl _ _ ⟨ks,rfl,e3,nd,k0,k6,w3⟩;have z:m < ((ks.map V.str).length:Int):=of_decide_eq_true z;rw [M0] at z;refine ⟨_,λ _ _ h=>h,?_⟩;refine ⟨_,rfl,.inl ⟨rfl,_,SqL.of e3⟩,_,rfl,_,rfl,.inl ⟨l,_,rfl,.inl (SqL.of e3),r,_,rfl,w3.r,by rw [M0];omega,by rw [M0];omega,λ t4 H4 w4 a3 a0=>?_⟩⟩;rw [M0] at a0;have U:=w4.k _ _ G e3;obtain ⟨j,rfl⟩:=Int.eq_ofNat_of_zero_le a3;have f:j < ks.length:=by omega
   refine ⟨l,_,_,j,.str ks[j],rfl,rfl,U,by omega,by omega,?_,?_,?_⟩
   ·rw [M0];exact zi4 f
   ·rw [W0,K0 f];rfl
   ·refine ⟨ks.length - 1,by omega,ks.eraseIdx j,by rw [j9,if_pos f],rfl,?_,z8j nd j,?_,?_,?_⟩
    ·rw [upd_same,zdk]
    ·rw [j9,if_pos f];omega
    ·rw [j9,if_pos f];omega
    ·have w5:=w3.trans w4;refine ⟨λ b o hb e=>by rw [upd_ne (z0a e M)];exact w5.k b o hb e,?_⟩;obtain ⟨a1,b1,c1,c,z1⟩:=w5.r;exact ⟨a1,b1,c1,by rw [upd_ne G.symm];exact c,z1⟩
  rintro B d ⟨ks,rfl,e3,nd,k0,k6,w3⟩;refine zkx ?_;refine ze6 (S:=λ H H'=>HandAt H r/\Hw r H H') (K:=KX w.params) (a:=l) (xs:=ks.map V.str) (kindR (KX w.params)) ⟨w3.r,w3.r.hw⟩ (λ _ _ _ a b=>⟨a.1,a.2.trans b.2⟩) (λ _ s=>⟨s.2.r,s.2.r.hw⟩) ?_ (λ R h=>⟨_,rfl,h⟩) (λ H' s'=>SqL.of (s'.2.k _ _ G e3)) (by rw [M0];exact G0 k6 (by decide)) ?_ ?_
  ·rintro x y Ha Hb ⟨Ra,wa⟩ ⟨n,k,b,c,u,e3,U⟩;exact ⟨n,k,b,c,u,e3,(wa.tt (K:=KX w.params) Ra).l _ _ U⟩
  ·intro v L H4 D KT a6 KF;obtain ⟨n,_,rfl⟩:=List.mem_map.mp L;refine ⟨[some (.str n)],rfl,rfl,iteT ?_⟩;refine ⟨_,rfl,w_5,λ l5 W=>⟨_,rfl,r,5,rfl,D.2.r.same (Same.upd W),by decide,by decide,λ t6 H6 Z a7 b2=>?_⟩⟩;obtain ⟨v6,a9,a2⟩:=atI_of (xs:=kinds5.map V.str) a7 b2;obtain ⟨k,hk,rfl⟩:=List.mem_map.mp a2;refine .inl ⟨l5,_,t6,_,rfl,rfl,SqL.of (Z.k _ _ (D.2.r.fresh W) upd_same),a9,w_2,λ p7 a5=>?_⟩;exact a6 _ _ ⟨D.2.r,((D.2.r.hw.same (Same.upd W)).trans Z).same (Same.upd a5)⟩ ⟨n,k,p7,rfl,rfl,hk,upd_same⟩
  ·intro l7 H7 I s7 a8 b0;obtain ⟨ts,c,u,a4⟩:=z87 b0;have s8:=Same.upd (o:=.lst I) a8;refine ⟨l7,I,rfl,.inl ⟨SqL.of upd_same,λ p8 O=>?_⟩⟩;have w8:=(w3.trans s7.2).same s8;have s9:=s8.trans (Same.upd (o:=.tup I) O);have tl:ts.length=ks.length:=by rw [<-c,M0]
   exact q p8 ts _ (w8.same (Same.upd O)) (w8.free O) ⟨I,upd_same,z01 (λ _ _ z=>z.elim λ b y=>⟨b,y.1,s9 _ _ y.2⟩) a4⟩ ⟨by omega,by omega,by rw [c];exact nd,u⟩
def StsAt (K:j0) (H:Hp) (d:Addr) (n:Nat) (ts:List (Str×Str)):Prop:=∃kvs:List (Key×V),H d=some (.dK kvs)/\kvs.length<=6 + n/\∀t∈ts,∃v,valV kvs (.inr t.1)=some v/\StAt K H n t.2 v
def AcAt (K:j0) (H:Hp) (ts:List (Str×Str)) (y:V):Prop:=∃(p:Addr) (nm v:Str) (x hd:V) (k:Str) (dt:Dt),y=.ref p/\H p=some (.tup [.str nm,.str v,x,hd])/\(nm,k)∈ts/\DeedOk k v dt/\IsDt K H dt x/\WorthIn H dt x/\(hd=.non\/AnsV hd)
theorem WorthIn.tt {K:j0} {H H':Hp} {d:Dt} {x:V} (t:Tt K H H') (h:WorthIn H d x):WorthIn H' d x:=λ a b e=>(h a b e).elim λ p z=>⟨p,z.1,t.l _ _ z.2⟩
theorem AcAt.tt {K:j0} {H H':Hp} {ts:List (Str×Str)} {y:V} (t:Tt K H H') (h:AcAt K H ts y):AcAt K H' ts y:=by obtain ⟨p,j,v,x,g,k,a,e,b,i,d,c,f,m⟩:=h;exact ⟨p,j,v,x,g,k,a,e,t.l _ _ b,i,d,IsDt.mono' t.t a x c,f.tt t,m⟩
theorem StsAt.tt {K:j0} {H H':Hp} {d:Addr} {n:Nat} {ts:List (Str×Str)} (t:Tt K H H') (e :∀o,H d=some o->H' d=some o) (h:StsAt K H d n ts):StsAt K H' d n ts:=by obtain ⟨a,b,l,f⟩:=h;exact ⟨a,e _ b,l,λ u c=>(f u c).elim λ v z=>⟨v,z.1,z.2.tups t.t⟩⟩
theorem StsAt.le {K:j0} {H:Hp} {d:Addr} {n m:Nat} {ts:List (Str×Str)} (l:n<=m) (h:StsAt K H d n ts):StsAt K H d m ts:=by obtain ⟨a,b,e,f⟩:=h;exact ⟨a,b,by omega,λ u c=>(f u c).elim λ v z=>⟨v,z.1,z.2.le l⟩⟩
theorem StsAt.mutAt {K:j0} {H:Hp} {d:Addr} {n:Nat} {ts:List (Str×Str)} (h:StsAt K H d n ts):MutAt H d:=h.elim λ a z=>.inr ⟨a,z.1⟩
theorem zl1 {ts:List (Str×Str)} (ok:ThOk ts) {n k k':Str} (h1:(n,k)∈ts) (h2:(n,k')∈ts):k=k':=by
 have b :∀{ts:List (Str×Str)},(ts.map (·.1)).Nodup->(n,k)∈ts->(n,k')∈ts->k=k':=by
  intro ts;induction ts with
  | nil=>intro _ h;cases h
  | cons t ts ih=>
   intro a h1 h2;rw [A1,d7] at a;rcases List.mem_cons.mp h1 with z1|z1
   ·rcases List.mem_cons.mp h2 with z2|z2
    ·rw [<-z1] at z2;cases z2;rfl
    ·exact absurd (List.mem_map.mpr ⟨_,z2,rfl⟩) (by rw [<-z1] at a;exact a.1)
   ·rcases List.mem_cons.mp h2 with z2|z2
    ·exact absurd (List.mem_map.mpr ⟨_,z1,rfl⟩) (by rw [<-z2] at a;exact a.1)
    ·exact ih a.2 z1 z2
 exact b ok.nd h1 h2
theorem StsAt.put {K:j0} {H H2:Hp} {d:Addr} {n:Nat} {ts:List (Str×Str)} {nm k:Str} {v:V} {kvs:List (Key×V)} (ok:ThOk ts) (s:Same H H2) (ed:H d=some (.dK kvs)) (l:kvs.length<=6 + n) (f :∀t∈ts,∃v,valV kvs (.inr t.1)=some v/\StAt K H n t.2 v) (hm:(nm,k)∈ts) (sa:StAt K H2 (n + 1) k v) :
  StsAt K (upd H2 d (.dK (putK kvs (.inr nm) v))) d (n + 1) ts:=by
 have a:Tups K H2 (upd H2 d (.dK (putK kvs (.inr nm) v))):=Tups.dict (s _ _ ed);refine ⟨_,upd_same,G0 (z8k _ _ _) (by omega),λ t b=>?_⟩;by_cases z:t.1=nm
 ·refine ⟨v,by rw [z2b,if_pos (by rw [z])],?_⟩;have:t.2=k:=zl1 ok (n:=nm) (by rw [<-z];exact b) hm;rw [this];exact sa.tups a
 ·obtain ⟨u,e,h⟩:=f t b;exact ⟨u,by rw [z2b,if_neg (λ y=>z (N7 y))];exact e,(h.tups ((Tups.of s).trans a)).le (T2 _)⟩
theorem z5n :∀{more acc:List (Key×V)} {k:Key},k∉more.map (·.1)->valV (mergeK acc more) k=valV acc k
 | [],_,_,_=>rfl
 | p :: r,acc,k,h=>by rw [A1,N0,not_or] at h;show valV (mergeK (putK acc p.1 p.2) r) k=_;rw [z5n h.2,z2b,if_neg h.1]
theorem z64 :∀{more acc:List (Key×V)} {k:Key} {v:V},(more.map (·.1)).Nodup->(k,v)∈more->valV (mergeK acc more) k=some v
 | [],_,_,_,_,h=>by cases h
 | p :: r,acc,k,v,nd,h=>by
  rw [A1,d7] at nd;show valV (mergeK (putK acc p.1 p.2) r) k=_;rcases List.mem_cons.mp h with z|z
  ·subst z;rw [z5n nd.1,z2b,if_pos rfl]
  ·exact z64 nd.2 z
theorem z34 :∀{more acc:List (Key×V)},(mergeK acc more).length<=acc.length + more.length
 | [],_=>F0 _
 | p :: r,acc=>by have b:=z34 (more:=r) (acc:=putK acc p.1 p.2);have a:=z8k acc p.1 p.2;show (mergeK (putK acc p.1 p.2) r).length<=_;rw [y1];omega
noncomputable def thK (ts:List (Str×Str)):List (Key×V):=ts.map λ t=>(.inr t.1,.str t.2)
theorem zjt {ts:List (Str×Str)} (nd:(ts.map (·.1)).Nodup):((thK ts).map (·.1)).Nodup:=by unfold thK;rw [B4];have:((λ x:Key×V=>x.1) ∘ λ t:Str×Str=>((.inr t.1,.str t.2):Key×V))=(Sum.inr:Str->Key) ∘ (λ t:Str×Str=>t.1):=rfl;rw [this,<-B4];exact X8 _ (λ a b h e=>h (N7 e)) nd
theorem zlc {K:j0} {H:Hp} {ts:List (Str×Str)} :∀{ys:List V},All2 (λ (t:Str×Str) y=>∃b,y=.ref b/\H b=some (.tup [.str t.1,.str t.2])) ts ys->All2 (λ (p:Key×V) y=>∃b,y=.ref b/\SqT K H b [kV p.1,p.2]) (thK ts) ys:=by
 induction ts with
 | nil=>intro ys h;cases h;exact .nil
 | cons t ts ih=>intro ys h;cases h with|cons a r=>exact .cons (a.elim λ b z=>⟨b,z.1,SqT.of z.2⟩) (ih r)
def z5o (K:j0):Sp:=λ vs H Q _=>∃(r pt d:Addr) (y:V) (ts:List (Str×Str)) (n:Nat),vs=[.ref r,.ref pt,.ref d,y]/\HandAt H r/\ThAt H pt ts/\ThOk ts/\StsAt K H d n ts/\n < 63/\AcAt K H ts y/\∀a H',AnsV a->KeptL [r,d] H H'->HandAt H' r->StsAt K H' d (n + 1) ts->Q a H'
theorem z9n (T:TX (KX w.params) mg) (c0:Cal P w (KX w.params) mg base "_law_draw" ["hand","limit"] 1 z0m) (c2:Cal P w (KX w.params) mg base "_law_does" ["kind","state","verb","worth"] 1 (z1t (KX w.params))):FnOk P w (KX w.params) mg base CX0 2 373 fd__law_ended ["hand","things","states","act"] (z5o (KX w.params)):=by
 refine (z4e w.params).ok sc__law_ended (λ vs H Q E h=>?_) (λ b3 A b2 s H vs Q E F h=>?_)
 ·obtain ⟨r,pt,d,y,D,n,rfl,_⟩:=h;rfl
 ·obtain ⟨r,pt,d,y,D,n,rfl,R,th,ok,W,Z,⟨p,B,v,x,hd,k,dt,rfl,ep,N,dk,ix,wi,hh⟩,q⟩:=h;have a2:r≠d:=λ z=>by obtain ⟨a,b,c,e,_⟩:=R;obtain ⟨a8,U,_⟩:=W;rw [z,U] at e;cases e
  refine ⟨_,(z02 (ps_asg (pv 3) (pg_tup rfl (z07 (z0j (i:=4) sc__law_ended.nd rfl (Z0 rfl)) (z07 (z0j (i:=5) sc__law_ended.nd rfl (Z0 rfl)) (z07 (z0j (i:=6) sc__law_ended.nd rfl (Z0 rfl)) (z07 (z0j (i:=7) sc__law_ended.nd rfl (Z0 rfl)) z0s))))))
   (z02 (ps_if (z08 op_isN (pv 7) pe_non (nomark _))
   (z02 (ps_set (i:=8) sc__law_ended.nd rfl (Z0 rfl) (z7v (hu_of F) (z0k (z57 rfl) rfl (T.no (n_dict _)) boot_dict (z00 (pv 1) pa_nil)) (pv 4) (λ _ _=>rfl)))
   (z03 (ps_asg (pe_cal c2 (F.mono (by decide)) rfl (z00 (pv 8) (z00 (z7v (hu_of F) (pv 2) (pv 4) (λ _ _=>rfl)) (z00 (pv 5) (z00 (pv 6) pa_nil))))) (pg_tup rfl (z07 (pg_sub (pv 2) (pv 4) (zfd (hu_of F))) (z07 (z0j (i:=7) sc__law_ended.nd rfl (Z0 rfl)) z0s))))))
   z0c)
   (z02 (ps_if (z08 opEq (pe_cal c0 (F.mono (by decide)) rfl (z00 (pv 0) (z00 pe_int pa_nil))) pe_int (nomark _))
   (z03 (ps_set (i:=7) sc__law_ended.nd rfl (Z0 rfl) (pe_ix ix_seq (pe_lst (z00 pe_int (z00 pe_int (z00 pe_str (z00 pe_str (z00 pe_int (z00 (pe_un un_neg pe_int) (z00 (pv 7) pa_nil)))))))) (pe_cal c0 (F.mono (by decide)) rfl (z00 (pv 0) (z00 pe_int pa_nil))) (λ _ _=>rfl))))
   z0c)
   (z03 (ps_ret (pv 7)))))),?_⟩
  refine ⟨_,rfl,p,_,rfl,SqT.of ep,rfl,_,_,rfl,_,_,rfl,_,_,rfl,_,_,rfl,rfl,t_nx ?_⟩;refine z5p (λ σ1 g=>KeptL [r,d] H g/\HandAt g r/\StsAt (KX w.params) g d (n + 1) D/\∃hd' x8,AnsV hd'/\σ1=[some (.ref r),some (.ref pt),some (.ref d),some (.ref p),some (.str B),some (.str v),some x,some hd',x8]) ?_ (λ X=>?_);rotate_left
  ·refine ⟨_,rfl,rfl,_,rfl,ite2 (λ _=>?_) λ zn=>X _ _ ⟨KeptL.refl,R,W.le (T2 _),_,_,hh.resolve_left (λ e=>zn (by rw [e];rfl)),rfl⟩⟩;obtain ⟨ys,ey,al⟩:=th;refine ⟨_,rfl,pt,ys,thK D,rfl,.inr ey,zlc al,λ J b0=>?_⟩;have j:=Same.upd (o:=.dK (mergeK [] (thK D))) b0;have dg:DGet (upd H J (.dK (mergeK [] (thK D)))) J (.str B) (some (.str k)):=by have:=DGet.k (k:=.inr B) (upd_same (H:=H) (a:=J) (o:=.dK (mergeK [] (thK D))));rw [z64 (zjt ok.nd) (List.mem_map.mpr ⟨(B,k),N,rfl⟩)] at this;exact this
   refine ⟨_,rfl,J,.str k,rfl,dg,?_⟩;generalize upd H J (.dK (mergeK [] (thK D)))=g at j⊢;obtain ⟨a8,S,G,f⟩:=StsAt.tt (.of j) (λ o e=>j _ _ e) W;obtain ⟨O,ev,sv,Y,sz⟩:=f _ N;have a6:DGet g d (.str B) (some O):=by have:=DGet.k (k:=.inr B) S;rw [ev] at this;exact this
   refine ⟨_,rfl,_,rfl,_,rfl,d,O,rfl,a6,_,rfl,_,rfl,k,v,O,x,dt,n,sv,rfl,Y,sz,Z,dk,ix.same j,wi.tt (.of (K:=KX w.params) j),λ p2 a5 H2 M U a9=>?_⟩;have a0:=dz_ok dk Y Z;refine ⟨p2,_,rfl,SqT.of U,rfl,a5,_,rfl,_,rfl,_,rfl,d,_,rfl,DPut.k (k:=.inr B) (M _ _ S) (E1 (m:=100) (by omega) (by decide)),_,_,rfl,rfl,?_⟩;refine X _ _ ⟨((j.trans M).keptL).trans (KeptL.set (by simp)),?_,.put ok M S G f N ⟨_,a0.1,a9⟩,_,_,a0.2,rfl⟩;obtain ⟨a1,b1,c1,e1,z1⟩:=R.same (j.trans M);exact ⟨a1,b1,c1,by rw [upd_ne a2];exact e1,z1⟩
  rintro σ1 g ⟨k1,R1,st1,hd',x8,hA,rfl⟩;refine ⟨_,rfl,r,10,rfl,R1,by decide,by decide,λ t H2 L _ _=>⟨rfl,_,rfl,?_⟩⟩;have a4 :∀I,Hw r g I->∀a,AnsV a->Q a I:=λ I C a ha=>by refine q a I ha (k1.trans (C.keptL (by simp))) C.r (st1.tt (C.tt R1) λ o e=>C.k _ _ a2.symm e)
  refine ite2 (λ _=>?_) λ _=>⟨_,rfl,a4 _ L _ hA⟩
  refine ⟨_,rfl,_,rfl,w_7,λ l G=>⟨_,rfl,r,7,rfl,L.r.same (Same.upd G),by decide,by decide,λ t3 I C h0 h1=>?_⟩⟩;obtain ⟨u,hu,a3⟩:=atI_of (xs:=[V.int 0,.int 1,.str "ok",.str "none",.int 2,.int (-1),hd']) h0 h1;have a7:AnsV u:=by
   simp only [N0,x0,or_false] at a3;rcases a3 with rfl|rfl|rfl|rfl|rfl|rfl|rfl
   ·exact z1w (by decide) (by decide)
   ·exact z1w (by decide) (by decide)
   ·exact .inl rfl
   ·exact .inr (.inl rfl)
   ·exact z1w (by decide) (by decide)
   ·exact z1w (by decide) (by decide)
   ·exact hA
  refine .inl ⟨l,_,t3,u,rfl,rfl,SqL.of (C.k _ _ (L.r.fresh G) upd_same),hu,?_⟩;exact ⟨_,rfl,a4 _ ((L.same (Same.upd G)).trans C) _ a7⟩
def BzAt (K:j0) (H:Hp) (b:Addr) (ts:List (Str×Str)) (os:List Int):Prop:=∃kvs:List (Key×V),H b=some (.dK kvs)/\kvs.map (·.1)=os.map Sum.inl/\∀h v,valV kvs (.inl h)=some v->AcAt K H ts v
theorem BzAt.tt {K:j0} {H H':Hp} {b:Addr} {ts:List (Str×Str)} {os:List Int} (t:Tt K H H') (e :∀o,H b=some o->H' b=some o) (h:BzAt K H b ts os):BzAt K H' b ts os:=by obtain ⟨a,c,d,f⟩:=h;exact ⟨a,e _ c,d,λ h v z=>(f h v z).tt t⟩
noncomputable def EvGd (K:j0) (H:Hp) (ts:List (Str×Str)):Ev->Prop
 | .beg _ n v x=>∃(nm k vb:Str) (dt:Dt),n=.str nm/\v=.str vb/\(nm,k)∈ts/\DeedOk k vb dt/\IsDt K H dt x/\WorthIn H dt x
 | .fin _ a=>AnsV a
theorem EvGd.tt {K:j0} {H H':Hp} {ts:List (Str×Str)} (t:Tt K H H') :∀{e:Ev},EvGd K H ts e->EvGd K H' ts e
 | .beg _ _ _ _,⟨nm,k,vb,dt,e1,e2,hm,dk,ix,wi⟩=>⟨nm,k,vb,dt,e1,e2,hm,dk,IsDt.mono' t.t dt _ ix,wi.tt t⟩
 | .fin _ _,h=>h
structure TaI (K:j0) (H:Hp) (pt d b l:Addr) (ts:List (Str×Str)) (i:Nat) (es:List Ev):Prop where
 th:ThAt H pt ts
 st:StsAt K H d i ts
 bz:BzAt K H b ts (es.foldl oStep [])
 ev :∃ys,H l=some (.lst ys)/\All2 (EvAt K H) es ys
 ln:es.length<=i
 gd :∀e∈es,EvGd K H ts e
theorem TaI.tt {K:j0} {H H':Hp} {pt d b l:Addr} {ts:List (Str×Str)} {i:Nat} {es:List Ev} (t:Tt K H H') (e :∀c∈[d,b,l],∀o,H c=some o->H' c=some o) (h:TaI K H pt d b l ts i es):TaI K H' pt d b l ts i es:=
 ⟨h.th.tt t,h.st.tt t (e d (by simp)),h.bz.tt t (e b (by simp)),h.ev.elim λ a z=>⟨a,e l (by simp) _ z.1,z01 (λ _ _ y=>EvAt.tups t.t y) z.2⟩,h.ln,λ e f=>(h.gd e f).tt t⟩
theorem TaI.same {K:j0} {H H':Hp} {pt d b l:Addr} {ts:List (Str×Str)} {i:Nat} {es:List Ev} (s:Same H H') (h:TaI K H pt d b l ts i es):TaI K H' pt d b l ts i es:=h.tt (.of s) λ _ _ _ e=>s _ _ e
theorem TaI.hw {K:j0} {H H':Hp} {pt d b l r:Addr} {ts:List (Str×Str)} {i:Nat} {es:List Ev} (R:HandAt H r) (w:Hw r H H') (n:r∉[d,b,l]) (h:TaI K H pt d b l ts i es):TaI K H' pt d b l ts i es:=h.tt (w.tt R) λ c a o e=>w.k c o (λ z=>n (z ▸ a)) e
theorem zdg :∀(es:List Ev) (os:List Int),(es.foldl oStep os).length<=os.length + es.length
 | [],os=>F0 _
 | e :: es,os=>by
  have b:=zdg es (oStep os e);have a:(oStep os e).length<=os.length + 1:=by
   cases e with
   | beg h _ _ _=>show (os++[h]).length<=_;rw [S0];exact F0 _
   | fin h _=>exact G0 (G2 _ _) (T2 _)
  show ((es.foldl oStep (oStep os e))).length<=_;rw [y1];omega
theorem z1z {L:List Addr} {H H1 H2:Hp} (s:Same H H1) (k:KeptL L H1 H2) (n :∀l∈L,H l=none):Same H H2:=λ c o e=>k c o (λ z=>by rw [n c z] at e;cases e) (s c o e)
theorem zj3 {K:j0} {H:Hp} {ts:List (Str×Str)} {es:List Ev} {e:Ev} (h :∀e∈es,EvGd K H ts e) (g:EvGd K H ts e) :∀x∈es++[e],EvGd K H ts x:=λ x a=>by
 rcases List.mem_append.mp a with z|z
 ·exact h x z
 ·rw [List.mem_singleton.mp z];exact g
theorem z7x {K:j0} {H:Hp} :∀{ts:List (Str×Str)} {ys zs:List V},All2 (λ (t:Str×Str) y=>∃b,y=.ref b/\H b=some (.tup [.str t.1,.str t.2])) ts ys->All2 (λ x y=>∃(n k:Str) (b c:Addr) (v:V),x=.ref b/\H b=some (.tup [.str n,.str k])/\y=.ref c/\H c=some (.tup [.str n,v])/\StAt K H 0 k v) ys zs->
  ∃kvs:List (Key×V),kvs.map (·.1)=ts.map (λ t=>Sum.inr t.1)/\All2 (λ (p:Key×V) y=>∃b,y=.ref b/\SqT K H b [kV p.1,p.2]) kvs zs/\∀t∈ts,∃v,((.inr t.1:Key),v)∈kvs/\StAt K H 0 t.2 v
 | [],_,_,.nil,.nil=>⟨[],rfl,.nil,λ _ h=>absurd h x0⟩
 | t :: ts,_,_,.cons a r,.cons a' r'=>by
  obtain ⟨kvs,w,A,f⟩:=z7x r r';obtain ⟨b,rfl,j⟩:=a;obtain ⟨n,k,B,c,v,g,d,rfl,m,l⟩:=a';cases g;rw [j] at d;injection d with d;injection d with d;have i:t.1=n:=by injection d with h _;injection h
  have e:t.2=k:=by injection d with _ h;injection h with h _;injection h
  subst i e;refine ⟨(.inr t.1,v) :: kvs,by rw [A1,A1,w],.cons ⟨c,rfl,SqT.of m⟩ A,λ u o=>?_⟩;rcases List.mem_cons.mp o with z|z
  ·rw [z];exact ⟨v,B1,l⟩
  ·obtain ⟨q,h,s⟩:=f u z;exact ⟨q,D1 _ h,s⟩
def z74 (K:j0):Sp:=λ vs H Q _=>∃(sc:Addr) (ns:List Int) (hs mo:Int),vs=[.ref sc,.int 5,.int hs,.int mo]/\SqL K H sc (ns.map V.int)/\ns.length<=63/\0 < hs/\hs<=6/\
 ∀t pt te ys es ts H',Same H H'->H' t=some (.tup [.ref pt,.ref te])->H' te=some (.tup ys)->ThAt H' pt ts->ThOk ts->All2 (EvAt K H') es ys->es.length<=63->EWf [] es->(∀e∈es,EvGd K H' ts e)->Q (.ref t) H'
theorem zby (T:TX (KX w.params) mg) (c0:Cal P w (KX w.params) mg base "_law_hand" ["script","cell","k"] 1 (z42 (KX w.params))) (c2:Cal P w (KX w.params) mg base "_law_draw" ["hand","limit"] 1 z0m) (c3:Cal P w (KX w.params) mg base "_law_things" ["hand"] 2 z4h) (c4:Cal P w (KX w.params) mg base "_law_begun" ["kind"] 1 (z3d (KX w.params))) (c5:Cal P w (KX w.params) mg base "_law_ended" ["hand","things","states","act"] 2 (z5o (KX w.params))) (c6:Cal P w (KX w.params) mg base "_law_act" ["hand","kind"] 3 (z7u (KX w.params))) (c7:Cal P w (KX w.params) mg base "_law_does" ["kind","state","verb","worth"] 1 (z1t (KX w.params))):FnOk P w (KX w.params) mg base CX0 4 378 fd__law_tale ["script","first","hands","most"] (z74 (KX w.params)):=by
 refine (z5b w.params).ok sc__law_tale (λ vs H Q E h=>?_) (λ r2 A r1 s H vs Q E G h=>?_)
 ·obtain ⟨sc,Z,hs,mo,rfl,_⟩:=h;rfl
 ·obtain ⟨sc,Z,hs,mo,rfl,sq,hn,h0,h6,q⟩:=h;refine ⟨_,(z02 (ps_set (i:=4) sc__law_tale.nd rfl (Z0 rfl) (pe_cal c0 (G.mono (by decide)) rfl (z00 (pv 0) (z00 (pe_ix ix_seq (pe_op zd0 (pv 0) (pe_lst (z00 pe_int (z00 pe_int pa_nil)))) pe_int (λ _ _=>rfl)) (z00 pe_int pa_nil)))))
   (z02 (ps_set (i:=5) sc__law_tale.nd rfl (Z0 rfl) (pe_cal c3 (G.mono (by decide)) rfl (z00 (pv 4) pa_nil)))
   (z02 (ps_set (i:=6) sc__law_tale.nd rfl (Z0 rfl) (z0k (z57 rfl) rfl (T.no (n_dict _)) boot_dict (z00 (z0q (xs:=["name","kind"]) (g:=gTup (KX w.params) 2 (gCons (gName 0) (gCons (gName 1) gNil))) (fr:=[]) rfl (pi_tup (pv 5)) (λ _ z=>absurd z x0) (z1b rfl) (λ _ z=>absurd z x0) (by decide +kernel) rfl (by decide +kernel) (λ _ _ _ _ _=>(pg_tup rfl (z07 (z0e (N:=["name","kind"]) 0 (by decide +kernel) rfl rfl) (z07 (z0e (N:=["name","kind"]) 1 (by decide +kernel) rfl rfl) z0s)))) (λ _ _ _ _ _=>pf_nil) (λ _ _ _ _ _=>(pe_tup (z00 (pv 0) (z00 (pe_cal c4 (G.mono (by decide)) rfl (z00 (pv 1) pa_nil)) pa_nil))))) pa_nil)))
   (z02 (ps_set (i:=7) sc__law_tale.nd rfl (Z0 rfl) (pe_and (z0u opEq (pe_cal c2 (G.mono (by decide)) rfl (z00 (pv 4) (z00 pe_int pa_nil))) pe_int (nomark _)) (pe_one (z0u op_gt (pv 3) pe_int (nomark _)))))
   (z02 (ps_set (i:=8) sc__law_tale.nd rfl (Z0 rfl) z8i)
   (z02 (ps_set (i:=9) sc__law_tale.nd rfl (Z0 rfl) pe_int)
   (z02 (ps_set (i:=10) sc__law_tale.nd rfl (Z0 rfl) (pe_lst pa_nil))
   (z02 (ps_for U1 rfl (z6w rfl (T.no (z1n _)) (z00 (z1i slSeq (pv 0) (z2e (pv 1)) (z2e pe_int)) pa_nil)) (pg_tup rfl (z07 (z0j (i:=11) sc__law_tale.nd rfl (Z0 rfl)) (z07 (z0j (i:=12) sc__law_tale.nd rfl (Z0 rfl)) z0s)))
   (z02 (ps_set (i:=13) sc__law_tale.nd rfl (Z0 rfl) (pe_cal c0 (G.mono (by decide)) rfl (z00 (pv 0) (z00 (pv 12) (z00 (pv 11) pa_nil)))))
   (z02 (ps_set (i:=14) sc__law_tale.nd rfl (Z0 rfl) (pe_cal c2 (G.mono (by decide)) rfl (z00 (pv 13) (z00 (pv 2) pa_nil))))
   (z02 (ps_if (PW.pt (pw_and (pt_val (pv 7) (λ _=>rfl)) (pw_and (z08 (zlq (hu_of G)) (pv 8) z8i (nomark _)) (zdn (PW.pt (pw_or (z08 op_gt (pe_cal c2 (G.mono (by decide)) rfl (z00 (pv 13) (z00 pe_int pa_nil))) pe_int (nomark _)) (pw_or1 (z08 op_gt (z09 zdb rfl (T.no (n_len _)) Y3 (z00 (pv 8) pa_nil)) pe_int (nomark _)))))))))
   (z03 (ps_set (i:=14) sc__law_tale.nd rfl (Z0 rfl) (pe_ix ix_seq (z09 (zbb rfl) rfl (T.no (z47 _)) G7 (z00 (pv 8) pa_nil)) (pe_cal c2 (G.mono (by decide)) rfl (z00 (pv 13) (z00 (z09 zdb rfl (T.no (n_len _)) Y3 (z00 (pv 8) pa_nil)) pa_nil))) (λ _ _=>rfl))))
   z0c)
   (z03 (ps_if (pt_cmp (pc_din (hu_of G) (pv 14) (pv 8)) (by with_unfolding_all rfl))
   (z03 (z2g (z16 (pv 10) (z00 (pe_tup (z00 pe_str (z00 (pv 14) (z00 (pe_cal c5 (G.mono (by decide)) rfl (z00 (pv 13) (z00 (pv 5) (z00 (pv 6) (z00 (zg0 (pv 8) (pv 14) ⟨rfl,rfl,rfl,rfl⟩) pa_nil))))) pa_nil)))) pa_nil))))
   (z03 (ps_if (z08 op_lt (pv 9) (pe_ix ix_seq (pe_lst (z00 (pv 3) (z00 pe_int pa_nil))) (z0k z9e rfl (T.no (n_int _)) j43 (z00 (pv 7) pa_nil)) (λ _ _=>rfl)) (nomark _))
   (z02 (ps_asg (pe_ix ix_seq (pv 5) (pe_cal c2 (G.mono (by decide)) rfl (z00 (pv 13) (z00 (z09 z12 rfl (T.no (n_len _)) Y3 (z00 (pv 5) pa_nil)) pa_nil))) (λ _ _=>rfl)) (pg_tup rfl (z07 (z0j (i:=15) sc__law_tale.nd rfl (Z0 rfl)) (z07 (z0j (i:=16) sc__law_tale.nd rfl (Z0 rfl)) z0s))))
   (z02 (ps_asg (pe_cal c6 (G.mono (by decide)) rfl (z00 (pv 13) (z00 (pv 16) pa_nil))) (pg_tup rfl (z07 (z0j (i:=17) sc__law_tale.nd rfl (Z0 rfl)) (z07 (z0j (i:=18) sc__law_tale.nd rfl (Z0 rfl)) z0s))))
   (z02 (ps_set (i:=19) sc__law_tale.nd rfl (Z0 rfl) pe_non)
   (z02 (ps_if (z08 opEq (pe_cal c2 (G.mono (by decide)) rfl (z00 (pv 13) (z00 pe_int pa_nil))) pe_int (nomark _))
   (z03 (ps_asg (pe_cal c7 (G.mono (by decide)) rfl (z00 (pv 16) (z00 (z7v (hu_of G) (pv 6) (pv 15) (λ _ _=>rfl)) (z00 (pv 17) (z00 (pv 18) pa_nil))))) (pg_tup rfl (z07 (pg_sub (pv 6) (pv 15) (zfd (hu_of G))) (z07 (z0j (i:=19) sc__law_tale.nd rfl (Z0 rfl)) z0s)))))
   z0c)
   (z02 (zd8 (hu_of G) (pv 8) (pv 14) (pe_tup (z00 (pv 15) (z00 (pv 17) (z00 (pv 18) (z00 (pv 19) pa_nil))))) rfl)
   (z02 (z2g (z16 (pv 10) (z00 (pe_tup (z00 pe_str (z00 (pv 14) (z00 (pv 15) (z00 (pv 17) (z00 (pv 18) pa_nil)))))) pa_nil)))
   (z03 (ps_set (i:=9) sc__law_tale.nd rfl (Z0 rfl) (pe_op opAdd (pv 9) pe_int)))))))))
   z0c))))))))
   (z03 (ps_ret (pe_tup (z00 (pv 5) (z00 (z0k z0f rfl (T.no (z0y _)) B3 (z00 (pv 10) pa_nil)) pa_nil))))))))))))),?_⟩
  have D :∃c:Int,atI (Z.map V.int++[V.int 0,.int 0]) 1=some (.int c):=by
   match Z with
   | []=>exact ⟨0,rfl⟩
   | [a]=>exact ⟨0,rfl⟩
   | a :: b :: r=>exact ⟨b,z05 (j:=1) rfl⟩
  obtain ⟨c,D⟩:=D;refine ⟨_,rfl,_,rfl,w_2,λ l0 m4=>?_⟩;have sA:=Same.upd (o:=.lst [V.int 0,.int 0]) m4;refine ⟨sc,l0,Z.map V.int,[.int 0,.int 0],rfl,rfl,sA.seq sq,SqL.of upd_same,by rw [M0];exact G0 (m:=65) (by show Z.length + 2<=65;omega) (by decide),λ l1 n2=>?_⟩;have sB:=sA.trans (Same.upd (o:=.lst (Z.map V.int++[V.int 0,.int 0])) n2);refine .inl ⟨l1,_,1,.int c,rfl,rfl,SqL.of upd_same,D,sc,Z,c,1,rfl,sB.seq sq,by decide,by decide,λ r H1 s1 R1 o4=>?_⟩;have s1:=sB.trans s1;have fr:H r=none:=sB.free o4;refine ⟨_,rfl,r,rfl,R1,λ pt O H2 w2 r7 th ok=>?_⟩;have s2:Same H H2:=z1z s1 (w2.keptL (L:=[r]) (by simp)) (λ l hl=>by rw [List.mem_singleton.mp hl];exact fr);obtain ⟨yt,d9,d1⟩:=th;refine g_name (t_nx ?_);refine zfx ?_;refine za3 (S:=Same) (K:=KX w.params) (a:=pt) (xs:=yt) (λ x y H=>∃(n k:Str) (b c:Addr) (v:V),x=.ref b/\H b=some (.tup [.str n,.str k])/\y=.ref c/\H c=some (.tup [.str n,v])/\StAt (KX w.params) H 0 k v) (Same.refl _) (λ _ _ _ a b=>a.trans b) (λ _ _=>Same.refl _) ?_ (λ R h=>⟨_,rfl,h⟩) (λ H' s'=>s'.seqT (SqT.of d9)) (G0 (L7 (z04 d1)) (G0 ok.n6 (by decide))) ?_ ?_
  ·rintro x y H3 H4 s4 ⟨n,k,b,c,v,e1,e2,e3,e4,e5⟩;exact ⟨n,k,b,c,v,e1,s4 _ _ e2,e3,s4 _ _ e4,e5.tups (.of s4)⟩
  ·intro v hv H3 s3 KT n8 KF;obtain ⟨m,hm⟩:=List.mem_iff_getElem?.mp hv;obtain ⟨t,ht,b,rfl,eb⟩:=z0h d1 hm;refine ⟨b,_,rfl,SqT.of (s3 _ _ eb),rfl,_,_,rfl,_,_,rfl,rfl,[some (.str t.1),some (.str t.2)],rfl,rfl,iteT ?_⟩;refine ⟨_,rfl,_,rfl,t.2,rfl,λ u H4 s4 sa=>⟨w_2,λ p5 i3=>n8 _ _ (s4.trans (Same.upd i3)) ?_⟩⟩;exact ⟨t.1,t.2,b,p5,u,rfl,(s4.trans (Same.upd i3)) _ _ (s3 _ _ eb),rfl,upd_same,zeroK t.2,zfy _,sa.tups (.of (Same.upd i3))⟩
  intro l3 H3 zs s3 m9 o3;have k6:All2 (λ (t:Str×Str) y=>∃b,y=.ref b/\H3 b=some (.tup [.str t.1,.str t.2])) O yt:=z01 (λ _ _ z=>z.elim λ b y=>⟨b,y.1,s3 _ _ y.2⟩) d1;obtain ⟨f,ek,n9,fk⟩:=z7x k6 o3;have b7:=Same.upd (o:=.lst zs) m9;have f4:upd H3 l3 (.lst zs) l3=some (.lst zs):=upd_same;generalize upd H3 l3 (.lst zs)=H4 at b7 f4⊢;refine ⟨l3,zs,f,rfl,.inl f4,z01 (λ _ _ z=>z.elim λ b y=>⟨b,y.1,b7.seqT y.2⟩) n9,λ d hd=>?_⟩;refine g_name ?_;have ed:upd H4 d (.dK (mergeK [] f)) d=some (.dK (mergeK [] f)):=upd_same;have s5:=Same.upd (o:=.dK (mergeK [] f)) hd;have fd:H d=none:=(s2.trans (s3.trans b7)).free hd;have l4:StsAt (KX w.params) (upd H4 d (.dK (mergeK [] f))) d 0 O:=by
   refine ⟨_,ed,?_,λ t ht=>?_⟩
   ·have h1:=z34 (more:=f) (acc:=[]);have h2:=congrArg D6 ek;rw [M0,M0] at h2;have:=ok.n6;rw [m3,j4] at h1;omega
   ·obtain ⟨v,hv,sa⟩:=fk t ht;refine ⟨v,z64 ?_ hv,sa.tups (.of (b7.trans s5))⟩;rw [ek,show (O.map λ t=>(Sum.inr t.1:Key))=(O.map (·.1)).map Sum.inr by rw [B4];rfl];exact X8 _ (λ a b h e=>h (N7 e)) ok.nd
  have k4:ThAt (upd H4 d (.dK (mergeK [] f))) pt O:=ThAt.tt (K:=KX w.params) (.of (b7.trans s5)) ⟨yt,s3 _ _ d9,k6⟩;have R5:HandAt (upd H4 d (.dK (mergeK [] f))) r:=w2.r.same ((s3.trans b7).trans s5);have s5:=(s2.trans (s3.trans b7)).trans s5;generalize upd H4 d (.dK (mergeK [] f))=H5 at ed s5 l4 k4 R5⊢;refine z5p (λ σ1 Y=>Hw r H5 Y/\∃cm:Bool,σ1=[some (.ref sc),some (.int 5),some (.int hs),some (.int mo),some (.ref r),some (.ref pt),some (.ref d),some (.bl cm),none,none,none,none,none,none,none,none,none,none,none,none]) ?_ (λ tl=>?_);rotate_left
  ·refine ⟨_,rfl,r,3,rfl,R5,by decide,by decide,λ t6 Y W _ _=>⟨rfl,_,rfl,?_⟩⟩;refine ite2 (λ _=>?_) λ _=>tl _ _ ⟨W,_,rfl⟩;exact ⟨_,rfl,_,_,rfl,rfl,tl _ _ ⟨W,_,rfl⟩⟩
  rintro σ1 Y ⟨W,cm,rfl⟩;have s6:Same H Y:=z1z s5 (W.keptL (L:=[r]) (by simp)) (λ l hl=>by rw [List.mem_singleton.mp hl];exact fr);have m0:d≠r:=λ z=>by obtain ⟨a1,b1,c1,e1,_⟩:=R5;rw [<-z,ed] at e1;cases e1
  have i4:StsAt (KX w.params) Y d 0 O:=l4.tt (W.tt R5) λ o e=>W.k _ _ m0 e;have o0:ThAt Y pt O:=k4.tt (W.tt (K:=KX w.params) R5);intro b hb;have fb:H b=none:=s6.free hb;have f7:b≠d:=λ z=>by obtain ⟨kv,e,_⟩:=i4;rw [z,e] at hb;cases hb
  have s7:=Same.upd (o:=.dK []) hb;have eb:upd Y b (.dK []) b=some (.dK []):=upd_same;have j9:=i4.tt (.of s7) λ o e=>s7 _ _ e;have i9:=o0.tt (.of (K:=KX w.params) s7);have s7:=s6.trans s7;generalize upd Y b (.dK [])=C at eb s7 j9 i9⊢;refine ⟨w_0,λ l hl=>?_⟩;have fl:H l=none:=s7.free hl;have I:=Same.upd (o:=.lst []) hl;have el:upd C l (.lst []) l=some (.lst []):=upd_same;have I8:TaI (KX w.params) (upd C l (.lst [])) pt d b l O 0 []:=⟨i9.tt (.of (K:=KX w.params) I),j9.tt (.of I) (λ o e=>I _ _ e),⟨[],I _ _ eb,rfl,λ h v e=>by cases e⟩,⟨[],el,.nil⟩,F0 _,λ e he=>absurd he x0⟩
  have I:=s7.trans I;generalize upd C l (.lst [])=H8 at I I8⊢;have o1 :∃ms:List Int,cutV (Z.map V.int) (some 5) (some 63)=ms.map V.int/\ms.length<=63:=by
   refine ⟨(Z.drop (HT.sIx (Z.map V.int).length 0 (some 5))).take (HT.sIx (Z.map V.int).length (Z.map V.int).length (some 63) - HT.sIx (Z.map V.int).length 0 (some 5)),?_,?_⟩
   ·unfold cutV;rw [List.map_take,List.map_drop]
   ·rw [P6,B8];omega
  obtain ⟨ms,em,q7⟩:=o1;refine ⟨_,rfl,_,rfl,5,rfl,63,rfl,.inl ⟨sc,_,rfl,I.seq sq,λ qa b5=>?_⟩⟩;rw [em];have s9:=Same.upd (o:=.lst (ms.map V.int)) b5;have g9:upd H8 qa (.lst (ms.map V.int)) qa=some (.lst (ms.map V.int)):=upd_same;have I9:=I8.same s9;have r6:H qa=none:=I.free b5;have j6:qa∉[d,b,l]:=λ z=>by
   simp only [N0,x0,or_false] at z;rcases z with z|z|z
   ·obtain ⟨kv,e,_⟩:=I8.st;rw [z,e] at b5;cases b5
   ·obtain ⟨kv,e,_⟩:=I8.bz;rw [z,e] at b5;cases b5
   ·obtain ⟨kv,e,_⟩:=I8.ev;rw [z,e] at b5;cases b5
  have s9:=I.trans s9;generalize upd H8 qa (.lst (ms.map V.int))=H9 at s9 g9 I9⊢;refine ⟨qa,_,rfl,SqL.of g9,?_⟩;refine z5z (K:=KX w.params) (a:=qa) (xs:=ms.map V.int) (λ i σ H'=>∃M a9,TaI (KX w.params) H' pt d b l O i M/\EWf [] M/\H' qa=some (.lst (ms.map V.int))/\Same H H'/\∃x11 x12 x13 x14 x15 x16 x17 x18 x19,σ=[some (.ref sc),some (.int 5),some (.int hs),some (.int mo),some (.ref r),some (.ref pt),some (.ref d),some (.bl cm),some (.ref b),some (.int a9),some (.ref l),x11,x12,x13,x14,x15,x16,x17,x18,x19])
   ⟨[],0,I9,trivial,g9,s9,_,_,_,_,_,_,_,_,_,rfl⟩ (λ i σ H' h=>?_) ?_ ?_
  ·obtain ⟨M,a9,_,_,e,_⟩:=h;exact SqL.of e
  ·rintro i y σ H3 p hy ⟨M,a9,ti,wf,eq3,s3,x11,x12,x13,x14,x15,x16,x17,x18,x19,rfl⟩ hp;obtain ⟨cell,o9,rfl⟩:=W0 .. ▸ hy |> Option.map_eq_some_iff.mp;have hi:i < ms.length:=(List.getElem?_eq_some_iff.mp o9).1;have sp:=Same.upd (o:=.tup [.int i,.int cell]) hp;have k2:upd H3 p (.tup [.int i,.int cell]) p=some (.tup [.int i,.int cell]):=upd_same;have e8:=ti.same sp;have g3:=sp _ _ eq3;have s4:=s3.trans sp;generalize upd H3 p (.tup [.int i,.int cell])=H4 at k2 e8 g3 s4⊢;refine ⟨p,_,rfl,SqT.of k2,rfl,.int i,_,rfl,.int cell,_,rfl,rfl,?_⟩;refine ⟨_,rfl,_,rfl,_,rfl,sc,Z,cell,i,rfl,s4.seq sq,by omega,by omega,λ B H5 s5 R5 a7=>?_⟩;have fH:H B=none:=s4.free a7;have f1:B≠d:=λ z=>by obtain ⟨kv,e,_⟩:=e8.st;rw [z,e] at a7;cases a7
   have e0:B≠b:=λ z=>by obtain ⟨kv,e,_⟩:=e8.bz;rw [z,e] at a7;cases a7
   have h5:B≠l:=λ z=>by obtain ⟨kv,e,_⟩:=e8.ev;rw [z,e] at a7;cases a7
   have f8:B≠qa:=λ z=>by rw [z,g3] at a7;cases a7
   have k0:B∉[d,b,l]:=by simp [f1,e0,h5]
   have p6:=e8.same s5;have n1:=s5 _ _ g3;have s5:=s4.trans s5;refine ⟨_,rfl,_,rfl,B,hs,rfl,R5,h0,by omega,λ one Y W _ _=>?_⟩;have k3:=p6.hw R5 W k0;have q4:=W.k _ _ (N2 f8) n1;have s6:Same H Y:=z1z s5 (W.keptL (L:=[B]) (by simp)) (λ l hl=>by rw [List.mem_singleton.mp hl];exact fH);have r9:(M.foldl oStep []).length<=i:=by have h1:=zdg M [];have h2:=ti.ln;rw [m3,j4] at h1;omega
   refine g_name (t_nx ?_);refine z5p (λ σ1 C=>Hw B Y C/\∃one:Int,σ1=[some (.ref sc),some (.int 5),some (.int hs),some (.int mo),some (.ref r),some (.ref pt),some (.ref d),some (.bl cm),some (.ref b),some (.int a9),some (.ref l),some (.int i),some (.int cell),some (.ref B),some (.int one),x15,x16,x17,x18,x19]) ?_ (λ tl=>?_);rotate_left
   ·refine ⟨_,rfl,cm,rfl,?_⟩;cases cm with
    | false=>exact iteF (iteF (tl _ _ ⟨W.r.hw,_,rfl⟩))
    | true=>
     refine iteT ?_;obtain ⟨f,i8,g4,q6⟩:=k3.bz;refine ⟨_,rfl,λ p7 n3=>?_⟩;have g8:=Same.upd (o:=.dK []) n3;have e7:upd Y p7 (.dK []) p7=some (.dK []):=upd_same;generalize upd Y p7 (.dK [])=C at g8 e7⊢;have w7:Hw B Y C:=W.r.hw.same g8;have b0:=g8 _ _ i8;refine ⟨b,p7,f,rfl,rfl,b0,e7,_,rfl,?_⟩;have kl:f.length=(M.foldl oStep []).length:=by have:=congrArg D6 g4;simpa using this
     by_cases z:f≠[]
     ·refine iteP (decide_eq_true z) ?_;have r8:0 < f.length:=List.length_pos_iff.mpr z;refine ⟨_,rfl,B,5,rfl,w7.r,by decide,by decide,λ t8 H8 w8 _ _=>⟨_,_,rfl,rfl,_,rfl,?_⟩⟩;have w8:=w7.trans w8;have b6:H8 b=some (.dK f):=w8.k _ _ (N2 e0) i8;refine ite2 (λ _=>?_) λ _=>?_
      ·refine iteT ?_;refine ⟨_,rfl,b,f,_,rfl,b6,g4,by omega,λ lS d8 a5 pm pw=>?_⟩;refine ⟨_,rfl,_,rfl,b,f,rfl,(Same.upd a5) _ _ b6,B,_,rfl,w8.r.same (Same.upd a5),by omega,by omega,λ t9 H9 w9 e6 h8=>?_⟩;have o7:d8.length=f.length:=by rw [pm.length_eq,kl]
       obtain ⟨v,hv,hm⟩:=atI_of (xs:=d8.map V.int) e6 (by rw [M0];omega);obtain ⟨o,_,rfl⟩:=List.mem_map.mp hm;refine .inl ⟨lS,_,t9,_,rfl,rfl,SqL.of (w9.k _ _ (w8.r.fresh a5) upd_same),hv,?_⟩;exact tl _ _ ⟨(w8.same (Same.upd a5)).trans w9,_,rfl⟩
      ·refine ⟨_,rfl,b,f,rfl,b6,_,_,rfl,rfl,_,rfl,?_⟩;refine ite2 (λ _=>?_) λ _=>tl _ _ ⟨w8,_,rfl⟩;refine ⟨_,rfl,b,f,_,rfl,b6,g4,by omega,λ lS d8 a5 pm pw=>?_⟩;refine ⟨_,rfl,_,rfl,b,f,rfl,(Same.upd a5) _ _ b6,B,_,rfl,w8.r.same (Same.upd a5),by omega,by omega,λ t9 H9 w9 e6 h8=>?_⟩;have o7:d8.length=f.length:=by rw [pm.length_eq,kl]
       obtain ⟨v,hv,hm⟩:=atI_of (xs:=d8.map V.int) e6 (by rw [M0];omega);obtain ⟨o,_,rfl⟩:=List.mem_map.mp hm;refine .inl ⟨lS,_,t9,_,rfl,rfl,SqL.of (w9.k _ _ (w8.r.fresh a5) upd_same),hv,?_⟩;exact tl _ _ ⟨(w8.same (Same.upd a5)).trans w9,_,rfl⟩
     ·exact iteN (by rw [decide_eq_false z];decide) (iteF (tl _ _ ⟨w7,_,rfl⟩))
   rintro σ7 C ⟨w7,one,rfl⟩;have a4:=k3.hw W.r w7 k0;have R7:=w7.r;have i2:=w7.k _ _ (N2 f8) q4;have s7:Same H C:=z1z s6 (w7.keptL (L:=[B]) (by simp)) (λ l hl=>by rw [List.mem_singleton.mp hl];exact fH);obtain ⟨f,b0,d2,i1⟩:=a4.bz;obtain ⟨J,c8,h4⟩:=a4.ev;have kl:f.length=(M.foldl oStep []).length:=by have:=congrArg D6 d2;simpa using this
   have g1:l≠b:=λ z=>by rw [z,b0] at c8;cases c8
   have f6:l≠d:=λ z=>by obtain ⟨kv,e,_⟩:=a4.st;rw [z,e] at c8;cases c8
   have yl:J.length<=i:=by rw [z04 h4];exact ti.ln
   have dg:DGet C b (.int one) (valV f (.inl one)):=DGet.k (k:=.inl one) b0;refine ⟨_,rfl,_,rfl,b,_,rfl,dg,_,rfl,?_⟩;cases hv:valV f (.inl one) with
   | some v=>
    refine iteP rfl ?_;have q5:one∈M.foldl oStep []:=by have:(Sum.inl one:Key)∈f.map (·.1):=valV_isSome.mp (by rw [hv];rfl);rw [d2] at this;obtain ⟨k,hk,e⟩:=List.mem_map.mp this;exact T4 e ▸ hk
    refine ⟨_,rfl,.inl ⟨rfl,_,SqL.of c8⟩,_,rfl,_,rfl,_,rfl,_,rfl,_,rfl,b,rfl,.inl ⟨_,.inl b0⟩,_,rfl,f,.inl one,v,b0,rfl,hv,?_⟩;have k8:KeptL [b] C (upd C b (.dK (dropK f (.inl one)))):=KeptL.set (by simp);have T8:Tt (KX w.params) C (upd C b (.dK (dropK f (.inl one)))):=KeptL.tt k8 λ c D=>by rw [List.mem_singleton.mp D];exact .inr ⟨_,b0⟩
    have b6:upd C b (.dK (dropK f (.inl one))) b=some (.dK (dropK f (.inl one))):=upd_same;generalize upd C b (.dK (dropK f (.inl one)))=H8 at k8 T8 b6⊢;have R8:HandAt H8 B:=by obtain ⟨a1,b1,c1,e1,z1⟩:=R7;exact ⟨a1,b1,c1,k8 _ _ (by simp [e0]) e1,z1⟩
    have j1:StsAt (KX w.params) H8 d i O:=a4.st.tt T8 λ o e=>k8 _ _ (by simp [f7.symm]) e;have q0:H8 l=some (.lst J):=k8 _ _ (by simp [g1]) c8;refine ⟨B,pt,d,v,O,i,rfl,R8,a4.th.tt T8,ok,j1,by omega,(i1 _ _ hv).tt T8,λ a H9 hA k9 R9 m8=>?_⟩;have T9:Tt (KX w.params) H8 H9:=KeptL.tt k9 λ c D=>by
     simp only [N0,x0,or_false] at D;rcases D with rfl|rfl
     ·exact R8.mutAt
     ·exact j1.mutAt
    have p4:H9 b=_:=k9 _ _ (by simp [f7,N2 e0]) b6;have m2:H9 l=_:=k9 _ _ (by simp [f6,N2 h5]) q0;refine ⟨w_3,λ p9 q3=>?_⟩;have b8:=Same.upd (o:=.tup [.str "end",.int one,a]) q3;have g0:upd H9 p9 (.tup [.str "end",.int one,a]) p9=some (.tup [.str "end",.int one,a]):=upd_same;have d4:=m8.tt (.of b8) λ o e=>b8 _ _ e;generalize upd H9 p9 (.tup [.str "end",.int one,a])=a3 at b8 g0 d4⊢;have i5:=b8 _ _ m2;refine ⟨l,J,_,rfl,rfl,i5,E1 (m:=63) (by omega) (by decide),?_⟩;have b4:KeptL [l] a3 (upd a3 l (.lst (J++[.ref p9]))):=KeptL.set (by simp);have b2:Tt (KX w.params) a3 (upd a3 l (.lst (J++[.ref p9]))):=KeptL.tt b4 λ c D=>by rw [List.mem_singleton.mp D];exact .inl ⟨_,i5⟩
    have f3:upd a3 l (.lst (J++[.ref p9])) l=some (.lst (J++[.ref p9])):=upd_same;generalize upd a3 l (.lst (J++[.ref p9]))=F at b4 b2 f3⊢;have T:Tt (KX w.params) C F:=((T8.trans T9).trans (.of b8)).trans b2;have kk:KeptL [B,d,b,l] C F:=λ c o n e=>by simp only [N0,x0,or_false,not_or] at n;exact b4 _ _ (by simp [n]) (b8 _ _ (k9 _ _ (by simp [n]) (k8 _ _ (by simp [n]) e)))
    have i0:qa∉[B,d,b,l]:=by
     intro z;rcases List.mem_cons.mp z with z|z
     ·exact f8 z.symm
     ·exact j6 z
    refine ⟨M++[.fin one a],a9,⟨a4.th.tt T,d4.tt b2 (λ o e=>b4 _ _ (by simp [N2 f6]) e),?_,⟨_,f3,?_⟩,?_,zj3 (e:=.fin one a) (λ e he=>(a4.gd e he).tt T) hA⟩,EWf.snoc (e:=.fin one a) wf q5,kk _ _ i0 i2,z1z s7 kk (λ c D=>?_),_,_,_,_,_,_,_,_,_,rfl⟩
    ·refine ⟨_,b4 _ _ (by simp [N2 g1]) (b8 _ _ p4),?_,λ h u hu=>?_⟩
     ·rw [F6];exact zd9 d2
     ·refine (i1 h u ?_).tt T;by_cases z:h=one
      ·subst z;have:(Sum.inl h:Key)∈(dropK f (.inl h)).map (·.1):=valV_isSome.mp (by rw [hu];rfl);obtain ⟨q1,n4,e1⟩:=List.mem_map.mp this;have:=(List.mem_filter.mp n4).2;exact absurd e1 (of_decide_eq_true this)
      ·rwa [zd4 (λ e=>z (T4 e))] at hu
    ·exact z2l (z01 (λ _ _ z=>EvAt.tups T.t z) h4) ⟨p9,rfl,b2.t _ _ (SqT.of g0)⟩
    ·rw [S0];exact g6 ti.ln
    ·simp only [N0,x0,or_false] at D;rcases D with rfl|rfl|rfl|rfl
     ·exact fH
     ·exact fd
     ·exact fb
     ·exact fl
   | none=>
    refine iteN (by decide) ?_;have l6:one∉M.foldl oStep []:=λ z=>by have:(valV f (.inl one)).isSome=true:=valV_isSome.mpr (by rw [d2];exact List.mem_map.mpr ⟨one,z,rfl⟩);rw [hv] at this;cases this
    obtain ⟨mc,o6⟩ :∃mc:Int,atI [V.int mo,.int 24] (if cm=true then 1 else 0)=some (.int mc):=by cases cm with|true=>exact ⟨24,rfl⟩|false=>exact ⟨mo,rfl⟩
    refine ⟨_,rfl,_,rfl,w_2,λ l8 m6=>⟨_,rfl,.inl (.inr ⟨cm,rfl,.inl ⟨l8,_,_,.int mc,rfl,rfl,SqL.of upd_same,o6,_,_,rfl,rfl,_,rfl,?_⟩⟩)⟩⟩;have I:=Same.upd (o:=.lst [V.int mo,.int 24]) m6;generalize upd C l8 (.lst [V.int mo,.int 24])=H8 at I⊢;have b3:=a4.same I;have R8:=R7.same I;refine ite2 (λ _=>?_) λ _=>⟨M,a9,⟨b3.th,b3.st.le (T2 _),b3.bz,b3.ev,M6 b3.ln,b3.gd⟩,wf,I _ _ i2,s7.trans I,_,_,_,_,_,_,_,_,_,rfl⟩
    obtain ⟨yt,d9,d1⟩:=b3.th;have r3:yt.length=O.length:=z04 d1;have q9:=ok.n0;have r0:=ok.n6;refine ⟨_,rfl,_,rfl,_,rfl,.inl ⟨pt,yt,rfl,.inr (SqT.of d9),B,_,rfl,R8,by omega,by omega,λ t9 H9 w9 e6 h8=>?_⟩⟩;obtain ⟨v9,p1,p3⟩:=atI_of (xs:=yt) e6 h8;obtain ⟨j,hj⟩:=List.mem_iff_getElem?.mp p3;obtain ⟨t,ht,b9,rfl,e9⟩:=z0h d1 hj;have d5:=T0 ht;have T9:Tt (KX w.params) H8 H9:=w9.tt R8;refine .inr (.inl ⟨pt,yt,t9,_,rfl,rfl,SqT.of (T9.l _ _ d9),p1,b9,_,rfl,SqT.of (T9.l _ _ e9),rfl,_,_,rfl,_,_,rfl,rfl,?_⟩);refine ⟨_,rfl,_,rfl,B,t.2,rfl,w9.r,ok.ks t d5,λ q2 U X g7 a3 f5 g0 _ dk ix wi=>⟨q2,_,rfl,SqT.of g0,rfl,_,_,rfl,_,_,rfl,rfl,t_nx ?_⟩⟩;have g5:=w9.trans f5;have j0:Tt (KX w.params) H8 a3:=g5.tt R8;have d4:StsAt (KX w.params) a3 d i O:=b3.st.tt j0 λ o e=>g5.k _ _ (N2 f1) e;refine z0x ?_;refine g_name ?_;refine z5p (λ σ1 F=>KeptL [B,d] a3 F/\HandAt F B/\StsAt (KX w.params) F d (i + 1) O/\∃hd',(hd'=.non\/AnsV hd')/\σ1=[some (.ref sc),some (.int 5),some (.int hs),some (.int mo),some (.ref r),some (.ref pt),some (.ref d),some (.bl cm),some (.ref b),some (.int a9),some (.ref l),some (.int i),some (.int cell),some (.ref B),some (.int one),some (.str t.1),some (.str t.2),some (.str U),some X,some hd']) ?_ (λ l7=>?_);rotate_left
    ·refine ⟨_,rfl,B,3,rfl,f5.r,by decide,by decide,λ q8 F d0 _ _=>⟨rfl,_,rfl,?_⟩⟩;have b2:Tt (KX w.params) a3 F:=d0.tt f5.r;have f0:StsAt (KX w.params) F d i O:=d4.tt b2 λ o e=>d0.k _ _ (N2 f1) e;refine ite2 (λ _=>?_) λ _=>l7 _ _ ⟨d0.keptL (by simp),d0.r,f0.le (T2 _),_,.inl rfl,rfl⟩;obtain ⟨r5,h9,o2,f2⟩:=f0;obtain ⟨st,ev,sv,so,sz⟩:=f2 t d5;have n7:DGet F d (.str t.1) (some st):=by have:=DGet.k (k:=.inr t.1) h9;rw [ev] at this;exact this
     refine ⟨_,rfl,_,rfl,_,rfl,d,st,rfl,n7,_,rfl,_,rfl,t.2,U,st,X,g7,i,sv,rfl,so,sz,by omega,dk,IsDt.mono' b2.t _ _ ix,wi.tt b2,λ a0 m5 a8 a2 g2 o8=>?_⟩;have j5:=dz_ok dk so (show i < 63 by omega);refine ⟨a0,_,rfl,SqT.of g2,rfl,m5,_,rfl,_,rfl,_,rfl,d,_,rfl,DPut.k (k:=.inr t.1) (a2 _ _ h9) (E1 (m:=100) (by omega) (by decide)),_,_,rfl,rfl,?_⟩;refine l7 _ _ ⟨((d0.keptL (by simp)).trans a2.keptL).trans (KeptL.set (by simp)),?_,.put ok a2 h9 o2 f2 d5 ⟨_,j5.1,o8⟩,_,.inr j5.2,rfl⟩;obtain ⟨a1,b1,c1,e1,z1⟩:=d0.r.same a2;exact ⟨a1,b1,c1,by rw [upd_ne f1];exact e1,z1⟩
    rintro r4 F ⟨b4,R11,f0,hd',hh,rfl⟩;have k7:KeptL [B,d] C F:=(I.keptL.trans (g5.keptL (by simp))).trans b4;have T1:Tt (KX w.params) a3 F:=KeptL.tt b4 λ c D=>by
     simp only [N0,x0,or_false] at D;rcases D with rfl|rfl
     ·exact f5.r.mutAt
     ·exact d4.mutAt
    have T7:Tt (KX w.params) C F:=(Tt.trans (.of I) j0).trans T1;have p2:F b=_:=k7 _ _ (by simp [f7,N2 e0]) b0;have f3:F l=_:=k7 _ _ (by simp [f6,N2 h5]) c8;refine ⟨_,rfl,_,rfl,_,rfl,_,rfl,w_4,λ a0 m1=>?_⟩;have a2:=Same.upd (o:=.tup [.str t.1,.str U,X,hd']) m1;have g2:upd F a0 (.tup [.str t.1,.str U,X,hd']) a0=some (.tup [.str t.1,.str U,X,hd']):=upd_same;have j8:=f0.tt (.of a2) λ o e=>a2 _ _ e;generalize upd F a0 (.tup [.str t.1,.str U,X,hd'])=a8 at a2 g2 j8⊢;have l5:=a2 _ _ p2;have l9:=a2 _ _ f3;refine ⟨_,rfl,_,rfl,b,_,rfl,DPut.k (k:=.inl one) l5 (E1 (m:=100) (by omega) (by decide)),?_⟩;have d7:KeptL [b] a8 (upd a8 b (.dK (putK f (.inl one) (.ref a0)))):=KeptL.set (by simp);have h3:Tt (KX w.params) a8 (upd a8 b (.dK (putK f (.inl one) (.ref a0)))):=KeptL.tt d7 λ c D=>by rw [List.mem_singleton.mp D];exact .inr ⟨_,l5⟩
    have j3:upd a8 b (.dK (putK f (.inl one) (.ref a0))) b=some (.dK (putK f (.inl one) (.ref a0))):=upd_same;have i7:=j8.tt h3 λ o e=>d7 _ _ (by simp [N2 f7]) e;have h7:upd a8 b (.dK (putK f (.inl one) (.ref a0))) l=_:=d7 _ _ (by simp [g1]) l9;generalize upd a8 b (.dK (putK f (.inl one) (.ref a0)))=H13 at d7 h3 j3 i7 h7⊢;refine ⟨_,rfl,.inl ⟨rfl,_,SqL.of h7⟩,_,rfl,_,rfl,_,rfl,_,rfl,w_5,λ a6 n5=>?_⟩;have c9:=Same.upd (o:=.tup [.str "begin",.int one,.str t.1,.str U,X]) n5;have k1:upd H13 a6 (.tup [.str "begin",.int one,.str t.1,.str U,X]) a6=some (.tup [.str "begin",.int one,.str t.1,.str U,X]):=upd_same;have j7:=i7.tt (.of c9) λ o e=>c9 _ _ e;generalize upd H13 a6 (.tup [.str "begin",.int one,.str t.1,.str U,X])=H14 at c9 k1 j7⊢;have k5:=c9 _ _ h7;have o5:=c9 _ _ j3;refine ⟨l,J,_,rfl,rfl,k5,E1 (m:=63) (by omega) (by decide),?_⟩;have d6:KeptL [l] H14 (upd H14 l (.lst (J++[.ref a6]))):=KeptL.set (by simp);have f9:Tt (KX w.params) H14 (upd H14 l (.lst (J++[.ref a6]))):=KeptL.tt d6 λ c D=>by rw [List.mem_singleton.mp D];exact .inl ⟨_,k5⟩
    have l2:upd H14 l (.lst (J++[.ref a6])) l=some (.lst (J++[.ref a6])):=upd_same;generalize upd H14 l (.lst (J++[.ref a6]))=H15 at d6 f9 l2⊢;refine ⟨_,rfl,.inl ⟨_,_,rfl,rfl,?_⟩⟩;have i6:Tt (KX w.params) a8 H15:=(h3.trans (.of c9)).trans f9;have d3:Tt (KX w.params) F H15:=Tt.trans (.of a2) i6;have T:Tt (KX w.params) C H15:=T7.trans d3;have kk:KeptL [B,d,b,l] C H15:=λ c o n e=>by simp only [N0,x0,or_false,not_or] at n;exact d6 _ _ (by simp [n]) (c9 _ _ (d7 _ _ (by simp [n]) (a2 _ _ (k7 _ _ (by simp [n]) e))))
    have i0:qa∉[B,d,b,l]:=by
     intro z;rcases List.mem_cons.mp z with z|z
     ·exact f8 z.symm
     ·exact j6 z
    have p0:(Sum.inl one:Key)∉f.map (·.1):=by rw [d2];intro z;obtain ⟨k,hk,e⟩:=List.mem_map.mp z;exact l6 (T4 e ▸ hk)
    refine ⟨M++[.beg one (.str t.1) (.str U) X],a9 + 1,⟨a4.th.tt T,j7.tt f9 (λ o e=>d6 _ _ (by simp [N2 f6]) e),?_,⟨_,l2,?_⟩,?_,zj3 (e:=.beg one (.str t.1) (.str U) X) (λ e he=>(a4.gd e he).tt T) ⟨t.1,t.2,U,g7,rfl,rfl,d5,dk,IsDt.mono' (T1.trans d3).t _ _ ix,wi.tt (T1.trans d3)⟩⟩,EWf.snoc (e:=.beg one (.str t.1) (.str U) X) wf l6,kk _ _ i0 i2,z1z s7 kk (λ c D=>?_),_,_,_,_,_,_,_,_,_,rfl⟩
    ·refine ⟨_,d6 _ _ (by simp [N2 g1]) o5,?_,λ h u hu=>?_⟩
     ·rw [F6,zar p0,j2,d2];show _=((M.foldl oStep [])++[one]).map Sum.inl;rw [j2];rfl
     ·rw [z2b] at hu;by_cases z:(Sum.inl h:Key)=Sum.inl one
      ·rw [if_pos z] at hu;cases hu;exact ⟨a0,t.1,U,X,hd',t.2,g7,rfl,i6.l _ _ g2,d5,dk,IsDt.mono' (T1.trans d3).t _ _ ix,wi.tt (T1.trans d3),hh⟩
      ·rw [if_neg z] at hu;exact (i1 h u hu).tt T
    ·exact z2l (z01 (λ _ _ z=>EvAt.tups T.t z) h4) ⟨a6,rfl,f9.t _ _ (SqT.of k1)⟩
    ·rw [S0];exact g6 ti.ln
    ·simp only [N0,x0,or_false] at D;rcases D with rfl|rfl|rfl|rfl
     ·exact fH
     ·exact fd
     ·exact fb
     ·exact fl
  ·rintro σ H3 ⟨M,a9,ti,wf,eq3,s3,x11,x12,x13,x14,x15,x16,x17,x18,x19,rfl⟩;obtain ⟨J,f4,m7⟩:=ti.ev;refine ⟨_,rfl,_,rfl,l,J,rfl,.inl ⟨SqL.of f4,λ te p8=>⟨w_2,λ t ht=>?_⟩⟩⟩;have sE:=Same.upd (o:=.tup J) p8;have sF:=sE.trans (Same.upd (o:=.tup [.ref pt,.ref te]) ht);refine q t pt te J M O _ (s3.trans sF) upd_same ((Same.upd ht) _ _ upd_same) (ti.th.tt (.of (K:=KX w.params) sF)) ok (z01 (λ _ _ z=>EvAt.tups (.of sF) z) m7) ?_ wf (λ e he=>(ti.gd e he).tt (.of sF));have:=ti.ln;rw [M0] at this;omega
def ActAt (H:Hp) (r:Rc) (y:V):Prop:=∃p,y=.ref p/\H p=some (.lst [.int r.h,r.n,r.v,r.x,r.a,.int r.b,endV r.e])
theorem ActAt.same {H H':Hp} {r:Rc} {y:V} (s:Same H H') (h:ActAt H r y):ActAt H' r y:=h.elim λ p z=>⟨p,z.1,s _ _ z.2⟩
theorem ActAt.wrote {H:Hp} {l:Addr} {o:HO} {r:Rc} {y:V} (n:y≠.ref l) (h:ActAt H r y):ActAt (upd H l o) r y:=h.elim λ p z=>⟨p,z.1,by rw [upd_ne (λ e=>n (by rw [z.1,e]))];exact z.2⟩
def z46:Sp:=λ vs H Q _=>∃(l:Addr) (zs:List V) (rs:List Rc) (i m a b:Nat) (os:List Int),vs=[.ref l,.str (z0w m),.int a,.int b]/\H l=some (.lst zs)/\All2 (ActAt H) rs zs/\DInv i rs os/\a < rs.length/\b < rs.length/\Q (.bl (z0i m rs a b)) H
theorem zbe (T:TX (KX w.params) mg):FnOk P w (KX w.params) mg base CX0 1 392 fd__law_must ["acts","strictness","one","other"] z46:=by
 refine (z56 w.params).ok zcc (λ B H Q E h=>?_) (λ D A C s H B Q E F h=>?_)
 ·obtain ⟨l,f,c,i,m,a,b,y,rfl,_⟩:=h;rfl
 ·obtain ⟨l,f,c,i,m,a,b,y,rfl,g,r,I,v,x,h⟩:=h;refine ⟨_,(z02 (ps_if (z08 opEq (pv 1) pe_str (nomark _))
   (z03 (ps_ret (pe_and (z0u z9j (pe_ix ix_seq (pe_ix ix_seq (pv 0) (pv 2) (λ _ _=>rfl)) pe_int (λ _ _=>rfl)) pe_non (nomark _)) (pe_one (z0u op_lt (pe_ix ix_seq (pe_ix ix_seq (pv 0) (pv 2) (λ _ _=>rfl)) pe_int (λ _ _=>rfl)) (pe_ix ix_seq (pe_ix ix_seq (pv 0) (pv 3) (λ _ _=>rfl)) pe_int (λ _ _=>rfl)) (nomark _))))))
   z0c)
   (z03 (ps_ret (pe_and (z0u opEq (pv 1) pe_str (nomark _)) (pe_and (z0u op_lt (pv 2) (pv 3) (nomark _)) (pe_one (z0u opEq (pe_ix ix_seq (pe_ix ix_seq (pv 0) (pv 2) (λ _ _=>rfl)) pe_int (λ _ _=>rfl)) (pe_ix ix_seq (pe_ix ix_seq (pv 0) (pv 3) (λ _ _=>rfl)) pe_int (λ _ _=>rfl)) (nomark _)))))))),?_⟩
  have o:c[a]? = some c[a]:=K0 v;have p:c[b]? = some c[b]:=K0 x;obtain ⟨G,q,d,rfl,n⟩:=z0n r o;obtain ⟨J,t,k,rfl,u⟩:=z0n r p;rw [z6g o p] at h
  match m,h with
  | 0,h=>
   refine ⟨_,rfl,rfl,_,rfl,iteP (decide_eq_true rfl) ?_⟩;refine ⟨_,rfl,_,rfl,.inl ⟨l,f,a,.ref d,rfl,rfl,SqL.of g,z05 q,.inl ⟨d,_,6,endV c[a].e,rfl,rfl,SqL.of n,z05 (j:=6) rfl,rfl,_,rfl,?_⟩⟩⟩;cases re:c[a].e with
   | none=>
    refine iteN (by show ¬ (!decide (V.non=V.non))=true;decide) ?_;have:aheadB 0 c[a] c[b]=false:=by show ltO c[a].e c[b].b=_;rw [re];rfl
    rw [this] at h;exact h
   | some e=>
    refine iteP rfl ?_;refine ⟨_,rfl,_,rfl,.inl ⟨l,f,a,.ref d,rfl,rfl,SqL.of g,z05 q,.inl ⟨d,_,6,.int (e:Nat),rfl,rfl,SqL.of n,z05 (j:=6) (by rw [re];rfl),?_⟩⟩⟩;refine ⟨_,rfl,_,rfl,.inl ⟨l,f,b,.ref k,rfl,rfl,SqL.of g,z05 t,.inl ⟨k,_,5,.int (c[b].b:Nat),rfl,rfl,SqL.of u,z05 (j:=5) rfl,e,c[b].b,rfl,rfl,?_⟩⟩⟩;have:aheadB 0 c[a] c[b]=decide (e < c[b].b):=by show ltO c[a].e c[b].b=_;rw [re];rfl
    rw [this,<-dec_lt] at h;exact h
  | 1,h=>
   rw [I.hands o p] at h;refine ⟨_,rfl,rfl,_,rfl,iteN (by decide +kernel) ?_⟩;refine ⟨_,rfl,rfl,_,rfl,iteP (decide_eq_true rfl) ?_⟩;refine ⟨_,rfl,_,rfl,a,b,rfl,rfl,_,rfl,?_⟩;rw [dec_lt];by_cases z:a < b
   ·refine iteP (decide_eq_true z) ?_;refine ⟨_,rfl,_,rfl,.inl ⟨l,f,a,.ref d,rfl,rfl,SqL.of g,z05 q,.inl ⟨d,_,0,.int c[a].h,rfl,rfl,SqL.of n,z05 (j:=0) rfl,?_⟩⟩⟩;refine ⟨_,rfl,_,rfl,.inl ⟨l,f,b,.ref k,rfl,rfl,SqL.of g,z05 t,.inl ⟨k,_,0,.int c[b].h,rfl,rfl,SqL.of u,z05 (j:=0) rfl,rfl,?_⟩⟩⟩;rw [decide_eq_true z,Y6] at h;rw [dec_iI];exact h
   ·refine iteN (by rw [decide_eq_false z];decide) ?_;rw [decide_eq_false z,S7] at h;exact h
  | m + 2,h=>refine ⟨_,rfl,rfl,_,rfl,iteN (show ¬ decide (V.str "bare" = V.str "strict")=true by decide +kernel) ?_⟩;refine ⟨_,rfl,rfl,_,rfl,iteN (show ¬ decide (V.str "bare" = V.str "hands")=true by decide +kernel) ?_⟩;exact h
def z4a (K:j0):Sp:=λ vs H Q _=>∃(t te:Addr) (th:V) (ys:List V) (es:List Ev),vs=[.ref t]/\SqT K H t [th,.ref te]/\SqT K H te ys/\All2 (EvAt K H) es ys/\es.length<=100/\EWf [] es/\
 ∀l zs H',Same H H'->H' l=some (.lst zs)->All2 (ActAt H') (dAll 0 [] es) zs->Q (.ref l) H'
theorem zc8 (T:TX (KX w.params) mg):FnOk P w (KX w.params) mg base CX0 1 385 fd__law_acts ["tale"] (z4a (KX w.params)):=by
 refine (z54 w.params).ok sc__law_acts (λ vs H Q E h=>?_) (λ c9 A c8 s H vs Q E hr h=>?_)
 ·obtain ⟨t,W,th,D,C,rfl,_⟩:=h;rfl
 ·obtain ⟨t,W,th,D,C,rfl,st,se,al,hl,wf,q⟩:=h;refine ⟨_,(z02 (ps_set (i:=1) sc__law_acts.nd rfl (Z0 rfl) (pe_lst pa_nil))
   (z02 (ps_set (i:=2) sc__law_acts.nd rfl (Z0 rfl) z8i)
   (z02 (ps_for U1 rfl (z1c rfl (T.no (z3x _)) (z00 (z09 z12 rfl (T.no (n_len _)) Y3 (z00 (pe_ix ix_seq (pv 0) pe_int (λ _ _=>rfl)) pa_nil)) pa_nil)) (z0j (i:=3) sc__law_acts.nd rfl (Z0 rfl))
   (z02 (ps_set (i:=4) sc__law_acts.nd rfl (Z0 rfl) (pe_ix ix_seq (pe_ix ix_seq (pv 0) pe_int (λ _ _=>rfl)) (pv 3) (λ _ _=>rfl)))
   (z03 (ps_if (z08 opEq (pe_ix ix_seq (pv 4) pe_int (λ _ _=>rfl)) pe_str (nomark _))
   (z02 (zd8 (hu_of hr) (pv 2) (pe_ix ix_seq (pv 4) pe_int (λ _ _=>rfl)) (z09 z12 rfl (T.no (n_len _)) Y3 (z00 (pv 1) pa_nil)) rfl)
   (z03 (z2g (z16 (pv 1) (z00 (pe_lst (z00 (pe_ix ix_seq (pv 4) pe_int (λ _ _=>rfl)) (z00 (pe_ix ix_seq (pv 4) pe_int (λ _ _=>rfl)) (z00 (pe_ix ix_seq (pv 4) pe_int (λ _ _=>rfl)) (z00 (pe_ix ix_seq (pv 4) pe_int (λ _ _=>rfl)) (z00 pe_non (z00 (pv 3) (z00 pe_non pa_nil)))))))) pa_nil)))))
   (z02 (ps_set (i:=5) sc__law_acts.nd rfl (Z0 rfl) (pe_ix ix_seq (pv 1) (zg0 (pv 2) (pe_ix ix_seq (pv 4) pe_int (λ _ _=>rfl)) ⟨rfl,rfl,rfl,rfl⟩) (λ _ _=>rfl)))
   (z02 (ps_asg (pe_ix ix_seq (pv 4) pe_int (λ _ _=>rfl)) (pg_sub (pv 5) pe_int z69))
   (z03 (ps_asg (pv 3) (pg_sub (pv 5) pe_int z69)))))))))
   (z03 (ps_ret (pv 1)))))),?_⟩
  refine ⟨w_0,λ l a7=>?_⟩;intro d a6;have Y:l≠d:=z0a upd_same a6;have a8:H d=none:=by rwa [upd_ne Y.symm] at a6
  have s2:Same H (upd (upd H l (.lst [])) d (.dK [])):=(Same.upd a7).trans (Same.upd a6);have J:upd (upd H l (.lst [])) d (.dK []) l=some (.lst []):=by rw [upd_ne Y];exact upd_same
  have c:upd (upd H l (.lst [])) d (.dK []) d=some (.dK []):=upd_same;generalize upd (upd H l (.lst [])) d (.dK [])=H2 at s2 J c⊢;have b5:=z04 al;have d1:100<=sizeLine:=by decide
  refine ⟨_,rfl,.inr (.inl ⟨t,_,1,.ref W,rfl,rfl,s2.seqT st,z05 (j:=1) rfl,.inl ⟨W,D,rfl,.inr (s2.seqT se),D.length,rfl,by omega,by omega,?_⟩⟩)⟩;refine z4u (lo:=0) (n:=D.length) (λ i σ H'=>∃rs zs kvs os,H' l=some (.lst zs)/\All2 (ActAt H') rs zs/\zs.Nodup/\(∀p,V.ref p∈zs->p≠l/\H p=none)/\H' d=some (.dK kvs)/\kvs.map (·.1)=os.map Sum.inl/\os.length<=i/\rs.length<=i/\(∀h∈os,valV kvs (.inl h)=(lastI h (rs.map Rc.h)).map λ j=>V.int (j:Nat))/\DInv i rs os/\dAll i rs (C.drop i)=dAll 0 [] C/\EWf os (C.drop i)/\Same H H'/\∃x3 x4 x5,σ=[some (.ref t),some (.ref l),some (.ref d),x3,x4,x5])
   ⟨[],[],[],[],J,.nil,.nil,λ _ z=>absurd z x0,c,rfl,F0 _,F0 _,λ _ z=>absurd z x0,.nil,by rw [D4],by rw [D4];exact wf,s2,_,_,_,rfl⟩ ?_ ?_
  ·rintro i σ g hi ⟨rs,zs,kvs,os,el4,ar4,nd,nzl,ed4,ek,ho,hr',hv,I,u,dw,s4,x3,x4,x5,rfl⟩;rw [M7];have b1:i < C.length:=by omega
   have hy:D[i]? = some D[i]:=K0 hi;obtain ⟨e,he,ev⟩:=z0h al hy;obtain ⟨_,ee⟩:=List.getElem?_eq_some_iff.mp he;have dr:C.drop i=e :: C.drop (i + 1):=by rw [j26 b1,ee]
   rw [dr] at u dw;have a4:=EvAt.tups (.of s4) ev;obtain ⟨I1,hI⟩:=I.step dw.1;have d0:i < 100:=L1 b1 hl;have lz:zs.length=rs.length:=z04 ar4;have kl:kvs.length=os.length:=by have:=congrArg D6 ek;simpa using this
   refine g_name ?_;refine ⟨_,rfl,.inr (.inl ⟨t,_,1,.ref W,rfl,rfl,s4.seqT st,z05 (j:=1) rfl,_,rfl,.inr (.inl ⟨W,D,i,D[i],rfl,rfl,s4.seqT se,z05 hy,?_⟩)⟩)⟩;generalize D[i]=y at a4⊢;cases e with
   | beg h n v x=>
    obtain ⟨F,rfl,M⟩:=a4;have c4:h∉os:=dw.1;have c1:(Sum.inl h:Key)∉kvs.map (·.1):=by rw [ek];intro z;obtain ⟨k,G,e⟩:=List.mem_map.mp z;exact c4 (T4 e ▸ G)
    refine ⟨_,rfl,.inr (.inl ⟨F,_,0,.str "begin",rfl,rfl,M,z05 (j:=0) rfl,rfl,_,rfl,iteP (decide_eq_true rfl) ?_⟩)⟩;refine ⟨_,rfl,.inl ⟨l,zs,rfl,.inl (SqL.of el4),⟨_,rfl,⟨_,rfl,.inr (.inl ⟨F,_,1,.int h,rfl,rfl,M,z05 (j:=1) rfl,d,_,rfl,DPut.k (k:=.inl h) ed4 (E1 (m:=100) (by omega) (by decide)),?_⟩)⟩⟩⟩⟩;have U:Tups (KX w.params) g (upd g d (.dK (putK kvs (.inl h) (.int (zs.length:Nat))))):=Tups.dict ed4;have O:=Same.keep (o:=.dK (putK kvs (.inl h) (.int (zs.length:Nat)))) s4 a8;have K:upd g d (.dK (putK kvs (.inl h) (.int (zs.length:Nat)))) l=some (.lst zs):=by rw [upd_ne Y];exact el4
    have a0:upd g d (.dK (putK kvs (.inl h) (.int (zs.length:Nat)))) d=some (.dK (putK kvs (.inl h) (.int (zs.length:Nat)))):=upd_same;have L:All2 (ActAt (upd g d (.dK (putK kvs (.inl h) (.int (zs.length:Nat)))))) rs zs:=z01 (λ a b z=>z.wrote (λ e=>by obtain ⟨p,J,c⟩:=z;rw [J] at e;cases e;rw [ed4] at c;cases c)) ar4;generalize upd g d (.dK (putK kvs (.inl h) (.int (zs.length:Nat))))=H5 at U O K a0 L⊢;have S:=U _ _ M;refine ⟨_,rfl,.inl ⟨rfl,zs,SqL.of K⟩,?_⟩;refine ⟨_,rfl,.inr (.inl ⟨F,_,1,.int h,rfl,rfl,S,z05 (j:=1) rfl,_,rfl,.inr (.inl ⟨F,_,2,n,rfl,rfl,S,z05 (j:=2) rfl,_,rfl,.inr (.inl ⟨F,_,3,v,rfl,rfl,S,z05 (j:=3) rfl,_,rfl,.inr (.inl ⟨F,_,4,x,rfl,rfl,S,z05 (j:=4) rfl,_,rfl,w_7,λ N X=>?_⟩)⟩)⟩)⟩)⟩;have Z:=Same.upd (o:=.lst [.int h,n,v,x,.non,.int (i:Nat),.non]) X;have e6:upd H5 N (.lst [.int h,n,v,x,.non,.int (i:Nat),.non]) N=some (.lst [.int h,n,v,x,.non,.int (i:Nat),.non]):=upd_same;have fr :∀z∈zs,z≠.ref N:=λ z hz e=>by obtain ⟨m,hm⟩:=List.mem_iff_getElem?.mp hz;obtain ⟨_,_,p,J,c⟩:=z0h L hm;rw [J] at e;cases e;rw [X] at c;cases c
    have a9:N≠l:=λ z=>by rw [z,K] at X;cases X
    generalize upd H5 N (.lst [.int h,n,v,x,.non,.int (i:Nat),.non])=H6 at Z e6⊢;have b6:=Z _ _ K;have b9:=Z _ _ a0;have c6:=z01 (λ a b z=>ActAt.same Z z) L;refine ⟨l,zs,_,rfl,rfl,b6,E1 (m:=100) (by omega) (by decide),?_⟩;refine ⟨rs++[⟨h,n,v,x,.non,i,none⟩],zs++[.ref N],putK kvs (.inl h) (.int (zs.length:Nat)),os++[h],upd_same,?_,?_,?_,?_,?_,?_,?_,?_,I1,(show dAll (i + 1) (dstep i rs (.beg h n v x)) _=_ from u),dw.2,Same.keep (O.trans Z) a7,_,_,_,rfl⟩
    ·refine z2l ?_ ⟨N,rfl,by rw [upd_ne a9];exact e6⟩;refine z84 (λ a b R z=>ActAt.wrote (λ e=>(nzl l (e ▸ R)).1 rfl) z) c6
    ·rw [d8];refine ⟨nd,by simp,λ a ha b R=>?_⟩;rw [List.mem_singleton.mp R];exact fr a ha
    ·intro p hz;rcases List.mem_append.mp hz with y|y
     ·exact nzl p y
     ·have e:=List.mem_singleton.mp y;cases e;exact ⟨a9,O.free X⟩
    ·rw [upd_ne Y.symm];exact b9
    ·rw [zar c1,j2,j2,ek];rfl
    ·rw [S0];show os.length + 1<=i + 1;omega
    ·rw [S0];show rs.length + 1<=i + 1;omega
    ·intro k G;rw [z2b,j2];show _=j12 _ (lastI k (rs.map Rc.h++[h]));rw [z4v,M0,lz];by_cases z:h=k
     ·rw [if_pos z,if_pos (by rw [z])];rfl
     ·rw [if_neg z,if_neg (λ y=>z (T4 y).symm)];exact hv k ((List.mem_append.mp G).resolve_right λ y=>z (List.mem_singleton.mp y).symm)
   | fin h a=>
    obtain ⟨F,rfl,M⟩:=a4;have c5:h∈os:=dw.1;obtain ⟨j,hj⟩:=Option.isSome_iff_exists.mp (hI h a rfl);have b7:valV kvs (.inl h)=some (.int (j:Nat)):=by rw [hv h c5,hj];rfl
    have c3:j < rs.length:=by have:=z8p hj;rwa [M0] at this
    have b3:rs[j]? = some rs[j]:=K0 c3;obtain ⟨yj,a1,B,rfl,ej⟩:=z0n ar4 b3;refine ⟨_,rfl,.inr (.inl ⟨F,_,0,.str "end",rfl,rfl,M,z05 (j:=0) rfl,rfl,_,rfl,iteN (by decide +kernel) ?_⟩)⟩;refine ⟨_,rfl,_,rfl,d,rfl,.inl ⟨_,.inl ed4⟩,_,rfl,.inr (.inl ⟨F,_,1,.int h,rfl,rfl,M,z05 (j:=1) rfl,kvs,.inl h,.int (j:Nat),ed4,rfl,b7,?_⟩)⟩;have U:Tups (KX w.params) g (upd g d (.dK (dropK kvs (.inl h)))):=Tups.dict ed4;have O:=Same.keep (o:=.dK (dropK kvs (.inl h))) s4 a8;have K:upd g d (.dK (dropK kvs (.inl h))) l=some (.lst zs):=by rw [upd_ne Y];exact el4
    have a0:upd g d (.dK (dropK kvs (.inl h))) d=some (.dK (dropK kvs (.inl h))):=upd_same;have L:All2 (ActAt (upd g d (.dK (dropK kvs (.inl h))))) rs zs:=z01 (λ a b z=>z.wrote (λ e=>by obtain ⟨p,J,c⟩:=z;rw [J] at e;cases e;rw [ed4] at c;cases c)) ar4;have b2:B≠d:=λ z=>by rw [z,ed4] at ej;cases ej
    have b0:upd g d (.dK (dropK kvs (.inl h))) B=some (.lst [.int rs[j].h,rs[j].n,rs[j].v,rs[j].x,rs[j].a,.int rs[j].b,endV rs[j].e]):=by rw [upd_ne b2];exact ej
    generalize upd g d (.dK (dropK kvs (.inl h)))=H5 at U O K a0 L b0⊢;have S:=U _ _ M;refine .inl ⟨l,zs,j,.ref B,rfl,rfl,SqL.of K,z05 a1,?_⟩;refine ⟨_,rfl,.inr (.inl ⟨F,_,2,a,rfl,rfl,S,z05 (j:=2) rfl,_,rfl,B,_,4,4,rfl,rfl,b0,rfl,?_⟩)⟩;refine ⟨_,rfl,_,rfl,B,_,6,6,rfl,rfl,upd_same,rfl,?_⟩;obtain ⟨c2,c0⟩:=nzl B (T0 a1);have b8:([V.int rs[j].h,rs[j].n,rs[j].v,rs[j].x,rs[j].a,.int rs[j].b,endV rs[j].e].set 4 a).set 6 (.int (i:Nat))=[.int rs[j].h,rs[j].n,rs[j].v,rs[j].x,a,.int rs[j].b,.int (i:Nat)]:=rfl;rw [b8];have hd:dstep i rs (.fin h a)=rs.modify j (λ r=>{ r with a:=a,e:=some i }):=by unfold dstep;dsimp only;rw [hj]
    rw [hd] at I1;have u:dAll (i + 1) (dstep i rs (.fin h a)) (C.drop (i + 1))=_:=u;rw [hd] at u;generalize hH7:upd (upd H5 B (.lst ([V.int rs[j].h,rs[j].n,rs[j].v,rs[j].x,rs[j].a,.int rs[j].b,endV rs[j].e].set 4 a))) B (.lst [.int rs[j].h,rs[j].n,rs[j].v,rs[j].x,a,.int rs[j].b,.int (i:Nat)])=H7;have o7 :∀b,b≠B->H7 b=H5 b:=λ b R=>by rw [<-hH7,upd_ne R,upd_ne R]
    have j7:H7 B=some (.lst [.int rs[j].h,rs[j].n,rs[j].v,rs[j].x,a,.int rs[j].b,.int (i:Nat)]):=by rw [<-hH7];exact upd_same
    refine ⟨rs.modify j (λ r=>{ r with a:=a,e:=some i }),zs,dropK kvs (.inl h),os.filter λ k=>decide (k≠h),by rw [o7 _ c2.symm];exact K,?_,nd,nzl,by rw [o7 _ b2.symm];exact a0,zd9 ek,?_,?_,?_,I1,u,dw.2,?_,_,_,_,rfl⟩
    ·refine z1m (by rw [O7];exact z04 L) λ k r y G a3=>?_;rw [c7] at G;obtain ⟨r',a5,a2⟩:=Option.map_eq_some_iff.mp G;obtain ⟨y2,b4,p2,rfl,c⟩:=z0n L a5;rw [a3] at b4;cases b4;by_cases z:j=k
     ·subst z;rw [a1] at a3;cases a3;rw [if_pos rfl] at a2;rw [b3] at a5;cases a5;subst a2;exact ⟨B,rfl,j7⟩
     ·rw [if_neg z] at a2;subst a2;refine ⟨p2,rfl,?_⟩;rw [o7 p2 (λ e=>z ?_)]
      ·exact c
      ·subst e;have h1:j < zs.length:=(List.getElem?_eq_some_iff.mp a1).1;exact (e8 h1 nd).mp (a1.trans a3.symm)
    ·exact G0 (G2 _ _) (M6 ho)
    ·rw [O7];omega
    ·intro k G;obtain ⟨h1,h2⟩:=List.mem_filter.mp G;have h2:k≠h:=of_decide_eq_true h2;rw [zet (f:=λ r=>{ r with a:=a,e:=some i }) (λ r=>rfl),zd4 (λ e=>h2 (T4 e))];exact hv k h1
    ·intro b o e;rw [o7 b (λ z=>by rw [z,c0] at e;cases e)];exact O b o e
  ·rintro σ H3 ⟨rs,zs,kvs,os,el,ar,_,_,_,_,_,_,_,_,u,_,s3,x3,x4,x5,rfl⟩;have:C.drop D.length=[]:=by rw [b5];exact List.drop_length
   rw [this] at u;have u:rs=dAll 0 [] C:=u;rw [<-u] at q;exact ⟨_,rfl,q l zs H3 s3 el ar⟩
structure DD where
 nm:Str
 k:Str
 vb:Str
 dt:Dt
def RcGd (K:j0) (H:Hp) (ts:List (Str×Str)) (r:Rc) (p:DD):Prop:=r.n=.str p.nm/\r.v=.str p.vb/\(p.nm,p.k)∈ts/\DeedOk p.k p.vb p.dt/\IsDt K H p.dt r.x/\WorthIn H p.dt r.x/\((r.e=none/\r.a=.non)\/(r.e.isSome=true/\AnsV r.a))
theorem RcGd.tt {K:j0} {H H':Hp} {ts:List (Str×Str)} {r:Rc} {p:DD} (t:Tt K H H') (h:RcGd K H ts r p):RcGd K H' ts r p:=⟨h.1,h.2.1,h.2.2.1,h.2.2.2.1,IsDt.mono' t.t _ _ h.2.2.2.2.1,h.2.2.2.2.2.1.tt t,h.2.2.2.2.2.2⟩
theorem zfp {α β:Type} {R:α->β->Prop} {f:α->α} (hf :∀x y,R x y->R (f x) y) :∀{xs:List α} {ys:List β} (j:Nat),All2 R xs ys->All2 R (xs.modify j f) ys
 | _,_,j,.nil=>by cases j<;>exact .nil
 | _,_,0,.cons a r=>.cons (hf _ _ a) r
 | _,_,j + 1,.cons a r=>.cons a (zfp hf j r)
theorem rc_gd {K:j0} {H:Hp} {ts:List (Str×Str)} :∀{es:List Ev} {i:Nat} {rs:List Rc} {ps:List DD},(∀e∈es,EvGd K H ts e)->All2 (RcGd K H ts) rs ps->∃ps',All2 (RcGd K H ts) (dAll i rs es) ps'
 | [],_,_,ps,_,h=>⟨ps,h⟩
 | e :: es,i,rs,ps,g,h=>by
  have b:=g e B1;have c :∀x∈es,EvGd K H ts x:=λ x p=>g x (D1 _ p);cases e with
  | beg hd n v x=>obtain ⟨r,k,d,f,s,t,q,m,l,o⟩:=b;exact rc_gd (es:=es) c (z2l (x:=(⟨hd,n,v,x,.non,i,none⟩:Rc)) (y:=(⟨r,k,d,f⟩:DD)) h ⟨s,t,q,m,l,o,.inl ⟨rfl,rfl⟩⟩)
  | fin hd a=>
   have b:AnsV a:=b;show∃ps',All2 _ (dAll (i + 1) (dstep i rs (.fin hd a)) es) ps';unfold dstep;dsimp only;cases lastI hd (rs.map Rc.h) with
   | none=>exact rc_gd (es:=es) c h
   | some j=>exact rc_gd (es:=es) c (zfp (λ x y z=>⟨z.1,z.2.1,z.2.2.1,z.2.2.2.1,z.2.2.2.2.1,z.2.2.2.2.2.1,.inr ⟨rfl,b⟩⟩) j h)
end
section
noncomputable def nsV (ns:List Nat):List V:=ns.map λ (n:Nat)=>V.int (n:Int)
theorem z1s (ns:List Nat):(nsV ns).length=ns.length:=M0 ..
theorem inV_ns (i:Nat) (ns:List Nat):inV (.int (i:Nat)) (nsV ns)=decide (i∈ns):=by
 unfold inV nsV;rw [j3a,Bool.eq_iff_iff,F8,decide_eq_true_iff];constructor
 ·rintro ⟨n,hn,e⟩;have e:((n:Int))=i:=of_decide_eq_true e;rw [show i=n by omega];exact hn
 ·exact λ h=>⟨i,h,decide_eq_true rfl⟩
theorem z67 (ns:List Nat):(nsV ns).all flatV=true:=by unfold nsV;rw [List.all_map];exact List.all_eq_true.mpr λ _ _=>rfl
theorem zcb {ns:List Nat} {us:List V} (h:All2 (λ (a:Nat) y=>y=V.int (a:Nat)) ns us):us=nsV ns:=by
 induction h with
 | nil=>rfl
 | cons a r ih=>subst a;rw [ih];rfl
noncomputable def srtN (ns:List Nat):List Nat:=ns.mergeSort λ a b=>decide (a<=b)
theorem zd6 (ns:List Nat):(srtN ns).Perm ns:=List.mergeSort_perm ns _
theorem ze3 (ns:List Nat):(srtN ns).Pairwise (·<=·):=by have:=j32 (le:=λ a b:Nat=>decide (a<=b)) (λ a b c e d=>decide_eq_true (G0 (of_decide_eq_true e) (of_decide_eq_true d))) (λ a b=>by rcases Nat.le_total a b with h|h<;>simp [h]) ns;exact this.imp λ h=>of_decide_eq_true h
theorem zj7 {ns':List Int} {xs:List Nat} (p:ns'.Perm (xs.map λ (n:Nat)=>(n:Int))) (s:ns'.Pairwise (·<=·)):ns'.map V.int=nsV (srtN xs):=by
 have e:ns'=(srtN xs).map λ (n:Nat)=>(n:Int):=by refine (p.trans ((zd6 xs).symm.map _)).eq_of_pairwise (le:=(·<=·)) (λ _ _ _ _ d c=>Int.le_antisymm d c) s ?_;exact X8 _ (λ a b h=>Int.ofNat_le.mpr h) (ze3 xs)
 rw [e];unfold nsV;rw [B4];rfl
theorem idx_eq :∀{l:List Str} {x:Str} {i:Nat},l.Nodup->l[i]? = some x->l.idxOf x=i
 | [],_,_,_,h=>by cases h
 | y :: l,x,i,nd,h=>by
  rw [d7] at nd;rw [List.idxOf_cons];cases i with
  | zero=>rw [N3] at h;cases h;rw [beq_self_eq_true];rfl
  | succ i=>rw [X2] at h;have:¬ y=x:=λ z=>nd.1 (z ▸ T0 h);rw [beq_eq_false_iff_ne.mpr this];show l.idxOf x + 1=_;rw [idx_eq nd.2 h]
noncomputable abbrev Pl:=List Nat×List Sv
noncomputable abbrev Stp:=Nat×V×Pl
noncomputable def ixT (ts:List (Str×Str)) (nm:Str):Nat:=(ts.map (·.1)).idxOf nm
noncomputable def stp (ts:List (Str×Str)) (r:Rc) (p:DD) (n:Nat) (pl:Pl):Option Stp:=match pl.2[ixT ts p.nm]? with
 | some s=>if r.e.isNone || decide ((dz p.k p.vb p.dt s).2=r.a) then some (n,(dz p.k p.vb p.dt s).2,(srtN (pl.1++[n]),pl.2.set (ixT ts p.nm) (dz p.k p.vb p.dt s).1)) else none
 | none=>none
noncomputable def nexAt (c:Nat->Bool) (ts:List (Str×Str)) (rs:List Rc) (ps:List DD) (pl:Pl) (n:Nat):Option Stp:=if c n=true then (match rs[n]?,ps[n]? with|some r,some p=>stp ts r p n pl|_,_=>none) else none
noncomputable def nexT (c:Nat->Bool) (ts:List (Str×Str)) (rs:List Rc) (ps:List DD) (pl:Pl) (i:Nat):List Stp:=(J1 i).filterMap (nexAt c ts rs ps pl)
theorem z3r {c:Nat->Bool} {ts:List (Str×Str)} {rs:List Rc} {ps:List DD} {pl:Pl} {i:Nat}:nexT c ts rs ps pl (i + 1)=nexT c ts rs ps pl i++(nexAt c ts rs ps pl i).toList:=by unfold nexT;rw [u6,List.filterMap_append];congr 1
theorem z63 {c:Nat->Bool} {ts:List (Str×Str)} {rs:List Rc} {ps:List DD} {pl:Pl} {i:Nat}:(nexT c ts rs ps pl i).length<=i:=by unfold nexT;exact G0 (j2f _ _) (by rw [Z1];exact F0 _)
theorem zau {c c':Nat->Bool} {ts:List (Str×Str)} {rs:List Rc} {ps:List DD} {pl:Pl} {i:Nat} (h :∀n,n < i->c n=c' n):nexT c ts rs ps pl i=nexT c' ts rs ps pl i:=by
 unfold nexT;have :∀l:List Nat,(∀n∈l,c n=c' n)->l.filterMap (nexAt c ts rs ps pl)=l.filterMap (nexAt c' ts rs ps pl):=λ l=>by
  induction l with
  | nil=>intro _;rfl
  | cons n l ih=>
   intro a;have e:nexAt c ts rs ps pl n=nexAt c' ts rs ps pl n:=by unfold nexAt;rw [a n B1]
   rw [m6,m6,e,ih λ x b=>a x (D1 _ b)]
 exact this _ λ n d=>h n (List.mem_range.mp d)
noncomputable def cO (m:Nat) (rs:List Rc) (ns:List Nat) (n:Nat):Bool:=decide (n∉ns) && decide (∀a∈J1 rs.length,z0i m rs a n=true->a∈ns)
noncomputable def cP (m:Nat) (rs:List Rc) (ns:List Nat) (n:Nat):Bool:=cO m rs ns n && decide (∀b∈J1 rs.length,z0i m rs n b=true->b∉ns)
noncomputable def cM (m:Nat) (rs:List Rc) (ns:List Nat) (n:Nat):Bool:=decide (n∉ns) && decide (∀a∈J1 rs.length,z0i m rs a n=true->(∃r,rs[a]? = some r/\r.e.isSome=true)->a∈ns) && decide (∀b∈ns,z0i m rs n b=false)
def Clo (m:Nat) (rs:List Rc) (ns:List Nat):Prop:=∀b∈ns,∀a,a < rs.length->z0i m rs a b=true->a∈ns
theorem cP_cO {m:Nat} {rs:List Rc} {ns:List Nat} (h:Clo m rs ns) {n:Nat} (hn:n < rs.length):cP m rs ns n=cO m rs ns n:=by
 unfold cP;cases e:cO m rs ns n with
 | false=>rfl
 | true=>refine decide_eq_true λ b _ a z=>?_;have:=of_decide_eq_true (Bool.and_eq_true_iff.mp e).1;exact this (h b z n hn a)
theorem z1h {m:Nat} {rs:List Rc} {a b:Nat} (h:z0i m rs a b=true):a < rs.length/\b < rs.length:=by
 unfold z0i at h;cases ea:rs[a]? with
 | none=>rw [ea] at h;cases h
 | some r=>
  cases eb:rs[b]? with
  | none=>rw [ea,eb] at h;cases h
  | some q=>exact ⟨(List.getElem?_eq_some_iff.mp ea).1,(List.getElem?_eq_some_iff.mp eb).1⟩
theorem zib {i m:Nat} {rs:List Rc} {os:List Int} {a b:Nat} {r:Rc} (I:DInv i rs os) (h:z0i m rs a b=true) (ha:rs[a]? = some r):r.e.isSome=true:=by
 obtain ⟨_,f⟩:=z1h h;have c:rs[b]? = some rs[b]:=K0 f;generalize rs[b]=q at c;rw [z6g ha c] at h
 match m,h with
 | 0,h=>
  have h:ltO r.e q.b=true:=h;cases e:r.e with
  | none=>rw [e] at h;cases h
  | some x=>rfl
 | 1,h=>
  have h:(decide (r.h=q.h) && decide (r.b < q.b))=true:=h;rw [u3,decide_eq_true_iff,decide_eq_true_iff] at h;have d:a < b:=by
   rcases Nat.lt_trichotomy a b with z|z|z
   ·exact z
   ·subst z;rw [ha] at c;cases c;omega
   ·have:=(I.p b a q r z c ha).1;omega
  obtain ⟨x,g,_⟩:=(I.p a b r q d ha c).2 h.1;rw [g];rfl
 | m + 2,h=>cases (show false=true from h)
theorem cM_cP {i m:Nat} {rs:List Rc} {os:List Int} (I:DInv i rs os) {ns:List Nat} (lt :∀x∈ns,x < rs.length) {n:Nat}:cM m rs ns n=cP m rs ns n:=by
 unfold cM cP cO;rw [Bool.eq_iff_iff];simp only [u3,decide_eq_true_iff];constructor
 ·rintro ⟨⟨h1,h2⟩,h3⟩;refine ⟨⟨h1,λ a d h=>h2 a d h ?_⟩,λ b _ c z=>?_⟩
  ·have g:=List.mem_range.mp d;have f:rs[a]? = some rs[a]:=K0 g;exact ⟨_,f,zib I h f⟩
  ·rw [h3 b z] at c;cases c
 ·rintro ⟨⟨h1,h2⟩,h3⟩;refine ⟨⟨h1,λ a d h _=>h2 a d h⟩,λ b c=>?_⟩;cases e:z0i m rs n b with
  | false=>rfl
  | true=>exact absurd c (h3 b (List.mem_range.mpr (lt b c)) e)
structure PlOk (ts:List (Str×Str)) (N n:Nat) (pl:Pl):Prop where
 nd:pl.1.Nodup
 lt :∀x∈pl.1,x < N
 so:All2 (λ (t:Str×Str) s=>SvOk n t.2 s) ts pl.2
 nb:n<=4\/n<=pl.1.length
theorem z3q :∀(n:Nat) (ns:List Nat),ns.Nodup->(∀x∈ns,x < n)->ns.length<=n
 | 0,ns,_,h=>by
  cases ns with
  | nil=>exact F0 _
  | cons x r=>exact absurd (h x B1) (C5 _)
 | n + 1,ns,nd,h=>by
  have:=z3q n (ns.erase n) (nd.erase n) λ x a=>by have a:=(List.Nodup.mem_erase_iff nd).mp a;have:=h x a.2;omega
  by_cases m:n∈ns
  ·rw [List.length_erase_of_mem m] at this;omega
  ·rw [List.erase_of_not_mem m] at this;omega
theorem PlOk.n63 {ts:List (Str×Str)} {N n j:Nat} {pl:Pl} (h:PlOk ts N n pl) (N63:N<=63) (hj:j < N) (nj:j∉pl.1):n < 63/\pl.1.length < 63:=by
 have:=z3q N (j :: pl.1) (List.nodup_cons.mpr ⟨nj,h.nd⟩) λ x a=>by
  rcases List.mem_cons.mp a with z|z
  ·omega
  ·exact h.lt x z
 rw [y1] at this;rcases h.nb with z|z<;>omega
end
section
variable {P:Program} {w:j1} {mg:Str->Option Value} {base:Heap}
theorem lk_eq {f:Str} {v:V} {fs:List (Str×V)}:(putF f v fs).lookup f=some v:=by rw [z3o,if_pos rfl]
theorem lk_ne {f g:Str} {v:V} {fs:List (Str×V)} (h:g≠f):(putF f v fs).lookup g=fs.lookup g:=by rw [z3o,if_neg h]
theorem zdp {x dx:Addr} {o1 o2:HO} {H H':Hp} (hx:H x=none) (hd:H dx=none) (k:Kept x (upd (upd H dx o1) x o2) H'):Same H H':=λ p o e=>by
 have a:p≠x:=λ z=>by rw [z,hx] at e;cases e
 have b:p≠dx:=λ z=>by rw [z,hd] at e;cases e
 exact k p o a (by rw [upd_ne a,upd_ne b];exact e)
theorem z37 {K:j0} {ta tv:TE} {f:Str} {rest:TS} {D:Ends} {σ:L2.St} {H:Hp} (h:tv σ H λ y H1=>ta σ H1 λ x H2=>∃a C dx fs,x=.ref a/\H2 a=some (.ins C dx fs)/\Cls K C/\NoAttr K C f/\fs.length < 1000/\rest D σ (upd H2 a (.ins C dx (putF f y fs)))):tSeq (sFld K ta tv f) rest D σ H:=h
theorem zlg {K:j0} {ta tv:TE} {f:Str} {D:Ends} {σ:L2.St} {H:Hp} (h:tv σ H λ y H1=>ta σ H1 λ x H2=>∃a C dx fs,x=.ref a/\H2 a=some (.ins C dx fs)/\Cls K C/\NoAttr K C f/\fs.length < 1000/\D.nx σ (upd H2 a (.ins C dx (putF f y fs)))):sFld K ta tv f D σ H:=h
theorem zgg (f:Str) (v:V) :∀fs:List (Str×V),(putF f v fs).length<=fs.length + 1
 | []=>F0 _
 | (g,x) :: r=>by
  unfold putF;split
  ·simp
  ·have:=zgg f v r;simp only [y1];omega
theorem z1g {K:j0} {x dx C:Addr} {H H1:Hp} {fs:List (Str×V)} {R:L2.St->Hp->Prop} {σ:L2.St} {f:Str} {y:V} {i n:Nat} (k:Kept x H H1) (e:H1 x=some (.ins C dx fs)) (hv:σ[i]? = some (some (.ref x))) (c:Cls K C) (na:NoAttr K C f) (l:fs.length<=n) (hn:n < 100)
  (q :∀H2,Kept x H H2->(∀b o,b≠x->H1 b=some o->H2 b=some o)->H2 x=some (.ins C dx (putF f y fs))->(putF f y fs).length<=n + 1->R σ H2) :
  tVar i σ H1 λ z H2=>∃a C dx fs,z=.ref a/\H2 a=some (.ins C dx fs)/\Cls K C/\NoAttr K C f/\fs.length < 1000/\R σ (upd H2 a (.ins C dx (putF f y fs))):=
 ⟨_,hv,x,C,dx,fs,rfl,e,c,na,by omega,q _ (k.trans .set) (λ b o g d=>by rw [upd_ne g];exact d) upd_same (G0 (zgg f y fs) (by omega))⟩
theorem ins_tt {K:j0} {x C dx:Addr} {fs:List (Str×V)} {H H':Hp} (e:H x=some (.ins C dx fs)) (k:Kept x H H'):Tt K H H':=by
 refine ⟨λ a b h=>?_,λ a b h=>k _ _ (λ z=>by rw [z,e] at h;cases h) h⟩;rcases h with (h|⟨ob,h⟩)|h
 ·exact .inl (.inl (k _ _ (λ z=>by rw [z,e] at h;cases h) h))
 ·exact .inl (.inr ⟨ob,k _ _ (λ z=>by rw [z,e] at h;cases h) h⟩)
 ·exact .inr h
theorem ziq {ps:List (Nat×Nat)} {q:Nat×Nat->Bool} {f:Nat×Nat->Nat} {us:List V} (h:All2 (λ (i:Nat) y=>∃p,ps[i]? = some p/\y=V.int (f p:Nat)) ((J1 ps.length).filter λ i=>(ps[i]?.map q).getD false) us) :∃as,us=nsV as/\as.length<=ps.length/\∀a,a∈as↔∃p∈ps,q p=true/\f p=a:=by
 refine ⟨((J1 ps.length).filter λ i=>(ps[i]?.map q).getD false).map λ i=>f (ps[i]?.getD (0,0)),?_,?_,λ a=>?_⟩
 ·generalize (J1 ps.length).filter (λ i=>(ps[i]?.map q).getD false)=is at h;induction h with
  | nil=>rfl
  | cons a r ih=>obtain ⟨p,d,b⟩:=a;rw [ih,b,A1,d];rfl
 ·rw [M0];exact G0 (G2 _ _) (by rw [Z1];exact F0 _)
 ·rw [List.mem_map];constructor
  ·rintro ⟨i,c,e⟩;obtain ⟨d,b⟩:=List.mem_filter.mp c;have j:=List.mem_range.mp d;have g:ps[i]? = some ps[i]:=K0 j;rw [g] at b e;exact ⟨_,T0 g,b,e⟩
  ·rintro ⟨p,g,d,b⟩;obtain ⟨i,c⟩:=List.mem_iff_getElem?.mp g;refine ⟨i,List.mem_filter.mpr ⟨List.mem_range.mpr (List.getElem?_eq_some_iff.mp c).1,?_⟩,?_⟩
   ·rw [c];exact d
   ·rw [c];exact b
theorem dec_iN (i j:Nat):decide (V.int (i:Int)=V.int (j:Int))=decide (i=j):=decide_eq_decide.mpr ⟨λ e=>by have:=V.int.inj e;omega,λ e=>by rw [e]⟩
def z1j (K:j0):Sp:=λ vs H Q _=>∃(x dx lp:Addr) (n:Nat) (iv kv y:V) (zs:List V) (ps:List (Nat×Nat)) (r:Rc),vs=[.ref x,.int n,y,iv,kv,.ref lp]/\H x=some (.ins 241 dx [])/\RcAt K H r y/\H lp=some (.lst zs)/\All2 (PairAt H) ps zs/\ps.length<=10000/\
 ∀fs la lb as bs H',Kept x H H'->H' x=some (.ins 241 dx fs)->fs.lookup ("number" : Str)=some (.int n)->fs.lookup ("thing" : Str)=some iv->fs.lookup ("kind" : Str)=some kv->fs.lookup ("verb" : Str)=some r.v->fs.lookup ("worth" : Str)=some r.x->fs.lookup ("answer" : Str)=some r.a->fs.lookup ("aheads" : Str)=some (.ref la)->fs.lookup ("behinds" : Str)=some (.ref lb)->fs.lookup ("may_stand" : Str)=none->H' la=some (.lst (nsV as))->H' lb=some (.lst (nsV bs))->(∀a,a∈as↔(a,n)∈ps)->(∀b,b∈bs↔(n,b)∈ps)->as.length<=10000->bs.length<=10000->H la=none->H lb=none->Q .non H'
theorem zb5 (T:TX (KX w.params) mg):FnOk P w (KX w.params) mg base (CXE P w base) 1 231 fd_Candidate___init__ ["self","number","deed","thing","kind","pairs"] (z1j (KX w.params)):=by
 refine (z1v w.params).okE z3u (λ vs H Q E h=>?_) (λ c2 A c1 s H vs Q E hr h=>?_)
 ·obtain ⟨x,dx,O,n,iv,kv,y,J,C,r,rfl,_⟩:=h;rfl
 ·obtain ⟨x,dx,O,n,iv,kv,y,J,C,r,rfl,D,⟨p,rfl,sq⟩,L,al,pl,q⟩:=h;refine ⟨_,(z02 (ps_fld (pv 0) (pv 1) rfl)
   (z02 (ps_fld (pv 0) (pv 3) rfl)
   (z02 (ps_fld (pv 0) (pv 4) rfl)
   (z02 (ps_fld (pv 0) (pe_ix ix_seq (pv 2) pe_int (λ _ _=>rfl)) rfl)
   (z02 (ps_fld (pv 0) (pe_ix ix_seq (pv 2) pe_int (λ _ _=>rfl)) rfl)
   (z02 (ps_fld (pv 0) (pe_ix ix_seq (pv 2) pe_int (λ _ _=>rfl)) rfl)
   (z02 (ps_fld (pv 0) (z0q (xs:=["ahead","behind"]) (g:=gTup (KX w.params) 2 (gCons (gName 0) (gCons (gName 1) gNil))) (fr:=[(1,"number")]) rfl (z3f (pv 5)) (by intro p d;obtain rfl:=List.mem_singleton.mp d;first|exact ⟨rfl,.inl rfl⟩|exact ⟨rfl,.inr rfl⟩) (z2r (n:="number") (by decide +kernel) (λ _=>by first|exact .inl rfl|exact .inr rfl)) (by intro p d;obtain rfl:=List.mem_singleton.mp d;exact ⟨by decide +kernel,by first|exact .inl rfl|exact .inr rfl⟩) (by decide +kernel) rfl (by decide +kernel) (λ _ _ _ _ _=>(pg_tup rfl (z07 (z0e (N:=["ahead","behind","number"]) 0 (by decide +kernel) rfl rfl) (z07 (z0e (N:=["ahead","behind","number"]) 1 (by decide +kernel) rfl rfl) z0s)))) (λ _ _ _ _ _=>(pf_one (z08 opEq (pv 1) (pv 2) (nomark _)))) (λ _ _ _ _ _=>(pv 0))) rfl)
   (z03 (ps_fld (pv 0) (z0q (xs:=["ahead","behind"]) (g:=gTup (KX w.params) 2 (gCons (gName 0) (gCons (gName 1) gNil))) (fr:=[(1,"number")]) rfl (z3f (pv 5)) (by intro p d;obtain rfl:=List.mem_singleton.mp d;first|exact ⟨rfl,.inl rfl⟩|exact ⟨rfl,.inr rfl⟩) (z2r (n:="number") (by decide +kernel) (λ _=>by first|exact .inl rfl|exact .inr rfl)) (by intro p d;obtain rfl:=List.mem_singleton.mp d;exact ⟨by decide +kernel,by first|exact .inl rfl|exact .inr rfl⟩) (by decide +kernel) rfl (by decide +kernel) (λ _ _ _ _ _=>(pg_tup rfl (z07 (z0e (N:=["ahead","behind","number"]) 0 (by decide +kernel) rfl rfl) (z07 (z0e (N:=["ahead","behind","number"]) 1 (by decide +kernel) rfl rfl) z0s)))) (λ _ _ _ _ _=>(pf_one (z08 opEq (pv 0) (pv 2) (nomark _)))) (λ _ _ _ _ _=>(pv 1))) rfl))))))))),?_⟩
  have a6 :∀{H1 U:Hp} {l:Addr},Kept x H H1->Kept x H1 U->l≠x->U l=none->H l=none:=λ {H1 U l} k k' nl hl=>by
   cases z:H l with
   | none=>rfl
   | some o=>rw [k' l o nl (k l o nl z)] at hl;cases hl
  refine z37 ⟨_,rfl,z1g Kept.refl D rfl (z0b _) (z0t _) (n:=0) (F0 _) (by decide) λ H1 u _ e1 c=>?_⟩;refine z37 ⟨_,rfl,z1g u e1 rfl (z0b _) (z2d _) c (by decide) λ U e _ e2 c=>?_⟩;refine z37 ⟨_,rfl,z1g e e2 rfl (z0b _) (z2w _) c (by decide) λ H3 k3 _ e3 c=>?_⟩;have t3:Tt (KX w.params) H H3:=ins_tt D k3;refine z37 ⟨_,rfl,.inr (.inl ⟨p,_,2,r.v,rfl,rfl,t3.t _ _ sq,z05 (j:=2) rfl,z1g k3 e3 rfl (z0b _) (z2u _) c (by decide) λ H4 k4 _ e4 c=>?_⟩)⟩;refine z37 ⟨_,rfl,.inr (.inl ⟨p,_,3,r.x,rfl,rfl,(ins_tt D k4).t _ _ sq,z05 (j:=3) rfl,z1g k4 e4 rfl (z0b _) (z2f _) c (by decide) λ H5 k5 _ e5 c=>?_⟩)⟩;refine z37 ⟨_,rfl,.inr (.inl ⟨p,_,4,r.a,rfl,rfl,(ins_tt D k5).t _ _ sq,z05 (j:=4) rfl,z1g k5 e5 rfl (z0b _) (z10 _) c (by decide) λ H6 Y _ e6 c=>?_⟩)⟩;have a2:O≠x:=λ z=>by rw [z,D] at L;cases L
  have zl:J.length=C.length:=z04 al;have a7 :∀{W:Hp},Kept x H W->All2 (PairAt W) C J:=λ k=>z01 (λ _ _ z=>z.elim λ b y=>⟨b,y.1,(ins_tt (K:=KX w.params) D k).l _ _ y.2⟩) al;refine z37 ?_;refine z6s (K:=KX w.params) (a:=O) (xs:=J) (H1:=H6) (λ i=>(C[i]?.map λ p=>decide (p.2=n)).getD false) (λ i y _=>∃p,C[i]? = some p/\y=.int (((λ p:Nat×Nat=>p.1) p:Nat):Int)) (λ _ _ _ _ _ z=>z) (λ R h=>⟨_,rfl,h⟩) (SqL.of (Y _ _ a2 L)) (G0 (m:=10000) (by omega) (by decide)) (λ i hi v W s' hv KT KF u e=>?_) λ I H7 us s7 S b1=>?_
  ·obtain ⟨B,d,b,rfl,eb⟩:=z0h (a7 Y) hv;rw [d] at u e;refine ⟨b,_,rfl,SqT.of (s' _ _ eb),rfl,_,_,rfl,_,_,rfl,rfl,[some (.int B.1),some (.int B.2)],rfl,rfl,?_⟩;refine ⟨_,rfl,_,rfl,rfl,_,rfl,?_⟩;rw [dec_iN];exact ite2 (λ z=>⟨_,rfl,u z _ _ (Same.refl _) ⟨B,rfl,rfl⟩⟩) λ z=>e (Bool.eq_false_iff.mpr z) _ (Same.refl _)
  rw [zl] at b1;obtain ⟨G,rfl,c0,b6⟩:=ziq (q:=λ p=>decide (p.2=n)) (f:=λ p=>p.1) b1;have Z:=s7.trans (Same.upd (o:=.lst (nsV G)) S);have a5:upd H7 I (.lst (nsV G)) I=some (.lst (nsV G)):=upd_same;have a1:I≠x:=λ z=>by rw [z,s7 _ _ e6] at S;cases S
  generalize upd H7 I (.lst (nsV G))=H8 at Z a5⊢;refine z1g (Y.trans Z.kept) (Z _ _ e6) rfl (z0b _) (z21 _) c (by decide) λ H9 X b3 e9 c=>?_;have b2:=b3 _ _ a1 a5;refine zlg ?_;refine z6s (K:=KX w.params) (a:=O) (xs:=J) (H1:=H9) (λ i=>(C[i]?.map λ p=>decide (p.1=n)).getD false) (λ i y _=>∃p,C[i]? = some p/\y=.int (((λ p:Nat×Nat=>p.2) p:Nat):Int)) (λ _ _ _ _ _ z=>z) (λ R h=>⟨_,rfl,h⟩) (SqL.of (X _ _ a2 L)) (G0 (m:=10000) (by omega) (by decide)) (λ i hi v W s' hv KT KF u e=>?_) λ F a9 us a0 M a8=>?_
  ·obtain ⟨B,d,b,rfl,eb⟩:=z0h (a7 X) hv;rw [d] at u e;refine ⟨b,_,rfl,SqT.of (s' _ _ eb),rfl,_,_,rfl,_,_,rfl,rfl,[some (.int B.1),some (.int B.2)],rfl,rfl,?_⟩;refine ⟨_,rfl,_,rfl,rfl,_,rfl,?_⟩;rw [dec_iN];exact ite2 (λ z=>⟨_,rfl,u z _ _ (Same.refl _) ⟨B,rfl,rfl⟩⟩) λ z=>e (Bool.eq_false_iff.mpr z) _ (Same.refl _)
  rw [zl] at a8;obtain ⟨bs,rfl,b9,b5⟩:=ziq (q:=λ p=>decide (p.1=n)) (f:=λ p=>p.2) a8;have V:=a0.trans (Same.upd (o:=.lst (nsV bs)) M);have a3:upd a9 F (.lst (nsV bs)) F=some (.lst (nsV bs)):=upd_same;have b0:F≠x:=λ z=>by rw [z,a0 _ _ e9] at M;cases M
  generalize upd a9 F (.lst (nsV bs))=H11 at V a3⊢;refine z1g (X.trans V.kept) (V _ _ e9) rfl (z0b _) (z1r _) c (by decide) λ b4 b7 a4 b8 c=>?_;refine q _ I F G bs b4 b7 b8 ((lk_ne (by decide +kernel)).trans ((lk_ne (by decide +kernel)).trans ((lk_ne (by decide +kernel)).trans ((lk_ne (by decide +kernel)).trans ((lk_ne (by decide +kernel)).trans ((lk_ne (by decide +kernel)).trans ((lk_ne (by decide +kernel)).trans lk_eq))))))) ((lk_ne (by decide +kernel)).trans ((lk_ne (by decide +kernel)).trans ((lk_ne (by decide +kernel)).trans ((lk_ne (by decide +kernel)).trans ((lk_ne (by decide +kernel)).trans ((lk_ne (by decide +kernel)).trans lk_eq)))))) ((lk_ne (by decide +kernel)).trans ((lk_ne (by decide +kernel)).trans ((lk_ne (by decide +kernel)).trans ((lk_ne (by decide +kernel)).trans ((lk_ne (by decide +kernel)).trans lk_eq))))) ((lk_ne (by decide +kernel)).trans ((lk_ne (by decide +kernel)).trans ((lk_ne (by decide +kernel)).trans ((lk_ne (by decide +kernel)).trans lk_eq)))) ((lk_ne (by decide +kernel)).trans ((lk_ne (by decide +kernel)).trans ((lk_ne (by decide +kernel)).trans lk_eq))) ((lk_ne (by decide +kernel)).trans ((lk_ne (by decide +kernel)).trans lk_eq)) ((lk_ne (by decide +kernel)).trans lk_eq) lk_eq ((lk_ne (by decide +kernel)).trans ((lk_ne (by decide +kernel)).trans ((lk_ne (by decide +kernel)).trans ((lk_ne (by decide +kernel)).trans ((lk_ne (by decide +kernel)).trans ((lk_ne (by decide +kernel)).trans ((lk_ne (by decide +kernel)).trans ((lk_ne (by decide +kernel)).trans rfl)))))))) (a4 _ _ a1 (V _ _ b2)) (a4 _ _ b0 a3) (λ a=>(b6 a).trans ⟨λ ⟨p,h1,h2,h3⟩=>?_,λ h=>⟨_,h,decide_eq_true rfl,rfl⟩⟩) (λ b=>(b5 b).trans ⟨λ ⟨p,h1,h2,h3⟩=>?_,λ h=>⟨_,h,decide_eq_true rfl,rfl⟩⟩) (by omega) (by omega) (a6 Y (s7.kept (r:=x)) a1 S) (a6 X (a0.kept (r:=x)) b0 M)
  ·rw [<-h3,<-of_decide_eq_true h2];exact h1
  ·rw [<-h3,<-of_decide_eq_true h2];exact h1
def CaAt (H:Hp) (m:Nat) (rs:List Rc) (ts:List (Str×Str)) (n:Nat) (r:Rc) (p:DD) (y:V):Prop:=∃x dx fs la lb as bs,y=.ref x/\H x=some (.ins 241 dx fs)/\fs.lookup ("number" : Str)=some (.int (n:Nat))/\fs.lookup ("thing" : Str)=some (.int (ixT ts p.nm:Nat))/\fs.lookup ("kind" : Str)=some (.str p.k)/\fs.lookup ("verb" : Str)=some r.v/\fs.lookup ("worth" : Str)=some r.x/\fs.lookup ("answer" : Str)=some r.a/\fs.lookup ("aheads" : Str)=some (.ref la)/\fs.lookup ("behinds" : Str)=some (.ref lb)/\fs.lookup ("may_stand" : Str)=none/\H la=some (.lst (nsV as))/\H lb=some (.lst (nsV bs))/\(∀a,a∈as↔z0i m rs a n=true)/\(∀b,b∈bs↔z0i m rs n b=true)/\as.length<=10000/\bs.length<=10000
theorem CaAt.same {H H':Hp} {m:Nat} {rs:List Rc} {ts:List (Str×Str)} {n:Nat} {r:Rc} {p:DD} {y:V} (s:Same H H') (h:CaAt H m rs ts n r p y):CaAt H' m rs ts n r p y:=by obtain ⟨x,d,fs,e,l,t,bs,z,a,q,v,c,b,k,u,j,g,w,f,o,i⟩:=h;exact ⟨x,d,fs,e,l,t,bs,z,s _ _ a,q,v,c,b,k,u,j,g,w,s _ _ f,s _ _ o,i⟩
def z1f (K:j0):Sp:=λ vs H Q _=>∃(y:V) (pa:Addr) (m n:Nat) (rs:List Rc) (ts:List (Str×Str)) (r:Rc) (p:DD) (ns:List Nat),vs=[y,.ref pa]/\CaAt H m rs ts n r p y/\SqT K H pa (nsV ns)/\Q (.bl (cP m rs ns n)) H
theorem z3b (T:TX (KX w.params) mg):FnOk P w (KX w.params) mg base CX0 1 238 fd_Candidate_may_stand ["self","done"] (z1f (KX w.params)):=by
 refine (z1k w.params).ok sc_Candidate_may_stand (λ W H Q E h=>?_) (λ a1 A a0 s H W Q E hr h=>?_)
 ·obtain ⟨y,f,m,n,o,X,r,p,d,rfl,_⟩:=h;rfl
 ·obtain ⟨y,f,m,n,o,X,r,p,d,rfl,⟨x,v,fs,M,O,t,bs,rfl,B,f1,f2,f3,f4,f5,f6,U,Y,f9,I,R,J,N,al,bl⟩,D,q⟩:=h;refine ⟨_,(z02 (ps_if (z08 z24 (pe_fld (pv 0) rfl) (pv 1) (by with_unfolding_all rfl))
   (z03 (ps_ret pe_bl))
   z0c)
   (z02 (ps_for U1 rfl (z3f (pe_fld (pv 0) rfl)) (z0j (i:=2) sc_Candidate_may_stand.nd rfl (Z0 rfl))
   (z03 (ps_if (z08 z1u (pv 2) (pv 1) (by with_unfolding_all rfl))
   (z03 (ps_ret pe_bl))
   z0c)))
   (z02 (ps_for U1 rfl (z3f (pe_fld (pv 0) rfl)) (z0j (i:=3) sc_Candidate_may_stand.nd rfl (Z0 rfl))
   (z03 (ps_if (z08 z24 (pv 3) (pv 1) (by with_unfolding_all rfl))
   (z03 (ps_ret pe_bl))
   z0c)))
   (z03 (ps_ret pe_bl))))),?_⟩
  refine sq_if ?_;refine ⟨_,rfl,x,_,v,fs,_,rfl,B,z0b _,z0t _,f1,_,rfl,f,_,rfl,.inr D,rfl,z67 _,_,rfl,?_⟩;have q:=λ b (h:b=cP m o d n)=>(show Q (.bl b) H from h ▸ q)
  by_cases z1:n∈d
  ·refine iteP ?_ (q _ ?_)
   ·rw [inV_ns];exact decide_eq_true z1
   ·unfold cP cO;rw [decide_eq_false (λ h=>h z1)];rfl
  refine iteN (λ h=>z1 (of_decide_eq_true (by rw [inV_ns] at h;exact h))) ?_;refine t_nx ?_;have L :∀{t:List Nat} {j:Nat} {y:V},(nsV t)[j]? = some y->∃a,t[j]? = some a/\y=.int (a:Nat):=λ h=>by unfold nsV at h;rw [W0] at h;obtain ⟨a,h1,S⟩:=Option.map_eq_some_iff.mp h;exact ⟨a,h1,S.symm⟩
  refine ⟨_,rfl,x,_,v,fs,_,rfl,B,z0b _,z21 _,U,M,rfl,⟨_,SqL.of I⟩,?_⟩;refine z62 (K:=KX w.params) (a:=M) (xs:=nsV t) (λ i σ g=>g=H/\(∀k a,k < i->t[k]? = some a->a∈d)/\∃x2 x3,σ=[some (.ref x),some (.ref f),x2,x3]) ⟨rfl,λ k a c=>absurd c (C5 _),_,_,rfl⟩ (λ _ σ g _ h=>by rw [h.1];exact SqL.of I) ?_ ?_
  ·rintro j y σ g C ⟨rfl,fj,x2,x3,rfl⟩;obtain ⟨a,l,rfl⟩:=L C;refine g_name ⟨_,rfl,_,rfl,f,_,rfl,.inr D,rfl,z67 _,_,rfl,?_⟩;by_cases z2:a∈d
   ·refine iteN (λ h=>?_) ⟨rfl,λ k F c e=>?_,_,_,rfl⟩
    ·rw [inV_ns,decide_eq_true z2] at h;cases h
    ·by_cases z:k=j
     ·subst z;rw [l] at e;cases e;exact z2
     ·exact fj k F (by omega) e
   ·refine iteP ?_ (q _ ?_)
    ·rw [inV_ns,decide_eq_false z2];rfl
    ·have h:=(J a).mp (T0 l);unfold cP cO;rw [decide_eq_false (p:=∀a∈J1 o.length,z0i m o a n=true->a∈d) (λ G=>z2 (G a (List.mem_range.mpr (z1h h).1) h)),L6,S7]
  rintro σ g ⟨rfl,fj,x2,x3,rfl⟩;refine t_nx ?_;have Z:cO m o d n=true:=by unfold cO;rw [u3,decide_eq_true_iff,decide_eq_true_iff];refine ⟨z1,λ a _ h=>?_⟩;obtain ⟨k,c⟩:=List.mem_iff_getElem?.mp ((J a).mpr h);exact fj k a (by rw [z1s];exact (List.getElem?_eq_some_iff.mp c).1) c
  refine ⟨_,rfl,x,_,v,fs,_,rfl,B,z0b _,z1r _,Y,O,rfl,⟨_,SqL.of R⟩,?_⟩;refine z62 (K:=KX w.params) (a:=O) (xs:=nsV bs) (λ i σ u=>u=g/\(∀k a,k < i->bs[k]? = some a->a∉d)/\∃x2 x3,σ=[some (.ref x),some (.ref f),x2,x3]) ⟨rfl,λ k a c=>absurd c (C5 _),_,_,rfl⟩ (λ _ σ u _ h=>by rw [h.1];exact SqL.of R) ?_ ?_
  ·rintro j y σ u C ⟨rfl,gj,x2,x3,rfl⟩;obtain ⟨a,l,rfl⟩:=L C;refine g_name ⟨_,rfl,_,rfl,f,_,rfl,.inr D,rfl,z67 _,_,rfl,?_⟩;by_cases z2:a∈d
   ·refine iteP ?_ (q _ ?_)
    ·rw [inV_ns];exact decide_eq_true z2
    ·have h:=(N a).mp (T0 l);unfold cP;rw [decide_eq_false (λ G=>G a (List.mem_range.mpr (z1h h).2) h z2),L6]
   ·refine iteN (λ h=>?_) ⟨rfl,λ k F c e=>?_,_,_,rfl⟩
    ·rw [inV_ns] at h;exact z2 (of_decide_eq_true h)
    ·by_cases z:k=j
     ·subst z;rw [l] at e;cases e;exact z2
     ·exact gj k F (by omega) e
  rintro σ u ⟨rfl,gj,x2,x3,rfl⟩;refine t_nx (q _ ?_);unfold cP;rw [Z,Y6];refine (decide_eq_true λ b _ h=>?_).symm;obtain ⟨k,c⟩:=List.mem_iff_getElem?.mp ((N b).mpr h);exact gj k b (by rw [z1s];exact (List.getElem?_eq_some_iff.mp c).1) c
theorem zgp {X:Cx} {K:j0} (hK:X.K=K):OpR X (P2 .In) (rIn K false):=hK ▸ z24
def PlZ (K:j0) (H:Hp) (p:Addr) (pl:Pl):Prop:=∃pa pb vs,SqT K H p [.ref pa,.ref pb]/\SqT K H pa (nsV pl.1)/\SqT K H pb vs/\All2 (StZ K H) pl.2 vs
theorem PlZ.tups {K:j0} {H H':Hp} {p:Addr} {pl:Pl} (t:Tups K H H') (h:PlZ K H p pl):PlZ K H' p pl:=by obtain ⟨b,f,c,g,a,d,e⟩:=h;exact ⟨b,f,c,t _ _ g,t _ _ a,t _ _ d,z01 (λ _ _ z=>StZ.tups t z) e⟩
def StpZ (K:j0) (H:Hp) (s:Stp) (y:V):Prop:=∃b p,y=.ref b/\SqT K H b [.int (s.1:Nat),s.2.1,.ref p]/\PlZ K H p s.2.2
theorem StpZ.tups {K:j0} {H H':Hp} {s:Stp} {y:V} (t:Tups K H H') (h:StpZ K H s y):StpZ K H' s y:=by obtain ⟨b,p,d,a,c⟩:=h;exact ⟨b,p,d,t _ _ a,c.tups t⟩
structure ThW (ts:List (Str×Str)):Prop where
 n6:ts.length<=6
 nd:(ts.map (·.1)).Nodup
 ks :∀t∈ts,t.2∈kinds5
theorem ThOk.thw {ts:List (Str×Str)} (h:ThOk ts):ThW ts:=⟨h.n6,h.nd,h.ks⟩
theorem zkc {H:Hp} {k:Str} (hk:k∈kinds5) :∃v,kl_FIRST_STATES.lookup k=some v/\StZ (KX w.params) H (zeroK k) v:=by
 have b:SqT (KX w.params) H 88 []:=.inr ⟨⟨.type "tuple",none,.seq #[] 0,#[]⟩,#[],0,by kernel_rfl,rfl,rfl,by decide,.nil⟩;have a:SqT (KX w.params) H 89 []:=.inr ⟨⟨.type "tuple",none,.seq #[] 0,#[]⟩,#[],0,by kernel_rfl,rfl,rfl,by decide,.nil⟩;unfold kinds5 at hk;simp only [N0,x0,or_false] at hk;unfold zeroK;rcases hk with rfl|rfl|rfl|rfl|rfl
 ·exact ⟨.int 0,by decide +kernel,by rw [if_neg (by decide +kernel)];rfl⟩
 ·exact ⟨.int 0,by decide +kernel,by rw [if_neg (by decide +kernel)];rfl⟩
 ·exact ⟨.ref 88,by decide +kernel,by rw [if_pos (by decide +kernel)];exact ⟨_,rfl,b⟩⟩
 ·exact ⟨.ref 89,by decide +kernel,by rw [if_pos (by decide +kernel)];exact ⟨_,rfl,a⟩⟩
 ·exact ⟨.int 0,by decide +kernel,by rw [if_neg (by decide +kernel)];rfl⟩
def TaleAt (K:j0) (H:Hp) (t:Addr) (ts:List (Str×Str)) (es:List Ev):Prop:=∃pt te ys,H t=some (.tup [.ref pt,.ref te])/\ThAt H pt ts/\H te=some (.tup ys)/\All2 (EvAt K H) es ys
theorem TaleAt.tt {K:j0} {H H':Hp} {t:Addr} {ts:List (Str×Str)} {es:List Ev} (x:Tt K H H') (h:TaleAt K H t ts es):TaleAt K H' t ts es:=by obtain ⟨pt,c,d,e,f,a,b⟩:=h;exact ⟨pt,c,d,x.l _ _ e,f.tt x,x.l _ _ a,z01 (λ _ _ z=>EvAt.tups x.t z) b⟩
theorem ixT_at {ts:List (Str×Str)} (ok:ThW ts) {t:Str×Str} {i:Nat} (h:ts[i]? = some t):ixT ts t.1=i:=idx_eq ok.nd (by rw [W0,h];rfl)
theorem ixT_of {ts:List (Str×Str)} (ok:ThW ts) {nm k:Str} (h:(nm,k)∈ts):ts[ixT ts nm]? = some (nm,k):=by obtain ⟨i,a⟩:=List.mem_iff_getElem?.mp h;rw [show ixT ts nm=i from ixT_at ok a];exact a
theorem set_sl {K:j0} {σ:L2.St} {H:Hp} {Q:VK} {t1 t2 ti tv tj:TE} {pb:Addr} {vs:List V} {i:Nat} {v:V} (h1 :∀(H':Hp) (R:VK),Same H H'->R (.ref pb) H'->t1 σ H' R) (h2 :∀(H':Hp) (R:VK),Same H H'->R (.ref pb) H'->t2 σ H' R) (hi :∀(H':Hp) (R:VK),Same H H'->R (.int (i:Nat)) H'->ti σ H' R) (hv :∀(H':Hp) (R:VK),Same H H'->R v H'->tv σ H' R) (hj :∀(H':Hp) (R:VK),Same H H'->R (.int ((i:Int) + 1)) H'->tj σ H' R)
  (sq:SqT K H pb vs) (il:i < vs.length) (l9:vs.length<=90) (q :∀p5 H',Same H H'->SqT K H' p5 (vs.set i v)->Q (.ref p5) H') :
  tOp (λ x y H Q=>rCatS K x y H Q\/rCatT K x y H Q) (tOp (λ x y H Q=>rCatS K x y H Q\/rCatT K x y H Q) (tSl (λ x lo hi H Q=>rSlL K x lo hi H Q\/rSlT K x lo hi H Q\/rSlS x lo hi H Q) t1 zg7 (tPart ti)) (tTup (tCons tv tNil))) (tSl (λ x lo hi H Q=>rSlL K x lo hi H Q\/rSlT K x lo hi H Q\/rSlS x lo hi H Q) t2 (tPart tj) zg7) σ H Q:=by
 refine h1 _ _ (Same.refl _) (hi _ _ (Same.refl _) ⟨i,rfl,.inr (.inl ⟨pb,vs,rfl,sq,λ z=>?_,λ e F=>?_⟩)⟩)
 ·have:=z.2;rw [HT.sIx_nat] at this;omega
 have A:cutV vs none (some (i:Int))=vs.take i:=by unfold cutV;rw [HT.sIx_none,HT.sIx_nat,D4,Nat.sub_zero,Nat.min_eq_left (by omega)]
 have j:=Same.upd (o:=.tup (cutV vs none (some (i:Int)))) F;have t:upd H e (.tup (cutV vs none (some (i:Int)))) e=some (.tup (vs.take i)):=by rw [upd_same,A]
 generalize upd H e (.tup (cutV vs none (some (i:Int))))=H1 at j t⊢;refine hv _ _ j ⟨w_1,λ g B=>?_⟩;have h:=Same.upd (o:=.tup [v]) B;have r:upd H1 g (.tup [v]) g=some (.tup [v]):=upd_same;generalize upd H1 g (.tup [v])=H2 at h r⊢;refine .inl ⟨e,g,vs.take i,[v],rfl,rfl,SqT.of (h _ _ t),SqT.of r,by simp,G0 (m:=100) (by rw [P6];show _ + 1<=100;omega) (by decide),λ s k w C=>?_⟩;have a:Same H k:=(j.trans h).trans w;refine h2 _ _ a (hj _ _ a ⟨_,rfl,.inr (.inl ⟨pb,vs,rfl,a.seqT sq,λ z=>?_,λ b E=>?_⟩)⟩)
 ·have:=z.1;rw [show (i:Int) + 1=((i + 1:Nat):Int) from rfl,HT.sIx_nat] at this;omega
 have u:cutV vs (some ((i:Int) + 1)) none=vs.drop (i + 1):=by unfold cutV;rw [show (i:Int) + 1=((i + 1:Nat):Int) from rfl,HT.sIx_none,HT.sIx_nat,Nat.min_eq_left (by omega)];exact N8 (by rw [B8];exact F0 _)
 have f:=Same.upd (o:=.tup (cutV vs (some ((i:Int) + 1)) none)) E;have l:upd k b (.tup (cutV vs (some ((i:Int) + 1)) none)) b=some (.tup (vs.drop (i + 1))):=by rw [upd_same,u]
 generalize upd k b (.tup (cutV vs (some ((i:Int) + 1)) none))=H4 at f l⊢;have d:vs.take i++[v]++vs.drop (i + 1)=vs.set i v:=by rw [List.set_eq_take_append_cons_drop,if_pos il,M5];rfl
 have c:=f.seqT C;have p:(vs.take i++[v]).length + (vs.drop (i + 1)).length<=sizeLine:=G0 (m:=100) (by rw [<-S0,d,j15];omega) (by decide);by_cases hd:vs.drop (i + 1)=[]
 ·refine .inr ⟨s,b,_,_,rfl,rfl,c,SqT.of l,by simp,p,λ _=>?_,λ z=>absurd hd z⟩;rw [hd,W2] at d;rw [d] at c;exact q _ _ (a.trans f) c
 ·refine .inl ⟨s,b,_,_,rfl,rfl,c,SqT.of l,hd,p,λ p5 G D n=>?_⟩;rw [d] at n;exact q _ _ ((a.trans f).trans D) n
theorem z91 {α β:Type} {R:α->β->Prop} {xs:List α} {ys:List β} {x:α} {y:β} (h:All2 R xs ys) (hx:R x y) :∀i,All2 R (xs.set i x) (ys.set i y):=by
 induction h with
 | nil=>intro i;exact .nil
 | cons a r ih=>
  intro i;cases i with
  | zero=>exact .cons hx r
  | succ i=>exact .cons a (ih i)
noncomputable def stq (ts:List (Str×Str)) (p:DD) (n:Nat) (pl:Pl) (s:Sv):Stp:=(n,(dz p.k p.vb p.dt s).2,(srtN (pl.1++[n]),pl.2.set (ixT ts p.nm) (dz p.k p.vb p.dt s).1))
theorem stp_of {ts:List (Str×Str)} {r:Rc} {p:DD} {n:Nat} {pl:Pl} {s:Sv} (h:pl.2[ixT ts p.nm]? = some s):stp ts r p n pl=if r.e.isNone || decide ((dz p.k p.vb p.dt s).2=r.a) then some (stq ts p n pl s) else none:=by unfold stp;rw [h];rfl
def z9i (K:j0):Sp:=λ vs H Q _=>∃(y:V) (pp:Addr) (m n k N:Nat) (rs:List Rc) (ts:List (Str×Str)) (r:Rc) (p:DD) (pl:Pl),vs=[y,.ref pp]/\CaAt H m rs ts n r p y/\RcGd K H ts r p/\ThW ts/\PlZ K H pp pl/\PlOk ts N k pl/\N<=63/\n < N/\n∉pl.1/\
 ∀s b q H',pl.2[ixT ts p.nm]? = some s->SvOk k p.k s->Same H H'->H' b=some (.tup [.int (n:Nat),(dz p.k p.vb p.dt s).2,.ref q])->StpZ K H' (stq ts p n pl s) (.ref b)->Q (.ref b) H'
theorem zh8 (T:TX (KX w.params) mg) (c0:Cal P w (KX w.params) mg base "do" ["kind","state","verb","worth"] 5 (sp_do (KX w.params))):FnOk P w (KX w.params) mg base CX0 6 292 fd_step_of ["candidate","place"] (z9i (KX w.params)):=by
 refine (z8f w.params).ok sc_step_of (λ d H Q E h=>?_) (λ c2 A c3 s H d Q E hr h=>?_)
 ·obtain ⟨y,W,m,n,k,N,rs,t,r,p,a,rfl,_⟩:=h;rfl
 ·obtain ⟨y,W,m,n,k,N,rs,t,r,p,a,rfl,⟨x,e,fs,la,lb,as,bs,rfl,f,f1,f2,f3,Y,f5,f6,f7,f8,f9,ea,eb,ma,mb,al,bl⟩,gd,ok,⟨pa,pb,d,sp,sa,sb,sz⟩,L,a9,hn,nn,q⟩:=h;refine ⟨_,(z02 (ps_set (i:=2) sc_step_of.nd rfl (Z0 rfl) (pe_fld (pv 0) rfl))
   (z02 (ps_set (i:=3) sc_step_of.nd rfl (Z0 rfl) (pe_ix ix_seq (pv 1) pe_int (λ _ _=>rfl)))
   (z02 (ps_set (i:=4) sc_step_of.nd rfl (Z0 rfl) (pe_cal c0 (hr.mono (by decide)) rfl (z00 (pe_fld (pv 0) rfl) (z00 (pe_ix ix_seq (pv 3) (pv 2) (λ _ _=>rfl)) (z00 (pe_fld (pv 0) rfl) (z00 (pe_fld (pv 0) rfl) pa_nil))))))
   (z02 (ps_set (i:=5) sc_step_of.nd rfl (Z0 rfl) (z0k z0f rfl (T.no (z0y _)) B3 (z00 (z09 z2t rfl (T.no (z47 _)) G7 (z00 (pe_op op_catS (pe_ix ix_seq (pv 1) pe_int (λ _ _=>rfl)) (pe_tup (z00 (pe_fld (pv 0) rfl) pa_nil))) pa_nil)) pa_nil)))
   (z03 (ps_ret (pe_tup (z00 (pe_fld (pv 0) rfl) (z00 (pe_ix ix_seq (pv 4) pe_int (λ _ _=>rfl)) (z00 (pe_tup (z00 (pv 5) (z00 (pe_op (op_catS.or z5s) (pe_op (op_catS.or z5s) (z1i slSeq (pv 3) z3k (z2e (pv 2))) (pe_tup (z00 (pe_ix ix_seq (pv 4) pe_int (λ _ _=>rfl)) pa_nil))) (z1i slSeq (pv 3) (z2e (pe_op opAdd (pv 2) pe_int)) z3k)) pa_nil))) pa_nil)))))))))),?_⟩
  obtain ⟨g1,g2,hm,dk,ix,wi,ga⟩:=gd;have b0:=ixT_of ok hm;obtain ⟨s,hs,so⟩:=z0n L.so b0;obtain ⟨v,hv,hz⟩:=z0n sz hs;obtain ⟨b3,c4⟩:=L.n63 a9 hn nn;have vl:d.length=a.2.length:=z04 sz;have sl:a.2.length=t.length:=z04 L.so;have it:ixT t p.nm < d.length:=(List.getElem?_eq_some_iff.mp hv).1;rw [g2] at Y;refine ⟨_,rfl,x,_,e,fs,_,rfl,f,z0b _,z2d _,f2,?_⟩;refine g_name (t_nx ?_);refine ⟨_,rfl,.inr (.inl ⟨W,_,1,.ref pb,rfl,rfl,sp,z05 (j:=1) rfl,?_⟩)⟩;refine g_name (t_nx ?_);refine ⟨_,rfl,x,_,e,fs,_,rfl,f,z0b _,z2w _,f3,?_⟩;refine ⟨_,rfl,_,rfl,.inr (.inl ⟨pb,d,_,v,rfl,rfl,sb,z05 hv,?_⟩)⟩;refine ⟨_,rfl,x,_,e,fs,_,rfl,f,z0b _,z2u _,Y,?_⟩;refine ⟨_,rfl,x,_,e,fs,_,rfl,f,z0b _,z2f _,f5,?_⟩;refine do_can (w:=w) (E:=E0) so hz b3 dk ix wi λ p6 M S K e6 a8=>?_;refine g_name (t_nx ?_);refine z0x ?_;refine ⟨_,rfl,.inr (.inl ⟨W,_,0,.ref pa,rfl,rfl,K.seqT sp,z05 (j:=0) rfl,?_⟩)⟩;refine ⟨_,rfl,x,_,e,fs,_,rfl,K _ _ f,z0b _,z0t _,f1,w_1,λ D a4=>?_⟩;have X:=K.trans (Same.upd (o:=.tup [.int (n:Nat)]) a4);have u7:=Same.upd (o:=.tup [.int (n:Nat)]) a4;have e7:upd S D (.tup [.int (n:Nat)]) D=some (.tup [.int (n:Nat)]):=upd_same;generalize upd S D (.tup [.int (n:Nat)])=H7 at X u7 e7⊢;refine ⟨pa,D,nsV a.1,[.int (n:Nat)],rfl,rfl,X.seqT sa,SqT.of e7,by simp,G0 (m:=100) (by rw [z1s];show _ + 1<=100;omega) (by decide),λ b2 H8 r8 Z=>?_⟩;rw [show nsV a.1++[.int (n:Nat)]=((a.1++[n]).map λ (n:Nat)=>(n:Int)).map V.int by unfold nsV;rw [B4,j2];rfl] at Z;refine ⟨b2,_,rfl,.inr Z,by rw [M0,S0];show _ + 1 < 64;omega,λ I c1 a6 pm pw=>?_⟩;rw [zj7 pm pw];have r9:=Same.upd (o:=.lst (nsV (srtN (a.1++[n])))) a6;have e9:upd H8 I (.lst (nsV (srtN (a.1++[n])))) I=some (.lst (nsV (srtN (a.1++[n])))):=upd_same;generalize upd H8 I (.lst (nsV (srtN (a.1++[n]))))=H9 at r9 e9⊢;refine ⟨I,_,rfl,.inl ⟨SqL.of e9,λ c b8=>?_⟩⟩;have a0:=Same.upd (o:=.tup (nsV (srtN (a.1++[n])))) b8;have a3:upd H9 c (.tup (nsV (srtN (a.1++[n])))) c=some (.tup (nsV (srtN (a.1++[n])))):=upd_same;generalize upd H9 c (.tup (nsV (srtN (a.1++[n]))))=H10 at a0 a3⊢;refine g_name ?_;have J:Same S H10:=((u7.trans r8).trans r9).trans a0;have C:=K.trans J;refine sq_ret ?_;refine ⟨_,rfl,x,_,e,fs,_,rfl,C _ _ f,z0b _,z0t _,f1,?_⟩;refine ⟨_,rfl,.inr (.inl ⟨p6,_,1,_,rfl,rfl,SqT.of (J _ _ e6),z05 (j:=1) rfl,?_⟩)⟩;refine ⟨_,rfl,z8b (set_sl (i:=ixT t p.nm) (v:=M) (λ F R l h=>⟨_,rfl,h⟩) (λ F R l h=>⟨_,rfl,h⟩) (λ F R l h=>⟨_,rfl,h⟩) (λ F R l h=>⟨_,rfl,.inr (.inl ⟨p6,_,0,M,rfl,rfl,SqT.of (l _ _ (J _ _ e6)),z05 (j:=0) rfl,h⟩)⟩) (λ F R l h=>⟨_,rfl,.inl ⟨_,1,rfl,rfl,h⟩⟩) (C.seqT sb) it (by have:=ok.n6;omega) λ u a1 b7 a7=>?_)⟩;refine ⟨w_2,λ b b9=>⟨w_3,λ g a2=>?_⟩⟩;have U:=Same.upd (o:=.tup [.ref c,.ref u]) b9;have a5:upd a1 b (.tup [.ref c,.ref u]) b=some (.tup [.ref c,.ref u]):=upd_same;generalize upd a1 b (.tup [.ref c,.ref u])=H12 at U a5 a2⊢;have G:=Same.upd (o:=.tup [.int (n:Nat),(dz p.k p.vb p.dt s).2,.ref b]) a2;have O:upd H12 g (.tup [.int (n:Nat),(dz p.k p.vb p.dt s).2,.ref b]) g=some (.tup [.int (n:Nat),(dz p.k p.vb p.dt s).2,.ref b]):=upd_same;generalize upd H12 g (.tup [.int (n:Nat),(dz p.k p.vb p.dt s).2,.ref b])=H13 at G O⊢;have B:Same H10 H13:=(b7.trans U).trans G;refine q s g b H13 hs so (C.trans B) O ⟨g,b,rfl,SqT.of O,c,u,d.set (ixT t p.nm) M,SqT.of (G _ _ a5),SqT.of (B _ _ a3),(U.trans G).seqT a7,z91 (z01 (λ _ _ z=>StZ.tups (.of (C.trans B)) z) sz) (a8.tups (.of (J.trans B))) _⟩
def EndL (rs:List Rc) (es:List Nat):Prop:=es.length<=rs.length/\∀n,n∈es↔∃r,rs[n]? = some r/\r.e.isSome=true
def z1o (K:j0):Sp:=λ vs H Q _=>∃(l:Addr) (zs:List V) (rs:List Rc),vs=[.ref l]/\H l=some (.lst zs)/\All2 (RcAt K H) rs zs/\rs.length<=100/\
 ∀le es H',Same H H'->H' le=some (.lst (nsV es))->EndL rs es->Q (.ref le) H'
theorem z7a (T:TX (KX w.params) mg):FnOk P w (KX w.params) mg base CX0 1 297 fd_ended_numbers ["told"] (z1o (KX w.params)):=by
 refine (z25 w.params).ok z68 (λ O H Q E h=>?_) (λ S A U s H O Q E W h=>?_)
 ·obtain ⟨l,k,f,rfl,_⟩:=h;rfl
 ·obtain ⟨l,k,f,rfl,F,o,X,q⟩:=h;refine ⟨_,(z03 (ps_ret (z0q (xs:=["number","deed"]) (g:=gTup (KX w.params) 2 (gCons (gName 0) (gCons (gName 1) gNil))) (fr:=[]) rfl (z6w rfl (T.no (z1n _)) (z00 (pv 0) pa_nil)) (λ _ z=>absurd z x0) (z1b rfl) (λ _ z=>absurd z x0) (by decide +kernel) rfl (by decide +kernel) (λ _ _ _ _ _=>(pg_tup rfl (z07 (z0e (N:=["number","deed"]) 0 (by decide +kernel) rfl rfl) (z07 (z0e (N:=["number","deed"]) 1 (by decide +kernel) rfl rfl) z0s)))) (λ _ _ _ _ _=>(pf_one (z08 z9j (pe_ix (z5r (K:=KX w.params) rfl) (pv 1) pe_int (λ _ _=>rfl)) pe_non (nomark _)))) (λ _ _ _ _ _=>(pv 0))))),?_⟩;have t:k.length=f.length:=z04 o;refine sq_ret ?_;refine zi0 (K:=KX w.params) (a:=l) (xs:=k) (H1:=H) (λ i=>(f[i]?.map λ r=>r.e.isSome).getD false) (λ i y _=>y=.int (i:Nat)) (λ _ _ _ _ _ z=>z) (λ R h=>⟨_,rfl,h⟩) (SqL.of F) (G0 (m:=100) (by omega) (by decide)) ?_ ?_
  ·intro i Y v G d B KT KF c b;obtain ⟨x,J,u,rfl,I⟩:=B;obtain ⟨r,M,p,rfl,D⟩:=z0h o u;rw [M] at c b;refine ⟨J,_,rfl,SqT.of I,rfl,_,_,rfl,_,_,rfl,rfl,[some (.int (i:Nat)),some (.ref p)],rfl,rfl,?_⟩;refine ⟨_,rfl,.inr (.inl ⟨p,_,6,endV r.e,rfl,rfl,d.seqT D,z05 (j:=6) rfl,rfl,_,rfl,?_⟩)⟩;have c:=λ z=>c (show r.e.isSome=true from z);have b:=λ z=>b (show r.e.isSome=false from z);cases re:r.e with
   | none=>exact iteN (by show ¬ (!decide (V.non=V.non))=true;decide) (b (by rw [re];rfl) _ (Same.refl _))
   | some e=>exact iteP rfl ⟨_,rfl,c (by rw [re];rfl) _ _ (Same.refl _) rfl⟩
  intro le G Z d L C;rw [zcb C];refine q le _ _ (d.trans (Same.upd L)) upd_same ⟨?_,λ n=>?_⟩
  ·exact G0 (G2 _ _) (by rw [Z1,t];exact F0 _)
  ·rw [j14,j1g,t];constructor
   ·rintro ⟨h1,h2⟩;rw [K0 h1] at h2;exact ⟨_,K0 h1,h2⟩
   ·rintro ⟨r,h1,h2⟩;exact ⟨(List.getElem?_eq_some_iff.mp h1).1,by rw [h1];exact h2⟩
def z6u (K:j0):Sp:=λ vs H Q _=>∃(pa le:Addr) (ns es:List Nat),vs=[.ref pa,.ref le]/\SqT K H pa (nsV ns)/\H le=some (.lst (nsV es))/\es.length<=100/\∀b H',Same H H'->(b=true↔∀n∈es,n∈ns)->Q (.bl b) H'
theorem zc3 (T:TX (KX w.params) mg):FnOk P w (KX w.params) mg base CX0 1 302 fd_holds_all ["done","numbers"] (z6u (KX w.params)):=by
 refine (z5e w.params).ok zbd (λ F H Q E h=>?_) (λ W A X s H F Q E Z h=>?_)
 ·obtain ⟨B,le,C,k,rfl,_⟩:=h;rfl
 ·obtain ⟨B,le,C,k,rfl,U,M,a0,q⟩:=h;refine ⟨_,(z03 (ps_ret (z09 (zd7 rfl) rfl (T.no (n_all _)) boot_all (z00 (z0q (xs:=["number"]) (g:=gName 0) (fr:=[(0,"done")]) rfl (z3f (pv 1)) (by intro p l;obtain rfl:=List.mem_singleton.mp l;first|exact ⟨rfl,.inl rfl⟩|exact ⟨rfl,.inr rfl⟩) (z2r (n:="done") (by decide +kernel) (λ _=>by first|exact .inl rfl|exact .inr rfl)) (by intro p l;obtain rfl:=List.mem_singleton.mp l;exact ⟨by decide +kernel,by first|exact .inl rfl|exact .inr rfl⟩) (by decide +kernel) rfl (by decide +kernel) (λ _ _ _ _ _=>(z0e (N:=["number","done"]) 0 (by decide +kernel) rfl rfl)) (λ _ _ _ _ _=>pf_nil) (λ _ _ _ _ _=>(z0u (zgp (K:=KX w.params) rfl) (pv 0) (pv 1) (by with_unfolding_all rfl)))) pa_nil)))),?_⟩;refine sq_ret (e_cb1 ?_);refine z6s (K:=KX w.params) (a:=le) (xs:=nsV k) (H1:=H) (λ _=>true) (λ i y _=>∃n,k[i]? = some n/\y=.bl (decide (n∈C))) (λ _ _ _ _ _ z=>z) (λ R h=>⟨_,rfl,h⟩) (SqL.of M) (G0 (m:=100) (by rw [z1s];omega) (by decide)) ?_ ?_
  ·intro i b v S r f KT KF O Y;unfold nsV at f;rw [W0] at f;obtain ⟨n,c,rfl⟩:=Option.map_eq_some_iff.mp f;refine ⟨[some (.int (n:Nat))],rfl,rfl,iteT ?_⟩;refine ⟨_,rfl,_,rfl,B,_,rfl,.inr (r.seqT U),rfl,z67 _,?_⟩;exact O rfl _ _ (Same.refl _) ⟨n,c,by rw [<-inV_ns];rfl⟩
  intro L S t r G d;rw [List.filter_eq_self.mpr (λ _ _=>rfl),z1s] at d;have J:=z04 d;rw [Z1] at J;refine ⟨L,t,rfl,SqL.of upd_same,λ y o=>?_,q _ _ (r.trans (Same.upd G)) ?_⟩
  ·obtain ⟨i,b⟩:=List.mem_iff_getElem?.mp o;obtain ⟨j,_,n,_,e⟩:=z0h d b;exact ⟨_,e⟩
  ·rw [G8];constructor
   ·intro h n c;obtain ⟨i,b⟩:=List.mem_iff_getElem?.mp c;have I:=(List.getElem?_eq_some_iff.mp b).1;have D:t[i]? = some t[i]:=K0 (by omega);obtain ⟨j,u,n',x,e⟩:=z0h d D;rw [z7 I] at u;cases u;rw [b] at x;cases x;have:=of_decide_eq_true (h _ (T0 D));rw [e] at this;exact of_decide_eq_true (V.bl.inj this)
   ·intro h y o;obtain ⟨i,b⟩:=List.mem_iff_getElem?.mp o;obtain ⟨j,_,n,c,e⟩:=z0h d b;rw [e,decide_eq_true (h n (T0 c))];exact decide_eq_true rfl
theorem zdj {K:j0} {H:Hp} {ts:List (Str×Str)} {vs:List V} (al:All2 (λ (i:Nat) y=>∃t,ts[i]? = some t/\StZ K H (zeroK t.2) y) (J1 ts.length) vs):All2 (StZ K H) (ts.map λ t=>zeroK t.2) vs:=by have c:=z04 al;rw [Z1] at c;refine z1m (by rw [M0,c]) λ i z v b g=>?_;rw [W0] at b;obtain ⟨t,d,rfl⟩:=Option.map_eq_some_iff.mp b;obtain ⟨j,a,h,e,f⟩:=z0h al g;rw [z7 (List.getElem?_eq_some_iff.mp d).1] at a;cases a;rw [d] at e;cases e;exact f
def z2m (K:j0):Sp:=λ vs H Q _=>∃(t:Addr) (ts:List (Str×Str)) (es:List Ev),vs=[.ref t]/\TaleAt K H t ts es/\ThW ts/\∀p H',Same H H'->PlZ K H' p ([],ts.map λ t=>zeroK t.2)->Q (.ref p) H'
theorem z8h (T:TX (KX w.params) mg) (c0:Cal P w (KX w.params) mg base "first_state" ["kind"] 2 z4j):FnOk P w (KX w.params) mg base CX0 3 307 fd_first_place ["tale"] (z2m (KX w.params)):=by
 refine (z35 w.params).ok z8z (λ c H Q E h=>?_) (λ a4 A a6 s H c Q E W h=>?_)
 ·obtain ⟨t,J,U,rfl,_⟩:=h;rfl
 ·obtain ⟨t,J,U,rfl,⟨pt,te,ys,X,⟨yt,a1,x⟩,a7,al⟩,ok,q⟩:=h;refine ⟨_,(z03 (ps_ret (pe_tup (z00 (pe_tup pa_nil) (z00 (z0k z0f rfl (T.no (z0y _)) B3 (z00 (z0q (xs:=["name","kind"]) (g:=gTup (KX w.params) 2 (gCons (gName 0) (gCons (gName 1) gNil))) (fr:=[]) rfl (pi_tup (pe_ix ix_seq (pv 0) pe_int (λ _ _=>rfl))) (λ _ z=>absurd z x0) (z1b rfl) (λ _ z=>absurd z x0) (by decide +kernel) rfl (by decide +kernel) (λ _ _ _ _ _=>(pg_tup rfl (z07 (z0e (N:=["name","kind"]) 0 (by decide +kernel) rfl rfl) (z07 (z0e (N:=["name","kind"]) 1 (by decide +kernel) rfl rfl) z0s)))) (λ _ _ _ _ _=>pf_nil) (λ _ _ _ _ _=>(pe_cal c0 (W.mono (by decide)) rfl (z00 (pv 1) pa_nil)))) pa_nil)) pa_nil))))),?_⟩;refine sq_ret ?_;refine ⟨w_0,λ e Z=>?_⟩;have f:=Same.upd (o:=.tup []) Z;have O:upd H e (.tup []) e=some (.tup []):=upd_same;generalize upd H e (.tup [])=H3 at f O⊢;refine z8b (e_cb1 ?_);refine z0z (K:=KX w.params) (a:=pt) (xs:=yt) (H1:=H3) (λ _=>true) (λ i y Y=>∃t,J[i]? = some t/\StZ (KX w.params) Y (zeroK t.2) y) (λ _ _ _ _ s ⟨t,h1,h2⟩=>⟨t,h1,h2.tups (.of s)⟩) (λ R h=>⟨_,rfl,.inr (.inl ⟨t,_,0,.ref pt,rfl,rfl,SqT.of (f _ _ X),z05 (j:=0) rfl,h⟩)⟩) (f.seqT (SqT.of a1)) (G0 (m:=6) (by rw [z04 x];exact ok.n6) (by decide)) ?_ ?_
  ·intro i hi v k l r KT KF k1 k2;obtain ⟨t,I,b,rfl,eb⟩:=z0h x r;have V:=(f.trans l) _ _ eb;obtain ⟨v,r,hz⟩:=zkc (w:=w) (H:=k) (ok.ks t (T0 I));refine ⟨b,_,rfl,SqT.of V,rfl,_,_,rfl,_,_,rfl,rfl,[some (.str t.1),some (.str t.2)],rfl,rfl,iteT ?_⟩;exact ⟨_,rfl,t.2,v,rfl,r,k1 rfl _ _ (Same.refl _) ⟨t,I,hz⟩⟩
  intro n k c l S L;rw [List.filter_eq_self.mpr (λ _ _=>rfl),z04 x] at L;have F:=Same.upd (o:=.lst c) S;have C:upd k n (.lst c) n=some (.lst c):=upd_same;generalize upd k n (.lst c)=H5 at F C⊢;refine ⟨n,c,rfl,.inl ⟨SqL.of C,λ d a2=>?_⟩⟩;have D:=Same.upd (o:=.tup c) a2;have M:upd H5 d (.tup c) d=some (.tup c):=upd_same;generalize upd H5 d (.tup c)=H6 at D M⊢;refine ⟨w_2,λ p a3=>?_⟩;have B:=Same.upd (o:=.tup [.ref e,.ref d]) a3;have G:upd H6 p (.tup [.ref e,.ref d]) p=some (.tup [.ref e,.ref d]):=upd_same;generalize upd H6 p (.tup [.ref e,.ref d])=H7 at B G⊢;have u:Same k H7:=(F.trans D).trans B;exact q p H7 ((f.trans l).trans u) ⟨e,d,c,SqT.of G,SqT.of ((l.trans u) _ _ O),SqT.of (B _ _ M),zdj (z01 (λ _ _ z=>z.elim λ t y=>⟨t,y.1,y.2.tups (.of u)⟩) L)⟩
noncomputable def hide (r:Addr) (H:Hp):Hp:=λ p=>if p=r then none else H p
theorem zcu {r p:Addr} {H:Hp} {o:HO} (n:p≠r) (e:H p=some o):hide r H p=some o:=by unfold hide;rw [if_neg n];exact e
theorem zde {r:Addr} {H:Hp}:Same (hide r H) H:=λ p o e=>by
 unfold hide at e;by_cases z:p=r
 ·rw [if_pos z] at e;cases e
 ·rw [if_neg z] at e;exact e
theorem zl3 {r p:Addr} {H:Hp} {o:HO} (e:hide r H p=some o):p≠r:=λ z=>by unfold hide at e;rw [if_pos z] at e;cases e
theorem zic {r:Addr} {H H':Hp} (s:Same H H'):Same (hide r H) (hide r H'):=λ p o e=>zcu (zl3 e) (s _ _ (zde _ _ e))
theorem zjv {l:Addr} {H:Hp} {o:HO}:hide l (upd H l o)=hide l H:=by
 funext q;unfold hide;by_cases z:q=l
 ·rw [if_pos z,if_pos z]
 ·rw [if_neg z,if_neg z,upd_ne z]
theorem zcs {ts:List (Str×Str)} {f:Str×Str->Str} {us:List V} (h:All2 (λ (i:Nat) y=>∃t,ts[i]? = some t/\y=V.str (f t)) (J1 ts.length) us):us=ts.map λ t=>V.str (f t):=by
 have b:=z04 h;rw [Z1] at b;apply i8;intro i;rw [W0];cases hu:us[i]? with
 | none=>rw [E5 (by have:=List.getElem?_eq_none_iff.mp hu;omega)];rfl
 | some y=>obtain ⟨j,a,t,d,c⟩:=z0h h hu;rw [z7 (by have:=(List.getElem?_eq_some_iff.mp hu).1;omega)] at a;cases a;rw [d,c];rfl
def CaL (H:Hp) (m:Nat) (rs:List Rc) (ts:List (Str×Str)) (ps:List DD) (cs:List V):Prop:=∀n r p y,rs[n]? = some r->ps[n]? = some p->cs[n]? = some y->CaAt H m rs ts n r p y
def z2y (K:j0):Sp:=λ vs H Q _=>∃(x dx t:Addr) (ts:List (Str×Str)) (es:List Ev) (ps:List DD) (m:Nat),vs=[.ref x,.ref t,.str (z0w m)]/\H x=some (.ins 281 dx [])/\TaleAt K H t ts es/\ThW ts/\es.length<=63/\EWf [] es/\All2 (RcGd K H ts) (dAll 0 [] es) ps/\
 ∀fs lc cs H',Kept x H H'->H' x=some (.ins 281 dx fs)->fs.lookup ("candidates" : Str)=some (.ref lc)->fs.lookup ("steps_from" : Str)=none->H' lc=some (.lst cs)->cs.length=(dAll 0 [] es).length->CaL H' m (dAll 0 [] es) ts ps cs->Q .non H'
theorem zkh (T:TX (KX w.params) mg) (c0:Cal P w (KX w.params) mg base "has_to" ["tale","strictness"] 2 (zcy (KX w.params))) (c1:Cal P w (KX w.params) mg base "deeds" ["tale"] 1 (z8g (KX w.params))) (c2:Cal P w (KX w.params) mg base "first_place" ["tale"] 3 (z2m (KX w.params))) (c3:Cal P w (KX w.params) mg base "ended_numbers" ["told"] 1 (z1o (KX w.params))) (c4:FnOk P w (KX w.params) mg base (CXE P w base) 1 231 fd_Candidate___init__ ["self","number","deed","thing","kind","pairs"] (z1j (KX w.params))):FnOk P w (KX w.params) mg base (CXE P w base) 5 257 fd_Board___init__ ["self","tale","strictness"] (z2y (KX w.params)):=by
 refine (z3h w.params).okE sc_Board___init__ (λ vs H Q E h=>?_) (λ k8 A k6 s H vs Q E hr h=>?_)
 ·obtain ⟨x,dx,t,c,G,ps,m,rfl,_⟩:=h;rfl
 ·obtain ⟨x,dx,t,c,G,ps,m,rfl,ex,ta,ok,l2,wf,gd,q⟩:=h;refine ⟨_,(z02 (ps_set (i:=3) sc_Board___init__.nd rfl (Z0 rfl) (pe_cal c0 (hr.mono (by decide)) rfl (z00 (pv 1) (z00 (pv 2) pa_nil))))
   (z02 (ps_set (i:=4) sc_Board___init__.nd rfl (Z0 rfl) (pe_cal c1 (hr.mono (by decide)) rfl (z00 (pv 1) pa_nil)))
   (z02 (ps_fld (pv 0) (z0q (xs:=["name","kind"]) (g:=gTup (KX w.params) 2 (gCons (gName 0) (gCons (gName 1) gNil))) (fr:=[]) rfl (pi_tup (pe_ix ix_seq (pv 1) pe_int (λ _ _=>rfl))) (λ _ z=>absurd z x0) (z1b rfl) (λ _ z=>absurd z x0) (by decide +kernel) rfl (by decide +kernel) (λ _ _ _ _ _=>(pg_tup rfl (z07 (z0e (N:=["name","kind"]) 0 (by decide +kernel) rfl rfl) (z07 (z0e (N:=["name","kind"]) 1 (by decide +kernel) rfl rfl) z0s)))) (λ _ _ _ _ _=>pf_nil) (λ _ _ _ _ _=>(pv 1))) rfl)
   (z02 (ps_fld (pv 0) (pe_cal c2 (hr.mono (by decide)) rfl (z00 (pv 1) pa_nil)) rfl)
   (z02 (ps_fld (pv 0) (pe_cal c3 (hr.mono (by decide)) rfl (z00 (pv 4) pa_nil)) rfl)
   (z02 (ps_fld (pv 0) (pe_lst pa_nil) rfl)
   (z02 (z6m (i:=5) sc_Board___init__.nd rfl (Z0 rfl) (xs:=["name","kind"]) (g:=gTup (KX w.params) 2 (gCons (gName 0) (gCons (gName 1) gNil))) (fr:=[]) rfl (pi_tup (pe_ix ix_seq (pv 1) pe_int (λ _ _=>rfl))) (λ _ z=>absurd z x0) (z1b rfl) (λ _ z=>absurd z x0) (by decide +kernel) rfl (by decide +kernel) (λ _ _ _ _ _=>(pg_tup rfl (z07 (z0e (N:=["name","kind"]) 0 (by decide +kernel) rfl rfl) (z07 (z0e (N:=["name","kind"]) 1 (by decide +kernel) rfl rfl) z0s)))) (λ _ _ _ _ _=>pf_nil) (λ _ _ _ _ _=>(pv 0)))
   (z03 (PS.nox (ps_for U1 rfl (z6w rfl (T.no (z1n _)) (z00 (pv 4) pa_nil)) (pg_tup rfl (z07 (z0j (i:=6) sc_Board___init__.nd rfl (Z0 rfl)) (z07 (z0j (i:=7) sc_Board___init__.nd rfl (Z0 rfl)) z0s)))
   (z02 (ps_set (i:=8) sc_Board___init__.nd rfl (Z0 rfl) (zbo (pv 5) (z00 (pe_ix ix_seq (pv 7) pe_int (λ _ _=>rfl)) pa_nil)))
   (z03 (z2g (z16 (pe_fld (pv 0) rfl) (z00 (ziu (zcg _) c4 (hr.mono (by decide)) rfl (T.of (zel _)) (z3z _) .nil passN (z00 (pv 6) (z00 (pv 7) (z00 (pv 8) (z00 (pe_ix ix_seq (pe_fld (pv 0) rfl) (pv 8) (λ _ _=>rfl)) (z00 (pv 3) pa_nil)))))) pa_nil))))))))))))))),?_⟩
  obtain ⟨pt,te,ys,et,⟨yt,f0,X⟩,d2,al⟩:=id ta;obtain ⟨dw,os,DI⟩:=DInv.all DInv.nil wf;have rl:(dAll 0 [] G).length<=63:=by have:=z38 (i:=0) (rs:=[]) G;simp only [m3,j4] at this;omega
  refine ⟨_,rfl,_,rfl,t,te,.ref pt,ys,G,m,rfl,SqT.of et,SqT.of d2,al,by omega,dw,λ lp zp H1 s1 l0 c7 ap=>?_⟩;refine g_name (t_nx ?_);refine ⟨_,rfl,t,te,.ref pt,ys,G,rfl,s1.seqT (SqT.of et),s1.seqT (SqT.of d2),z01 (λ _ _ z=>EvAt.tups (.of s1) z) al,by omega,dw,λ lt zt C s2 l1 W ar=>?_⟩;refine g_name (t_nx ?_);have Y:=s1.trans s2;generalize dAll 0 [] G=rs at *;have zl:zt.length=rs.length:=z04 ar;have pl:=z5c (m:=m) (rs:=rs) rs.length;have pm:rs.length * rs.length<=63 * 63:=Nat.mul_le_mul rl rl;have g9 :∀{a:Addr} {o:HO} {I:Hp},I x=some (.ins 281 dx [])->I a=some o->(∀d f,o≠.ins 281 d f)->a≠x:=λ e1 e2 n z=>by rw [z,e1] at e2;cases e2;exact n _ _ rfl
  have a3:=Y _ _ ex;have j5:lp≠x:=g9 a3 (s2 _ _ c7) λ _ _ z=>by cases z
  have c5:lt≠x:=g9 a3 W λ _ _ z=>by cases z
  refine z37 ?_;refine z0z (K:=KX w.params) (a:=pt) (xs:=yt) (H1:=C) (λ _=>true) (λ i y _=>∃t,c[i]? = some t/\y=.str t.2) (λ _ _ _ _ s z=>z) (λ R h=>⟨_,rfl,.inr (.inl ⟨t,_,0,.ref pt,rfl,rfl,SqT.of (Y _ _ et),z05 (j:=0) rfl,h⟩)⟩) (Y.seqT (SqT.of f0)) (G0 (m:=6) (by rw [z04 X];exact ok.n6) (by decide)) ?_ ?_
  ·intro i hi v H3 s3 hv KT KF k1 k2;obtain ⟨t,ht,b,rfl,eb⟩:=z0h X hv;refine ⟨b,_,rfl,SqT.of ((Y.trans s3) _ _ eb),rfl,_,_,rfl,_,_,rfl,rfl,[some (.str t.1),some (.str t.2)],rfl,rfl,iteT ?_⟩;exact ⟨_,rfl,k1 rfl _ _ (Same.refl _) ⟨t,ht,rfl⟩⟩
  intro L H3 us s3 c8 d8;rw [List.filter_eq_self.mpr (λ _ _=>rfl),z04 X] at d8;rw [zcs (f:=λ t=>t.2) d8];have b2:=s3.trans (Same.upd (o:=.lst (c.map λ t=>V.str t.2)) c8);have b8:upd H3 L (.lst (c.map λ t=>V.str t.2)) L=some (.lst (c.map λ t=>V.str t.2)):=upd_same;have g6:L≠x:=λ z=>by rw [z,s3 _ _ a3] at c8;cases c8
  generalize upd H3 L (.lst (c.map λ t=>V.str t.2))=H4 at b2 b8⊢;have s4:=Y.trans b2;refine z1g s4.kept (s4 _ _ ex) rfl (z3l _) (z4g _) (n:=0) (F0 _) (by decide) λ H5 k5 g4 e5 O=>?_;refine z37 ?_;refine ⟨_,rfl,t,c,G,rfl,ta.tt (ins_tt ex k5),ok,λ p0 H6 s6 pz=>?_⟩;refine z1g (k5.trans s6.kept) (s6 _ _ e5) rfl (z3l _) (z8l _) O (by decide) λ H7 k7 d7 e7 O=>?_;refine z37 ?_;have a7:Kept x C H7:=(b2.kept.trans g4).trans (s6.kept.trans d7);have i8:Tt (KX w.params) C H7:=ins_tt a3 a7;refine ⟨_,rfl,lt,zt,rs,rfl,a7 _ _ c5 W,z01 (λ _ _ z=>RcAt.tups i8.t z) ar,by omega,λ le en H8 s8 k3 EL=>?_⟩;refine z1g (k7.trans s8.kept) (s8 _ _ e7) rfl (z3l _) (z8d _) O (by decide) λ H9 k9 b5 e9 O=>?_;refine z37 ⟨w_0,λ u a6=>?_⟩;have a0:=Same.upd (o:=.lst []) a6;have d4:upd H9 u (.lst []) u=some (.lst []):=upd_same;have a8:u≠x:=λ z=>by rw [z,e9] at a6;cases a6
  generalize upd H9 u (.lst [])=H10 at a0 d4⊢;refine z1g (k9.trans a0.kept) (a0 _ _ e9) rfl (z3l _) (z11 _) O (by decide) λ b9 d6 b4 g8 O=>?_;have e6:=b4 _ _ a8 d4;have i0:Kept x C b9:=(a7.trans (s8.kept.trans b5)).trans (a0.kept.trans b4);have b6:Tt (KX w.params) H b9:=ins_tt ex d6;refine z0x ?_;refine z0z (K:=KX w.params) (a:=pt) (xs:=yt) (H1:=b9) (λ _=>true) (λ i y _=>∃t,c[i]? = some t/\y=.str t.1) (λ _ _ _ _ s z=>z) (λ R h=>⟨_,rfl,.inr (.inl ⟨t,_,0,.ref pt,rfl,rfl,SqT.of (b6.l _ _ et),z05 (j:=0) rfl,h⟩)⟩) (b6.t _ _ (SqT.of f0)) (G0 (m:=6) (by rw [z04 X];exact ok.n6) (by decide)) ?_ ?_
  ·intro i hi v b7 a5 hv KT KF k1 k2;obtain ⟨t,ht,b,rfl,eb⟩:=z0h X hv;refine ⟨b,_,rfl,SqT.of (a5 _ _ (b6.l _ _ eb)),rfl,_,_,rfl,_,_,rfl,rfl,[some (.str t.1),some (.str t.2)],rfl,rfl,iteT ?_⟩;exact ⟨_,rfl,k1 rfl _ _ (Same.refl _) ⟨t,ht,rfl⟩⟩
  intro J b7 us a5 a1 g5;rw [List.filter_eq_self.mpr (λ _ _=>rfl),z04 X] at g5;rw [zcs (f:=λ t=>t.1) g5];have U:=a5.trans (Same.upd (o:=.lst (c.map λ t=>V.str t.1)) a1);have g0:upd b7 J (.lst (c.map λ t=>V.str t.1)) J=some (.lst (c.map λ t=>V.str t.1)):=upd_same;have j8:J≠x:=λ z=>by rw [z,a5 _ _ g8] at a1;cases a1
  have i7:J≠u:=λ z=>by rw [z,a5 _ _ e6] at a1;cases a1
  generalize upd b7 J (.lst (c.map λ t=>V.str t.1))=HB at U g0⊢;refine g_name ?_;have eB:=U _ _ g8;have d3:=U _ _ e6;have kB:Kept x H HB:=d6.trans U.kept;have b0:Kept x C HB:=i0.trans U.kept;have b3:C u=none:=by
   cases z:C u with
   | none=>rfl
   | some o=>have:=((a7.trans (s8.kept.trans b5))) _ _ a8 z;rw [a6] at this;cases this
  have i6:H u=none:=Y.free b3;have h9:lt≠u:=λ z=>by rw [z,b3] at W;cases W
  have h5:lp≠u:=λ z=>by have:=s2 _ _ c7;rw [z,b3] at this;cases this
  have w5:Kept x H4 H5:=g4;have g7:Kept x H4 H9:=(w5.trans (s6.kept.trans d7)).trans (s8.kept.trans b5);have i9:L≠u:=λ z=>by have h:=g7 _ _ g6 b8;rw [z,a6] at h;cases h
  have j7:HB L=some (.lst (c.map λ t=>V.str t.2)):=((g7.trans (a0.kept.trans b4)).trans U.kept) _ _ g6 b8;refine ⟨_,rfl,lt,zt,rfl,SqL.of (b0 _ _ c5 W),?_⟩;refine z5z (K:=KX w.params) (a:=lt) (xs:=zt) (λ i σ I=>∃B,KeptL [u] HB I/\I u=some (.lst B)/\B.length=i/\CaL (hide u I) m rs c ps B/\∃x6 x7 x8,σ=[some (.ref x),some (.ref t),some (.str (z0w m)),some (.ref lp),some (.ref lt),some (.ref J),x6,x7,x8])
   ⟨[],KeptL.refl,d3,rfl,λ n r p y _ _ h=>(by cases h),_,_,_,rfl⟩ (λ i σ I h=>?_) ?_ ?_
  ·obtain ⟨B,kk,_⟩:=h;exact SqL.of (kk _ _ (by simp [h9]) (b0 _ _ c5 W))
  ·rintro i y σ b1 pq hy ⟨B,k13,e13,cl,ca,x6,x7,x8,rfl⟩ hpq;have sp:=Same.upd (o:=.tup [.int i,y]) hpq;have e0:upd b1 pq (.tup [.int i,y]) pq=some (.tup [.int i,y]):=upd_same;generalize upd b1 pq (.tup [.int i,y])=H14 at sp e0⊢;refine ⟨pq,_,rfl,SqT.of e0,rfl,.int i,_,rfl,y,_,rfl,rfl,?_⟩;have k0:i < rs.length:=by rw [<-zl];exact (List.getElem?_eq_some_iff.mp hy).1
   obtain ⟨r,e3,py,rfl,d5⟩:=z0h ar hy;obtain ⟨D,h7,g1,g2,hm,dk,ix,wi,ga⟩:=z0n gd e3;have mB :∀l∈[u],MutAt HB l:=λ l hl=>by rw [List.mem_singleton.mp hl];exact .inl ⟨_,d3⟩
   have j2:Tt (KX w.params) C HB:=ins_tt a3 b0;have c9:Tt (KX w.params) C H14:=(j2.trans (KeptL.tt k13 mB)).trans (.of sp);have a4:KeptL [u] HB H14:=k13.trans sp.keptL;have h0:=c9.t _ _ d5;rw [g1] at h0;have c6:=ixT_of ok hm;have j9:ixT c D.nm < c.length:=(List.getElem?_eq_some_iff.mp c6).1;have e4:(c.map (·.1))[ixT c D.nm]? = some D.nm:=by rw [W0,c6];rfl
   have i3:c.map (λ t=>V.str t.1)=(c.map (·.1)).map V.str:=by rw [B4];rfl
   have d0:=a4 _ _ (by simp [i7]) g0;rw [i3] at d0;refine ⟨_,rfl,.inl ⟨rfl,_,SqL.of d0⟩,_,rfl,.inr (.inl ⟨py,_,1,.str D.nm,rfl,rfl,h0,z05 (j:=1) rfl,J,c.map (·.1),D.nm,ixT c D.nm,rfl,rfl,d0,G0 (m:=6) (by rw [M0];exact ok.n6) (by decide),e4,λ m' k4 e=>?_,?_⟩)⟩
   ·have:=(e8 (List.getElem?_eq_some_iff.mp e).1 ok.nd).mp (e.trans e4.symm);omega
   refine g_name (t_nx ?_);have g3:=a4 _ _ (by simp [a8.symm]) eB;have a2:=sp _ _ e13;have i4:=a4 _ _ (by simp [i9]) j7;have i2:=a4 _ _ (by simp [h5]) (b0 _ _ j5 (s2 _ _ c7));refine ⟨_,rfl,x,_,dx,_,_,rfl,g3,z3l _,z11 _,lk_eq,.inl ⟨rfl,_,SqL.of a2⟩,?_⟩;refine ⟨_,rfl,_,rfl,_,rfl,_,rfl,x,_,dx,_,_,rfl,g3,z3l _,z4g _,(lk_ne (by decide +kernel)).trans ((lk_ne (by decide +kernel)).trans ((lk_ne (by decide +kernel)).trans lk_eq)),?_⟩;refine ⟨_,rfl,.inl ⟨L,_,_,.str D.k,rfl,rfl,SqL.of i4,z05 (by rw [W0,c6];rfl),?_⟩⟩;refine ⟨_,rfl,λ S dc a9 d9 nc=>?_⟩;have sC:Same H14 (upd (upd H14 dc (.own S)) S (.ins 241 dc [])):=(Same.upd d9).trans (Same.upd (by rw [upd_ne nc.symm];exact a9));refine ⟨S,dc,lp,i,_,_,.ref py,zp,z2v m rs rs.length,r,rfl,upd_same,⟨py,rfl,sC.seqT (c9.t _ _ d5)⟩,sC _ _ i2,z01 (λ _ _ z=>z.elim λ b y=>⟨b,y.1,sC _ _ (c9.l _ _ (s2 _ _ y.2))⟩) ap,by omega,λ fs la lb as bs j1 h8 i1 f1 f2 f3 f4 f5 f6 f7 f8 f9 ea eb ma mb j3 j6 fa fb=>⟨rfl,?_⟩⟩;have d1:Same H14 j1:=zdp a9 d9 h8;have i5:=d1 _ _ a2;refine ⟨u,B,_,rfl,rfl,i5,E1 (m:=100) (by omega) (by decide),?_⟩;have h6:S≠u:=λ z=>by rw [z,a2] at a9;cases a9
   have j0:la≠u:=λ z=>by rw [z,sC _ _ a2] at fa;cases fa
   have h4:lb≠u:=λ z=>by rw [z,sC _ _ a2] at fb;cases fb
   refine ⟨B++[.ref S],(a4.trans d1.keptL).trans (KeptL.set (by simp)),upd_same,by rw [S0];show B.length + 1=_;omega,λ n r' p' y' Z M F=>?_,_,_,_,rfl⟩;rw [zjv];by_cases z:n < B.length
   ·rw [K2 z] at F;exact (ca n r' p' y' Z M F).same (zic (sp.trans d1))
   ·have hn:n=B.length:=by have:=(List.getElem?_eq_some_iff.mp F).1;rw [S0] at this;have:n < B.length + 1:=this;omega
    rw [hn,E2 (F0 _),Nat.sub_self] at F;cases F;rw [hn,cl] at Z M;rw [e3] at Z;rw [h7] at M;cases Z;cases M;rw [hn,cl];exact ⟨S,dc,fs,la,lb,as,bs,rfl,zcu h6 i1,f1,f2,f3,f4,f5,f6,f7,f8,f9,zcu j0 ea,zcu h4 eb,λ a=>(ma a).trans ⟨λ h=>(mem_pairsTo.mp h).2.2,λ h=>mem_pairsTo.mpr ⟨(z1h h).1,(z1h h).2,h⟩⟩,λ b=>(mb b).trans ⟨λ h=>(mem_pairsTo.mp h).2.2,λ h=>mem_pairsTo.mpr ⟨(z1h h).1,(z1h h).2,h⟩⟩,j3,j6⟩
  ·rintro σ b1 ⟨B,k13,e13,cl,ca,x6,x7,x8,rfl⟩;exact q _ u B b1 (λ b o nb e=>k13 _ _ (λ z=>by rw [List.mem_singleton.mp z,i6] at e;cases e) (kB b o nb e)) (k13 _ _ (by simp [a8.symm]) eB) lk_eq ((lk_ne (by decide +kernel)).trans ((lk_ne (by decide +kernel)).trans ((lk_ne (by decide +kernel)).trans ((lk_ne (by decide +kernel)).trans rfl)))) e13 (by omega) λ n r p y Z M F=>(ca n r p y Z M F).same zde
theorem zbh {α β:Type} {R:α->β->Prop} {xs xs':List α} {ys ys':List β} (h:All2 R xs ys) (h':All2 R xs' ys'):All2 R (xs++xs') (ys++ys'):=by
 induction h with
 | nil=>exact h'
 | cons a r ih=>exact .cons a ih
theorem if_any {tc:TT} {ta tb:TS} {D:Ends} {σ:L2.St} {H:Hp} (R:Hp->Prop) (k :∀H',R H'->ta D σ H') (h:(∀H',R H'->ta D σ H')->tIfS tc ta tb D σ H):tIfS tc ta tb D σ H:=h k
theorem zjh {a b:V} (ha:AnsV a) (hb:AnsV b):L2.scal a b=true:=by rcases ha with rfl|rfl|⟨i,rfl,_⟩<;>rcases hb with rfl|rfl|⟨j,rfl,_⟩<;>rfl
def BoAt (H:Hp) (m:Nat) (rs:List Rc) (ts:List (Str×Str)) (ps:List DD) (b:Addr):Prop:=∃dx fs lc cs,H b=some (.ins 281 dx fs)/\fs.lookup ("candidates" : Str)=some (.ref lc)/\fs.lookup ("steps_from" : Str)=none/\H lc=some (.lst cs)/\cs.length=rs.length/\CaL H m rs ts ps cs
def z1x (K:j0):Sp:=λ vs H Q _=>∃(b pp:Addr) (m k:Nat) (rs:List Rc) (ts:List (Str×Str)) (ps:List DD) (pl:Pl),vs=[.ref b,.ref pp]/\BoAt H m rs ts ps b/\All2 (RcGd K H ts) rs ps/\ThW ts/\PlZ K H pp pl/\PlOk ts rs.length k pl/\rs.length<=63/\
 ∀l ys H',Same H H'->H l=none->H' l=some (.lst ys)->All2 (StpZ K H') (nexT (cP m rs pl.1) ts rs ps pl rs.length) ys->Q (.ref l) H'
theorem z4q (T:TX (KX w.params) mg) (c0:FnOk P w (KX w.params) mg base CX0 1 238 fd_Candidate_may_stand ["self","done"] (z1f (KX w.params))) (c1:Cal P w (KX w.params) mg base "step_of" ["candidate","place"] 6 (z9i (KX w.params))):FnOk P w (KX w.params) mg base CX0 7 264 fd_Board_steps_from ["self","place"] (z1x (KX w.params)):=by
 refine (z2h w.params).ok sc_Board_steps_from (λ vs H Q E h=>?_) (λ a6 A a5 s H vs Q E hr h=>?_)
 ·obtain ⟨b,v,m,k,d,t,G,c,rfl,_⟩:=h;rfl
 ·obtain ⟨b,v,m,k,d,t,G,c,rfl,⟨dx,fs,lc,cs,eb,fc,fn,ec,cl,ca⟩,gd,ok,pz,po,rl,q⟩:=h;refine ⟨_,(z02 (ps_set (i:=2) sc_Board_steps_from.nd rfl (Z0 rfl) (pe_lst pa_nil))
   (z02 (ps_for U1 rfl (z3f (pe_fld (pv 0) rfl)) (z0j (i:=3) sc_Board_steps_from.nd rfl (Z0 rfl))
   (z03 (ps_if (pt_val (zj8 (pv 3) (z0b _) (z39 _) c0 (hr.mono (by decide)) (z3t _) .nil pass0 (z00 (pe_ix ix_seq (pv 1) pe_int (λ _ _=>rfl)) pa_nil)) (λ _=>rfl))
   (z02 (ps_set (i:=4) sc_Board_steps_from.nd rfl (Z0 rfl) (pe_cal c1 (hr.mono (by decide)) rfl (z00 (pv 3) (z00 (pv 1) pa_nil))))
   (z03 (ps_if (PW.pt (pw_or (z08 op_isN (pe_fld (pv 3) rfl) pe_non (nomark _)) (pw_or1 (z08 opEq (pe_fld (pv 3) rfl) (pe_ix ix_seq (pv 4) pe_int (λ _ _=>rfl)) (nomark _)))))
   (z03 (z2g (z16 (pv 2) (z00 (pv 4) pa_nil))))
   z0c)))
   z0c)))
   (z03 (ps_ret (pv 2))))),?_⟩
  refine ⟨w_0,λ l J=>?_⟩;have I:=Same.upd (o:=.lst []) J;have C:upd H l (.lst []) l=some (.lst []):=upd_same;generalize upd H l (.lst [])=H1 at I C⊢;refine g_name (t_nx ?_);refine ⟨_,rfl,b,_,dx,fs,_,rfl,I _ _ eb,z3l _,z11 _,fc,lc,rfl,⟨_,SqL.of (I _ _ ec)⟩,?_⟩;refine z62 (K:=KX w.params) (a:=lc) (xs:=cs) (λ i σ f=>∃ys,Same H f/\f l=some (.lst ys)/\All2 (StpZ (KX w.params) f) (nexT (cP m d c.1) t d G c i) ys/\∃x3 x4,σ=[some (.ref b),some (.ref v),some (.ref l),x3,x4])
   ⟨[],I,C,.nil,_,_,rfl⟩ (λ i σ f _ h=>SqL.of (h.choose_spec.1 _ _ ec)) ?_ ?_
  ·rintro i y σ Y hy ⟨ys,s2,e2,al2,x3,x4,rfl⟩;have N:i < d.length:=by rw [<-cl];exact (List.getElem?_eq_some_iff.mp hy).1
   have F:d[i]? = some d[i]:=K0 N;obtain ⟨p,hp,g⟩:=z0n gd F;generalize d[i]=r at F g;have Z:=(ca i r p y F hp hy).same s2;obtain ⟨X,pb,vs,sp,sa,sb,sz⟩:=id pz;refine g_name ?_;have a4 :∀{f:Hp} {R:VK},Same H f->R (.ref X) f->tOp (rIx (KX w.params)) (tVar 1) (tC (.int 0)) [some (.ref b),some (.ref v),some (.ref l),some y,x4] f R:=λ D h=>⟨_,rfl,.inr (.inl ⟨v,_,0,.ref X,rfl,rfl,D.seqT sp,z05 (j:=0) rfl,h⟩)⟩
   have skip:cP m d c.1 i=false\/stp t r p i c=none->∀{x3 x4:Option V} {f:Hp},Same Y f->∃ys,Same H f/\f l=some (.lst ys)/\All2 (StpZ (KX w.params) f) (nexT (cP m d c.1) t d G c (i + 1)) ys/\∃x3' x4',[some (.ref b),some (.ref v),some (.ref l),x3,x4]=[some (.ref b),some (.ref v),some (.ref l),x3',x4']:=λ h {x3 x4 f} D=>by
    refine ⟨ys,s2.trans D,D _ _ e2,?_,_,_,rfl⟩;rw [z3r,show nexAt (cP m d c.1) t d G c i=none by
     unfold nexAt;rcases h with h|h
     ·rw [h];rfl
     ·rw [F,hp];split<;>first|exact h|rfl]
    rw [L9,W2];exact z01 (λ _ _ z=>StpZ.tups (.of D) z) al2
   obtain ⟨x,L,a0,la,lb,as,bs,rfl,ex,f1,f2,f3,f4,f5,f6,f7,f8,f9,_⟩:=id Z;refine ⟨_,rfl,x,L,a0,rfl,ex,f9,a4 s2 ⟨.ref x,X,m,i,d,t,r,p,c.1,rfl,Z,s2.seqT sa,_,rfl,?_⟩⟩;cases hc:cP m d c.1 i with
   | false=>exact iteF (skip (.inl hc) (Same.refl _))
   | true=>
   refine iteT ?_;have ni:i∉c.1:=of_decide_eq_true (Bool.and_eq_true_iff.mp (Bool.and_eq_true_iff.mp hc).1).1;refine ⟨_,rfl,_,rfl,.ref x,v,m,i,k,d.length,d,t,r,p,c,rfl,Z,g.tt (.of s2),ok,pz.tups (.of s2),po,rl,N,ni,λ S O q6 W a2 so B e3 a3=>?_⟩;refine g_name (t_nx ?_);have M:=stp_of (r:=r) (n:=i) a2;refine if_any (λ f=>W=f/\stp t r p i c=some (stq t p i c S)) ?_ λ put=>?_;rotate_left
   ·refine t_or ?_;refine ⟨_,rfl,x,_,L,a0,_,rfl,B _ _ ex,z0b _,z10 _,f6,rfl,_,rfl,?_⟩;have a1:=dz_ok g.2.2.2.1 so (po.n63 rl N ni).1;rcases g.2.2.2.2.2.2 with ⟨h1,u⟩|⟨h1,u⟩
    ·refine iteP (by rw [u];rfl) (iteT (put _ ⟨rfl,?_⟩));rw [M,h1];rfl
    have na:¬ decide (r.a=V.non)=true:=λ h=>by have:=of_decide_eq_true h;rcases u with u|u|⟨j,u,_⟩<;>(rw [u] at this;cases this)
    have C:r.e.isNone=false:=Option.isNone_eq_false_iff.mpr h1;refine iteN na ?_;refine ⟨_,rfl,x,_,L,a0,_,rfl,B _ _ ex,z0b _,z10 _,f6,?_⟩;refine ⟨_,rfl,.inr (.inl ⟨O,_,1,_,rfl,rfl,SqT.of e3,z05 (j:=1) rfl,zjh u a1.2,_,rfl,?_⟩)⟩;by_cases za:r.a=(dz p.k p.vb p.dt S).2
    ·refine iteP (decide_eq_true za) (put _ ⟨rfl,?_⟩);rw [M,C,j2h,decide_eq_true za.symm];rfl
    ·refine iteN (λ h=>za (of_decide_eq_true h)) (skip (.inr ?_) B);rw [M,C,j2h,decide_eq_false (λ h=>za h.symm)];rfl
   rintro f ⟨rfl,hst⟩;have U:=B _ _ e2;have yl:ys.length<=i:=by rw [z04 al2];exact z63
   refine ⟨_,rfl,.inl ⟨rfl,_,SqL.of U⟩,_,rfl,l,ys,_,rfl,rfl,U,E1 (m:=100) (by omega) (by decide),?_⟩;have tu:Tups (KX w.params) W (upd W l (.lst (ys++[.ref O]))):=Tups.lst U;refine ⟨ys++[.ref O],Same.keep (s2.trans B) J,upd_same,?_,_,_,rfl⟩;rw [z3r,show nexAt (cP m d c.1) t d G c i=some (stq t p i c S) by unfold nexAt;rw [if_pos hc,F,hp];exact hst];exact zbh (z01 (λ _ _ z=>(StpZ.tups (.of B) z).tups tu) al2) (.cons (a3.tups tu) .nil)
  ·rintro σ Y ⟨ys,s2,e2,al2,x3,x4,rfl⟩;rw [cl] at al2;exact ⟨_,rfl,q l ys Y s2 J e2 al2⟩
def zh5 (K:j0):Sp:=λ vs H Q _=>∃(t pp:Addr) (ts:List (Str×Str)) (es:List Ev) (ps:List DD) (m k:Nat) (pl:Pl),vs=[.ref t,.str (z0w m),.ref pp]/\TaleAt K H t ts es/\ThW ts/\es.length<=63/\EWf [] es/\All2 (RcGd K H ts) (dAll 0 [] es) ps/\PlZ K H pp pl/\PlOk ts (dAll 0 [] es).length k pl/\
 ∀l ys H',Same H H'->H l=none->H' l=some (.lst ys)->All2 (StpZ K H') (nexT (cP m (dAll 0 [] es) pl.1) ts (dAll 0 [] es) ps pl (dAll 0 [] es).length) ys->Q (.ref l) H'
theorem zjr (T:TX (KX w.params) mg) (c0:FnOk P w (KX w.params) mg base (CXE P w base) 5 257 fd_Board___init__ ["self","tale","strictness"] (z2y (KX w.params))) (c1:FnOk P w (KX w.params) mg base CX0 7 264 fd_Board_steps_from ["self","place"] (z1x (KX w.params))):FnOk P w (KX w.params) mg base CX0 8 314 fd_nexts ["tale","strictness","place"] (zh5 (KX w.params)):=by
 refine (zgu w.params).ok sc_nexts (λ D H Q E h=>?_) (λ a1 A a0 s H D Q E j h=>?_)
 ·obtain ⟨t,u,e,b,d,m,k,v,rfl,_⟩:=h;rfl
 ·obtain ⟨t,u,e,b,d,m,k,v,rfl,J,ok,W,I,r,pz,R,q⟩:=h;refine ⟨_,(z02 (ps_set (i:=3) sc_nexts.nd rfl (Z0 rfl) (ziu (zkd _) c0 (j.mono (by decide)) rfl (T.of (zll _)) (z71 _) .nil passN (z00 (pv 0) (z00 (pv 1) pa_nil))))
   (z03 (ps_ret (zj8 (pv 3) (z3l _) (z4x _) c1 (j.mono (by decide)) (z53 _) .nil pass0 (z00 (pv 2) pa_nil))))),?_⟩
  have M:(dAll 0 [] b).length<=63:=by have:=z38 (i:=0) (rs:=[]) b;simp only [m3,j4] at this;omega
  refine ⟨_,rfl,_,rfl,λ x a g n K=>?_⟩;have F:Same H (upd (upd H a (.own x)) x (.ins 281 a [])):=(Same.upd n).trans (Same.upd (by rw [upd_ne K.symm];exact g));have f:Tt (KX w.params) H (upd (upd H a (.own x)) x (.ins 281 a [])):=.of F;refine ⟨x,a,t,e,b,d,m,rfl,upd_same,J.tt f,ok,W,I,z01 (λ _ _ z=>RcGd.tt f z) r,λ fs N cs Z V p Y o X y S=>⟨rfl,?_⟩⟩;have c:Same H Z:=zdp g n V;refine g_name (t_nx (sq_ret ?_));refine ⟨_,rfl,x,a,fs,rfl,p,o,_,rfl,x,u,m,k,_,e,d,v,rfl,⟨a,fs,N,cs,p,Y,o,X,y,S⟩,z01 (λ _ _ z=>RcGd.tt (.of c) z) r,ok,pz.tups (.of c),R,M,λ l O C G L U B=>?_⟩;exact q l O C (c.trans G) (c.free L) U B
def z6v (K:j0):Sp:=λ vs H Q _=>∃(t pp:Addr) (ts:List (Str×Str)) (es:List Ev) (pl:Pl),vs=[.ref t,.ref pp]/\TaleAt K H t ts es/\es.length<=63/\EWf [] es/\PlZ K H pp pl/\
 ∀b H',Same H H'->(b=true↔∀n r,(dAll 0 [] es)[n]? = some r->r.e.isSome=true->n∈pl.1)->Q (.bl b) H'
theorem zf6 (T:TX (KX w.params) mg) (c0:Cal P w (KX w.params) mg base "deeds" ["tale"] 1 (z8g (KX w.params))) (c1:Cal P w (KX w.params) mg base "ended_numbers" ["told"] 1 (z1o (KX w.params))) (c2:Cal P w (KX w.params) mg base "holds_all" ["done","numbers"] 1 (z6u (KX w.params))):FnOk P w (KX w.params) mg base CX0 2 321 fd_is_full ["tale","place"] (z6v (KX w.params)):=by
 refine (z9f w.params).ok zfo (λ g H Q E h=>?_) (λ V A W s H g Q E e h=>?_)
 ·obtain ⟨t,o,C,a,p,rfl,_⟩:=h;rfl
 ·obtain ⟨t,o,C,a,p,rfl,⟨pt,v,G,F,th,N,u⟩,a0,x,⟨l,pb,g,J,S,X,sz⟩,q⟩:=h;refine ⟨_,(z03 (ps_ret (pe_cal c2 (e.mono (by decide)) rfl (z00 (pe_ix ix_seq (pv 1) pe_int (λ _ _=>rfl)) (z00 (pe_cal c1 (e.mono (by decide)) rfl (z00 (pe_cal c0 (e.mono (by decide)) rfl (z00 (pv 0) pa_nil)) pa_nil)) pa_nil))))),?_⟩;obtain ⟨R,os,DI⟩:=DInv.all DInv.nil x;have Y:(dAll 0 [] a).length<=63:=by have:=z38 (i:=0) (rs:=[]) a;simp only [m3,j4] at this;omega
  refine ⟨_,rfl,.inr (.inl ⟨o,_,0,.ref l,rfl,rfl,J,z05 (j:=0) rfl,?_⟩)⟩;refine ⟨_,rfl,t,v,.ref pt,G,a,rfl,SqT.of F,SqT.of N,u,by omega,R,λ lt B H1 m Z y I=>?_⟩;refine ⟨lt,B,_,rfl,y,I,by omega,λ le D U k O d=>?_⟩;refine ⟨l,le,p.1,D,rfl,(m.trans k).seqT S,O,by have:=d.1;omega,λ b K L M=>?_⟩;refine q b K ((m.trans k).trans L) (M.trans ⟨λ h n r f c=>h n ((d.2 n).mpr ⟨r,f,c⟩),λ h n z=>?_⟩);obtain ⟨r,f,c⟩:=(d.2 n).mp z;exact h n r f c
def IsA (a:V):Prop:=(∃i,a=.int i)\/∃z,a=.str z
theorem AnsV.isA {a:V} (h:AnsV a):IsA a:=by
 rcases h with rfl|rfl|⟨i,rfl,_⟩
 ·exact .inr ⟨_,rfl⟩
 ·exact .inr ⟨_,rfl⟩
 ·exact .inl ⟨_,rfl⟩
theorem IsA.scal {a b:V} (ha:IsA a\/a=.non) (hb:IsA b\/b=.non):L2.scal a b=true:=by rcases ha with (⟨i,rfl⟩|⟨i,rfl⟩)|rfl<;>rcases hb with (⟨j,rfl⟩|⟨j,rfl⟩)|rfl<;>rfl
theorem z5k {X:Cx} {K:j0} (hK:X.K=K):OpR X (P2 .NotIn) (rIn K true):=hK ▸ z1u
theorem z7t :∀{more acc:List (Key×V)} {k:Key},k∈(mergeK acc more).map (·.1)↔k∈acc.map (·.1)\/k∈more.map (·.1)
 | [],acc,k=>by simp [mergeK]
 | p :: r,acc,k=>by
  show k∈(mergeK (putK acc p.1 p.2) r).map (·.1)↔_;rw [z7t,<-valV_isSome,z2b,A1,N0,<-valV_isSome (kvs:=acc)];by_cases e:k=p.1
  ·rw [if_pos e];simp [e]
  ·rw [if_neg e];simp [e]
def z23:Sp:=λ vs H Q _=>∃(a b:V),vs=[a,b]/\(IsA a\/a=.non)/\IsA b/\Q (.bl (decide (a=b))) H
theorem zb0 (T:TX (KX w.params) mg):FnOk P w (KX w.params) mg base CX0 1 399 fd__law_alike ["one","other"] z23:=by
 refine (z49 w.params).ok za9 (λ n H Q E h=>?_) (λ u A x s H n Q E B h=>?_)
 ·obtain ⟨a,b,rfl,_⟩:=h;rfl
 ·obtain ⟨a,b,rfl,g,j,q⟩:=h;refine ⟨_,(z03 (ps_ret (pe_and (z0u opEq (z09 call_isinst rfl (T.no (z0g _)) F2 (z00 (pv 0) (z00 (z1l (v:=.ty "str") rfl (T.no (n_str _)) j42 rfl) pa_nil))) (z09 call_isinst rfl (T.no (z0g _)) F2 (z00 (pv 1) (z00 (z1l (v:=.ty "str") rfl (T.no (n_str _)) j42 rfl) pa_nil))) (nomark _)) (pe_and (pe_not (z09 call_isinst rfl (T.no (z0g _)) F2 (z00 (pv 0) (z00 (z1l (v:=.ty "bool") rfl (T.no (n_bool _)) boot_bool rfl) pa_nil)))) (pe_one (z0u opEq (pv 0) (pv 1) (nomark _))))))),?_⟩;have o:=IsA.scal g (.inl j);have p :∃T,TagOf H a T/\instB T "bool" = false/\(instB T "str" = true↔∃z,a=.str z):=by
   rcases g with (⟨i,rfl⟩|⟨z,rfl⟩)|rfl
   ·exact ⟨_,rfl,rfl,by simp [instB]⟩
   ·exact ⟨_,rfl,rfl,by simp [instB]⟩
   ·exact ⟨_,rfl,rfl,by simp [instB]⟩
  have r :∃T,TagOf H b T/\(instB T "str" = true↔∃z,b=.str z):=by
   rcases j with ⟨i,rfl⟩|⟨z,rfl⟩
   ·exact ⟨_,rfl,by simp [instB]⟩
   ·exact ⟨_,rfl,by simp [instB]⟩
  obtain ⟨c,l,m,k⟩:=p;obtain ⟨d,t,f⟩:=r;refine ⟨_,rfl,a,"str",c,rfl,l,by decide,_,rfl,b,"str",d,rfl,t,by decide,rfl,_,rfl,?_⟩;by_cases z:instB c "str" = instB d "str"
  ·refine iteP (by rw [z];exact decide_eq_true rfl) ?_;refine ⟨_,rfl,a,"bool",c,rfl,l,by decide,_,rfl,?_⟩;rw [m];exact ⟨_,rfl,iteT ⟨_,rfl,_,rfl,o,q⟩⟩
  ·refine iteN (λ y=>z (by have:=of_decide_eq_true y;injection this)) ?_;rw [decide_eq_false (λ e=>z (by
    subst e;cases h:instB d "str" with
    | true=>exact k.mpr (f.mp h)
    | false=>
     cases h':instB c "str" with
     | false=>rfl
     | true=>rw [f.mpr (k.mp h')] at h;cases h))] at q
   exact q
def MusA (H0 H:Hp) (N:Nat) (f:Nat->Bool) (y:V):Prop:=∃q ns,y=.ref q/\H q=some (.lst (nsV ns))/\ns.length<=N/\H0 q=none/\∀a,a∈ns↔f a=true
def MustAt (H0 H:Hp) (m:Nat) (rs:List Rc) (l:Addr):Prop:=∃ms,H l=some (.lst ms)/\ms.length=rs.length/\H0 l=none/\∀j y,ms[j]? = some y->MusA H0 H rs.length (λ a=>z0i m rs a j) y
theorem MusA.kept {H0 H H':Hp} {N:Nat} {f:Nat->Bool} {y:V} (s :∀a o,H0 a=none->H a=some o->H' a=some o) (h:MusA H0 H N f y):MusA H0 H' N f y:=by obtain ⟨q,e,i,c,d,b,g⟩:=h;exact ⟨q,e,i,s _ _ b c,d,b,g⟩
theorem MusA.put {H0 H:Hp} {N:Nat} {f:Nat->Bool} {y:V} {l:Addr} {o:HO} (n:y≠.ref l) (h:MusA H0 H N f y):MusA H0 (upd H l o) N f y:=by obtain ⟨q,c,rfl,a,b,d⟩:=h;exact ⟨q,c,rfl,by rw [upd_ne (λ z=>n (by rw [z]))];exact a,b,d⟩
theorem MustAt.kept {H0 H H':Hp} {m:Nat} {rs:List Rc} {l:Addr} (s :∀a o,H0 a=none->H a=some o->H' a=some o) (h:MustAt H0 H m rs l):MustAt H0 H' m rs l:=by obtain ⟨f,g,c,b,e⟩:=h;exact ⟨f,s _ _ b g,c,b,λ j y d=>(e j y d).kept s⟩
def z5l:Sp:=λ vs H Q _=>∃(l:Addr) (zs:List V) (rs:List Rc) (i m:Nat) (os:List Int),vs=[.ref l,.str (z0w m)]/\H l=some (.lst zs)/\All2 (ActAt H) rs zs/\DInv i rs os/\rs.length<=63/\∀lm H',Same H H'->MustAt H H' m rs lm->Q (.ref lm) H'
theorem zat (T:TX (KX w.params) mg) (c0:Cal P w (KX w.params) mg base "_law_must" ["acts","strictness","one","other"] 1 z46):FnOk P w (KX w.params) mg base CX0 2 409 fd__law_musts ["acts","strictness"] z5l:=by
 refine (z3y w.params).ok sc__law_musts (λ vs H Q E h=>?_) (λ a1 A a0 s H vs Q E hr h=>?_)
 ·obtain ⟨l,f,r,i,m,X,rfl,_⟩:=h;rfl
 ·obtain ⟨l,f,r,i,m,X,rfl,J,M,DI,rl,q⟩:=h;refine ⟨_,(z02 (ps_set (i:=2) sc__law_musts.nd rfl (Z0 rfl) (pe_lst pa_nil))
   (z02 (ps_for U1 rfl (z1c rfl (T.no (z3x _)) (z00 (z09 z12 rfl (T.no (n_len _)) Y3 (z00 (pv 0) pa_nil)) pa_nil)) (z0j (i:=3) sc__law_musts.nd rfl (Y0 rfl))
   (z03 (z2g (z16 (pv 2) (z00 (z0q (xs:=["one"]) (g:=gName 0) (fr:=[(0,"acts"),(1,"strictness"),(3,"number")]) rfl (z1c rfl (T.no (z3x _)) (z00 (z09 z12 rfl (T.no (n_len _)) Y3 (z00 (pv 0) pa_nil)) pa_nil)) (by intro p u;simp only [N0,x0,or_false] at u;rcases u with rfl|rfl|rfl<;>first|exact ⟨rfl,.inl rfl⟩|exact ⟨rfl,.inr rfl⟩) (z83 (ns:=["acts","strictness","number"]) (by decide +kernel) (by intro n O k;simp only [N0,x0,or_false] at O;rcases O with rfl|rfl|rfl<;>first|exact .inl rfl|exact .inr rfl)) (by intro p u;simp only [N0,x0,or_false] at u;rcases u with rfl|rfl|rfl<;>exact ⟨by decide +kernel,by first|exact .inl rfl|exact .inr rfl⟩) (by decide +kernel) rfl (by decide +kernel) (λ _ _ _ _ _=>(z0e (N:=["one","acts","strictness","number"]) 0 (by decide +kernel) rfl rfl)) (λ _ _ _ _ _=>(pf_one (pt_val (pe_cal c0 (hr.mono (by decide)) rfl (z00 (pv 1) (z00 (pv 2) (z00 (pv 0) (z00 (pv 3) pa_nil))))) (λ _=>rfl)))) (λ _ _ _ _ _=>(pv 0))) pa_nil)))))
   (z03 (ps_ret (pv 2))))),?_⟩
  have lz:f.length=r.length:=z04 M;refine ⟨w_0,λ d D=>?_⟩;have K:=Same.upd (o:=.lst []) D;have Y:upd H d (.lst []) d=some (.lst []):=upd_same;generalize upd H d (.lst [])=H1 at K Y⊢;refine g_name (t_nx ?_);refine ⟨_,rfl,.inl ⟨l,f,rfl,.inl (SqL.of (K _ _ J)),f.length,rfl,by omega,by omega,?_⟩⟩;refine z4u (lo:=0) (n:=f.length) (λ i σ F=>∃ms,Same H F/\F d=some (.lst ms)/\ms.length=i/\(∀j y,ms[j]? = some y->MusA H F r.length (λ a=>z0i m r a j) y/\y≠.ref d)/\∃x3,σ=[some (.ref l),some (.str (z0w m)),some (.ref d),x3])
   ⟨[],K,Y,rfl,λ j y c=>(by cases c),_,rfl⟩ ?_ ?_
  ·rintro j σ H2 hj ⟨ms,s2,e2,lj,fm,x3,rfl⟩;rw [M7];refine g_name ?_;refine ⟨_,rfl,.inl ⟨rfl,_,SqL.of e2⟩,?_⟩;refine z73 (S:=Same) (n:=f.length) (λ a=>z0i m r a j) (λ a y _=>y=.int (a:Nat)) (Same.refl _) (λ _ _ _ a b=>a.trans b) (λ _ _=>Same.refl _) (λ _ _ _ _ _ z=>z) (λ R h=>⟨_,rfl,.inl ⟨l,f,rfl,.inl (SqL.of (s2 _ _ J)),h⟩⟩) (G0 (m:=63) (by omega) (by decide)) (λ a ha G v KT KF h1 Z=>?_) λ t G B v C fa=>?_
   ·refine ⟨[some (.int (a:Nat))],rfl,rfl,?_⟩;have W:=s2.trans v;refine ⟨_,rfl,_,rfl,_,rfl,_,rfl,l,f,r,_,m,a,j,X,rfl,W _ _ J,z01 (λ _ _ z=>ActAt.same W z) M,DI,by omega,by omega,_,rfl,?_⟩;by_cases z:z0i m r a j=true
    ·exact iteP z ⟨_,rfl,h1 z _ _ (Same.refl _) rfl⟩
    ·exact iteN z (Z (by simpa using z) _ (Same.refl _))
   ·have x:=v.trans (Same.upd (o:=.lst B) C);have I:upd G t (.lst B) t=some (.lst B):=upd_same;have U:t≠d:=λ z=>by rw [z,v _ _ e2] at C;cases C
    generalize upd G t (.lst B)=H4 at x I⊢;rw [zcb fa] at I;refine ⟨d,ms,_,rfl,rfl,x _ _ e2,E1 (m:=100) (by omega) (by decide),?_⟩;refine ⟨ms++[.ref t],Same.keep (s2.trans x) D,upd_same,by rw [S0];show ms.length + 1=_;omega,λ k y c=>?_,_,rfl⟩;by_cases z:k < ms.length
    ·rw [K2 z] at c;exact ⟨((fm k y c).1.kept λ a o _ e=>x _ _ e).put (fm k y c).2,(fm k y c).2⟩
    ·have L:k=ms.length:=by have:=(List.getElem?_eq_some_iff.mp c).1;rw [S0] at this;have:k < ms.length + 1:=this;omega
     rw [L,E2 (F0 _),Nat.sub_self] at c;cases c;refine ⟨MusA.put (λ e=>U (V.ref.inj e)) ⟨t,_,rfl,I,?_,(s2.trans v).free C,λ a=>?_⟩,λ e=>U (V.ref.inj e)⟩
     ·refine G0 (G2 _ _) ?_;rw [Z1];omega
     ·rw [j14,j1g,L,lj];exact ⟨λ h=>h.2,λ h=>⟨by rw [lz];exact (z1h h).1,h⟩⟩
  ·rintro σ H2 ⟨ms,s2,e2,lj,fm,x3,rfl⟩;exact ⟨_,rfl,q _ _ s2 ⟨ms,e2,by omega,D,λ j y c=>(fm j y c).1⟩⟩
def z26 (K:j0):Sp:=λ vs H Q _=>∃(l p pa:Addr) (zs:List V) (rs:List Rc) (ns:List Nat) (x:V),vs=[.ref l,.ref p]/\H l=some (.lst zs)/\All2 (ActAt H) rs zs/\rs.length<=63/\SqT K H p [.ref pa,x]/\SqT K H pa (nsV ns)/\∀b H',Same H H'->(b=true↔∀n r,rs[n]? = some r->r.e.isSome=true->n∈ns)->Q (.bl b) H'
theorem z7g (T:TX (KX w.params) mg):FnOk P w (KX w.params) mg base CX0 1 419 fd__law_is_full ["acts","place"] (z26 (KX w.params)):=by
 refine (z2j w.params).ok z7p (λ vs H Q E h=>?_) (λ a2 A a1 s H vs Q E hr h=>?_)
 ·obtain ⟨l,p,F,u,c,ns,x,rfl,_⟩:=h;rfl
 ·obtain ⟨l,p,F,u,c,ns,x,rfl,O,J,rl,sp,sa,q⟩:=h;refine ⟨_,(z03 (ps_ret (z0u (zgi hr) (z0q (xs:=["k"]) (g:=gName 0) (fr:=[(1,"place"),(0,"acts")]) rfl (z1c rfl (T.no (z3x _)) (z00 (z09 z12 rfl (T.no (n_len _)) Y3 (z00 (pv 0) pa_nil)) pa_nil)) (by intro p t;simp only [N0,x0,or_false] at t;rcases t with rfl|rfl<;>first|exact ⟨rfl,.inl rfl⟩|exact ⟨rfl,.inr rfl⟩) (z83 (ns:=["place","acts"]) (by decide +kernel) (by intro n o k;simp only [N0,x0,or_false] at o;rcases o with rfl|rfl<;>first|exact .inl rfl|exact .inr rfl)) (by intro p t;simp only [N0,x0,or_false] at t;rcases t with rfl|rfl<;>exact ⟨by decide +kernel,by first|exact .inl rfl|exact .inr rfl⟩) (by decide +kernel) rfl (by decide +kernel) (λ _ _ _ _ _=>(z0e (N:=["k","place","acts"]) 0 (by decide +kernel) rfl rfl)) (λ _ _ _ _ _=>(pf_one (PW.pt (pw_and (z08 z9j (pe_ix (z5r (K:=KX w.params) rfl) (pe_ix (z5r (K:=KX w.params) rfl) (pv 2) (pv 0) (λ _ _=>rfl)) pe_int (λ _ _=>rfl)) pe_non (nomark _)) (zdn (z08 (z5k (K:=KX w.params) rfl) (pv 0) (pe_ix (z5r (K:=KX w.params) rfl) (pv 1) pe_int (λ _ _=>rfl)) (by with_unfolding_all rfl))))))) (λ _ _ _ _ _=>(pv 0))) (pe_lst pa_nil) (nomark _)))),?_⟩;have lz:u.length=c.length:=z04 J;refine sq_ret ?_;refine z73 (S:=Same) (n:=u.length) (λ k=>((c[k]?.map λ r=>r.e.isSome).getD false) && !decide (k∈ns)) (λ k y _=>True) (Same.refl _) (λ _ _ _ a b=>a.trans b) (λ _ _=>Same.refl _) (λ _ _ _ _ _ z=>z) (λ R h=>⟨_,rfl,.inl ⟨l,u,rfl,.inl (SqL.of O),h⟩⟩) (G0 (m:=63) (by omega) (by decide)) (λ k C Y i KT KF v d=>?_) λ W Y us i a0 Z=>?_
  ·have G:k < c.length:=by omega
   obtain ⟨y,hy,I,rfl,X⟩:=z0n J (K0 G);have B:c[k]? = some c[k]:=K0 G;generalize c[k]=r at *;rw [B] at v d;refine ⟨[some (.int (k:Nat))],rfl,rfl,?_⟩;refine ⟨_,rfl,_,rfl,.inl ⟨l,u,k,.ref I,rfl,rfl,SqL.of (i _ _ O),z05 hy,.inl ⟨I,_,6,endV r.e,rfl,rfl,SqL.of (i _ _ X),z05 (j:=6) rfl,rfl,_,rfl,?_⟩⟩⟩;cases re:r.e with
   | none=>refine iteN (by show ¬ (!decide (V.non=V.non))=true;decide) (iteF (d ?_ _ (Same.refl _)));show (r.e.isSome && _)=false;rw [re];rfl
   | some e=>
    refine iteP rfl ?_;refine ⟨_,rfl,_,rfl,.inr (.inl ⟨p,_,0,.ref F,rfl,rfl,i.seqT sp,z05 (j:=0) rfl,F,_,rfl,.inr (i.seqT sa),rfl,z67 _,_,rfl,?_⟩)⟩;rw [inV_ns];have v:=λ z=>v (show (r.e.isSome && _)=true from z);have d:=λ z=>d (show (r.e.isSome && _)=false from z);rw [re] at v d;cases hb:decide (k∈ns) with
    | true=>exact iteF (d (by rw [hb];rfl) _ (Same.refl _))
    | false=>exact iteT ⟨_,rfl,v (by rw [hb];rfl) _ _ (Same.refl _) trivial⟩
  ·refine ⟨w_0,λ l8 L=>?_⟩;refine ⟨W,l8,us,rfl,rfl,SqL.of ((Same.upd L) _ _ upd_same),SqL.of upd_same,q _ _ (i.trans ((Same.upd a0).trans (Same.upd L))) ?_⟩;have D:=z04 Z;rw [decide_eq_true_iff];constructor
   ·intro e n r o he;rw [e] at D;have U:=List.eq_nil_of_length_eq_zero D.symm;have a3:=(List.getElem?_eq_some_iff.mp o).1;have:=List.filter_eq_nil_iff.mp U n (List.mem_range.mpr (by omega));rw [o] at this;have this:¬ (r.e.isSome && !decide (n∈ns))=true:=this;rw [he,Y6] at this;by_cases z:n∈ns
    ·exact z
    ·exact absurd (by rw [decide_eq_false z];rfl) this
   ·intro f;refine List.eq_nil_of_length_eq_zero (D.trans ?_);rw [List.length_eq_zero_iff,List.filter_eq_nil_iff];intro k C z;rw [u3] at z;have C:=List.mem_range.mp C;have B:c[k]? = some c[k]:=K0 (by omega);rw [B] at z;have M:=z.2;rw [decide_eq_true (f k _ B z.1)] at M;cases M
noncomputable def gnK (ns:List Nat):List (Key×V):=ns.map λ (n:Nat)=>(.inl (n:Int),.bl true)
theorem gnK_in {ns:List Nat} {n:Nat}:(valV (mergeK [] (gnK ns)) (.inl (n:Int))).isSome=true↔n∈ns:=by
 rw [valV_isSome,z7t];unfold gnK;rw [B4];constructor
 ·rintro (h|h)
  ·cases h
  ·obtain ⟨m,a,e⟩:=List.mem_map.mp h;have:=T4 e;rw [show n=m by omega];exact a
 ·exact λ h=>.inr (List.mem_map.mpr ⟨n,h,rfl⟩)
theorem zi1 {K:j0} {H:Hp} {ns:List Nat} {us:List V} (h:All2 (λ (i:Nat) y=>∃n b,ns[i]? = some n/\y=.ref b/\H b=some (.tup [.int (n:Nat),.bl true])) (J1 ns.length) us):All2 (λ (p:Key×V) y=>∃b,y=.ref b/\SqT K H b [kV p.1,p.2]) (gnK ns) us:=by have c:=z04 h;rw [Z1] at c;refine z1m (by unfold gnK;rw [M0,c]) λ i p y a e=>?_;unfold gnK at a;rw [W0] at a;obtain ⟨n,l,rfl⟩:=Option.map_eq_some_iff.mp a;obtain ⟨j,d,m,b,f,g,k⟩:=z0h h e;rw [z7 (by have:=(List.getElem?_eq_some_iff.mp e).1;omega)] at d;cases d;rw [l] at f;cases f;exact ⟨b,g,SqT.of k⟩
theorem z9x {c:Nat->Bool} {ts:List (Str×Str)} {rs:List Rc} {ps:List DD} {pl:Pl} {i:Nat} {r:Rc} {p:DD} (hr:rs[i]? = some r) (hp:ps[i]? = some p) (h:c i=false\/stp ts r p i pl=none):nexAt c ts rs ps pl i=none:=by
 unfold nexAt;rcases h with h|h
 ·rw [h];rfl
 ·rw [hr,hp];split<;>first|exact h|rfl
theorem zab {c:Nat->Bool} {ts:List (Str×Str)} {rs:List Rc} {ps:List DD} {pl:Pl} {i:Nat} {r:Rc} {p:DD} {s:Stp} (hr:rs[i]? = some r) (hp:ps[i]? = some p) (hc:c i=true) (h:stp ts r p i pl=some s):nexAt c ts rs ps pl i=some s:=by unfold nexAt;rw [if_pos hc,hr,hp];exact h
theorem tup2 {A B:TE} {σ:L2.St} {H:Hp} {Q:VK} (h:A σ H λ x H1=>B σ H1 λ y H2=>(2:Nat)<=sizeLine/\∀p,H2 p=none->Q (.ref p) (upd H2 p (.tup [x,y]))):tTup (tCons A (tCons B tNil)) σ H Q:=h
theorem srt_in {K:j0} {σ:L2.St} {H:Hp} {Q:VK} {tp tn:TE} {pa:Addr} {ns:List Nat} {n:Nat} (hp :∀R:VK,R (.ref pa) H->tp σ H R) (hn :∀R:VK,R (.int (n:Nat)) H->tn σ H R) (sa:SqT K H pa (nsV ns)) (l63:ns.length < 63) (q :∀b4 H',Same H H'->H' b4=some (.tup (nsV (srtN (ns++[n]))))->Q (.ref b4) H') :
  tCB (λ xs H Q=>∃p ys,xs=[.ref p]/\((SqL K H p ys/\∀l,H l=none->Q (.ref l) (upd H l (.tup ys)))\/(SqT K H p ys/\Q (.ref p) H))) (tCons (tCB (λ xs H Q=>∃a ns,xs=[.ref a]/\(SqL K H a (ns.map V.int)\/SqT K H a (ns.map V.int))/\ns.length < 64/\srt ns H Q) (tCons (tOp (rCatS K) tp (tTup (tCons tn tNil))) tNil)) tNil) σ H Q:=by
 refine hp _ (hn _ ⟨w_1,λ c u=>?_⟩);have d:=Same.upd (o:=.tup [.int (n:Nat)]) u;have f:upd H c (.tup [.int (n:Nat)]) c=some (.tup [.int (n:Nat)]):=upd_same;generalize upd H c (.tup [.int (n:Nat)])=H15 at d f⊢;refine ⟨pa,c,nsV ns,[.int (n:Nat)],rfl,rfl,d.seqT sa,SqT.of f,by simp,G0 (m:=100) (by rw [z1s];show _ + 1<=100;omega) (by decide),λ t e k g=>?_⟩;rw [show nsV ns++[.int (n:Nat)]=((ns++[n]).map λ (n:Nat)=>(n:Int)).map V.int by unfold nsV;rw [B4,j2];rfl] at g;refine ⟨t,_,rfl,.inr g,by rw [M0,S0];show _ + 1 < 64;omega,λ b w r j v=>?_⟩;rw [zj7 j v];have h:=Same.upd (o:=.lst (nsV (srtN (ns++[n])))) r;have i:upd e b (.lst (nsV (srtN (ns++[n])))) b=some (.lst (nsV (srtN (ns++[n])))):=upd_same;generalize upd e b (.lst (nsV (srtN (ns++[n]))))=H17 at h i⊢;exact ⟨b,_,rfl,.inl ⟨SqL.of i,λ b4 s=>q b4 _ (((d.trans k).trans h).trans (Same.upd s)) upd_same⟩⟩
def z9u (K:j0):Sp:=λ vs H Q _=>∃(t la lm p pt te:Addr) (zs:List V) (ts:List (Str×Str)) (rs:List Rc) (ps:List DD) (m k:Nat) (H0:Hp) (pl:Pl),vs=[.ref t,.ref la,.ref lm,.ref p]/\H t=some (.tup [.ref pt,.ref te])/\ThAt H pt ts/\ThW ts/\H la=some (.lst zs)/\All2 (ActAt H) rs zs/\All2 (RcGd K H ts) rs ps/\rs.length<=63/\MustAt H0 H m rs lm/\PlZ K H p pl/\PlOk ts rs.length k pl/\
 ∀l ys H',Same H H'->H l=none->H' l=some (.lst ys)->All2 (StpZ K H') (nexT (cO m rs pl.1) ts rs ps pl rs.length) ys->Q (.ref l) H'
theorem zey (T:TX (KX w.params) mg) (c0:Cal P w (KX w.params) mg base "_law_does" ["kind","state","verb","worth"] 1 (z1t (KX w.params))) (c1:Cal P w (KX w.params) mg base "_law_alike" ["one","other"] 1 z23):FnOk P w (KX w.params) mg base CX0 2 404 fd__law_on ["tale","acts","must","place"] (z9u (KX w.params)):=by
 refine (z93 w.params).ok sc__law_on (λ Y H Q E h=>?_) (λ h7 A h6 s H Y Q E hr h=>?_)
 ·obtain ⟨t,S,lm,p,pt,te,zs,ts,u,ps,m,k,H0,pl,rfl,_⟩:=h;rfl
 ·obtain ⟨t,S,lm,p,pt,te,zs,ts,u,ps,m,k,H0,⟨c,I⟩,rfl,et,th,ok,el,aa,gd,rl,mu,⟨pa,pb,Y,sp,sa,sb,sz⟩,po,q⟩:=h;refine ⟨_,(z02 (ps_set (i:=4) sc__law_on.nd rfl (Z0 rfl) (pe_lst pa_nil))
   (z02 (z6m (i:=5) sc__law_on.nd rfl (Z0 rfl) (xs:=["name","kind"]) (g:=gTup (KX w.params) 2 (gCons (gName 0) (gCons (gName 1) gNil))) (fr:=[]) rfl (pi_tup (pe_ix ix_seq (pv 0) pe_int (λ _ _=>rfl))) (λ _ z=>absurd z x0) (z1b rfl) (λ _ z=>absurd z x0) (by decide +kernel) rfl (by decide +kernel) (λ _ _ _ _ _=>(pg_tup rfl (z07 (z0e (N:=["name","kind"]) 0 (by decide +kernel) rfl rfl) (z07 (z0e (N:=["name","kind"]) 1 (by decide +kernel) rfl rfl) z0s)))) (λ _ _ _ _ _=>pf_nil) (λ _ _ _ _ _=>(pv 0)))
   (z02 (ps_set (i:=6) sc__law_on.nd rfl (Y0 rfl) (z0k (z57 rfl) rfl (T.no (n_dict _)) boot_dict (z00 (z0q (xs:=["number"]) (g:=gName 0) (fr:=[]) rfl (pi_tup (pe_ix ix_seq (pv 3) pe_int (λ _ _=>rfl))) (λ _ z=>absurd z x0) (z1b rfl) (λ _ z=>absurd z x0) (by decide +kernel) rfl (by decide +kernel) (λ _ _ _ _ _=>(z0e (N:=["number"]) 0 (by decide +kernel) rfl rfl)) (λ _ _ _ _ _=>pf_nil) (λ _ _ _ _ _=>(pe_tup (z00 (pv 0) (z00 pe_bl pa_nil))))) pa_nil)))
   (z02 (ps_for U1 rfl (z1c rfl (T.no (z3x _)) (z00 (z09 z12 rfl (T.no (n_len _)) Y3 (z00 (pv 1) pa_nil)) pa_nil)) (z0j (i:=7) sc__law_on.nd rfl (Z0 rfl))
   (z02 (ps_if (PW.pt (pw_or (pt_cmp (pc_din (hu_of hr) (pv 7) (pv 6)) (by with_unfolding_all rfl)) (pw_or1 (z08 (zfz hr) (z0q (xs:=["one"]) (g:=gName 0) (fr:=[(6,"gone")]) rfl (z3f (pe_ix ix_seq (pv 2) (pv 7) (λ _ _=>rfl))) (by intro p hp;obtain rfl:=List.mem_singleton.mp hp;first|exact ⟨rfl,.inl rfl⟩|exact ⟨rfl,.inr rfl⟩) (z2r (n:="gone") (by decide +kernel) (λ _=>by first|exact .inl rfl|exact .inr rfl)) (by intro p hp;obtain rfl:=List.mem_singleton.mp hp;exact ⟨by decide +kernel,by first|exact .inl rfl|exact .inr rfl⟩) (by decide +kernel) rfl (by decide +kernel) (λ _ _ _ _ _=>(z0e (N:=["one","gone"]) 0 (by decide +kernel) rfl rfl)) (λ _ _ _ _ _=>(pf_one (pt_cmp (zhm (hu_of hr) (pv 0) (pv 1)) (by with_unfolding_all rfl)))) (λ _ _ _ _ _=>(pv 0))) (pe_lst pa_nil) (nomark _)))))
   (z03 zea)
   z0c)
   (z02 (ps_set (i:=8) sc__law_on.nd rfl (Z0 rfl) (pe_ix ix_seq (pv 1) (pv 7) (λ _ _=>rfl)))
   (z02 (ps_set (i:=9) sc__law_on.nd rfl (Z0 rfl) (zbo (pv 5) (z00 (pe_ix ix_seq (pv 8) pe_int (λ _ _=>rfl)) pa_nil)))
   (z02 (ps_asg (pe_cal c0 (hr.mono (by decide)) rfl (z00 (pe_ix ix_seq (pe_ix ix_seq (pe_ix ix_seq (pv 0) pe_int (λ _ _=>rfl)) (pv 9) (λ _ _=>rfl)) pe_int (λ _ _=>rfl)) (z00 (pe_ix ix_seq (pe_ix ix_seq (pv 3) pe_int (λ _ _=>rfl)) (pv 9) (λ _ _=>rfl)) (z00 (pe_ix ix_seq (pv 8) pe_int (λ _ _=>rfl)) (z00 (pe_ix ix_seq (pv 8) pe_int (λ _ _=>rfl)) pa_nil))))) (pg_tup rfl (z07 (z0j (i:=10) sc__law_on.nd rfl (Z0 rfl)) (z07 (z0j (i:=11) sc__law_on.nd rfl (Z0 rfl)) z0s))))
   (z03 (ps_if (PW.pt (pw_or (z08 op_isN (pe_ix ix_seq (pv 8) pe_int (λ _ _=>rfl)) pe_non (nomark _)) (pw_or1 (pt_val (pe_cal c1 (hr.mono (by decide)) rfl (z00 (pv 11) (z00 (pe_ix ix_seq (pv 8) pe_int (λ _ _=>rfl)) pa_nil))) (λ _=>rfl)))))
   (z02 (ps_set (i:=12) sc__law_on.nd rfl (Z0 rfl) (pe_op (op_catS.or z5s) (pe_op (op_catS.or z5s) (z1i slSeq (pe_ix ix_seq (pv 3) pe_int (λ _ _=>rfl)) z3k (z2e (pv 9))) (pe_tup (z00 (pv 10) pa_nil))) (z1i slSeq (pe_ix ix_seq (pv 3) pe_int (λ _ _=>rfl)) (z2e (pe_op opAdd (pv 9) pe_int)) z3k)))
   (z02 (ps_set (i:=13) sc__law_on.nd rfl (Z0 rfl) (pe_tup (z00 (z0k z0f rfl (T.no (z0y _)) B3 (z00 (z09 z2t rfl (T.no (z47 _)) G7 (z00 (pe_op op_catS (pe_ix ix_seq (pv 3) pe_int (λ _ _=>rfl)) (pe_tup (z00 (pv 7) pa_nil))) pa_nil)) pa_nil)) (z00 (pv 12) pa_nil))))
   (z03 (z2g (z16 (pv 4) (z00 (pe_tup (z00 (pv 7) (z00 (pv 11) (z00 (pv 13) pa_nil)))) pa_nil))))))
   z0c)))))))
   (z03 (ps_ret (pv 4))))))),?_⟩
  have lz:zs.length=u.length:=z04 aa;have nd:=po.nd;have f6:=po.lt;have sa:SqT (KX w.params) H pa (nsV c):=sa;obtain ⟨yt,c9,a4⟩:=th;refine ⟨w_0,λ lt a5=>?_⟩;have s1:=Same.upd (o:=.lst []) a5;have e1:upd H lt (.lst []) lt=some (.lst []):=upd_same;generalize upd H lt (.lst [])=H1 at s1 e1⊢;refine g_name (t_nx ?_);refine z0x ?_;refine z0z (K:=KX w.params) (a:=pt) (xs:=yt) (H1:=H1) (λ _=>true) (λ i y l=>∃t,ts[i]? = some t/\y=.str t.1) (λ _ _ _ _ s z=>z) (λ R h=>⟨_,rfl,.inr (.inl ⟨t,_,0,.ref pt,rfl,rfl,SqT.of (s1 _ _ et),z05 (j:=0) rfl,h⟩)⟩) (s1.seqT (SqT.of c9)) (G0 (m:=6) (by rw [z04 a4];exact ok.n6) (by decide)) ?_ ?_
  ·intro i M v H2 s2 C KT KF W k2;obtain ⟨t,ht,b,rfl,eb⟩:=z0h a4 C;have d9:=(s1.trans s2) _ _ eb;refine ⟨b,_,rfl,SqT.of d9,rfl,_,_,rfl,_,_,rfl,rfl,[some (.str t.1),some (.str t.2)],rfl,rfl,iteT ?_⟩;exact ⟨_,rfl,W rfl _ _ (Same.refl _) ⟨t,ht,rfl⟩⟩
  intro B H2 us s2 a8 c2;rw [List.filter_eq_self.mpr (λ _ _=>rfl),z04 a4] at c2;rw [zcs (f:=λ t=>t.1) c2];have s3:=s2.trans (Same.upd (o:=.lst (ts.map λ t=>V.str t.1)) a8);have e3:upd H2 B (.lst (ts.map λ t=>V.str t.1)) B=some (.lst (ts.map λ t=>V.str t.1)):=upd_same;generalize upd H2 B (.lst (ts.map λ t=>V.str t.1))=H3 at s3 e3⊢;refine g_name ?_;have b2:=s1.trans s3;have e0:(nsV c).length=c.length:=by unfold nsV;rw [M0]
  refine zfx ?_;have h5:c.length<=63:=G0 (z3q _ _ nd f6) rl;refine z0z (K:=KX w.params) (a:=pa) (xs:=nsV c) (H1:=H3) (λ _=>true) (λ i y l=>∃n b,c[i]? = some n/\y=.ref b/\l b=some (.tup [.int (n:Nat),.bl true])) (λ _ _ _ _ s ⟨n,b,h1,h2,h3⟩=>⟨n,b,h1,h2,s _ _ h3⟩) (λ R h=>⟨_,rfl,.inr (.inl ⟨p,_,0,.ref pa,rfl,rfl,b2.seqT sp,z05 (j:=0) rfl,h⟩)⟩) (b2.seqT sa) (G0 (m:=63) (by omega) (by decide)) ?_ ?_
  ·intro i M v H4 s4 C KT KF W k2;unfold nsV at C;rw [W0] at C;obtain ⟨n',g8,rfl⟩:=Option.map_eq_some_iff.mp C;refine ⟨[some (.int (n':Nat))],rfl,rfl,iteT ?_⟩;exact ⟨_,rfl,w_2,λ b Z=>W rfl _ _ (Same.upd Z) ⟨n',b,g8,rfl,upd_same⟩⟩
  intro lg H4 us2 s4 d3 b9;rw [List.filter_eq_self.mpr (λ _ _=>rfl),e0] at b9;have s5:=s4.trans (Same.upd (o:=.lst us2) d3);have c7:=Same.upd (o:=.lst us2) d3;have e5:upd H4 lg (.lst us2) lg=some (.lst us2):=upd_same;generalize upd H4 lg (.lst us2)=H5 at s5 c7 e5⊢;refine ⟨lg,us2,gnK c,rfl,.inl e5,z01 (λ _ _ z=>z.elim λ b y=>⟨b,y.1,c7.seqT y.2⟩) (zi1 b9),λ g hg=>?_⟩;have s6:=s5.trans (Same.upd (o:=.dK (mergeK [] (gnK c))) hg);have e6:upd H5 g (.dK (mergeK [] (gnK c))) g=some (.dK (mergeK [] (gnK c))):=upd_same;generalize upd H5 g (.dK (mergeK [] (gnK c)))=H6 at s6 e6⊢;refine g_name ?_;have d8:lt≠B:=λ z=>by rw [<-z,s2 _ _ e1] at a8;cases a8
  have d7:Same H H6:=b2.trans s6;have h8:H lt=none:=a5;have g6:H6 lt=some (.lst []):=(s3.trans s6) _ _ e1;have h0:H6 B=some (.lst (ts.map λ t=>V.str t.1)):=s6 _ _ e3;have f7:g≠lt:=λ z=>by rw [z,(s3.trans s5) _ _ e1] at hg;cases hg
  refine ⟨_,rfl,.inl ⟨S,zs,rfl,.inl (SqL.of (d7 _ _ el)),zs.length,rfl,by omega,by omega,?_⟩⟩;refine z4u (lo:=0) (n:=zs.length) (λ i σ l=>∃ys,Same H l/\l lt=some (.lst ys)/\l B=some (.lst (ts.map λ t=>V.str t.1))/\l g=some (.dK (mergeK [] (gnK c)))/\All2 (StpZ (KX w.params) l) (nexT (cO m u c) ts u ps (c,I) i) ys/\∃x7 x8 x9 x10 x11 x12 x13,σ=[some (.ref t),some (.ref S),some (.ref lm),some (.ref p),some (.ref lt),some (.ref B),some (.ref g),x7,x8,x9,x10,x11,x12,x13])
   ⟨[],d7,g6,h0,e6,.nil,_,_,_,_,_,_,_,rfl⟩ ?_ ?_
  ·rintro j σ H7 hj ⟨ys,s7,e7,n7,g7,al7,x7,x8,x9,x10,x11,x12,x13,rfl⟩;rw [M7];refine g_name ?_;have c6:j < u.length:=by omega
   have a1:u[j]? = some u[j]:=K0 c6;obtain ⟨y,hy,pk,rfl,ek⟩:=z0n aa a1;obtain ⟨d,b7,d0⟩:=z0n gd a1;obtain ⟨ms,em,ml,_,fm⟩:=mu;obtain ⟨qa,mn,hq,eq,ql,_,mm⟩:=fm j ms[j] (K0 (by omega));generalize u[j]=r at a1 ek d0;have go:cO m u c j=false\/stp ts r d j (c,I)=none->∀{y7 y8 y9 y10 y11 y12 y13:Option V} {l:Hp},Same H7 l->∃ys,Same H l/\l lt=some (.lst ys)/\l B=some (.lst (ts.map λ t=>V.str t.1))/\l g=some (.dK (mergeK [] (gnK c)))/\All2 (StpZ (KX w.params) l) (nexT (cO m u c) ts u ps (c,I) (j + 1)) ys/\∃x7 x8 x9 x10 x11 x12 x13,[some (.ref t),some (.ref S),some (.ref lm),some (.ref p),some (.ref lt),some (.ref B),some (.ref g),y7,y8,y9,y10,y11,y12,y13]=[some (.ref t),some (.ref S),some (.ref lm),some (.ref p),some (.ref lt),some (.ref B),some (.ref g),x7,x8,x9,x10,x11,x12,x13]:=λ h {y7 y8 y9 y10 y11 y12 y13 l} D=>by refine ⟨ys,s7.trans D,D _ _ e7,D _ _ n7,D _ _ g7,?_,_,_,_,_,_,_,_,rfl⟩;rw [z3r,z9x a1 b7 h,L9,W2];exact z01 (λ _ _ z=>StpZ.tups (.of D) z) al7
   refine z5p (λ σ1 H8=>Same H7 H8/\cO m u c j=true/\σ1=[some (.ref t),some (.ref S),some (.ref lm),some (.ref p),some (.ref lt),some (.ref B),some (.ref g),some (.int (j:Nat)),x8,x9,x10,x11,x12,x13]) ?_ λ tl=>?_;rotate_left
   ·refine t_or ?_;refine ⟨_,rfl,_,rfl,g,_,rfl,DGet.k (k:=.inl (j:Int)) g7,_,rfl,?_⟩;by_cases hin:(valV (mergeK [] (gnK c)) (.inl (j:Int))).isSome=true
    ·refine iteP hin (iteT (go (.inl ?_) (Same.refl _)));unfold cO;rw [decide_eq_false (λ h=>h (gnK_in.mp hin))];rfl
    refine iteN hin ?_;have f5:j < ms.length:=by omega
    refine t_test ?_;refine z6s (K:=KX w.params) (a:=qa) (xs:=nsV mn) (H1:=H7) (λ i=>((mn[i]?.map λ (x:Nat)=>!decide (x∈c)).getD false)) (λ i y _=>∃x:Nat,mn[i]? = some x/\y=.int (x:Nat)) (λ _ _ _ _ _ z=>z) (λ R h=>⟨_,rfl,_,rfl,.inl ⟨lm,ms,j,.ref qa,rfl,rfl,SqL.of (s7 _ _ em),z05 (by rw [<-hq];exact K0 f5),h⟩⟩) (SqL.of (s7 _ _ eq)) (G0 (m:=63) (by rw [z1s];omega) (by decide)) ?_ ?_
    ·intro i M v H8 J C KT KF W k2;unfold nsV at C;rw [W0] at C;obtain ⟨x,hx,rfl⟩:=Option.map_eq_some_iff.mp C;rw [hx] at W k2;refine ⟨[some (.int (x:Nat))],rfl,rfl,?_⟩;refine ⟨_,rfl,_,rfl,g,_,rfl,DGet.k (k:=.inl (x:Int)) (J _ _ g7),_,rfl,?_⟩;by_cases Z:x∈c
     ·exact iteN (by rw [gnK_in.mpr Z];decide) (k2 (by show (!decide (x∈c))=false;rw [decide_eq_true Z];rfl) _ (Same.refl _))
     ·refine iteP ?_ ⟨_,rfl,W (by show (!decide (x∈c))=true;rw [decide_eq_false Z];rfl) _ _ (Same.refl _) ⟨x,rfl,rfl⟩⟩;cases h:(valV (mergeK [] (gnK c)) (.inl (x:Int))).isSome with
      | true=>exact absurd (gnK_in.mp h) Z
      | false=>rfl
    intro l8 H8 us J e4 b8;refine ⟨w_0,λ l9 c3=>?_⟩;have O:=J.trans ((Same.upd (o:=.lst us) e4).trans (Same.upd (o:=.lst []) c3));refine ⟨l8,l9,us,rfl,rfl,SqL.of ((Same.upd c3) _ _ upd_same),SqL.of upd_same,_,rfl,?_⟩;have nj:j∉c:=λ z=>hin (gnK_in.mpr z);have lu:=z04 b8;by_cases u0:us=[]
    ·refine iteN (by rw [u0];decide) (tl _ _ ⟨O,?_,rfl⟩);rw [u0] at lu;have lf:=List.filter_eq_nil_iff.mp (List.eq_nil_of_length_eq_zero lu.symm);unfold cO;rw [decide_eq_true nj,Y6];refine decide_eq_true λ a _ h=>?_;obtain ⟨i,M⟩:=List.mem_iff_getElem?.mp ((mm a).mpr h);have:=lf i (List.mem_range.mpr (by rw [z1s];exact (List.getElem?_eq_some_iff.mp M).1));rw [M] at this;by_cases z:a∈c
     ·exact z
     ·exact absurd (by show (!decide (a∈c))=true;rw [decide_eq_false z];rfl) this
    ·refine iteP (decide_eq_true u0) (go (.inl ?_) O);obtain ⟨y0,f8⟩:=List.exists_mem_of_ne_nil us u0;obtain ⟨i0,f2⟩:=List.mem_iff_getElem?.mp f8;obtain ⟨i,M,x,hx,_⟩:=z0h b8 f2;have hf:=(List.mem_filter.mp (T0 M)).2;rw [hx] at hf;have hf:(!decide (x∈c))=true:=hf;have h:=(mm x).mp (T0 hx);unfold cO;rw [decide_eq_false (p:=∀a∈J1 u.length,z0i m u a j=true->a∈c) (λ h'=>by rw [decide_eq_true (h' x (List.mem_range.mpr (z1h h).1) h)] at hf;cases hf),L6]
   rintro σ1 H8 ⟨J,hc,rfl⟩;have e2:j∉c:=of_decide_eq_true (Bool.and_eq_true_iff.mp hc).1;obtain ⟨g1,g2,hm,dk,ix,wi,ga⟩:=d0;rw [g1,g2] at ek;have F:=s7.trans J;have T8:Tt (KX w.params) H H8:=.of F;have a2:=F _ _ ek;refine ⟨_,rfl,_,rfl,.inl ⟨S,zs,j,.ref pk,rfl,rfl,SqL.of (F _ _ el),z05 hy,?_⟩⟩;refine g_name (t_nx ?_);have b0:=ixT_of ok hm;have c8:(ts.map (·.1))[ixT ts d.nm]? = some d.nm:=by rw [W0,b0];rfl
   have a9:=J _ _ n7;rw [show ts.map (λ t=>V.str t.1)=(ts.map (·.1)).map V.str by rw [B4];rfl] at a9;refine ⟨_,rfl,.inl ⟨rfl,_,SqL.of a9⟩,_,rfl,.inl ⟨pk,_,1,.str d.nm,rfl,rfl,SqL.of a2,z05 (j:=1) rfl,B,ts.map (·.1),d.nm,ixT ts d.nm,rfl,rfl,a9,G0 (m:=6) (by rw [M0];exact ok.n6) (by decide),c8,λ m' h4 e=>?_,?_⟩⟩
   ·have:=(e8 (List.getElem?_eq_some_iff.mp e).1 ok.nd).mp (e.trans c8.symm);omega
   refine g_name (t_nx ?_);obtain ⟨L,hs,so⟩:=z0n po.so b0;obtain ⟨v,C,hz⟩:=z0n sz hs;obtain ⟨yb,g3,tb,rfl,g5⟩:=z0n a4 b0;obtain ⟨c5,g4⟩:=po.n63 rl c6 e2;refine ⟨_,rfl,.inr (.inl ⟨t,_,0,.ref pt,rfl,rfl,SqT.of (F _ _ et),z05 (j:=0) rfl,?_⟩)⟩;refine ⟨_,rfl,.inr (.inl ⟨pt,yt,_,.ref tb,rfl,rfl,SqT.of (F _ _ c9),z05 g3,?_⟩)⟩;refine .inr (.inl ⟨tb,_,1,.str d.k,rfl,rfl,SqT.of (F _ _ g5),z05 (j:=1) rfl,?_⟩);refine ⟨_,rfl,.inr (.inl ⟨p,_,1,.ref pb,rfl,rfl,F.seqT sp,z05 (j:=1) rfl,?_⟩)⟩;refine ⟨_,rfl,.inr (.inl ⟨pb,Y,_,v,rfl,rfl,F.seqT sb,z05 C,?_⟩)⟩;refine ⟨_,rfl,.inl ⟨pk,_,2,.str d.vb,rfl,rfl,SqL.of a2,z05 (j:=2) rfl,?_⟩⟩;refine ⟨_,rfl,.inl ⟨pk,_,3,r.x,rfl,rfl,SqL.of a2,z05 (j:=3) rfl,?_⟩⟩;refine ⟨d.k,d.vb,v,r.x,d.dt,k,L,rfl,so,hz.tups T8.t,c5,dk,IsDt.mono' T8.t _ _ ix,wi.tt T8,λ p9 v9 H9 O e9 g0=>?_⟩;have f1:=dz_ok dk so c5;refine ⟨p9,_,rfl,SqT.of e9,rfl,v9,_,rfl,_,_,rfl,rfl,?_⟩;have a3:=F.trans O;have r9:Same H7 H9:=J.trans O;have st:=stp_of (ts:=ts) (r:=r) (n:=j) (pl:=(c,I)) hs;refine t_nx (if_any (λ l=>H9=l/\stp ts r d j (c,I)=some (stq ts d j (c,I) L)) ?_ λ d6=>?_);rotate_left
   ·refine t_or ?_;refine ⟨_,rfl,.inl ⟨pk,_,6,endV r.e,rfl,rfl,SqL.of (O _ _ a2),z05 (j:=6) rfl,rfl,_,rfl,?_⟩⟩;cases re:r.e with
    | none=>refine iteP rfl (iteT (d6 _ ⟨rfl,?_⟩));rw [st,re];rfl
    | some e=>
    refine iteN (by simp [endV]) ?_;have rA:IsA r.a:=by
     rcases ga with ⟨g,_⟩|⟨_,g⟩
     ·rw [re] at g;cases g
     ·exact g.isA
    refine ⟨_,rfl,_,rfl,.inl ⟨pk,_,4,r.a,rfl,rfl,SqL.of (O _ _ a2),z05 (j:=4) rfl,_,r.a,rfl,.inl f1.2.isA,rA,_,rfl,?_⟩⟩;by_cases za:(dz d.k d.vb d.dt L).2=r.a
    ·refine iteP (decide_eq_true za) (d6 _ ⟨rfl,?_⟩);rw [st,decide_eq_true za,Bool.or_true];rfl
    ·refine iteN (λ h=>za (of_decide_eq_true h)) (go (.inr ?_) r9);rw [st,re,decide_eq_false za];rfl
   rintro l ⟨rfl,hst⟩;have vl:Y.length=I.length:=z04 sz;have it:ixT ts d.nm < Y.length:=(List.getElem?_eq_some_iff.mp C).1;have sl:I.length=ts.length:=z04 po.so;refine z0x (set_sl (i:=ixT ts d.nm) (v:=v9) (λ l R D h=>⟨_,rfl,.inr (.inl ⟨p,_,1,.ref pb,rfl,rfl,(a3.trans D).seqT sp,z05 (j:=1) rfl,h⟩)⟩) (λ l R D h=>⟨_,rfl,.inr (.inl ⟨p,_,1,.ref pb,rfl,rfl,(a3.trans D).seqT sp,z05 (j:=1) rfl,h⟩)⟩) (λ l R D h=>⟨_,rfl,h⟩) (λ l R D h=>⟨_,rfl,h⟩) (λ l R D h=>⟨_,rfl,.inl ⟨_,1,rfl,rfl,h⟩⟩) (a3.seqT sb) it (by have:=ok.n6;omega) λ p5 f9 a6 q5=>?_);refine g_name ?_;have c4:=a3.trans a6;refine z0x (tup2 (srt_in (n:=j) (λ R h=>⟨_,rfl,.inr (.inl ⟨p,_,0,.ref pa,rfl,rfl,c4.seqT sp,z05 (j:=0) rfl,h⟩)⟩) (λ R h=>⟨_,rfl,h⟩) (c4.seqT sa) g4 λ b4 d4 f0 f4=>?_));refine ⟨_,rfl,w_2,λ G g9=>?_⟩;have b1:=Same.upd (o:=.tup [.ref b4,.ref p5]) g9;have d2:upd d4 G (.tup [.ref b4,.ref p5]) G=some (.tup [.ref b4,.ref p5]):=upd_same;generalize upd d4 G (.tup [.ref b4,.ref p5])=H19 at b1 d2⊢;refine g_name ?_;have a7:Same f9 H19:=f0.trans b1;have d5:Same H7 H19:=(r9.trans a6).trans a7;refine ⟨_,rfl,.inl ⟨rfl,_,SqL.of (d5 _ _ e7)⟩,_,rfl,_,rfl,_,rfl,w_3,λ X f3=>?_⟩;have U:=Same.upd (o:=.tup [.int (j:Nat),(dz d.k d.vb d.dt L).2,.ref G]) f3;have b3:upd H19 X (.tup [.int (j:Nat),(dz d.k d.vb d.dt L).2,.ref G]) X=some (.tup [.int (j:Nat),(dz d.k d.vb d.dt L).2,.ref G]):=upd_same;generalize upd H19 X (.tup [.int (j:Nat),(dz d.k d.vb d.dt L).2,.ref G])=H20 at U b3⊢;have a0:=d5.trans U;have d1:=a0 _ _ e7;have yl:ys.length<=j:=by rw [z04 al7];exact z63
   refine ⟨lt,ys,_,rfl,rfl,d1,E1 (m:=100) (by omega) (by decide),?_⟩;have tu:Tups (KX w.params) H20 (upd H20 lt (.lst (ys++[.ref X]))):=Tups.lst d1;refine ⟨ys++[.ref X],Same.keep (s7.trans a0) a5,upd_same,by rw [upd_ne d8.symm];exact a0 _ _ n7,by rw [upd_ne f7];exact a0 _ _ g7,?_,_,_,_,_,_,_,_,rfl⟩;rw [z3r,zab a1 b7 hc hst];refine zbh (z01 (λ _ _ z=>(StpZ.tups (.of a0) z).tups tu) al7) (.cons (StpZ.tups tu ⟨X,G,rfl,SqT.of b3,b4,p5,Y.set (ixT ts d.nm) v9,SqT.of (U _ _ d2),SqT.of ((b1.trans U) _ _ f4),(a7.trans U).seqT q5,z91 (z01 (λ _ _ z=>StZ.tups (.of (s7.trans a0)) z) sz) (g0.tups (.of ((a6.trans a7).trans U))) _⟩) .nil)
  ·rintro σ H7 ⟨ys,s7,e7,n7,g7,al7,x7,x8,x9,x10,x11,x12,x13,rfl⟩;rw [lz] at al7;exact ⟨_,rfl,q _ _ _ s7 a5 e7 al7⟩
noncomputable def svD:Sv->PyData
 | .num i=>.int i
 | .row ns=>.tuple (ns.map d5)
noncomputable def ansDt:V->PyData
 | .int i=>.int i
 | .str z=>.str z
 | _=>.none
noncomputable def plD (pl:Pl):PyData:=.tuple [.tuple (pl.1.map λ (n:Nat)=>.int (n:Int)),.tuple (pl.2.map svD)]
noncomputable def stpD (s:Stp):PyData:=.tuple [.int (s.1:Nat),ansDt s.2.1,plD s.2.2]
theorem zg4 {K:j0} {H:Hp} :∀ns:List Int,IsPds K H (ns.map d5) (ns.map V.int)
 | []=>rfl
 | n :: ns=>⟨_,_,rfl,rfl,zg4 ns⟩
theorem ziz {K:j0} {H:Hp} :∀ns:List Nat,IsPds K H (ns.map λ (n:Nat)=>.int (n:Int)) (nsV ns)
 | []=>rfl
 | n :: ns=>⟨_,_,rfl,rfl,ziz ns⟩
theorem stz_pd {K:j0} {H:Hp} :∀{s:Sv} {v:V},StZ K H s v->IsPd K H (svD s) v
 | .num _,_,h=>h
 | .row ns,_,h=>h.elim λ p z=>⟨p,_,z.1,z.2,zg4 ns⟩
theorem zl0 {K:j0} {H:Hp} {ss:List Sv} {vs:List V} (h:All2 (StZ K H) ss vs):IsPds K H (ss.map svD) vs:=by
 induction h with
 | nil=>exact (rfl:([]:List V)=[])
 | cons a r ih=>exact ⟨_,_,rfl,stz_pd a,ih⟩
theorem plz_pd {K:j0} {H:Hp} {p:Addr} {pl:Pl} (h:PlZ K H p pl):IsPd K H (plD pl) (.ref p):=by obtain ⟨b,e,g,f,a,c,d⟩:=h;exact ⟨p,_,rfl,f,_,_,rfl,⟨b,_,rfl,a,ziz _⟩,_,_,rfl,⟨e,_,rfl,c,zl0 d⟩,rfl⟩
theorem ans_pd {K:j0} {H:Hp} {a:V} (h:AnsV a):IsPd K H (ansDt a) a:=by rcases h with rfl|rfl|⟨i,rfl,_⟩<;>rfl
theorem stp_pd {K:j0} {H:Hp} {s:Stp} {y:V} (ha:AnsV s.2.1) (h:StpZ K H s y):IsPd K H (stpD s) y:=by obtain ⟨b,p,rfl,a,c⟩:=h;exact ⟨b,_,rfl,a,_,_,rfl,rfl,_,_,rfl,ans_pd ha,_,_,rfl,plz_pd c,rfl⟩
theorem zgd {K:j0} {H:Hp} {ss:List Stp} {ys:List V} (ha :∀s∈ss,AnsV s.2.1) (h:All2 (StpZ K H) ss ys):IsPds K H (ss.map stpD) ys:=by
 induction h with
 | nil=>exact (rfl:([]:List V)=[])
 | cons a r ih=>exact ⟨_,_,rfl,stp_pd (ha _ B1) a,ih λ s b=>ha s (D1 _ b)⟩
theorem z2c {α:Type} {f:α->PyData} :∀{xs:List α},(∀x∈xs,plainP (f x)=true)->z1e (xs.map f)=true
 | [],_=>rfl
 | x :: xs,h=>by show (plainP (f x) && z1e (xs.map f))=true;rw [h x B1,z2c λ y a=>h y (D1 _ a)];rfl
theorem z3j {α:Type} {f:α->PyData} {n:Nat} :∀{xs:List α},(∀x∈xs,(f x).depth<=n)->o6 (xs.map f)<=n
 | [],_=>d3 _
 | x :: xs,h=>by have c:=h x B1;have b:=z3j (f:=f) (n:=n) (xs:=xs) λ y a=>h y (D1 _ a);show max (f x).depth (o6 (xs.map f))<=n;omega
theorem zg5 (s:Sv):plainP (svD s)=true/\(svD s).depth<=1:=by
 cases s with
 | num i=>exact ⟨rfl,d3 _⟩
 | row ns=>exact ⟨z2c λ _ _=>rfl,by have:=z3j (f:=d5) (n:=0) (xs:=ns) (λ _ _=>F0 _);simp only [svD,A8];omega⟩
theorem zh0 (pl:Pl):plainP (plD pl)=true/\(plD pl).depth<=3:=by
 have a:z1e (pl.1.map λ (n:Nat)=>d5 (n:Int))=true:=z2c λ _ _=>rfl;have b:z1e (pl.2.map svD)=true:=z2c λ s _=>(zg5 s).1;have c:=z3j (f:=λ (n:Nat)=>d5 (n:Int)) (n:=0) (xs:=pl.1) (λ _ _=>F0 _);have d:=z3j (f:=svD) (n:=1) (xs:=pl.2) (λ s _=>(zg5 s).2);refine ⟨?_,?_⟩
 ·show (z1e _ && (z1e _ && true))=true;rw [a,b];rfl
 ·unfold plD;simp only [A8,o6];omega
theorem z8c {s:Stp} (ha:AnsV s.2.1):plainP (stpD s)=true/\(stpD s).depth<=5:=by
 have ⟨p,d⟩:=zh0 s.2.2;have a:plainP (ansDt s.2.1)=true/\(ansDt s.2.1).depth=0:=by
  rcases ha with h|h|⟨i,h,_⟩<;>rw [h]
  ·exact ⟨by decide +kernel,rfl⟩
  ·exact ⟨by decide +kernel,rfl⟩
  ·exact ⟨rfl,rfl⟩
 refine ⟨?_,?_⟩
 ·show (true && (plainP _ && (plainP _ && true)))=true;rw [a.1,p];rfl
 ·unfold stpD;simp only [A8,o6];omega
theorem zbw {d:PyData} (h:plainP d=true):d.eqv d=true:=(zin d d h h).mpr rfl
def z13 (K:j0):Sp:=λ vs H Q _=>∃(p p':Addr) (pl:Pl),vs=[.ref p,.ref p']/\PlZ K H p pl/\PlZ K H p' pl/\Q (.bl true) H
theorem z4m (T:TX (KX w.params) mg):FnOk P w (KX w.params) mg base CX0 1 426 fd__law_place_alike ["got","due"] (z13 (KX w.params)):=by
 refine (z19 w.params).ok z4o (λ e H Q E h=>?_) (λ n A o s H e Q E k h=>?_)
 ·obtain ⟨p,l,a,rfl,_⟩:=h;rfl
 ·obtain ⟨p,l,a,rfl,f,g,q⟩:=h;refine ⟨_,(z03 (ps_ret (pe_and (z09 z1d rfl (T.no (z0g _)) F2 (z00 (pv 0) (z00 (z1l (v:=.ty "tuple") rfl (T.no (z0y _)) B3 rfl) pa_nil))) (pe_and (z09 z1d rfl (T.no (z0g _)) F2 (z00 (pe_ix ix_seq (pv 0) pe_int (λ _ _=>rfl)) (z00 (z1l (v:=.ty "tuple") rfl (T.no (z0y _)) B3 rfl) pa_nil))) (pe_and (z09 z1d rfl (T.no (z0g _)) F2 (z00 (pe_ix ix_seq (pv 0) pe_int (λ _ _=>rfl)) (z00 (z1l (v:=.ty "tuple") rfl (T.no (z0y _)) B3 rfl) pa_nil))) (pe_one (z0u (op_eqP k) (pv 0) (pv 1) (nomark _)))))))),?_⟩;obtain ⟨d,c,e,b,m,i,sz⟩:=id f;refine sq_ret ⟨_,rfl,p,_,rfl,b,_,rfl,iteP rfl ?_⟩;refine ⟨_,rfl,.inr (.inl ⟨p,_,0,.ref d,rfl,rfl,b,z05 (j:=0) rfl,d,_,rfl,m,_,rfl,iteP rfl ?_⟩)⟩;refine ⟨_,rfl,.inr (.inl ⟨p,_,1,.ref c,rfl,rfl,b,z05 (j:=1) rfl,c,_,rfl,i,_,rfl,iteP rfl ?_⟩)⟩;have ⟨pp,pd⟩:=zh0 a;refine ⟨_,rfl,_,rfl,plD a,plD a,plz_pd f,plz_pd g,pp,pp,G0 pd (by decide),?_⟩;rw [zbw pp];exact q
theorem zjc {K:j0} {H:Hp} {c:Nat->Bool} {ts:List (Str×Str)} {rs:List Rc} {ps:List DD} {pl:Pl} {k N i:Nat} (gd:All2 (RcGd K H ts) rs ps) (ok:ThW ts) (po:PlOk ts N k pl) (rl:N<=63) (hN:N=rs.length) (hc :∀n,c n=true->n∉pl.1) (hi:i<=N) :∀s∈nexT c ts rs ps pl i,AnsV s.2.1/\∃n r p sv,n < N/\c n=true/\rs[n]? = some r/\ps[n]? = some p/\pl.2[ixT ts p.nm]? = some sv/\SvOk k p.k sv/\s=stq ts p n pl sv:=by
 intro s b;unfold nexT at b;obtain ⟨n,m,e⟩:=List.mem_filterMap.mp b;have m:=List.mem_range.mp m;unfold nexAt at e;cases h:c n with
 | false=>rw [h] at e;cases e
 | true=>
  have d:rs[n]? = some rs[n]:=K0 (by omega);obtain ⟨p,l,g⟩:=z0n gd d;rw [if_pos h,d,l] at e;generalize rs[n]=r at d g e;have q:=ixT_of ok g.2.2.1;obtain ⟨sv,b,f⟩:=z0n po.so q;have e:stp ts r p n pl=some s:=e;rw [stp_of b] at e;cases hb:r.e.isNone || decide ((dz p.k p.vb p.dt sv).2=r.a) with
  | false=>rw [hb] at e;cases e
  | true=>rw [hb] at e;have e:stq ts p n pl sv=s:=N1 e;have o:=dz_ok g.2.2.2.1 f (po.n63 rl (j:=n) (by omega) (hc n h)).1;rw [<-e];exact ⟨o.2,n,r,p,sv,by omega,h,d,l,b,f,rfl⟩
theorem cP_no {m:Nat} {rs:List Rc} {ns:List Nat} {n:Nat} (h:cP m rs ns n=true):n∉ns:=of_decide_eq_true (Bool.and_eq_true_iff.mp (Bool.and_eq_true_iff.mp h).1).1
def z15 (K:j0):Sp:=λ vs H Q _=>∃(t pp ld:Addr) (yd:List V) (ts:List (Str×Str)) (es:List Ev) (ps:List DD) (m k:Nat) (pl:Pl),vs=[.ref t,.str (z0w m),.ref pp,.ref ld]/\TaleAt K H t ts es/\ThW ts/\es.length<=63/\EWf [] es/\All2 (RcGd K H ts) (dAll 0 [] es) ps/\PlZ K H pp pl/\PlOk ts (dAll 0 [] es).length k pl/\H ld=some (.lst yd)/\All2 (StpZ K H) (nexT (cP m (dAll 0 [] es) pl.1) ts (dAll 0 [] es) ps pl (dAll 0 [] es).length) yd/\∀H',Same H H'->Q (.bl true) H'
theorem z4y (T:TX (KX w.params) mg) (c0:Cal P w (KX w.params) mg base "nexts" ["tale","strictness","place"] 8 (zh5 (KX w.params))) (c1:Cal P w (KX w.params) mg base "_law_alike" ["one","other"] 1 z23) (c2:Cal P w (KX w.params) mg base "_law_place_alike" ["got","due"] 1 (z13 (KX w.params))):FnOk P w (KX w.params) mg base CX0 9 433 fd__law_nexts_right ["tale","strictness","place","due"] (z15 (KX w.params)):=by
 refine (z1a w.params).ok sc__law_nexts_right (λ vs H Q E h=>?_) (λ b6 A b5 s H vs Q E u h=>?_)
 ·obtain ⟨t,N,e,g,ts,a,ps,m,k,pl,rfl,_⟩:=h;rfl
 ·obtain ⟨t,N,e,g,ts,a,ps,m,k,pl,rfl,ta,ok,a6,wf,Z,pz,U,J,R,q⟩:=h;refine ⟨_,(z02 (ps_set (i:=4) sc__law_nexts_right.nd rfl (Z0 rfl) (pe_cal c0 (u.mono (by decide)) rfl (z00 (pv 0) (z00 (pv 1) (z00 (pv 2) pa_nil)))))
   (z02 (ps_if (PW.pt (pw_or (pt_not (pt_val (z09 (call_isinst.or z1d) rfl (T.no (z0g _)) F2 (z00 (pv 4) (z00 (z1l (v:=.ty "list") rfl (T.no (n_list _)) boot_list rfl) pa_nil))) (λ _=>rfl))) (pw_or1 (z08 opNe (z09 z12 rfl (T.no (n_len _)) Y3 (z00 (pv 4) pa_nil)) (z09 z12 rfl (T.no (n_len _)) Y3 (z00 (pv 3) pa_nil)) (nomark _)))))
   (z03 (ps_ret pe_bl))
   z0c)
   (z02 (ps_for U1 rfl (zkr rfl (T.no (n_zip _)) (z00 (pv 4) (z00 (pv 3) pa_nil))) (pg_tup rfl (z07 (z0j (i:=5) sc__law_nexts_right.nd rfl (Z0 rfl)) (z07 (z0j (i:=6) sc__law_nexts_right.nd rfl (Z0 rfl)) z0s)))
   (z02 (ps_if (PW.pt (pw_or (pt_not (pt_val (z09 (call_isinst.or z1d) rfl (T.no (z0g _)) F2 (z00 (pv 5) (z00 (z1l (v:=.ty "tuple") rfl (T.no (z0y _)) B3 rfl) pa_nil))) (λ _=>rfl))) (pw_or (z08 (op_neP u) (pv 5) (pv 6) (nomark _)) (pw_or1 (pt_not (pt_val (pe_cal c1 (u.mono (by decide)) rfl (z00 (pe_ix ix_seq (pv 5) pe_int (λ _ _=>rfl)) (z00 (pe_ix ix_seq (pv 6) pe_int (λ _ _=>rfl)) pa_nil))) (λ _=>rfl)))))))
   (z03 (ps_ret pe_bl))
   z0c)
   (z03 (ps_if (pt_not (pt_val (pe_cal c2 (u.mono (by decide)) rfl (z00 (pe_ix ix_seq (pv 5) pe_int (λ _ _=>rfl)) (z00 (pe_ix ix_seq (pv 6) pe_int (λ _ _=>rfl)) pa_nil))) (λ _=>rfl)))
   (z03 (ps_ret pe_bl))
   z0c))))
   (z02 (z2g (z16 (pv 4) (z00 pe_non pa_nil)))
   (z03 (ps_ret (z0u (op_eqP u) (pe_cal c0 (u.mono (by decide)) rfl (z00 (pv 0) (z00 (pv 1) (z00 (pv 2) pa_nil)))) (pv 3) (nomark _)))))))),?_⟩
  have rl:(dAll 0 [] a).length<=63:=by have:=z38 (i:=0) (rs:=[]) a;simp only [m3,j4] at this;omega
  have r:=zjc (c:=cP m (dAll 0 [] a) pl.1) Z ok U rl rfl (λ n h=>cP_no h) (F0 _);have nl:=z63 (c:=cP m (dAll 0 [] a) pl.1) (ts:=ts) (rs:=dAll 0 [] a) (ps:=ps) (pl:=pl) (i:=(dAll 0 [] a).length);refine ⟨_,rfl,_,rfl,_,rfl,t,N,ts,a,ps,m,k,pl,rfl,ta,ok,a6,wf,Z,pz,U,λ l ys H1 W hl F al=>?_⟩;refine g_name (t_nx ?_);generalize hL:nexT (cP m (dAll 0 [] a) pl.1) ts (dAll 0 [] a) ps pl (dAll 0 [] a).length=L at *;have r :∀s∈L,AnsV s.2.1:=λ s G=>(r s G).1;have b7:ys.length=L.length:=z04 al;have b2:g.length=L.length:=z04 R;have Y:=W _ _ J;have a8:=z01 (λ _ _ z=>StpZ.tups (.of W) z) R;have b4:e≠l:=λ z=>by rw [z,hl] at J;cases J
  refine sq_if (t_or ⟨_,rfl,.inl ⟨_,"list",_,rfl,.inl ⟨⟨_,F⟩,rfl⟩,by decide,_,rfl,iteN (by decide) ?_⟩⟩);refine ⟨_,rfl,.inl ⟨l,ys,rfl,.inl (SqL.of F),_,rfl,.inl ⟨e,g,rfl,.inl (SqL.of Y),rfl,_,rfl,?_⟩⟩⟩;have a2:ys.length=g.length:=by omega
  refine iteN (by rw [a2,decide_eq_true rfl];decide) ?_;refine t_nx ?_;refine ⟨_,rfl,_,rfl,l,e,ys,g,rfl,.inr ⟨SqL.of F,SqL.of Y,?_⟩⟩;refine zk8 (K:=KX w.params) (xs:=ys) (ys:=g) (λ _ σ H'=>Same H1 H'/\∃x5 x6,σ=[some (.ref t),some (.str (z0w m)),some (.ref N),some (.ref e),some (.ref l),x5,x6]) ⟨Same.refl _,_,_,rfl⟩ (λ _ σ H' h=>⟨SqL.of (h.1 _ _ F),SqL.of (h.1 _ _ Y)⟩) a2 ?_ ?_
  ·rintro i x y σ I p hx hy ⟨s2,x5,x6,rfl⟩ hp;obtain ⟨M,a0,C⟩:=z0h al hx;obtain ⟨sy,a3,B⟩:=z0h a8 hy;rw [a0] at a3;cases a3;have D:=r M (T0 a0);have d:=s2.trans (Same.upd (o:=.tup [x,y]) hp);refine ⟨p,_,rfl,SqT.of upd_same,rfl,x,_,rfl,y,_,rfl,rfl,?_⟩;have C:=C.tups (.of d);have B:=B.tups (.of d);generalize upd I p (.tup [x,y])=H3 at d C B⊢;have ⟨pp1,pd1⟩:=z8c D;have ix:=stp_pd D C;have iy:=stp_pd D B;obtain ⟨b,q1,rfl,X,pb⟩:=C;obtain ⟨b',q2,rfl,a7,b0⟩:=B;refine sq_if (t_or ⟨_,rfl,.inr ⟨b,_,rfl,X,_,rfl,iteN (by decide) (t_or ?_)⟩⟩);refine ⟨_,rfl,_,rfl,stpD M,stpD M,ix,iy,pp1,pp1,G0 pd1 (by decide),_,rfl,?_⟩;rw [zbw pp1];refine iteN (by decide) ?_;refine ⟨_,rfl,.inr (.inl ⟨b,_,1,_,rfl,rfl,X,z05 (j:=1) rfl,?_⟩)⟩;refine ⟨_,rfl,.inr (.inl ⟨b',_,1,_,rfl,rfl,a7,z05 (j:=1) rfl,_,_,rfl,.inl D.isA,D.isA,_,rfl,?_⟩)⟩;rw [decide_eq_true rfl];refine iteN (by decide) ?_;refine t_nx ?_;refine ⟨_,rfl,.inr (.inl ⟨b,_,2,_,rfl,rfl,X,z05 (j:=2) rfl,?_⟩)⟩;refine ⟨_,rfl,.inr (.inl ⟨b',_,2,_,rfl,rfl,a7,z05 (j:=2) rfl,q1,q2,M.2.2,rfl,pb,b0,_,rfl,?_⟩)⟩;exact iteN (by decide) ⟨d,_,_,rfl⟩
  rintro σ I ⟨s2,x5,x6,rfl⟩;refine t_nx ?_;have a4:=s2 _ _ F;refine ⟨_,rfl,.inl ⟨rfl,_,SqL.of a4⟩,l,ys,_,rfl,rfl,a4,E1 (m:=100) (by omega) (by decide),?_⟩;have d:Same H (upd I l (.lst (ys++[.non]))):=Same.keep (W.trans s2) hl;have a5:upd I l (.lst (ys++[.non])) e=some (.lst g):=d _ _ J;generalize upd I l (.lst (ys++[.non]))=H3 at d a5⊢;have S:Tt (KX w.params) H H3:=.of d;refine t_nx (sq_ret ?_);refine ⟨_,rfl,_,rfl,_,rfl,t,N,ts,a,ps,m,k,pl,rfl,ta.tt S,ok,a6,wf,z01 (λ _ _ z=>RcGd.tt S z) Z,pz.tups S.t,U,λ l2 b1 H4 V b3 a9 a1=>?_⟩;rw [hL] at a1;have O:plainP (.list (L.map stpD))=true:=z2c λ s G=>(z8c (r s G)).1;refine ⟨_,rfl,.list (L.map stpD),.list (L.map stpD),⟨l2,_,rfl,SqL.of a9,zgd r a1⟩,⟨e,_,rfl,SqL.of (V _ _ a5),zgd r (z01 (λ _ _ z=>StpZ.tups (.of (d.trans V)) z) R)⟩,O,O,?_,?_⟩
  ·have:=z3j (f:=stpD) (n:=5) (xs:=L) λ s G=>(z8c (r s G)).2;simp only [A8];omega
  ·rw [zbw O];exact q _ (d.trans V)
theorem cO_no {m:Nat} {rs:List Rc} {ns:List Nat} {n:Nat} (h:cO m rs ns n=true):n∉ns:=of_decide_eq_true (Bool.and_eq_true_iff.mp h).1
theorem zks {K:j0} {H:Hp} {m:Nat} {ts:List (Str×Str)} {rs:List Rc} {ps:List DD} {pl:Pl} (gd:All2 (RcGd K H ts) rs ps) (ok:ThW ts) (po:PlOk ts rs.length pl.1.length pl) (cl:Clo m rs pl.1) (rl:rs.length<=63) :∀s∈nexT (cO m rs pl.1) ts rs ps pl rs.length,PlOk ts rs.length s.2.2.1.length s.2.2/\Clo m rs s.2.2.1/\s.2.2.1.length=pl.1.length + 1:=by
 intro s L;obtain ⟨_,n,r,p,O,u,B,F,G,I,J,rfl⟩:=zjc (c:=cO m rs pl.1) gd ok po rl rfl (λ n h=>cO_no h) (F0 _) s L;have A:=cO_no B;have j:=zd6 (pl.1++[n]);have q:(srtN (pl.1++[n])).length=pl.1.length + 1:=by rw [j.length_eq,S0];rfl
 obtain ⟨Q,w,g⟩:=z0n gd F;rw [G] at w;cases w;have E:=dz_ok g.2.2.2.1 J (po.n63 rl u A).1;have y :∀{x:Nat},x∈srtN (pl.1++[n])->x∈pl.1\/x=n:=λ h=>by
  rcases List.mem_append.mp (j.mem_iff.mp h) with z|z
  ·exact .inl z
  ·exact .inr (List.mem_singleton.mp z)
 show PlOk ts rs.length (srtN (pl.1++[n])).length (srtN (pl.1++[n]),pl.2.set (ixT ts p.nm) (dz p.k p.vb p.dt O).1)/\Clo m rs (srtN (pl.1++[n]))/\(srtN (pl.1++[n])).length=pl.1.length + 1;refine ⟨⟨?_,λ x D=>?_,?_,.inr (F0 _)⟩,λ b o a f h=>?_,q⟩
 ·refine j.nodup_iff.mpr ?_;rw [d8];exact ⟨po.nd,by simp,λ a f b o e=>A (by rw [<-List.mem_singleton.mp o,<-e];exact f)⟩
 ·rcases y D with z|z
  ·exact po.lt x z
  ·rw [z];exact u
 ·rw [q];have N:pl.2.length=ts.length:=z04 po.so;refine z1m (by rw [j15,N]) λ i t R l d=>?_;rw [List.getElem?_set] at d;by_cases z:ixT ts p.nm=i
  ·subst z;have C:=ixT_of ok g.2.2.1;rw [C] at l;cases l;rw [if_pos rfl,if_pos (List.getElem?_eq_some_iff.mp I).1] at d;cases d;exact E.1
  ·rw [if_neg z] at d;obtain ⟨P,v,M⟩:=z0h po.so d;rw [l] at v;cases v;exact M.le (T2 _)
 ·refine j.mem_iff.mpr (List.mem_append.mpr (.inl ?_));rcases y o with z|z
  ·exact cl b z a f h
  ·rw [z] at h;exact of_decide_eq_true (Bool.and_eq_true_iff.mp B).2 a (List.mem_range.mpr f) h
def z89 (K:j0):Sp:=λ vs H Q _=>∃(r t:Addr) (ts:List (Str×Str)) (es:List Ev) (ps:List DD) (m:Nat),vs=[.ref r,.ref t,.str (z0w m)]/\HandAt H r/\TaleAt K H t ts es/\ThW ts/\es.length<=63/\EWf [] es/\All2 (RcGd K H ts) (dAll 0 [] es) ps/\∀H',Hw r H H'->Q (.bl true) H'
theorem zeb (T:TX (KX w.params) mg) (c0:Cal P w (KX w.params) mg base "_law_acts" ["tale"] 1 (z4a (KX w.params))) (c1:Cal P w (KX w.params) mg base "_law_musts" ["acts","strictness"] 2 z5l) (c2:Cal P w (KX w.params) mg base "_law_begun" ["kind"] 1 (z3d (KX w.params))) (c3:Cal P w (KX w.params) mg base "first_place" ["tale"] 3 (z2m (KX w.params))) (c4:Cal P w (KX w.params) mg base "_law_place_alike" ["got","due"] 1 (z13 (KX w.params))) (c5:Cal P w (KX w.params) mg base "_law_on" ["tale","acts","must","place"] 2 (z9u (KX w.params))) (c6:Cal P w (KX w.params) mg base "is_full" ["tale","place"] 2 (z6v (KX w.params))) (c7:Cal P w (KX w.params) mg base "_law_is_full" ["acts","place"] 1 (z26 (KX w.params))) (c8:Cal P w (KX w.params) mg base "_law_nexts_right" ["tale","strictness","place","due"] 9 (z15 (KX w.params))) (c9:Cal P w (KX w.params) mg base "_law_draw" ["hand","limit"] 1 z0m):FnOk P w (KX w.params) mg base CX0 10 438 fd__law_way ["hand","tale","strictness"] (z89 (KX w.params)):=by
 refine (z6f w.params).ok sc__law_way (λ C H Q E h=>?_) (λ l6 A l5 s H C Q E B h=>?_)
 ·obtain ⟨r,t,ts,F,ps,m,rfl,_⟩:=h;rfl
 ·obtain ⟨r,t,ts,F,ps,m,rfl,R,ta,ok,g0,wf,gd,q⟩:=h;refine ⟨_,(z02 (ps_set (i:=3) sc__law_way.nd rfl (Z0 rfl) (pe_cal c0 (B.mono (by decide)) rfl (z00 (pv 1) pa_nil)))
   (z02 (ps_set (i:=4) sc__law_way.nd rfl (Z0 rfl) (pe_cal c1 (B.mono (by decide)) rfl (z00 (pv 3) (z00 (pv 2) pa_nil))))
   (z02 (ps_set (i:=5) sc__law_way.nd rfl (Z0 rfl) (pe_tup (z00 (pe_tup pa_nil) (z00 (z0k z0f rfl (T.no (z0y _)) B3 (z00 (z0q (xs:=["name","kind"]) (g:=gTup (KX w.params) 2 (gCons (gName 0) (gCons (gName 1) gNil))) (fr:=[]) rfl (pi_tup (pe_ix ix_seq (pv 1) pe_int (λ _ _=>rfl))) (λ _ z=>absurd z x0) (z1b rfl) (λ _ z=>absurd z x0) (by decide +kernel) rfl (by decide +kernel) (λ _ _ _ _ _=>(pg_tup rfl (z07 (z0e (N:=["name","kind"]) 0 (by decide +kernel) rfl rfl) (z07 (z0e (N:=["name","kind"]) 1 (by decide +kernel) rfl rfl) z0s)))) (λ _ _ _ _ _=>pf_nil) (λ _ _ _ _ _=>(pe_cal c2 (B.mono (by decide)) rfl (z00 (pv 1) pa_nil)))) pa_nil)) pa_nil))))
   (z02 (ps_if (pt_not (pt_val (pe_cal c4 (B.mono (by decide)) rfl (z00 (pe_cal c3 (B.mono (by decide)) rfl (z00 (pv 1) pa_nil)) (z00 (pv 5) pa_nil))) (λ _=>rfl)))
   (z03 (ps_ret pe_bl))
   z0c)
   (z02 (ps_set (i:=6) sc__law_way.nd rfl (Z0 rfl) (pe_lst (z00 pe_non pa_nil)))
   (z02 (zfl U1 (z08 (zfz B) (pv 6) (pe_lst pa_nil) (nomark _))
   (z02 (ps_set (i:=6) sc__law_way.nd rfl (Z0 rfl) (pe_cal c5 (B.mono (by decide)) rfl (z00 (pv 1) (z00 (pv 3) (z00 (pv 4) (z00 (pv 5) pa_nil))))))
   (z02 (ps_set (i:=7) sc__law_way.nd rfl (Z0 rfl) (pe_cal c6 (B.mono (by decide)) rfl (z00 (pv 1) (z00 (pv 5) pa_nil))))
   (z02 (ps_if (PW.pt (pw_or (pt_not (pt_val (z09 call_isinst rfl (T.no (z0g _)) F2 (z00 (pv 7) (z00 (z1l (v:=.ty "bool") rfl (T.no (n_bool _)) boot_bool rfl) pa_nil))) (λ _=>rfl))) (pw_or1 (z08 opNe (pv 7) (pe_cal c7 (B.mono (by decide)) rfl (z00 (pv 3) (z00 (pv 5) pa_nil))) (nomark _)))))
   (z03 (ps_ret pe_bl))
   z0c)
   (z02 (ps_if (pt_not (pt_val (pe_cal c8 (B.mono (by decide)) rfl (z00 (pv 1) (z00 (pv 2) (z00 (pv 5) (z00 (pv 6) pa_nil))))) (λ _=>rfl)))
   (z03 (ps_ret pe_bl))
   z0c)
   (z03 (ps_if (z08 (zfz B) (pv 6) (pe_lst pa_nil) (nomark _))
   (z03 (ps_set (i:=5) sc__law_way.nd rfl (Z0 rfl) (pe_ix ix_seq (pe_ix ix_seq (pv 6) (pe_cal c9 (B.mono (by decide)) rfl (z00 (pv 0) (z00 (z09 z12 rfl (T.no (n_len _)) Y3 (z00 (pv 6) pa_nil)) pa_nil))) (λ _ _=>rfl)) pe_int (λ _ _=>rfl))))
   z0c)))))))
   (z03 (ps_ret pe_bl)))))))),?_⟩
  obtain ⟨pt,te,ys,et,⟨yt,f3,a7⟩,g8,al⟩:=id ta;refine ⟨_,rfl,t,te,.ref pt,ys,F,rfl,SqT.of et,SqT.of g8,al,by omega,wf,λ O U H1 s1 el V=>?_⟩;refine g_name (t_nx ?_);obtain ⟨dw,os,DI⟩:=DInv.all DInv.nil wf;have rl:(dAll 0 [] F).length<=63:=by have:=z38 (i:=0) (rs:=[]) F;simp only [m3,j4] at this;omega
  have lz:U.length=(dAll 0 [] F).length:=z04 V;refine ⟨_,rfl,_,rfl,O,U,_,_,m,os,rfl,el,V,DI,rl,λ lm H2 s2 mu=>?_⟩;refine g_name (t_nx ?_);have W:=s1.trans s2;have j6:=s2 _ _ el;have i3:=z01 (λ _ _ z=>ActAt.same s2 z) V;refine z0x ?_;refine ⟨w_0,λ J h7=>?_⟩;have s3:=Same.upd (o:=.tup []) h7;have e3:upd H2 J (.tup []) J=some (.tup []):=upd_same;generalize upd H2 J (.tup [])=H3 at s3 e3⊢;have L:=W.trans s3;refine z8b (e_cb1 ?_);refine z0z (K:=KX w.params) (a:=pt) (xs:=yt) (H1:=H3) (λ _=>true) (λ i y f=>∃t,ts[i]? = some t/\StZ (KX w.params) f (zeroK t.2) y) (λ _ _ _ _ s ⟨t,h1,h2⟩=>⟨t,h1,h2.tups (.of s)⟩) (λ R h=>⟨_,rfl,.inr (.inl ⟨t,_,0,.ref pt,rfl,rfl,SqT.of (L _ _ et),z05 (j:=0) rfl,h⟩)⟩) (L.seqT (SqT.of f3)) (G0 (m:=6) (by rw [z04 a7];exact ok.n6) (by decide)) ?_ ?_
  ·intro i hi v H4 s4 hv KT KF k1 k2;obtain ⟨t,ht,b,rfl,eb⟩:=z0h a7 hv;have g4:=(L.trans s4) _ _ eb;refine ⟨b,_,rfl,SqT.of g4,rfl,_,_,rfl,_,_,rfl,rfl,[some (.str t.1),some (.str t.2)],rfl,rfl,iteT ?_⟩;exact ⟨_,rfl,t.2,rfl,λ u H5 s5 sa=>k1 rfl _ _ s5 ⟨t,ht,sa⟩⟩
  intro l4 H4 C s4 i5 e8;rw [List.filter_eq_self.mpr (λ _ _=>rfl),z04 a7] at e8;have f1:=Same.upd (o:=.lst C) i5;have e5:upd H4 l4 (.lst C) l4=some (.lst C):=upd_same;generalize upd H4 l4 (.lst C)=H5 at f1 e5⊢;refine ⟨l4,C,rfl,.inl ⟨SqL.of e5,λ I h9=>?_⟩⟩;have f6:=Same.upd (o:=.tup C) h9;have e6:upd H5 I (.tup C) I=some (.tup C):=upd_same;generalize upd H5 I (.tup C)=H6 at f6 e6⊢;refine ⟨w_2,λ M j2=>?_⟩;have b5:=Same.upd (o:=.tup [.ref J,.ref I]) j2;have e7:upd H6 M (.tup [.ref J,.ref I]) M=some (.tup [.ref J,.ref I]):=upd_same;generalize upd H6 M (.tup [.ref J,.ref I])=H7 at b5 e7⊢;have b9:Same H4 H7:=(f1.trans f6).trans b5;have f2:PlZ (KX w.params) H7 M ([],ts.map λ t=>zeroK t.2):=⟨J,I,C,SqT.of e7,SqT.of ((s4.trans b9) _ _ e3),SqT.of (b5 _ _ e6),zdj (z01 (λ _ _ z=>z.elim λ t y=>⟨t,y.1,y.2.tups (.of b9)⟩) e8)⟩
  refine g_name ?_;have d2:Same H2 H7:=(s3.trans s4).trans b9;have s7:=W.trans d2;refine sq_if ?_;refine ⟨_,rfl,t,ts,F,rfl,ta.tt (.of s7),ok,λ p1 H8 Y g3=>?_⟩;refine ⟨_,rfl,p1,M,_,rfl,g3,f2.tups (.of Y),_,rfl,iteN (by decide) ?_⟩;refine t_nx (z0x ?_);refine ⟨w_1,λ l0 d6=>?_⟩;have s9:=Same.upd (o:=.lst [.non]) d6;have e9:upd H8 l0 (.lst [.non]) l0=some (.lst [.non]):=upd_same;generalize upd H8 l0 (.lst [.non])=H9 at s9 e9⊢;refine g_name ?_;have b0:Same H2 H9:=(d2.trans Y).trans s9;have a3:=W.trans b0;have R9:HandAt H9 r:=R.same a3;have h8:=f2.tups (.of (Y.trans s9));generalize hrs:dAll 0 [] F=rs at *;have k0:O≠r:=λ z=>by
   obtain ⟨a,b,c,e,_⟩:=R.same s1;rw [<-z,el] at e;injection e with e;injection e with e;rw [e] at V;cases V with
   | cons h _=>obtain ⟨p,hp,_⟩:=h;cases hp
  have b1 :∀f,Hw r H9 f->Tt (KX w.params) H f/\f O=some (.lst U)/\All2 (ActAt f) rs U/\MustAt H1 f m rs lm:=λ f S=>by
   refine ⟨(Tt.of a3).trans (S.tt R9),S.k _ _ k0 (b0 _ _ j6),z01 (λ x y z=>?_) i3,mu.kept λ a o h1 e=>S.k _ _ (λ z=>?_) (b0 _ _ e)⟩
   ·obtain ⟨pp,e1,e2⟩:=z;refine ⟨pp,e1,S.k _ _ (λ z=>?_) (b0 _ _ e2)⟩;obtain ⟨a,b,c,e,_⟩:=R.same W;rw [<-z,e2] at e;injection e with e;injection e with e;exact absurd (congrArg D6 e) (by simp)
   ·obtain ⟨a,b,c,e,_⟩:=R.same s1;rw [<-z,h1] at e;cases e
  have j5:PlOk ts rs.length 0 ([],ts.map λ t=>zeroK t.2):=⟨.nil,λ x hx=>absurd hx x0,z1m (by rw [M0]) λ i t s' ht f0=>by rw [W0,ht] at f0;cases f0;exact zfy _,.inl (by decide)⟩
  refine z5p (λ σ1 f=>Hw r H9 f) ?_ (λ tl=>?_)
  ·intro σ1 f S;exact q _ ((R.hw.same a3).trans S)
  refine ⟨λ k σ1 f=>∃p pl ld yd x7,Hw r H9 f/\PlZ (KX w.params) f p pl/\PlOk ts rs.length pl.1.length pl/\Clo m rs pl.1/\f ld=some (.lst yd)/\ld≠r/\k=(if yd=[] then 0 else rs.length + 1 - pl.1.length)/\σ1=[some (.ref r),some (.ref t),some (.str (z0w m)),some (.ref O),some (.ref lm),some (.ref p),some (.ref ld),x7],⟨_,M,([],ts.map λ t=>zeroK t.2),l0,[.non],_,R9.hw,h8,j5,λ b hb=>absurd hb x0,e9,(R.same ((W.trans d2).trans Y)).fresh d6,rfl,rfl⟩,?_⟩;rintro k σ1 f7 ⟨p,pl,ld,yd,x7,w10,pz,po,cl,ed,nld,rfl,rfl⟩;refine t_test ?_;refine ⟨_,rfl,w_0,λ X h3=>?_⟩;have a4:=Same.upd (o:=.lst []) h3;have f9:upd f7 X (.lst []) X=some (.lst []):=upd_same;generalize upd f7 X (.lst [])=H11 at a4 f9⊢;have a1:=w10.same a4;refine ⟨ld,X,yd,rfl,rfl,SqL.of (a4 _ _ ed),SqL.of f9,_,rfl,?_⟩;by_cases y0:yd=[]
  ·exact iteN (by rw [y0];decide) (q _ ((R.hw.same a3).trans a1))
  refine iteP (decide_eq_true y0) ⟨_,λ _ _ h=>h,?_⟩;rw [if_neg y0];obtain ⟨b3,g9,i6,j1⟩:=b1 _ a1;have d4:=pz.tups (.of a4);refine ⟨_,rfl,_,rfl,_,rfl,_,rfl,t,O,lm,p,pt,te,U,ts,rs,ps,m,pl.1.length,H1,pl,rfl,b3.l _ _ et,ThAt.tt b3 ⟨yt,f3,a7⟩,ok,g9,i6,z01 (λ _ _ z=>RcGd.tt b3 z) gd,rl,j1,d4,po,λ l D h6 f4 hl d5 f8=>?_⟩;refine g_name (t_nx ?_);have g2:=a1.same f4;have nl:l≠r:=a1.r.fresh hl;obtain ⟨j0,k9,l3,m6⟩:=b1 _ g2;have e0:=d4.tups (.of f4);refine ⟨_,rfl,_,rfl,t,p,ts,F,pl,rfl,ta.tt j0,g0,wf,e0,λ b m5 L hb=>?_⟩;refine g_name (t_nx ?_);have e4:=g2.same L;obtain ⟨k7,i7,i2,m0⟩:=b1 _ e4;have b4:=e0.tups (.of L);obtain ⟨pa,pb,m4,g6,g7,m2,k6⟩:=id b4;refine sq_if (t_or ⟨_,rfl,.bl b,"bool",_,rfl,rfl,by decide,_,rfl,iteN (by decide) ?_⟩);refine ⟨_,rfl,_,rfl,_,rfl,O,p,pa,U,rs,pl.1,.ref pb,rfl,i7,i2,rl,g6,g7,λ b2 j3 a6 k4=>⟨rfl,_,rfl,?_⟩⟩;have eb:b=b2:=by rw [hrs] at hb;exact Bool.eq_iff_iff.mpr (hb.trans k4.symm)
  subst eb;refine iteN (by rw [decide_eq_true rfl];decide) ?_;refine t_nx (sq_if ?_);have g1:=e4.same a6;have b7:Same h6 j3:=L.trans a6;obtain ⟨f5,l7,l8,l9⟩:=b1 _ g1;have d7:=z01 (λ _ _ z=>StpZ.tups (.of b7) z) f8;have k3:nexT (cP m rs pl.1) ts rs ps pl rs.length=nexT (cO m rs pl.1) ts rs ps pl rs.length:=zau λ n hn=>cP_cO cl hn;refine ⟨_,rfl,_,rfl,_,rfl,_,rfl,t,p,l,D,ts,F,ps,m,pl.1.length,pl,rfl,ta.tt f5,ok,g0,wf,by rw [hrs];exact z01 (λ _ _ z=>RcGd.tt f5 z) gd,b4.tups (.of a6),by rw [hrs];exact po,b7 _ _ d5,by rw [hrs,k3];exact d7,λ b8 a9=>⟨_,rfl,iteN (by decide) ?_⟩⟩;refine t_nx ?_;have h4:=g1.same a9;have i1:=b7.trans a9;have a8:=i1 _ _ d5;have g5:=z01 (λ _ _ z=>StpZ.tups (.of a9) z) d7;have j9:=b4.tups (.of (a6.trans a9));have m1:pl.1.length<=rs.length:=z3q _ _ po.nd po.lt;refine t_test ?_;refine ⟨_,rfl,w_0,λ l2 i0=>?_⟩;have G:=Same.upd (o:=.lst []) i0;have d9:upd b8 l2 (.lst []) l2=some (.lst []):=upd_same;generalize upd b8 l2 (.lst [])=H16 at G d9⊢;have a2:=h4.same G;refine ⟨l,l2,D,rfl,rfl,SqL.of (G _ _ a8),SqL.of d9,_,rfl,?_⟩;by_cases y2:D=[]
  ·refine iteN (by rw [y2];decide) ⟨0,by omega,p,pl,l,D,_,a2,j9.tups (.of G),po,cl,G _ _ a8,nl,by rw [if_pos y2],rfl⟩
  refine iteP (decide_eq_true y2) ?_;have lp:0 < D.length:=List.length_pos_iff.mpr y2;have ln:=z63 (c:=cO m rs pl.1) (ts:=ts) (rs:=rs) (ps:=ps) (pl:=pl) (i:=rs.length);have ly:=z04 f8;refine ⟨_,rfl,_,rfl,_,rfl,.inl ⟨l,D,rfl,.inl (SqL.of (G _ _ a8)),r,_,rfl,a2.r,by omega,by omega,λ d h0 b6 d0 d1=>?_⟩⟩;have i9:=a2.trans b6;obtain ⟨y,hy,_⟩:=atI_of (xs:=D) d0 d1;obtain ⟨j,_,hj,_⟩:=zdo hy;obtain ⟨Z,j8,zy⟩:=z0h g5 hj;have i8:Tt (KX w.params) b8 h0:=(Tt.of G).trans (b6.tt a2.r);obtain ⟨bb,pn,rfl,j7,h5⟩:=zy.tups i8.t;have d8:=b6.k _ _ nl (G _ _ a8);refine .inl ⟨l,D,_,.ref bb,rfl,rfl,SqL.of d8,hy,?_⟩;refine .inr (.inl ⟨bb,_,2,.ref pn,rfl,rfl,j7,z05 (j:=2) rfl,?_⟩);obtain ⟨d3,i4,k8⟩:=zks gd ok po cl rl Z (T0 j8);have k5:Z.2.2.1.length<=rs.length:=z3q _ _ d3.nd d3.lt;refine g_name ⟨rs.length + 1 - Z.2.2.1.length,by omega,pn,Z.2.2,l,D,_,i9,h5,d3,i4,d8,nl,by rw [if_neg y2],rfl⟩
theorem zei {S:Hp->Hp->Prop} {ta:TA} {te:TE} {tc:TT} {g:TG} {m:Nat} {fr:List (Nat×Str)} {σ:L2.St} {H:Hp} {Q:VK} (Pn:Nat->Hp->Prop) (p:Nat->Bool) (R:Nat->V->Hp->Prop) (hta :∀T:List V->Hp->Prop,(∀n H1,Pn n H1->T [.int (n:Nat)] H1)->ta σ H T) (each :∀n H1,Pn n H1->S H1 H1/\(∀H,S H1 H->S H H)/\n<=sizeLine) (st :∀a b c,S a b->S b c->S a c) (hR :∀i y H H',S H H'->R i y H->R i y H')
  (body :∀n H1,Pn n H1->∀i,i < n->∀H,S H1 H->∀(KT:VK) (KF:Hp->Prop),(p i=true->∀y H',S H H'->R i y H'->KT y H')->(p i=false->∀H',S H H'->KF H')->
   g (.int (i:Nat)) (cStG σ fr (D2 m none)) H λ σ6 H6=>∃us,us.length=m/\σ6=cStG σ fr us/\tc (cStG σ fr us) H6 λ b H2=>if b=true then te (cStG σ fr us) H2 KT else KF H2)
  (hQ :∀n H1,Pn n H1->∀l H' ys,S H1 H'->H' l=none->All2 (λ i y=>R i y H') ((J1 n).filter p) ys->Q (.ref l) (upd H' l (.lst ys))):tCompG (iRng1 ta) m fr g tc te σ H Q:=by
 refine hta _ λ n H1 d=>?_;obtain ⟨o,j,e⟩:=each n H1 d;have b:(n:Int) < 2 ^ 62:=j06 (Int.ofNat_le.mpr e) (by decide);refine ⟨n,rfl,by omega,b,?_⟩;exact z2i o st p R hR (z99 j) e (λ i k v H s f KT KF q h=>by subst f;exact body n H1 d i k H s KT KF q h) (hQ n H1 d)
theorem zjj {is:List Nat} {ys:List V} (h:All2 (λ (_:Nat) y=>∃i,near i/\y=V.int i) is ys) :∃ns:List Int,ys=ns.map V.int/\(∀i∈ns,near i)/\ns.length=is.length:=by
 induction h with
 | nil=>exact ⟨[],rfl,λ i h=>absurd h x0,rfl⟩
 | cons a r ih=>
  obtain ⟨ns,f,c,d⟩:=ih;obtain ⟨i,e,rfl⟩:=a;refine ⟨i :: ns,by rw [f];rfl,λ j b=>?_,by rw [y1,y1,d]⟩;rcases List.mem_cons.mp b with z|z
  ·rw [z];exact e
  ·exact c j z
theorem zgk :∀{vs ns:List Int} {x:Int},x∈vs.foldl addI ns->x∈ns\/x∈vs
 | [],_,_,h=>.inl h
 | v :: vs,ns,x,h=>by
  rcases zgk (vs:=vs) (ns:=addI ns v) h with z|z
  ·unfold addI at z;split at z
   ·exact .inl z
   ·rcases List.mem_append.mp z with y|y
    ·exact .inl y
    ·exact .inr (by rw [List.mem_singleton.mp y];exact B1)
  ·exact .inr (D1 _ z)
theorem zix :∀{vs ns:List Int},ns.Nodup->(vs.foldl addI ns).Nodup
 | [],_,h=>h
 | v :: vs,ns,h=>by
  refine zix (vs:=vs) (ns:=addI ns v) ?_;unfold addI;split
  ·exact h
  ·rename_i z;rw [d8];exact ⟨h,by simp,λ a c b d e=>z (by rw [<-List.mem_singleton.mp d,<-e];exact c)⟩
def z2z (K:j0):Sp:=λ vs H Q _=>∃(r:Addr) (k:Str),vs=[.ref r,.str k]/\HandAt H r/\k∈kinds5/\∀s v H',Hw r H H'->SvOk 4 k s->StZ K H' s v->Q v H'
theorem z5v (T:TX (KX w.params) mg) (c0:Cal P w (KX w.params) mg base "_law_worth" ["hand"] 2 z3i) (c1:Cal P w (KX w.params) mg base "_law_draw" ["hand","limit"] 1 z0m):FnOk P w (KX w.params) mg base CX0 3 443 fd__law_any_state ["hand","kind"] (z2z (KX w.params)):=by
 refine (z1q w.params).ok sc__law_any_state (λ Y H Q E h=>?_) (λ a2 A a1 s H Y Q E U h=>?_)
 ·obtain ⟨r,k,rfl,_⟩:=h;rfl
 ·obtain ⟨r,k,rfl,R,hk,q⟩:=h;refine ⟨_,(z02 (z6m (i:=2) sc__law_any_state.nd rfl (Z0 rfl) (xs:=["k"]) (g:=gName 0) (fr:=[(0,"hand")]) rfl (z1c rfl (T.no (z3x _)) (z00 (pe_cal c1 (U.mono (by decide)) rfl (z00 (pv 0) (z00 pe_int pa_nil))) pa_nil)) (by intro p d;obtain rfl:=List.mem_singleton.mp d;first|exact ⟨rfl,.inl rfl⟩|exact ⟨rfl,.inr rfl⟩) (z2r (n:="hand") (by decide +kernel) (λ _=>by first|exact .inl rfl|exact .inr rfl)) (by intro p d;obtain rfl:=List.mem_singleton.mp d;exact ⟨by decide +kernel,by first|exact .inl rfl|exact .inr rfl⟩) (by decide +kernel) rfl (by decide +kernel) (λ _ _ _ _ _=>(z0e (N:=["k","hand"]) 0 (by decide +kernel) rfl rfl)) (λ _ _ _ _ _=>pf_nil) (λ _ _ _ _ _=>(pe_cal c0 (U.mono (by decide)) rfl (z00 (pv 1) pa_nil))))
   (z02 (ps_if (z08 opEq (pv 1) pe_str (nomark _))
   (z03 (ps_ret (z0k z0f rfl (T.no (z0y _)) B3 (z00 (pv 2) pa_nil))))
   z0c)
   (z02 (ps_if (z08 opEq (pv 1) pe_str (nomark _))
   (z03 (ps_ret (z0k z0f rfl (T.no (z0y _)) B3 (z00 (zad rfl rfl (T.no (z47 _)) rfl (T.no (n_set _)) G7 boot_set (pv 2)) pa_nil))))
   z0c)
   (z03 (ps_ret (pe_ix ix_seq (pe_op zd0 (pv 2) (pe_lst (z00 pe_int pa_nil))) pe_int (λ _ _=>rfl))))))),?_⟩
  refine z0x ?_;refine zei (S:=Hw r) (λ n v=>n < 4/\Hw r H v) (λ _=>true) (λ _ y _=>∃i,near i/\y=V.int i) (λ T h=>⟨_,rfl,r,4,rfl,R,by decide,by decide,λ t v F t0 t1=>?_⟩) (λ n v h=>⟨h.2.r.hw,λ _ z=>z.r.hw,G0 (m:=4) (V3 h.1) (by decide)⟩) (λ _ _ _ a b=>a.trans b) (λ _ _ _ _ _ z=>z) (λ n v d i C B I KT KF h1 h2=>?_) λ n v d l B ys I hl L=>?_
  ·obtain ⟨n,rfl⟩:=Int.eq_ofNat_of_zero_le t0;exact h n v ⟨by omega,F⟩
  ·refine ⟨[some (.int (i:Nat))],rfl,rfl,iteT ?_⟩;exact ⟨_,rfl,r,rfl,I.r,λ j J e nj=>h1 rfl _ _ e ⟨j,nj,rfl⟩⟩
  obtain ⟨n4,F⟩:=d;rw [List.filter_eq_self.mpr (λ _ _=>rfl)] at L;obtain ⟨c,rfl,x,nl⟩:=zjj L;rw [Z1] at nl;have n3:c.length<=3:=by omega
  have e:Hw r H (upd B l (.lst (c.map V.int))):=(F.trans I).same (Same.upd hl);have D:upd B l (.lst (c.map V.int)) l=some (.lst (c.map V.int)):=upd_same;generalize upd B l (.lst (c.map V.int))=J at e D⊢;refine g_name ?_;have nq:("queue" : Str)≠"set":=by decide +kernel
  refine sq_if ⟨_,rfl,rfl,_,rfl,?_⟩;by_cases k1:k = "queue"
  ·subst k1;refine iteP (decide_eq_true rfl) ?_;refine ⟨_,rfl,l,_,rfl,.inl ⟨SqL.of D,λ p d=>?_⟩⟩;exact q (.row c) _ _ (e.same (Same.upd d)) (.row (.inl rfl) (by omega) x λ z=>absurd z nq) ⟨p,rfl,SqT.of upd_same⟩
  refine iteN (λ h=>k1 (V.str.inj (of_decide_eq_true h))) ?_;refine t_nx (sq_if ⟨_,rfl,rfl,_,rfl,?_⟩);by_cases k2:k = "set"
  ·subst k2;refine iteP (decide_eq_true rfl) ?_;refine ⟨_,rfl,l,c,rfl,SqL.of D,by omega,λ u f G K pw=>?_⟩;have M:=e.same (Same.upd (o:=.lst (f.map V.int)) G);have X:upd J u (.lst (f.map V.int)) u=some (.lst (f.map V.int)):=upd_same;generalize upd J u (.lst (f.map V.int))=H4 at M X⊢;refine ⟨u,_,rfl,.inl ⟨SqL.of X,λ p d=>?_⟩⟩;have nd:f.Nodup:=K.nodup_iff.mpr (zix .nil);have fl:=z22 c [];rw [m3,j4] at fl;refine q (.row f) _ _ (M.same (Same.upd d)) (.row (.inr rfl) (by rw [K.length_eq];omega) (λ i C=>?_) λ _=>(pw.and nd).imp λ h=>by have:=h.1;have:=h.2;omega) ⟨p,rfl,SqT.of upd_same⟩;rcases zgk (K.mem_iff.mp C) with z|z
   ·cases z
   ·exact x i z
  refine iteN (λ h=>k2 (V.str.inj (of_decide_eq_true h))) ?_;refine t_nx (sq_ret ?_);refine ⟨_,rfl,w_1,λ u G=>?_⟩;have W:=Same.upd (o:=.lst [.int 0]) G;refine ⟨l,u,c.map V.int,[.int 0],rfl,rfl,SqL.of (W _ _ D),SqL.of upd_same,by rw [M0];exact G0 (m:=65) (by show c.length + 1<=65;omega) (by decide),λ l5 a0=>?_⟩;have Z:=(e.same W).same (Same.upd (o:=.lst (c.map V.int++[.int 0])) a0);obtain ⟨i,C,O⟩ :∃i,atI (c.map V.int++[V.int 0]) 0=some (.int i)/\near i:=by
   match c,x with
   | [],_=>exact ⟨0,rfl,by decide,by decide⟩
   | a :: r,x=>exact ⟨a,z05 (j:=0) rfl,x a B1⟩
  refine .inl ⟨l5,_,0,.int i,rfl,rfl,SqL.of upd_same,C,q (.num i) _ _ Z (.num (λ z=>z.elim k1 k2) ?_ ?_) rfl⟩
  ·have:=O.1;omega
  ·have:=O.2;omega
theorem zj5 {n:Nat} {f:Nat->Bool} {R:Nat->V->Prop} {us:List V} (h:All2 R ((J1 n).filter f) us):us=[]↔∀i,i < n->f i=false:=by
 have l:=z04 h;constructor
 ·intro z i a;rw [z] at l;have b:=List.filter_eq_nil_iff.mp (List.eq_nil_of_length_eq_zero l.symm) i (List.mem_range.mpr a);simpa using b
 ·intro z;rw [List.filter_eq_nil_iff.mpr (λ i a=>by rw [z i (List.mem_range.mp a)];decide)] at l;exact List.eq_nil_of_length_eq_zero l
theorem may_L {m j:Nat} {rs:List Rc} {as ns:List Nat} {us:List V} (mA :∀a,a∈as↔z0i m rs a j=true) (h:us=[]↔∀i,i < (nsV as).length->((as[i]?.map λ (x:Nat)=>((rs[x]?.map λ r=>r.e.isSome).getD false) && !decide (x∈ns)).getD false)=false):us=[]↔∀a∈J1 rs.length,z0i m rs a j=true->(∃r,rs[a]? = some r/\r.e.isSome=true)->a∈ns:=by
 rw [h];constructor
 ·rintro h a _ d ⟨r,b,he⟩;obtain ⟨i,c⟩:=List.mem_iff_getElem?.mp ((mA a).mpr d);have:=h i (by rw [z1s];exact (List.getElem?_eq_some_iff.mp c).1);rw [c] at this;have this:((rs[a]?.map λ r=>r.e.isSome).getD false && !decide (a∈ns))=false:=this;rw [b] at this;have this:(r.e.isSome && !decide (a∈ns))=false:=this;rw [he] at this;simpa using this
 ·intro h i c;rw [z1s] at c;have f:as[i]? = some as[i]:=K0 c;have k:=T0 f;generalize as[i]=x at f k;rw [f];show ((rs[x]?.map λ r=>r.e.isSome).getD false && !decide (x∈ns))=false;have d:=(mA x).mp k;have g:=(z1h d).1;have b:rs[x]? = some rs[x]:=K0 g;generalize rs[x]=r at b;rw [b];show (r.e.isSome && !decide (x∈ns))=false;cases he:r.e.isSome with
  | false=>rfl
  | true=>rw [decide_eq_true (h x (List.mem_range.mpr g) d ⟨r,b,he⟩)];rfl
theorem may_B {m j:Nat} {rs:List Rc} {ns:List Nat} {us:List V} (h:us=[]↔∀i,i < (nsV ns).length->((ns[i]?.map λ (x:Nat)=>z0i m rs j x).getD false)=false):us=[]↔∀b∈ns,z0i m rs j b=false:=by
 rw [h];constructor
 ·intro h b e;obtain ⟨i,a⟩:=List.mem_iff_getElem?.mp e;have:=h i (by rw [z1s];exact (List.getElem?_eq_some_iff.mp a).1);rw [a] at this;exact this
 ·intro h i a;rw [z1s] at a;have c:ns[i]? = some ns[i]:=K0 a;have d:=T0 c;generalize ns[i]=x at c d;rw [c];exact h x d
theorem t_and {t u:TT} {σ:L2.St} {H:Hp} {Q:Bool->Hp->Prop} (h:t σ H λ c H1=>if c=true then u σ H1 Q else Q false H1):tAnd t u σ H Q:=h
def z88 (K:j0):Sp:=λ vs H Q _=>∃(t la p pt te:Addr) (zs:List V) (ts:List (Str×Str)) (rs:List Rc) (ps:List DD) (m k i:Nat) (os:List Int) (pl:Pl),vs=[.ref t,.ref la,.str (z0w m),.ref p]/\H t=some (.tup [.ref pt,.ref te])/\ThAt H pt ts/\ThW ts/\H la=some (.lst zs)/\All2 (ActAt H) rs zs/\All2 (RcGd K H ts) rs ps/\rs.length<=63/\DInv i rs os/\PlZ K H p pl/\PlOk ts rs.length k pl/\
 ∀l ys H',Same H H'->H l=none->H' l=some (.lst ys)->All2 (StpZ K H') (nexT (cM m rs pl.1) ts rs ps pl rs.length) ys->Q (.ref l) H'
theorem ze7 (T:TX (KX w.params) mg) (c0:Cal P w (KX w.params) mg base "_law_must" ["acts","strictness","one","other"] 1 z46) (c1:Cal P w (KX w.params) mg base "_law_does" ["kind","state","verb","worth"] 1 (z1t (KX w.params))) (c2:Cal P w (KX w.params) mg base "_law_alike" ["one","other"] 1 z23):FnOk P w (KX w.params) mg base CX0 2 448 fd__law_may ["tale","acts","strictness","place"] (z88 (KX w.params)):=by
 refine (z6n w.params).ok sc__law_may (λ vs H Q E h=>?_) (λ j0 A i9 s H vs Q E hr h=>?_)
 ·obtain ⟨t,I,p,pt,te,u,ts,rs,ps,m,k,i,os,pl,rfl,_⟩:=h;rfl
 ·obtain ⟨t,I,p,pt,te,u,ts,rs,ps,m,k,di,os,⟨ns,U⟩,rfl,et,th,ok,el,aa,gd,rl,DI,⟨O,pb,vs,sp,sa,sb,sz⟩,po,q⟩:=h;refine ⟨_,(z02 (ps_set (i:=4) sc__law_may.nd rfl (Z0 rfl) (pe_lst pa_nil))
   (z02 (z6m (i:=5) sc__law_may.nd rfl (Z0 rfl) (xs:=["name","kind"]) (g:=gTup (KX w.params) 2 (gCons (gName 0) (gCons (gName 1) gNil))) (fr:=[]) rfl (pi_tup (pe_ix ix_seq (pv 0) pe_int (λ _ _=>rfl))) (λ _ z=>absurd z x0) (z1b rfl) (λ _ z=>absurd z x0) (by decide +kernel) rfl (by decide +kernel) (λ _ _ _ _ _=>(pg_tup rfl (z07 (z0e (N:=["name","kind"]) 0 (by decide +kernel) rfl rfl) (z07 (z0e (N:=["name","kind"]) 1 (by decide +kernel) rfl rfl) z0s)))) (λ _ _ _ _ _=>pf_nil) (λ _ _ _ _ _=>(pv 0)))
   (z02 (ps_for U1 rfl (z1c rfl (T.no (z3x _)) (z00 (z09 z12 rfl (T.no (n_len _)) Y3 (z00 (pv 1) pa_nil)) pa_nil)) (z0j (i:=6) sc__law_may.nd rfl (Y0 rfl))
   (z02 (z6m (i:=7) sc__law_may.nd rfl (Z0 rfl) (xs:=["one"]) (g:=gName 0) (fr:=[(1,"acts"),(2,"strictness"),(6,"number")]) rfl (z1c rfl (T.no (z3x _)) (z00 (z09 z12 rfl (T.no (n_len _)) Y3 (z00 (pv 1) pa_nil)) pa_nil)) (by intro p l;simp only [N0,x0,or_false] at l;rcases l with rfl|rfl|rfl<;>first|exact ⟨rfl,.inl rfl⟩|exact ⟨rfl,.inr rfl⟩) (z83 (ns:=["acts","strictness","number"]) (by decide +kernel) (by intro n L k;simp only [N0,x0,or_false] at L;rcases L with rfl|rfl|rfl<;>first|exact .inl rfl|exact .inr rfl)) (by intro p l;simp only [N0,x0,or_false] at l;rcases l with rfl|rfl|rfl<;>exact ⟨by decide +kernel,by first|exact .inl rfl|exact .inr rfl⟩) (by decide +kernel) rfl (by decide +kernel) (λ _ _ _ _ _=>(z0e (N:=["one","acts","strictness","number"]) 0 (by decide +kernel) rfl rfl)) (λ _ _ _ _ _=>(pf_one (pt_val (pe_cal c0 (hr.mono (by decide)) rfl (z00 (pv 1) (z00 (pv 2) (z00 (pv 0) (z00 (pv 3) pa_nil))))) (λ _=>rfl)))) (λ _ _ _ _ _=>(pv 0)))
   (z02 (z6m (i:=8) sc__law_may.nd rfl (Z0 rfl) (xs:=["one"]) (g:=gName 0) (fr:=[(3,"place"),(1,"acts")]) rfl (z3f (pv 7)) (by intro p l;simp only [N0,x0,or_false] at l;rcases l with rfl|rfl<;>first|exact ⟨rfl,.inl rfl⟩|exact ⟨rfl,.inr rfl⟩) (z83 (ns:=["place","acts"]) (by decide +kernel) (by intro n L k;simp only [N0,x0,or_false] at L;rcases L with rfl|rfl<;>first|exact .inl rfl|exact .inr rfl)) (by intro p l;simp only [N0,x0,or_false] at l;rcases l with rfl|rfl<;>exact ⟨by decide +kernel,by first|exact .inl rfl|exact .inr rfl⟩) (by decide +kernel) rfl (by decide +kernel) (λ _ _ _ _ _=>(z0e (N:=["one","place","acts"]) 0 (by decide +kernel) rfl rfl)) (λ _ _ _ _ _=>(pf_one (PW.pt (pw_and (z08 z9j (pe_ix (z5r (K:=KX w.params) rfl) (pe_ix (z5r (K:=KX w.params) rfl) (pv 2) (pv 0) (λ _ _=>rfl)) pe_int (λ _ _=>rfl)) pe_non (nomark _)) (zdn (z08 (z5k (K:=KX w.params) rfl) (pv 0) (pe_ix (z5r (K:=KX w.params) rfl) (pv 1) pe_int (λ _ _=>rfl)) (by with_unfolding_all rfl))))))) (λ _ _ _ _ _=>(pv 0)))
   (z02 (z6m (i:=9) sc__law_may.nd rfl (Z0 rfl) (xs:=["one"]) (g:=gName 0) (fr:=[(1,"acts"),(2,"strictness"),(6,"number")]) rfl (pi_tup (pe_ix ix_seq (pv 3) pe_int (λ _ _=>rfl))) (by intro p l;simp only [N0,x0,or_false] at l;rcases l with rfl|rfl|rfl<;>first|exact ⟨rfl,.inl rfl⟩|exact ⟨rfl,.inr rfl⟩) (z83 (ns:=["acts","strictness","number"]) (by decide +kernel) (by intro n L k;simp only [N0,x0,or_false] at L;rcases L with rfl|rfl|rfl<;>first|exact .inl rfl|exact .inr rfl)) (by intro p l;simp only [N0,x0,or_false] at l;rcases l with rfl|rfl|rfl<;>exact ⟨by decide +kernel,by first|exact .inl rfl|exact .inr rfl⟩) (by decide +kernel) rfl (by decide +kernel) (λ _ _ _ _ _=>(z0e (N:=["one","acts","strictness","number"]) 0 (by decide +kernel) rfl rfl)) (λ _ _ _ _ _=>(pf_one (pt_val (pe_cal c0 (hr.mono (by decide)) rfl (z00 (pv 1) (z00 (pv 2) (z00 (pv 3) (z00 (pv 0) pa_nil))))) (λ _=>rfl)))) (λ _ _ _ _ _=>(pv 0)))
   (z03 (ps_if (PW.pt (pw_and (z08 z1u (pv 6) (pe_ix ix_seq (pv 3) pe_int (λ _ _=>rfl)) (by with_unfolding_all rfl)) (pw_and (z08 (zgi hr) (pv 8) (pe_lst pa_nil) (nomark _)) (zdn (z08 (zgi hr) (pv 9) (pe_lst pa_nil) (nomark _))))))
   (z02 (ps_set (i:=10) sc__law_may.nd rfl (Z0 rfl) (pe_ix ix_seq (pv 1) (pv 6) (λ _ _=>rfl)))
   (z02 (ps_set (i:=11) sc__law_may.nd rfl (Z0 rfl) (zbo (pv 5) (z00 (pe_ix ix_seq (pv 10) pe_int (λ _ _=>rfl)) pa_nil)))
   (z02 (ps_asg (pe_cal c1 (hr.mono (by decide)) rfl (z00 (pe_ix ix_seq (pe_ix ix_seq (pe_ix ix_seq (pv 0) pe_int (λ _ _=>rfl)) (pv 11) (λ _ _=>rfl)) pe_int (λ _ _=>rfl)) (z00 (pe_ix ix_seq (pe_ix ix_seq (pv 3) pe_int (λ _ _=>rfl)) (pv 11) (λ _ _=>rfl)) (z00 (pe_ix ix_seq (pv 10) pe_int (λ _ _=>rfl)) (z00 (pe_ix ix_seq (pv 10) pe_int (λ _ _=>rfl)) pa_nil))))) (pg_tup rfl (z07 (z0j (i:=12) sc__law_may.nd rfl (Z0 rfl)) (z07 (z0j (i:=13) sc__law_may.nd rfl (Z0 rfl)) z0s))))
   (z03 (ps_if (PW.pt (pw_or (z08 op_isN (pe_ix ix_seq (pv 10) pe_int (λ _ _=>rfl)) pe_non (nomark _)) (pw_or1 (pt_val (pe_cal c2 (hr.mono (by decide)) rfl (z00 (pv 13) (z00 (pe_ix ix_seq (pv 10) pe_int (λ _ _=>rfl)) pa_nil))) (λ _=>rfl)))))
   (z02 (ps_set (i:=14) sc__law_may.nd rfl (Z0 rfl) (pe_tup (z00 (z0k z0f rfl (T.no (z0y _)) B3 (z00 (z09 z2t rfl (T.no (z47 _)) G7 (z00 (pe_op op_catS (pe_ix ix_seq (pv 3) pe_int (λ _ _=>rfl)) (pe_tup (z00 (pv 6) pa_nil))) pa_nil)) pa_nil)) (z00 (pe_op (op_catS.or z5s) (pe_op (op_catS.or z5s) (z1i slSeq (pe_ix ix_seq (pv 3) pe_int (λ _ _=>rfl)) z3k (z2e (pv 11))) (pe_tup (z00 (pv 12) pa_nil))) (z1i slSeq (pe_ix ix_seq (pv 3) pe_int (λ _ _=>rfl)) (z2e (pe_op opAdd (pv 11) pe_int)) z3k)) pa_nil))))
   (z03 (z2g (z16 (pv 4) (z00 (pe_tup (z00 (pv 6) (z00 (pv 13) (z00 (pv 14) pa_nil)))) pa_nil)))))
   z0c)))))
   z0c))))))
   (z03 (ps_ret (pv 4)))))),?_⟩
  have lz:u.length=rs.length:=z04 aa;have nd:=po.nd;have d9:=po.lt;have sa:SqT (KX w.params) H O (nsV ns):=sa;have i8:ns.length<=63:=G0 (z3q _ _ nd d9) rl;obtain ⟨yt,e5,a6⟩:=th;refine ⟨w_0,λ lt d2=>?_⟩;have s1:=Same.upd (o:=.lst []) d2;have e1:upd H lt (.lst []) lt=some (.lst []):=upd_same;generalize upd H lt (.lst [])=H1 at s1 e1⊢;refine g_name (t_nx ?_);refine z0x ?_;refine z0z (K:=KX w.params) (a:=pt) (xs:=yt) (H1:=H1) (λ _=>true) (λ i y d=>∃t,ts[i]? = some t/\y=.str t.1) (λ _ _ _ _ s z=>z) (λ R h=>⟨_,rfl,.inr (.inl ⟨t,_,0,.ref pt,rfl,rfl,SqT.of (s1 _ _ et),z05 (j:=0) rfl,h⟩)⟩) (s1.seqT (SqT.of e5)) (G0 (m:=6) (by rw [z04 a6];exact ok.n6) (by decide)) ?_ ?_
  ·intro i hi v H2 s2 F KT KF D C;obtain ⟨t,ht,b,rfl,eb⟩:=z0h a6 F;have g4:=(s1.trans s2) _ _ eb;refine ⟨b,_,rfl,SqT.of g4,rfl,_,_,rfl,_,_,rfl,rfl,[some (.str t.1),some (.str t.2)],rfl,rfl,iteT ?_⟩;exact ⟨_,rfl,D rfl _ _ (Same.refl _) ⟨t,ht,rfl⟩⟩
  intro G H2 us s2 b7 d7;rw [List.filter_eq_self.mpr (λ _ _=>rfl),z04 a6] at d7;rw [zcs (f:=λ t=>t.1) d7];have s3:=s2.trans (Same.upd (o:=.lst (ts.map λ t=>V.str t.1)) b7);have e3:upd H2 G (.lst (ts.map λ t=>V.str t.1)) G=some (.lst (ts.map λ t=>V.str t.1)):=upd_same;generalize upd H2 G (.lst (ts.map λ t=>V.str t.1))=H3 at s3 e3⊢;refine g_name ?_;have f2:=s1.trans s3;have i6:(nsV ns).length=ns.length:=by unfold nsV;rw [M0]
  have g0:lt≠G:=λ z=>by rw [<-z,s2 _ _ e1] at b7;cases b7
  have g8:=s3 _ _ e1;refine ⟨_,rfl,.inl ⟨I,u,rfl,.inl (SqL.of (f2 _ _ el)),u.length,rfl,by omega,by omega,?_⟩⟩;refine z4u (lo:=0) (n:=u.length) (λ i σ d=>∃ys,Same H d/\d lt=some (.lst ys)/\d G=some (.lst (ts.map λ t=>V.str t.1))/\All2 (StpZ (KX w.params) d) (nexT (cM m rs ns) ts rs ps (ns,U) i) ys/\∃x6 x7 x8 x9 x10 x11 x12 x13 x14,σ=[some (.ref t),some (.ref I),some (.str (z0w m)),some (.ref p),some (.ref lt),some (.ref G),x6,x7,x8,x9,x10,x11,x12,x13,x14])
   ⟨[],f2,g8,e3,.nil,_,_,_,_,_,_,_,_,_,rfl⟩ ?_ ?_
  ·rintro j σ H7 hj ⟨ys,s7,e7,n7,al7,x6,x7,x8,x9,x10,x11,x12,x13,x14,rfl⟩;rw [M7];refine g_name ?_;have c6:j < rs.length:=by omega
   have a3:rs[j]? = some rs[j]:=K0 c6;obtain ⟨y,hy,pk,rfl,ek⟩:=z0n aa a3;obtain ⟨c,d5,f0⟩:=z0n gd a3;generalize rs[j]=r at a3 ek f0;have go:cM m rs ns j=false\/stp ts r c j (ns,U)=none->∀{y6 y7 y8 y9 y10 y11 y12 y13 y14:Option V} {d:Hp},Same H7 d->∃ys,Same H d/\d lt=some (.lst ys)/\d G=some (.lst (ts.map λ t=>V.str t.1))/\All2 (StpZ (KX w.params) d) (nexT (cM m rs ns) ts rs ps (ns,U) (j + 1)) ys/\∃x6 x7 x8 x9 x10 x11 x12 x13 x14,[some (.ref t),some (.ref I),some (.str (z0w m)),some (.ref p),some (.ref lt),some (.ref G),y6,y7,y8,y9,y10,y11,y12,y13,y14]=[some (.ref t),some (.ref I),some (.str (z0w m)),some (.ref p),some (.ref lt),some (.ref G),x6,x7,x8,x9,x10,x11,x12,x13,x14]:=λ h {y6 y7 y8 y9 y10 y11 y12 y13 y14 d} B=>by refine ⟨ys,s7.trans B,B _ _ e7,B _ _ n7,?_,_,_,_,_,_,_,_,_,_,rfl⟩;rw [z3r,z9x a3 d5 h,L9,W2];exact z01 (λ _ _ z=>StpZ.tups (.of B) z) al7
   have d3 :∀{d:Hp},Same H d->All2 (ActAt d) rs u:=λ B=>z01 (λ _ _ z=>ActAt.same B z) aa;refine z0x ?_;refine z73 (S:=Same) (n:=u.length) (λ a=>z0i m rs a j) (λ a y _=>y=.int (a:Nat)) (Same.refl _) (λ _ _ _ a b=>a.trans b) (λ _ _=>Same.refl _) (λ _ _ _ _ _ z=>z) (λ R h=>⟨_,rfl,.inl ⟨I,u,rfl,.inl (SqL.of (s7 _ _ el)),h⟩⟩) (G0 (m:=63) (by omega) (by decide)) (λ a ha H8 Y KT KF h1 h2=>?_) λ lA H8 us Y h0 fa=>?_
   ·refine ⟨[some (.int (a:Nat))],rfl,rfl,?_⟩;have k8:=s7.trans Y;refine ⟨_,rfl,_,rfl,_,rfl,_,rfl,I,u,rs,_,m,a,j,os,rfl,k8 _ _ el,d3 k8,DI,by omega,by omega,_,rfl,?_⟩;by_cases z:z0i m rs a j=true
    ·exact iteP z ⟨_,rfl,h1 z _ _ (Same.refl _) rfl⟩
    ·exact iteN z (h2 (by simpa using z) _ (Same.refl _))
   rw [zcb fa];have mA :∀a,a∈(J1 u.length).filter (λ a=>z0i m rs a j)↔z0i m rs a j=true:=λ a=>by rw [j14,j1g,lz];exact ⟨λ h=>h.2,λ h=>⟨(z1h h).1,h⟩⟩
   have g3:((J1 u.length).filter (λ a=>z0i m rs a j)).length<=63:=G0 (G2 _ _) (by rw [Z1];omega);generalize (J1 u.length).filter (λ a=>z0i m rs a j)=as at mA g3⊢;have W:=Y.trans (Same.upd (o:=.lst (nsV as)) h0);have e9:upd H8 lA (.lst (nsV as)) lA=some (.lst (nsV as)):=upd_same;generalize upd H8 lA (.lst (nsV as))=H9 at W e9⊢;refine g_name ?_;have d6:=s7.trans W;refine z0x ?_;refine z6s (K:=KX w.params) (a:=lA) (xs:=nsV as) (H1:=H9) (λ i=>((as[i]?.map λ (x:Nat)=>((rs[x]?.map λ r=>r.e.isSome).getD false) && !decide (x∈ns)).getD false)) (λ _ _ _=>True) (λ _ _ _ _ _ z=>z) (λ R h=>⟨_,rfl,h⟩) (SqL.of e9) (G0 (m:=63) (by rw [z1s];omega) (by decide)) (λ i hi v d0 b8 F KT KF D C=>?_) λ lL d0 a0 b8 h6 h3=>?_
   ·unfold nsV at F;rw [W0] at F;obtain ⟨x,hx,rfl⟩:=Option.map_eq_some_iff.mp F;have c4:=(z1h ((mA x).mp (T0 hx))).1;have d1:rs[x]? = some rs[x]:=K0 c4;obtain ⟨yx,i0,f6,rfl,d8⟩:=z0n aa d1;generalize rs[x]=rx at d1 d8;rw [hx] at D C;have D:=λ z=>D (show ((rs[x]?.map λ r=>r.e.isSome).getD false && !decide (x∈ns))=true from z);have C:=λ z=>C (show ((rs[x]?.map λ r=>r.e.isSome).getD false && !decide (x∈ns))=false from z);rw [d1] at D C;have D:=λ z=>D (show (rx.e.isSome && !decide (x∈ns))=true from z);have C:=λ z=>C (show (rx.e.isSome && !decide (x∈ns))=false from z);have a7:=d6.trans b8;refine ⟨[some (.int (x:Nat))],rfl,rfl,?_⟩;refine ⟨_,rfl,_,rfl,.inl ⟨I,u,x,.ref f6,rfl,rfl,SqL.of (a7 _ _ el),z05 i0,.inl ⟨f6,_,6,endV rx.e,rfl,rfl,SqL.of (a7 _ _ d8),z05 (j:=6) rfl,rfl,_,rfl,?_⟩⟩⟩;cases re:rx.e with
    | none=>exact iteN (by show ¬ (!decide (V.non=V.non))=true;decide) (iteF (C (by rw [re];rfl) _ (Same.refl _)))
    | some e=>
     refine iteP rfl ?_;refine ⟨_,rfl,_,rfl,.inr (.inl ⟨p,_,0,.ref O,rfl,rfl,a7.seqT sp,z05 (j:=0) rfl,O,_,rfl,.inr (a7.seqT sa),rfl,z67 _,_,rfl,?_⟩)⟩;rw [inV_ns];cases hb:decide (x∈ns) with
     | true=>exact iteF (C (by rw [re,hb];rfl) _ (Same.refl _))
     | false=>exact iteT ⟨_,rfl,D (by rw [re,hb];rfl) _ _ (Same.refl _) trivial⟩
   have c7:=b8.trans (Same.upd (o:=.lst a0) h6);have f7:upd d0 lL (.lst a0) lL=some (.lst a0):=upd_same;generalize upd d0 lL (.lst a0)=H11 at c7 f7⊢;refine g_name ?_;have a8:=d6.trans c7;refine z0x ?_;refine z0z (K:=KX w.params) (a:=O) (xs:=nsV ns) (H1:=H11) (λ i=>((ns[i]?.map λ (x:Nat)=>z0i m rs j x).getD false)) (λ _ _ _=>True) (λ _ _ _ _ _ z=>z) (λ R h=>⟨_,rfl,.inr (.inl ⟨p,_,0,.ref O,rfl,rfl,a8.seqT sp,z05 (j:=0) rfl,h⟩)⟩) (a8.seqT sa) (G0 (m:=63) (by rw [z1s];omega) (by decide)) (λ i hi v b3 c9 F KT KF D C=>?_) λ lB b3 X c9 i4 h7=>?_
   ·unfold nsV at F;rw [W0] at F;obtain ⟨x,hx,rfl⟩:=Option.map_eq_some_iff.mp F;rw [hx] at D C;have f8:=a8.trans c9;have c4:=d9 x (T0 hx);refine ⟨[some (.int (x:Nat))],rfl,rfl,?_⟩;refine ⟨_,rfl,_,rfl,_,rfl,_,rfl,I,u,rs,_,m,j,x,os,rfl,f8 _ _ el,d3 f8,DI,c6,c4,_,rfl,?_⟩;by_cases z:z0i m rs j x=true
    ·exact iteP z ⟨_,rfl,D z _ _ (Same.refl _) trivial⟩
    ·exact iteN z (C (by simpa using z) _ (Same.refl _))
   have b2:=c9.trans (Same.upd (o:=.lst X) i4);have e4:upd b3 lB (.lst X) lB=some (.lst X):=upd_same;generalize upd b3 lB (.lst X)=H13 at b2 e4⊢;refine g_name ?_;have eL:=may_L (rs:=rs) mA (zj5 h3);have eB:=may_B (m:=m) (rs:=rs) (j:=j) (zj5 h7);have a2:Same H7 H13:=W.trans (c7.trans b2);have cm:cM m rs ns j=(decide (j∉ns) && decide (a0=[]) && decide (X=[])):=by unfold cM;rw [decide_eq_decide.mpr eL.symm,decide_eq_decide.mpr eB.symm]
   refine if_any (λ H8=>Same H7 H8/\cM m rs ns j=true) ?_ λ tl=>?_;rotate_left
   ·refine t_and ?_;refine ⟨_,rfl,_,rfl,.inr (.inl ⟨p,_,0,.ref O,rfl,rfl,(s7.trans a2).seqT sp,z05 (j:=0) rfl,O,_,rfl,.inr ((s7.trans a2).seqT sa),rfl,z67 _,_,rfl,?_⟩)⟩;rw [inV_ns];cases hb:decide (j∈ns) with
    | true=>refine iteF (iteF (go (.inl ?_) a2));rw [cm,decide_eq_false (λ h=>h (of_decide_eq_true hb))];rfl
    | false=>
    have nj:j∉ns:=of_decide_eq_false hb;refine iteT (t_and ?_);refine ⟨_,rfl,w_0,λ l1 g6=>?_⟩;have q1:=Same.upd (o:=.lst []) g6;refine ⟨lL,l1,a0,rfl,rfl,SqL.of (q1 _ _ (b2 _ _ f7)),SqL.of upd_same,_,rfl,?_⟩;by_cases uL:a0=[];rotate_left
    ·refine iteN (by rw [decide_eq_false uL];decide) (iteF (go (.inl ?_) (a2.trans q1)));rw [cm,decide_eq_false uL,L6];rfl
    refine iteP (decide_eq_true uL) ?_;refine ⟨_,rfl,w_0,λ l2 g9=>?_⟩;have q2:=q1.trans (Same.upd (o:=.lst []) g9);refine ⟨lB,l2,X,rfl,rfl,SqL.of (q2 _ _ e4),SqL.of upd_same,_,rfl,?_⟩;by_cases uB:X=[]
    ·refine iteP (decide_eq_true uB) (tl _ ⟨a2.trans q2,?_⟩);rw [cm,decide_eq_true nj,decide_eq_true uL,decide_eq_true uB];rfl
    ·refine iteN (by rw [decide_eq_false uB];decide) (go (.inl ?_) (a2.trans q2));rw [cm,decide_eq_false uB,L6]
   rintro H8 ⟨Y,hc⟩;have g5:j∉ns:=of_decide_eq_true (Bool.and_eq_true_iff.mp (Bool.and_eq_true_iff.mp hc).1).1;obtain ⟨g1,g2,hm,dk,ix,wi,ga⟩:=f0;rw [g1,g2] at ek;have J:=s7.trans Y;have T8:Tt (KX w.params) H H8:=.of J;have a4:=J _ _ ek;refine ⟨_,rfl,_,rfl,.inl ⟨I,u,j,.ref pk,rfl,rfl,SqL.of (J _ _ el),z05 hy,?_⟩⟩;refine g_name (t_nx ?_);have c5:=ixT_of ok hm;have e2:(ts.map (·.1))[ixT ts c.nm]? = some c.nm:=by rw [W0,c5];rfl
   have b9:=Y _ _ n7;rw [show ts.map (λ t=>V.str t.1)=(ts.map (·.1)).map V.str by rw [B4];rfl] at b9;refine ⟨_,rfl,.inl ⟨rfl,_,SqL.of b9⟩,_,rfl,.inl ⟨pk,_,1,.str c.nm,rfl,rfl,SqL.of a4,z05 (j:=1) rfl,G,ts.map (·.1),c.nm,ixT ts c.nm,rfl,rfl,b9,G0 (m:=6) (by rw [M0];exact ok.n6) (by decide),e2,λ m' i7 e=>?_,?_⟩⟩
   ·have:=(e8 (List.getElem?_eq_some_iff.mp e).1 ok.nd).mp (e.trans e2.symm);omega
   refine g_name (t_nx ?_);obtain ⟨Z,hs,so⟩:=z0n po.so c5;obtain ⟨v,F,hz⟩:=z0n sz hs;obtain ⟨yb,h9,tb,rfl,i3⟩:=z0n a6 c5;obtain ⟨e0,i1⟩:=po.n63 rl c6 g5;refine ⟨_,rfl,.inr (.inl ⟨t,_,0,.ref pt,rfl,rfl,SqT.of (J _ _ et),z05 (j:=0) rfl,?_⟩)⟩;refine ⟨_,rfl,.inr (.inl ⟨pt,yt,_,.ref tb,rfl,rfl,SqT.of (J _ _ e5),z05 h9,?_⟩)⟩;refine .inr (.inl ⟨tb,_,1,.str c.k,rfl,rfl,SqT.of (J _ _ i3),z05 (j:=1) rfl,?_⟩);refine ⟨_,rfl,.inr (.inl ⟨p,_,1,.ref pb,rfl,rfl,J.seqT sp,z05 (j:=1) rfl,?_⟩)⟩;refine ⟨_,rfl,.inr (.inl ⟨pb,vs,_,v,rfl,rfl,J.seqT sb,z05 F,?_⟩)⟩;refine ⟨_,rfl,.inl ⟨pk,_,2,.str c.vb,rfl,rfl,SqL.of a4,z05 (j:=2) rfl,?_⟩⟩;refine ⟨_,rfl,.inl ⟨pk,_,3,r.x,rfl,rfl,SqL.of a4,z05 (j:=3) rfl,?_⟩⟩;refine ⟨c.k,c.vb,v,r.x,c.dt,k,Z,rfl,so,hz.tups T8.t,e0,dk,IsDt.mono' T8.t _ _ ix,wi.tt T8,λ p9 v9 H9 W e9 h8=>?_⟩;have g7:=dz_ok dk so e0;refine ⟨p9,_,rfl,SqT.of e9,rfl,v9,_,rfl,_,_,rfl,rfl,?_⟩;have c3:=J.trans W;have r9:Same H7 H9:=Y.trans W;have st:=stp_of (ts:=ts) (r:=r) (n:=j) (pl:=(ns,U)) hs;refine t_nx (if_any (λ d=>H9=d/\stp ts r c j (ns,U)=some (stq ts c j (ns,U) Z)) ?_ λ f5=>?_);rotate_left
   ·refine t_or ?_;refine ⟨_,rfl,.inl ⟨pk,_,6,endV r.e,rfl,rfl,SqL.of (W _ _ a4),z05 (j:=6) rfl,rfl,_,rfl,?_⟩⟩;cases re:r.e with
    | none=>refine iteP rfl (iteT (f5 _ ⟨rfl,?_⟩));rw [st,re];rfl
    | some e=>
    refine iteN (by simp [endV]) ?_;have rA:IsA r.a:=by
     rcases ga with ⟨g,_⟩|⟨_,g⟩
     ·rw [re] at g;cases g
     ·exact g.isA
    refine ⟨_,rfl,_,rfl,.inl ⟨pk,_,4,r.a,rfl,rfl,SqL.of (W _ _ a4),z05 (j:=4) rfl,_,r.a,rfl,.inl g7.2.isA,rA,_,rfl,?_⟩⟩;by_cases za:(dz c.k c.vb c.dt Z).2=r.a
    ·refine iteP (decide_eq_true za) (f5 _ ⟨rfl,?_⟩);rw [st,decide_eq_true za,Bool.or_true];rfl
    ·refine iteN (λ h=>za (of_decide_eq_true h)) (go (.inr ?_) r9);rw [st,re,decide_eq_false za];rfl
   rintro d ⟨rfl,hst⟩;have vl:vs.length=U.length:=z04 sz;have it:ixT ts c.nm < vs.length:=(List.getElem?_eq_some_iff.mp F).1;have sl:U.length=ts.length:=z04 po.so;refine z0x (tup2 (srt_in (n:=j) (λ R h=>⟨_,rfl,.inr (.inl ⟨p,_,0,.ref O,rfl,rfl,c3.seqT sp,z05 (j:=0) rfl,h⟩)⟩) (λ R h=>⟨_,rfl,h⟩) (c3.seqT sa) i1 λ b4 i2 b1 h5=>?_));have a9:=c3.trans b1;refine set_sl (i:=ixT ts c.nm) (v:=v9) (λ d R B h=>⟨_,rfl,.inr (.inl ⟨p,_,1,.ref pb,rfl,rfl,(a9.trans B).seqT sp,z05 (j:=1) rfl,h⟩)⟩) (λ d R B h=>⟨_,rfl,.inr (.inl ⟨p,_,1,.ref pb,rfl,rfl,(a9.trans B).seqT sp,z05 (j:=1) rfl,h⟩)⟩) (λ d R B h=>⟨_,rfl,h⟩) (λ d R B h=>⟨_,rfl,h⟩) (λ d R B h=>⟨_,rfl,.inl ⟨_,1,rfl,rfl,h⟩⟩) (a9.seqT sb) it (by have:=ok.n6;omega) λ p5 f3 f9 q5=>?_;refine ⟨w_2,λ M i5=>?_⟩;have c8:=Same.upd (o:=.tup [.ref b4,.ref p5]) i5;have f1:upd f3 M (.tup [.ref b4,.ref p5]) M=some (.tup [.ref b4,.ref p5]):=upd_same;generalize upd f3 M (.tup [.ref b4,.ref p5])=H19 at c8 f1⊢;refine g_name ?_;have b0:Same i2 H19:=f9.trans c8;have f4:Same H7 H19:=(r9.trans b1).trans b0;refine ⟨_,rfl,.inl ⟨rfl,_,SqL.of (f4 _ _ e7)⟩,_,rfl,_,rfl,_,rfl,w_3,λ b6 h4=>?_⟩;have a1:=Same.upd (o:=.tup [.int (j:Nat),(dz c.k c.vb c.dt Z).2,.ref M]) h4;have d4:upd H19 b6 (.tup [.int (j:Nat),(dz c.k c.vb c.dt Z).2,.ref M]) b6=some (.tup [.int (j:Nat),(dz c.k c.vb c.dt Z).2,.ref M]):=upd_same;generalize upd H19 b6 (.tup [.int (j:Nat),(dz c.k c.vb c.dt Z).2,.ref M])=H20 at a1 d4⊢;have a5:=f4.trans a1;have e6:=a5 _ _ e7;have yl:ys.length<=j:=by rw [z04 al7];exact z63
   refine ⟨lt,ys,_,rfl,rfl,e6,E1 (m:=100) (by omega) (by decide),?_⟩;have tu:Tups (KX w.params) H20 (upd H20 lt (.lst (ys++[.ref b6]))):=Tups.lst e6;refine ⟨ys++[.ref b6],Same.keep (s7.trans a5) d2,upd_same,by rw [upd_ne g0.symm];exact a5 _ _ n7,?_,_,_,_,_,_,_,_,_,_,rfl⟩;rw [z3r,zab a3 d5 hc hst];refine zbh (z01 (λ _ _ z=>(StpZ.tups (.of a5) z).tups tu) al7) (.cons (StpZ.tups tu ⟨b6,M,rfl,SqT.of d4,b4,p5,vs.set (ixT ts c.nm) v9,SqT.of (a1 _ _ f1),SqT.of ((b0.trans a1) _ _ h5),(c8.trans a1).seqT q5,z91 (z01 (λ _ _ z=>StZ.tups (.of (s7.trans a5)) z) sz) (h8.tups (.of ((b1.trans b0).trans a1))) _⟩) .nil)
  ·rintro σ H7 ⟨ys,s7,e7,n7,al7,x6,x7,x8,x9,x10,x11,x12,x13,x14,rfl⟩;rw [lz] at al7;exact ⟨_,rfl,q _ _ _ s7 d2 e7 al7⟩
theorem zdv {S:Hp->Hp->Prop} {ta:TA} {te:TE} {tc:TT} {g:TG} {m n:Nat} {fr:List (Nat×Str)} {σ:L2.St} {H H1:Hp} {Q:VK} (s0:S H1 H1) (st :∀a b c,S a b->S b c->S a c) (hs :∀H,S H1 H->S H H) (hta :∀T:List V->Hp->Prop,T [.int (n:Nat)] H1->ta σ H T) (hn:n<=sizeLine)
  (body :∀i,i < n->∀H,S H1 H->∀(KT:VK) (KF:Hp->Prop),(∀H',S H H'->KT (.int (i:Nat)) H')->(∀H',S H H'->KF H')->
   g (.int (i:Nat)) (cStG σ fr (D2 m none)) H λ σ6 H6=>∃us,us.length=m/\σ6=cStG σ fr us/\tc (cStG σ fr us) H6 λ b H2=>if b=true then te (cStG σ fr us) H2 KT else KF H2)
  (hQ :∀l H' is,S H1 H'->H' l=none->List.Sublist is (J1 n)->Q (.ref l) (upd H' l (.lst (nsV is)))):tCompG (iRng1 ta) m fr g tc te σ H Q:=by
 have b:(n:Int) < 2 ^ 62:=j06 (Int.ofNat_le.mpr hn) (by decide);refine hta _ ⟨n,rfl,by omega,b,?_⟩;have r:=z99 (n:=n) hs;refine ⟨λ i k j H'=>k=n - i/\i<=n/\S H1 H'/\∃is,List.Sublist is (J1 i)/\j=nsV is,⟨n,by simp,d3 _,s0,[],List.nil_sublist _,rfl⟩,?_⟩;rintro i k j H' ⟨rfl,hi,sm,is,sl,rfl⟩;have h:(nsV is).length<=sizeLine:=by rw [z1s];have:=sl.length_le;rw [Z1] at this;omega
 by_cases hlt:i < n
 ·refine .inr ⟨r.go i hlt H' sm,h,λ v H2 y=>?_⟩;obtain ⟨f,rfl⟩:=r.item i hlt H' v H2 sm y;refine body i hlt H2 (st _ _ _ sm f) _ _ (λ p d=>⟨n - (i + 1),by omega,rfl,hlt,st _ _ _ (st _ _ _ sm f) d,is++[i],?_,?_⟩) (λ p d=>⟨n - (i + 1),by omega,rfl,hlt,st _ _ _ (st _ _ _ sm f) d,is,?_,rfl⟩)
  ·rw [u6];exact sl.append (List.Sublist.refl _)
  ·unfold nsV;rw [j2];rfl
  ·rw [u6];exact sl.trans (List.sublist_append_left _ _)
 ·have e:i=n:=by omega
  subst e;exact .inl ⟨r.stop H' sm,h,λ l o=>hQ l H' is sm o sl⟩
theorem zaz {K:j0} {H H':Hp} :∀{ts:List (Str×Str)} {yt vs:List V},All2 (λ t y=>∃b,y=V.ref b/\H b=some (HO.tup [V.str t.1,V.str t.2])) ts yt->All2 (λ x y=>∃b n k s,x=V.ref b/\H b=some (HO.tup [V.str n,V.str k])/\SvOk 4 k s/\StZ K H' s y) yt vs->∃svs,All2 (λ (t:Str×Str) s=>SvOk 4 t.2 s) ts svs/\All2 (StZ K H') svs vs
 | _,_,_,.nil,.nil=>⟨[],.nil,.nil⟩
 | _,_,_,.cons ⟨b,h1,h2⟩ r,.cons ⟨b',n,k,s,h3,h4,h5,h6⟩ r'=>by obtain ⟨svs,a,c⟩:=zaz r r';rw [h1] at h3;cases h3;rw [h2] at h4;injection h4 with h4;injection h4 with h4;injection h4 with _ h4;injection h4 with h4;injection h4 with h4;rw [<-h4] at h5;exact ⟨s :: svs,.cons h5 a,.cons h6 c⟩
def z33 (K:j0):Sp:=λ vs H Q _=>∃(r t:Addr) (ts:List (Str×Str)) (es:List Ev) (ps:List DD) (m:Nat),vs=[.ref r,.ref t,.str (z0w m)]/\HandAt H r/\TaleAt K H t ts es/\ThW ts/\es.length<=63/\EWf [] es/\All2 (RcGd K H ts) (dAll 0 [] es) ps/\∀H',Hw r H H'->Q (.bl true) H'
theorem z6h (T:TX (KX w.params) mg) (c0:Cal P w (KX w.params) mg base "_law_acts" ["tale"] 1 (z4a (KX w.params))) (c1:Cal P w (KX w.params) mg base "_law_draw" ["hand","limit"] 1 z0m) (c2:Cal P w (KX w.params) mg base "_law_any_state" ["hand","kind"] 3 (z2z (KX w.params))) (c3:Cal P w (KX w.params) mg base "is_full" ["tale","place"] 2 (z6v (KX w.params))) (c4:Cal P w (KX w.params) mg base "_law_is_full" ["acts","place"] 1 (z26 (KX w.params))) (c5:Cal P w (KX w.params) mg base "_law_nexts_right" ["tale","strictness","place","due"] 9 (z15 (KX w.params))) (c6:Cal P w (KX w.params) mg base "_law_may" ["tale","acts","strictness","place"] 2 (z88 (KX w.params))):FnOk P w (KX w.params) mg base CX0 10 453 fd__law_anywhere ["hand","tale","strictness"] (z33 (KX w.params)):=by
 refine (z29 w.params).ok sc__law_anywhere (λ C H Q E h=>?_) (λ i3 A i2 s H C Q E F h=>?_)
 ·obtain ⟨r,t,L,u,ps,m,rfl,_⟩:=h;rfl
 ·obtain ⟨r,t,L,u,ps,m,rfl,R,ta,ok,d4,wf,gd,q⟩:=h;refine ⟨_,(z02 (ps_set (i:=3) sc__law_anywhere.nd rfl (Z0 rfl) (pe_cal c0 (F.mono (by decide)) rfl (z00 (pv 1) pa_nil)))
   (z02 (ps_set (i:=4) sc__law_anywhere.nd rfl (Y0 rfl) (pe_ix ix_seq (pe_lst (z00 pe_int (z00 pe_int pa_nil))) (pe_cal c1 (F.mono (by decide)) rfl (z00 (pv 0) (z00 pe_int pa_nil))) (λ _ _=>rfl)))
   (z02 (ps_set (i:=5) sc__law_anywhere.nd rfl (Z0 rfl) (z0k z0f rfl (T.no (z0y _)) B3 (z00 (z0q (xs:=["number"]) (g:=gName 0) (fr:=[(0,"hand"),(4,"most")]) rfl (z1c rfl (T.no (z3x _)) (z00 (z09 z12 rfl (T.no (n_len _)) Y3 (z00 (pv 3) pa_nil)) pa_nil)) (by intro p B;simp only [N0,x0,or_false] at B;rcases B with rfl|rfl<;>first|exact ⟨rfl,.inl rfl⟩|exact ⟨rfl,.inr rfl⟩) (z83 (ns:=["hand","most"]) (by decide +kernel) (by intro n hn k;simp only [N0,x0,or_false] at hn;rcases hn with rfl|rfl<;>first|exact .inl rfl|exact .inr rfl)) (by intro p B;simp only [N0,x0,or_false] at B;rcases B with rfl|rfl<;>exact ⟨by decide +kernel,by first|exact .inl rfl|exact .inr rfl⟩) (by decide +kernel) rfl (by decide +kernel) (λ _ _ _ _ _=>(z0e (N:=["number","hand","most"]) 0 (by decide +kernel) rfl rfl)) (λ _ _ _ _ _=>(pf_one (z08 op_gt (pe_cal c1 (F.mono (by decide)) rfl (z00 (pv 1) (z00 (pv 2) pa_nil))) pe_int (nomark _)))) (λ _ _ _ _ _=>(pv 0))) pa_nil)))
   (z02 (ps_set (i:=6) sc__law_anywhere.nd rfl (Z0 rfl) (pe_tup (z00 (pv 5) (z00 (z0k z0f rfl (T.no (z0y _)) B3 (z00 (z0q (xs:=["name","kind"]) (g:=gTup (KX w.params) 2 (gCons (gName 0) (gCons (gName 1) gNil))) (fr:=[(0,"hand")]) rfl (pi_tup (pe_ix ix_seq (pv 1) pe_int (λ _ _=>rfl))) (by intro p B;obtain rfl:=List.mem_singleton.mp B;first|exact ⟨rfl,.inl rfl⟩|exact ⟨rfl,.inr rfl⟩) (z2r (n:="hand") (by decide +kernel) (λ _=>by first|exact .inl rfl|exact .inr rfl)) (by intro p B;obtain rfl:=List.mem_singleton.mp B;exact ⟨by decide +kernel,by first|exact .inl rfl|exact .inr rfl⟩) (by decide +kernel) rfl (by decide +kernel) (λ _ _ _ _ _=>(pg_tup rfl (z07 (z0e (N:=["name","kind","hand"]) 0 (by decide +kernel) rfl rfl) (z07 (z0e (N:=["name","kind","hand"]) 1 (by decide +kernel) rfl rfl) z0s)))) (λ _ _ _ _ _=>pf_nil) (λ _ _ _ _ _=>(pe_cal c2 (F.mono (by decide)) rfl (z00 (pv 2) (z00 (pv 1) pa_nil))))) pa_nil)) pa_nil))))
   (z02 (ps_set (i:=7) sc__law_anywhere.nd rfl (Z0 rfl) (pe_cal c3 (F.mono (by decide)) rfl (z00 (pv 1) (z00 (pv 6) pa_nil))))
   (z02 (ps_if (PW.pt (pw_or (pt_not (pt_val (z09 call_isinst rfl (T.no (z0g _)) F2 (z00 (pv 7) (z00 (z1l (v:=.ty "bool") rfl (T.no (n_bool _)) boot_bool rfl) pa_nil))) (λ _=>rfl))) (pw_or1 (z08 opNe (pv 7) (pe_cal c4 (F.mono (by decide)) rfl (z00 (pv 3) (z00 (pv 6) pa_nil))) (nomark _)))))
   (z03 (ps_ret pe_bl))
   z0c)
   (z03 (ps_ret (pe_cal c5 (F.mono (by decide)) rfl (z00 (pv 1) (z00 (pv 2) (z00 (pv 6) (z00 (pe_cal c6 (F.mono (by decide)) rfl (z00 (pv 1) (z00 (pv 3) (z00 (pv 2) (z00 (pv 6) pa_nil))))) pa_nil))))))))))))),?_⟩
  obtain ⟨pt,te,ys,et,⟨yt,b5,a0⟩,e5,al⟩:=id ta;refine ⟨_,rfl,t,te,.ref pt,ys,u,rfl,SqT.of et,SqT.of e5,al,by omega,wf,λ Y J H1 s1 el aa=>?_⟩;refine g_name (t_nx ?_);obtain ⟨dw,os,DI⟩:=DInv.all DInv.nil wf;have rl:(dAll 0 [] u).length<=63:=by have:=z38 (i:=0) (rs:=[]) u;simp only [m3,j4] at this;omega
  have lz:J.length=(dAll 0 [] u).length:=z04 aa;have g6:Y≠r:=λ z=>by obtain ⟨a,b,c,e,_⟩:=R.same s1;rw [<-z,el] at e;injection e with e;injection e with e;obtain ⟨_,_,p,B,_⟩:=z0h aa (show J[0]? = some (.int a) by rw [e];rfl);cases B
  have U:=R.same s1;have O :∀D,Hw r H1 D->Tt (KX w.params) H D/\D Y=some (.lst J)/\All2 (ActAt D) (dAll 0 [] u) J:=λ D w'=>by refine ⟨(Tt.of s1).trans (w'.tt U),w'.k _ _ g6 el,z01 (λ x y z=>?_) aa⟩;obtain ⟨pp,e1,W⟩:=z;refine ⟨pp,e1,w'.k _ _ (λ z=>?_) W⟩;obtain ⟨a,b,c,e,_⟩:=U;rw [<-z,W] at e;injection e with e;injection e with e;exact absurd (congrArg D6 e) (by simp)
  refine z0x ?_;refine ⟨w_2,λ l2 b0=>?_⟩;have s2:=Same.upd (o:=.lst [.int 2,.int 4]) b0;have W:upd H1 l2 (.lst [.int 2,.int 4]) l2=some (.lst [.int 2,.int 4]):=upd_same;have f3:=U.fresh b0;generalize upd H1 l2 (.lst [.int 2,.int 4])=H2 at s2 W⊢;refine ⟨_,rfl,r,2,rfl,U.same s2,by decide,by decide,λ d H3 w3 d0 d1=>?_⟩;have a2:Hw r H1 H3:=(U.hw.same s2).trans w3;obtain ⟨X,g5,m0,m1⟩ :∃X:Int,atI [V.int 2,V.int 4] d=some (.int X)/\0 < X/\X < 5:=by
   rcases (by omega:d=0\/d=1) with rfl|rfl
   ·exact ⟨2,rfl,by decide,by decide⟩
   ·exact ⟨4,rfl,by decide,by decide⟩
  refine .inl ⟨l2,_,_,_,rfl,rfl,SqL.of (w3.k _ _ f3 W),g5,?_⟩;refine g_name ?_;obtain ⟨t3,e9,h7⟩:=O _ a2;refine zfx ?_;refine zdv (S:=Hw r) (n:=J.length) (H1:=H3) a2.r.hw (λ _ _ _ a b=>a.trans b) (λ _ z=>z.r.hw) (λ R h=>⟨_,rfl,.inl ⟨Y,J,rfl,.inl (SqL.of e9),h⟩⟩) (G0 (m:=63) (by omega) (by decide)) (λ i hi H4 w4 KT KF k1 k2=>?_) λ l5 H5 f w5 g1 sl=>?_
  ·refine ⟨[some (.int (i:Nat))],rfl,rfl,?_⟩;refine ⟨_,rfl,_,rfl,r,X,rfl,w4.r,m0,by omega,λ d2 H5 w5 i6 h8=>?_⟩;refine ⟨d2,0,rfl,rfl,_,rfl,?_⟩;by_cases z:0 < d2
   ·exact iteP (decide_eq_true z) ⟨_,rfl,k1 _ w5⟩
   ·exact iteN (λ h=>z (of_decide_eq_true h)) (k2 _ w5)
  have b8:=Same.upd (o:=.lst (nsV f)) g1;have e6:upd H5 l5 (.lst (nsV f)) l5=some (.lst (nsV f)):=upd_same;generalize upd H5 l5 (.lst (nsV f))=H6 at b8 e6⊢;refine ⟨l5,_,rfl,.inl ⟨SqL.of e6,λ G f1=>?_⟩⟩;have a9:=Same.upd (o:=.tup (nsV f)) f1;have e7:upd H6 G (.tup (nsV f)) G=some (.tup (nsV f)):=upd_same;generalize upd H6 G (.tup (nsV f))=H7 at a9 e7⊢;refine g_name ?_;have Z:Hw r H1 H7:=((a2.trans w5).same b8).same a9;obtain ⟨t7,i1,h0⟩:=O _ Z;have nd:f.Nodup:=List.Nodup.sublist sl List.nodup_range;have d3 :∀x∈f,x < (dAll 0 [] u).length:=λ x hx=>by have:=List.mem_range.mp (sl.mem hx);omega
  refine z0x ⟨_,rfl,z8b (e_cb1 ?_)⟩;refine za3 (S:=λ H D=>HandAt H r/\Hw r H D) (K:=KX w.params) (a:=pt) (xs:=yt) (H1:=H7) (λ x y D=>∃b n k s,x=.ref b/\H b=some (.tup [.str n,.str k])/\SvOk 4 k s/\StZ (KX w.params) D s y) ⟨Z.r,Z.r.hw⟩ (λ _ _ _ a b=>⟨a.1,a.2.trans b.2⟩) (λ _ z=>⟨z.2.r,z.2.r.hw⟩) (λ x y H D s ⟨b,n,k,sv,h1,h2,h3,h4⟩=>⟨b,n,k,sv,h1,h2,h3,h4.tups (s.2.tt s.1).t⟩) (λ R h=>⟨_,rfl,.inr (.inl ⟨t,_,0,.ref pt,rfl,rfl,SqT.of (t7.l _ _ et),z05 (j:=0) rfl,h⟩)⟩) (λ D s=>SqT.of ((t7.trans (s.2.tt s.1)).l _ _ b5)) (G0 (m:=6) (by rw [z04 a0];exact ok.n6) (by decide)) (λ v hv H8 w8 KT k1 KF=>?_) λ l9 H9 C w9 f0 f2=>?_
  ·obtain ⟨i,hi⟩:=List.mem_iff_getElem?.mp hv;obtain ⟨tk,ht,b,rfl,eb⟩:=z0h a0 hi;have f5:=(t7.trans (w8.2.tt w8.1)).l _ _ eb;refine ⟨b,_,rfl,SqT.of f5,rfl,_,_,rfl,_,_,rfl,rfl,[some (.str tk.1),some (.str tk.2)],rfl,rfl,iteT ?_⟩;exact ⟨_,rfl,_,rfl,r,tk.2,rfl,w8.2.r,ok.ks _ (T0 ht),λ sv y H9 w9 so sz=>k1 _ _ ⟨w8.2.r,w9⟩ ⟨b,_,_,sv,rfl,eb,so,sz⟩⟩
  obtain ⟨M,so,sz⟩:=zaz a0 f2;have b6:=Same.upd (o:=.lst C) f0;have c7:upd H9 l9 (.lst C) l9=some (.lst C):=upd_same;generalize upd H9 l9 (.lst C)=H10 at b6 c7⊢;refine ⟨l9,C,rfl,.inl ⟨SqL.of c7,λ I f8=>?_⟩⟩;have b4:=Same.upd (o:=.tup C) f8;have c9:upd H10 I (.tup C) I=some (.tup C):=upd_same;generalize upd H10 I (.tup C)=H11 at b4 c9⊢;refine ⟨w_2,λ p B=>?_⟩;have a1:=Same.upd (o:=.tup [.ref G,.ref I]) B;have d6:upd H11 p (.tup [.ref G,.ref I]) p=some (.tup [.ref G,.ref I]):=upd_same;generalize upd H11 p (.tup [.ref G,.ref I])=H12 at a1 d6⊢;refine g_name ?_;have a4:Same H9 H12:=(b6.trans b4).trans a1;have d7:Hw r H1 H12:=(Z.trans w9.2).same a4;obtain ⟨f9,g9,h9⟩:=O _ d7;have a7:PlZ (KX w.params) H12 p (f,M):=⟨G,I,C,SqT.of d6,SqT.of (((w9.2.tt Z.r (K:=KX w.params)).trans (.of a4)).l _ _ e7),SqT.of (a1 _ _ c9),z01 (λ _ _ z=>StZ.tups (.of a4) z) sz⟩
  have po:PlOk L (dAll 0 [] u).length 4 (f,M):=⟨nd,d3,so,.inl (by decide)⟩
  refine ⟨_,rfl,_,rfl,t,p,L,u,(f,M),rfl,ta.tt f9,d4,wf,a7,λ b i9 b7 hb=>?_⟩;refine g_name (t_nx ?_);have b9:=d7.same b7;obtain ⟨h6,f6,f4⟩:=O _ b9;have a8:=a7.tups (.of b7);obtain ⟨e0,g4,i8,e4,e3,i7,h5⟩:=id a8;refine sq_if (t_or ⟨_,rfl,.bl b,"bool",_,rfl,rfl,by decide,_,rfl,iteN (by decide) ?_⟩);refine ⟨_,rfl,_,rfl,_,rfl,Y,p,e0,J,dAll 0 [] u,f,.ref g4,rfl,f6,f4,rl,e4,e3,λ b2 i5 b1 g8=>⟨rfl,_,rfl,?_⟩⟩;have eb:b=b2:=Bool.eq_iff_iff.mpr (hb.trans g8.symm);subst eb;refine iteN (by rw [decide_eq_true rfl];decide) ?_;refine t_nx (sq_ret ?_);have d5:=b9.same b1;obtain ⟨a3,f7,g0⟩:=O _ d5;have d8:=a8.tups (.of b1);have g3:=z01 (λ _ _ z=>RcGd.tt a3 z) gd;refine ⟨_,rfl,_,rfl,_,rfl,?_⟩;refine ⟨_,rfl,_,rfl,_,rfl,_,rfl,t,Y,p,pt,te,J,L,dAll 0 [] u,ps,m,4,_,os,(f,M),rfl,a3.l _ _ et,ThAt.tt a3 ⟨yt,b5,a0⟩,ok,f7,g0,g3,rl,DI,d8,po,λ l e8 i4 c8 hl g2 a5=>?_⟩;have a6:=d5.same c8;obtain ⟨b3,_,_⟩:=O _ a6;have g7:nexT (cM m (dAll 0 [] u) f) L (dAll 0 [] u) ps (f,M) (dAll 0 [] u).length=nexT (cP m (dAll 0 [] u) f) L (dAll 0 [] u) ps (f,M) (dAll 0 [] u).length:=zau λ n hn=>cM_cP DI d3;rw [g7] at a5;exact ⟨t,p,l,e8,L,u,ps,m,4,(f,M),rfl,ta.tt b3,ok,d4,wf,z01 (λ _ _ z=>RcGd.tt b3 z) gd,d8.tups (.of c8),po,g2,a5,λ i0 d9=>q _ ((R.hw.same s1).trans (a6.same d9))⟩
theorem e_andV {t u:TE} {σ:L2.St} {H:Hp} {Q:VK} (h:t σ H λ x H1=>∃c,x=.bl c/\if c=true then u σ H1 Q else Q (.bl false) H1):tAndV t u σ H Q:=h
def sp_law (K:j0):Sp:=λ vs H Q _=>∃(sc:Addr) (ns:List Int),vs=[.ref sc]/\SqL K H sc (ns.map V.int)/\ns.length<=63/\∀H',Q (.bl true) H'
theorem ok_law (T:TX (KX w.params) mg) (c0:Cal P w (KX w.params) mg base "_law_hand" ["script","cell","k"] 1 (z42 (KX w.params))) (c1:Cal P w (KX w.params) mg base "_law_draw" ["hand","limit"] 1 z0m) (c3:Cal P w (KX w.params) mg base "_law_tale" ["script","first","hands","most"] 4 (z74 (KX w.params))) (c4:Cal P w (KX w.params) mg base "_law_way" ["hand","tale","strictness"] 10 (z89 (KX w.params))) (c5:Cal P w (KX w.params) mg base "_law_anywhere" ["hand","tale","strictness"] 10 (z33 (KX w.params))):FnOk P w (KX w.params) mg base CX0 11 460 fd_law ["script"] (sp_law (KX w.params)):=by
 refine (F_law w.params).ok sc_law (λ vs H Q E h=>?_) (λ h7 A h6 s H vs Q E p h=>?_)
 ·obtain ⟨f,b,rfl,_⟩:=h;rfl
 ·obtain ⟨f,b,rfl,G,hn,q⟩:=h;refine ⟨_,(z02 (ps_set (i:=1) sc_law.nd rfl (Z0 rfl) (pe_cal c0 (p.mono (by decide)) rfl (z00 (pv 0) (z00 (pe_ix ix_seq (pe_op zd0 (pv 0) (pe_lst (z00 pe_int pa_nil))) pe_int (λ _ _=>rfl)) (z00 pe_int pa_nil)))))
   (z02 (ps_set (i:=2) sc_law.nd rfl (Z0 rfl) (pe_cal c3 (p.mono (by decide)) rfl (z00 (pv 0) (z00 pe_int (z00 (pe_op opAdd pe_int (pe_cal c1 (p.mono (by decide)) rfl (z00 (pv 1) (z00 pe_int pa_nil)))) (z00 pe_int pa_nil))))))
   (z02 (ps_for U1 rfl (z3f (z1i slSeq (pe_op zd0 (pv 0) (pe_lst (z00 pe_int (z00 pe_int pa_nil)))) z3k (z2e pe_int))) (z0j (i:=3) sc_law.nd rfl (Z0 rfl))
   (z03 (ps_for U1 rfl (z3f (pe_lst (z00 pe_str (z00 pe_str (z00 pe_str pa_nil))))) (z0j (i:=4) sc_law.nd rfl (Z0 rfl))
   (z02 (ps_if (pt_not (pt_val (pe_cal c4 (p.mono (by decide)) rfl (z00 (pe_cal c0 (p.mono (by decide)) rfl (z00 (pv 0) (z00 (pv 3) (z00 pe_int pa_nil)))) (z00 (pv 2) (z00 (pv 4) pa_nil)))) (λ _=>rfl)))
   (z03 (ps_ret pe_bl))
   z0c)
   (z03 (ps_for U1 rfl (z1c rfl (T.no (z3x _)) (z00 pe_int pa_nil)) (z0j (i:=5) sc_law.nd rfl (Z0 rfl))
   (z03 (ps_if (pt_not (pt_val (pe_cal c5 (p.mono (by decide)) rfl (z00 (pe_cal c0 (p.mono (by decide)) rfl (z00 (pv 0) (z00 (pe_op opAdd (pe_op zbp (pv 3) pe_int) (pv 5)) (z00 (pe_op opAdd pe_int (pv 5)) pa_nil)))) (z00 (pv 2) (z00 (pv 4) pa_nil)))) (λ _=>rfl)))
   (z03 (ps_ret pe_bl))
   z0c))))))))
   (z03 (ps_ret (pe_and (pe_cal c4 (p.mono (by decide)) rfl (z00 (pe_lst (z00 pe_int (z00 pe_int (z00 pe_int pa_nil)))) (z00 (pe_tup (z00 (pe_tup pa_nil) (z00 (pe_tup pa_nil) pa_nil))) (z00 pe_str pa_nil)))) (pe_one (pe_cal c4 (p.mono (by decide)) rfl (z00 (pe_lst (z00 pe_int (z00 pe_int (z00 pe_int pa_nil)))) (z00 (pe_tup (z00 (pe_ix ix_seq (pv 2) pe_int (λ _ _=>rfl)) (z00 (pe_tup pa_nil) pa_nil))) (z00 pe_str pa_nil))))))))))),?_⟩
  have hc :∃c:Int,atI (b.map V.int++[V.int 0]) 0=some (.int c):=by
   match b with
   | []=>exact ⟨0,rfl⟩
   | a :: r=>exact ⟨a,z05 (j:=0) rfl⟩
  obtain ⟨c,hc⟩:=hc;refine ⟨_,rfl,_,rfl,w_1,λ l0 e5=>?_⟩;have sA:=Same.upd (o:=.lst [V.int 0]) e5;refine ⟨f,l0,b.map V.int,[.int 0],rfl,rfl,sA.seq G,SqL.of upd_same,by rw [M0];exact G0 (m:=65) (by show b.length + 1<=65;omega) (by decide),λ l1 f5=>?_⟩;have sB:=sA.trans (Same.upd (o:=.lst (b.map V.int++[V.int 0])) f5);refine .inl ⟨l1,_,0,.int c,rfl,rfl,SqL.of upd_same,hc,f,b,c,0,rfl,sB.seq G,by decide,by decide,λ r H1 s1 R1 g2=>?_⟩;have s1:=sB.trans s1;have fr:H r=none:=sB.free g2;refine g_name (t_nx ?_);refine ⟨_,rfl,_,rfl,r,6,rfl,R1,by decide,by decide,λ t2 H2 w2 h3 h0=>.inl ⟨1,t2,rfl,rfl,?_⟩⟩;have s2:Same H H2:=z1z s1 (w2.keptL (L:=[r]) (by simp)) (λ l hl=>by rw [List.mem_singleton.mp hl];exact fr);refine ⟨f,b,1 + t2,24,rfl,s2.seq G,hn,by omega,by omega,λ t pt te ys es W O s3 et f1 th tok g1 c8 wf eg=>?_⟩;refine g_name (t_nx ?_);have f4:TaleAt (KX w.params) O t W es:=⟨pt,te,ys,et,th,f1,g1⟩
  obtain ⟨ps,g5⟩:=rc_gd (i:=0) (rs:=[]) (ps:=[]) eg .nil;have ok:=tok.thw;have d4:=s2.trans s3;refine ⟨_,rfl,w_2,λ l5 d5=>?_⟩;have s5:=d4.trans (Same.upd (o:=.lst [V.int 0,.int 0]) d5);refine ⟨f,l5,b.map V.int,[.int 0,.int 0],rfl,rfl,s5.seq G,SqL.of upd_same,by rw [M0];exact G0 (m:=65) (by show b.length + 2<=65;omega) (by decide),λ N g7=>?_⟩;have d2:=(Same.upd (o:=.lst [V.int 0,.int 0]) d5).trans (Same.upd (o:=.lst (b.map V.int++[.int 0,.int 0])) g7);have e6:upd (upd O l5 (.lst [V.int 0,.int 0])) N (.lst (b.map V.int++[.int 0,.int 0])) N=some (.lst (b.map V.int++[.int 0,.int 0])):=upd_same;generalize upd (upd O l5 (.lst [V.int 0,.int 0])) N (.lst (b.map V.int++[.int 0,.int 0]))=H6 at d2 e6⊢;refine ⟨2,rfl,.inl ⟨N,_,rfl,SqL.of e6,λ J f7=>?_⟩⟩;have ci :∀y∈cutV (b.map V.int++[.int 0,.int 0]) none (some 2),∃i,y=V.int i:=λ y I=>by
   have I:=List.mem_of_mem_drop (List.mem_of_mem_take I);rcases List.mem_append.mp I with z|z
   ·obtain ⟨i,_,e⟩:=List.mem_map.mp z;exact ⟨i,e.symm⟩
   ·simp only [N0,x0,or_false] at z;rcases z with rfl|rfl<;>exact ⟨0,rfl⟩
  generalize cutV (b.map V.int++[.int 0,.int 0]) none (some 2)=cs at ci⊢;have a5:=d2.trans (Same.upd (o:=.lst cs) f7);have e7:upd H6 J (.lst cs) J=some (.lst cs):=upd_same;generalize upd H6 J (.lst cs)=H7 at a5 e7⊢;have T7:Tt (KX w.params) O H7:=.of a5;have a6:=f4.tt T7;have d7:=z01 (λ _ _ z=>RcGd.tt T7 z) g5;have d6:=d4.trans a5;have tt :∀{g H9 d:Hp} {C:Addr},Same H7 g->Same g H9->g C=none->Hw C H9 d->Same H7 d:=λ {g H9 d C} s8 Z hr9 w'=>z1z (s8.trans Z) (w'.keptL (L:=[C]) (by simp)) (λ l hl=>by rw [List.mem_singleton.mp hl];exact s8.free hr9);refine ⟨J,rfl,⟨cs,SqL.of e7⟩,?_⟩;refine z62 (K:=KX w.params) (a:=J) (xs:=cs) (λ i σ d=>Same H7 d/\∃x3 x4 x5,σ=[some (.ref f),some (.ref r),some (.ref t),x3,x4,x5])
   ⟨Same.refl _,_,_,_,rfl⟩ (λ i σ d _ h=>SqL.of (h.1 _ _ e7)) ?_ ?_
  ·rintro i y σ g I ⟨s8,x3,x4,x5,rfl⟩;obtain ⟨c2,rfl⟩:=ci y (T0 I);refine g_name ?_;refine ⟨w_3,λ u f9=>?_⟩;have Z:=s8.trans (Same.upd (o:=.lst [V.str "strict",.str "hands",.str "bare"]) f9);have e9:upd g u (.lst [V.str "strict",.str "hands",.str "bare"]) u=some (.lst [V.str "strict",.str "hands",.str "bare"]):=upd_same;generalize upd g u (.lst [V.str "strict",.str "hands",.str "bare"])=H9 at Z e9⊢;refine ⟨u,rfl,⟨_,SqL.of e9⟩,?_⟩;refine z62 (K:=KX w.params) (a:=u) (xs:=[V.str "strict",.str "hands",.str "bare"]) (λ i σ d=>Same H7 d/\d u=some (.lst [V.str "strict",.str "hands",.str "bare"])/\∃x4 x5,σ=[some (.ref f),some (.ref r),some (.ref t),some (.int c2),x4,x5])
    ⟨Z,e9,_,_,rfl⟩ (λ i σ d _ h=>SqL.of h.2.1) ?_ ?_
   ·rintro j' y' σ Y f6 ⟨s10,e10,x4,x5,rfl⟩;obtain ⟨m,rfl⟩ :∃m,y'=.str (z0w m):=by
     have:=T0 f6;simp only [N0,x0,or_false] at this;rcases this with rfl|rfl|rfl
     ·exact ⟨0,rfl⟩
     ·exact ⟨1,rfl⟩
     ·exact ⟨2,rfl⟩
    refine g_name ?_;refine sq_if ?_;refine ⟨_,rfl,_,rfl,f,b,c2,99,rfl,(d6.trans s10).seq G,by decide,by decide,λ C a7 a8 g0 b9=>?_⟩;have b7:=s10.trans a8;refine ⟨_,rfl,_,rfl,C,t,W,es,ps,m,rfl,g0,a6.tt (.of b7),ok,c8,wf,z01 (λ _ _ z=>RcGd.tt (.of b7) z) d7,λ c9 d9=>⟨_,rfl,iteN (by decide) ?_⟩⟩;have g6:=tt s10 a8 b9 d9;have b4:u≠C:=λ z=>by rw [z,b9] at e10;cases e10
    have g8:=d9.k _ _ b4 (a8 _ _ e10);refine t_nx ?_;refine ⟨_,rfl,by decide,by decide,?_⟩;refine z4u (lo:=0) (n:=4) (λ i σ d=>Same H7 d/\d u=some (.lst [V.str "strict",.str "hands",.str "bare"])/\∃x5,σ=[some (.ref f),some (.ref r),some (.ref t),some (.int c2),some (.str (z0w m)),x5])
     ⟨g6,g8,_,rfl⟩ ?_ ?_
    ·rintro k σ a4 hk ⟨D,e13,x5,rfl⟩;rw [M7];refine g_name ?_;refine ⟨_,rfl,_,rfl,⟨c2,7,rfl,rfl,⟨by decide,by decide⟩,?_⟩⟩;refine ⟨_,rfl,.inl ⟨_,(k:Nat),rfl,rfl,?_⟩⟩;refine ⟨_,rfl,.inl ⟨50,(k:Nat),rfl,rfl,?_⟩⟩;refine ⟨f,b,_,_,rfl,(d6.trans D).seq G,by omega,by omega,λ r3 X a9 g3 b8=>?_⟩;have d0:=D.trans a9;refine ⟨_,rfl,_,rfl,r3,t,W,es,ps,m,rfl,g3,a6.tt (.of d0),ok,c8,wf,z01 (λ _ _ z=>RcGd.tt (.of d0) z) d7,λ b1 c7=>⟨_,rfl,iteN (by decide) ?_⟩⟩;have b4:u≠r3:=λ z=>by rw [z,b8] at e13;cases e13
     exact ⟨tt D a9 b8 c7,c7.k _ _ b4 (a9 _ _ e13),_,rfl⟩
    ·rintro σ a4 ⟨D,e13,x5,rfl⟩;exact ⟨D,e13,_,_,rfl⟩
   ·rintro σ Y ⟨s10,e10,x4,x5,rfl⟩;exact ⟨s10,_,_,_,rfl⟩
  ·rintro σ g ⟨s8,x3,x4,x5,rfl⟩;refine t_nx (sq_ret (e_andV ?_));refine ⟨w_3,λ a0 d1=>⟨w_0,λ x d8=>⟨w_0,λ B b5=>⟨w_2,λ M S=>?_⟩⟩⟩⟩;have z0:=Same.upd (o:=.lst [V.int 0,.int 1,.int 0]) d1;have e0:upd g a0 (.lst [V.int 0,.int 1,.int 0]) a0=some (.lst [V.int 0,.int 1,.int 0]):=upd_same;generalize upd g a0 (.lst [V.int 0,.int 1,.int 0])=H9 at z0 e0 d8 b5 S⊢;have z1:=Same.upd (o:=.tup []) d8;have e1:upd H9 x (.tup []) x=some (.tup []):=upd_same;generalize upd H9 x (.tup [])=Y at z1 e1 b5 S⊢;have z2:=Same.upd (o:=.tup []) b5;have e2:upd Y B (.tup []) B=some (.tup []):=upd_same;generalize upd Y B (.tup [])=a7 at z2 e2 S⊢;have U:=Same.upd (o:=.tup [.ref x,.ref B]) S;have e3:upd a7 M (.tup [.ref x,.ref B]) M=some (.tup [.ref x,.ref B]):=upd_same;generalize upd a7 M (.tup [.ref x,.ref B])=c9 at U e3⊢;have c6:Same H9 c9:=(z1.trans z2).trans U;refine ⟨a0,M,[],[],[],0,rfl,⟨0,1,0,c6 _ _ e0,by decide,by decide,by decide,by decide⟩,⟨x,B,[],e3,⟨[],(z2.trans U) _ _ e1,.nil⟩,U _ _ e2,.nil⟩,⟨by decide,.nil,λ t ht=>absurd ht x0⟩,by decide,trivial,.nil,λ a4 f8=>⟨_,rfl,iteP rfl ?_⟩⟩;have D:=tt (s8) (z0.trans c6) d1 f8;obtain ⟨F,h4,h2,g4,e4,_⟩:=a6.tt (.of D);refine ⟨w_3,λ R e8=>?_⟩;have y0:=Same.upd (o:=.lst [V.int 0,.int 1,.int 0]) e8;have f0:upd a4 R (.lst [V.int 0,.int 1,.int 0]) R=some (.lst [V.int 0,.int 1,.int 0]):=upd_same;generalize upd a4 R (.lst [V.int 0,.int 1,.int 0])=X at y0 f0⊢;refine ⟨_,rfl,.inr (.inl ⟨t,_,0,.ref F,rfl,rfl,SqT.of (y0 _ _ g4),z05 (j:=0) rfl,?_⟩)⟩;refine ⟨w_0,λ v g9=>⟨w_2,λ b3 b6=>?_⟩⟩;have y2:=Same.upd (o:=.tup []) g9;have f2:upd X v (.tup []) v=some (.tup []):=upd_same;generalize upd X v (.tup [])=b1 at y2 f2 b6⊢;have y3:=Same.upd (o:=.tup [.ref F,.ref v]) b6;have f3:upd b1 b3 (.tup [.ref F,.ref v]) b3=some (.tup [.ref F,.ref v]):=upd_same;generalize upd b1 b3 (.tup [.ref F,.ref v])=H16 at y3 f3⊢;have d3:Same X H16:=y2.trans y3;exact ⟨R,b3,W,[],[],2,rfl,⟨0,1,0,d3 _ _ f0,by decide,by decide,by decide,by decide⟩,⟨F,v,[],f3,e4.tt (.of (K:=KX w.params) (y0.trans d3)),y3 _ _ f2,.nil⟩,ok,by decide,trivial,.nil,λ h1 h5=>q _⟩
end
theorem all_law {P:Program} {w:j1} {mg:Str->Option Value} {base:Heap} (T:TX (KX w.params) mg):FnOk P w (KX w.params) mg base CX0 11 460 fd_law ["script"] (sp_law (KX w.params)):=by have m:=@cal_mk P w (KX w.params) mg base;have I:=m T (z6l _) (zg8 _) (zgn _) (zep T );have K:=m T (z5i _) (ze1 _) (ze9 _) (zci T I);have V:=m T (z70 _) (zfi _) (zfb _) (zdu T K);have z:=m T (z32 _) (za5 _) (zal _) (z96 T );have i:=m T (z8r _) (zik _) (zhj _) (zft T );have S:=m T (z94 _) (zi7 _) (zif _) (zf5 T i V z);have H:=m T (z45 _) (z6r _) (zch _) (zax T );have a0:=m T (z3e _) (z5m _) (zaa _) (z8x T );have N:=m T (z2a _) (z3w _) (z7i _) (z65 T );have L:=m T (z44 _) (z7c _) (zca _) (zao T );have a2:=m T (z4c _) (z7b _) (zb7 _) (za7 T );have U:=m T (z43 _) (z6a _) (zb3 _) (zaw T );have B:=m T (z2k _) (z4k _) (z9b _) (z7r T );have G:=m T (z2o _) (z4i _) (z8m _) (z7h T );have u:=m T (z40 _) (z78 _) (zbn _) (z9t T );have W:=m T (F_do _) (g_do _) (b_do _) (ok_do T S H a0 N a2 U B G u L);have a3:=m T (z3c _) (z9l _) (z9v _) (z95 T i);have d:=m T (zgl _) (zl7 _) (zkz _) (zjp T );have O:=m T (z4d _) (zc6 _) (zbi _) (zav T );have J:=m T (z18 _) (z59 _) (z5a _) (z4p T );have s:=m T (zbu _) (zk6 _) (zjz _) (zha T d J O);have o:=m T (z5h _) (ze0 _) (zdw _) (zc9 T );have a:=m T (z50 _) (zdt _) (zem _) (zb6 T );have f:=m T (z4b _) (zbr _) (zbf _) (zap T a);have Z:=m T (z6o _) (zgz _) (zgw _) (zej T a f);have p:=m T (z41 _) (zbt _) (zbq _) (zah T );have b:=m T (z55 _) (zee _) (zeo _) (zbk T );have C:=m T (z30 _) (zai _) (za4 _) (z90 T a);have v:=m T (z4e _) (zb2 _) (zba _) (z9n T a b);have A:=m T (z5b _) (zed _) (zdx _) (zby T o a C p v Z b);have l:=m T (z56 _) (zec _) (zds _) (zbe T );have n:=m T (z54 _) (zdz _) (zdr _) (zc8 T );have M:=zb5 (P:=P) (w:=w) (base:=base) T;have X:=z3b (P:=P) (w:=w) (base:=base) T;have r:=m T (z8f _) (zhg _) (zht _) (zh8 T W);have e:=m T (z25 _) (z7l _) (z7k _) (z7a T );have E:=m T (z5e _) (zdy _) (zes _) (zc3 T );have j:=m T (z35 _) (za8 _) (z9s _) (z8h T a3);have a1:=zkh (P:=P) (w:=w) (base:=base) T s d j e M;have y:=z4q (P:=P) (w:=w) (base:=base) T X r;have x:=m T (zgu _) (zlj _) (zkq _) (zjr T a1 y);have q:=m T (z9f _) (zhf _) (zh9 _) (zf6 T d e E);have c:=m T (z49 _) (zc5 _) (zbz _) (zb0 T );have Y:=m T (z3y _) (zb8 _) (zb9 _) (zat T l);have k:=m T (z2j _) (z9g _) (z8y _) (z7g T );have Q:=m T (z93 _) (zhl _) (zhu _) (zey T b c);have g:=m T (z19 _) (z52 _) (z5f _) (z4m T );have h:=m T (z1a _) (z5d _) (z51 _) (z4y T x c g);have R:=m T (z6f _) (zgq _) (zfv _) (zeb T n Y p j g Q q k h a);have D:=m T (z1q _) (z6e _) (z76 _) (z5v T f a);have t:=m T (z6n _) (zff _) (zf2 _) (ze7 T l b c);have F:=m T (z29 _) (z7m _) (z7e _) (z6h T n a D q k h t);exact ok_law T o a A R F
end K53
open PySem PySem.W PyProof.Rows
set_option maxRecDepth 100000 in
set_option maxHeartbeats 0 in
theorem PySem.Challenge.cw_talejudge_k53_what_may_be_next_holds : PySem.Challenge.rw_talejudge_k53_what_may_be_next.Holds := by
 w_on;o_law
 refine holds_open (q:=K53.viewX) (loose:=K53.looseX) (Xt:=K53.XtX) (XP:=XL K53.viewX []) (Yf:=Hook.obs K53.HX) (Ya:=Hook.val K53.HX) (YP:=Hook.says K53.HX) (N:=200000) K53.leftX (Hook.of K53.HX) (Hook.keeps K53.HX) (λ s e=>xl_of s (Bool.and_eq_true_iff.mp e).1) XL.keeps (by rfl) (by rfl) (by rfl) (λ s e=>recFacts_of (Bool.and_eq_true_iff.mp e).2) (by rfl) (by assumption) (by decide +kernel) ⟨rfl,rfl,rfl,rfl,rfl,by decide +kernel⟩ ?hw ?hc
 case hw=>w_witness2
 case hc=>
  refine L2.walk_of (l:=PySem.Challenge.rw_talejudge_k53_what_may_be_next) (n:=63) (k:=11) (x:="script") (K:=K53.KX) (CX:=λ _=>L2.CX0) (sp:=λ w=>K53.sp_law (K53.KX w.params)) rfl (by decide) rfl ⟨rfl,by decide,by decide,rfl⟩ (λ w h Y=>PySem.W.kIn_of Y) ?F ?S ?C
  case F=>intro w o m h KX G c;have T:=L2.TX.mk' KX G;have f:=c.symm.trans (T.of (K53.g_law _));cases f;exact ⟨K53.fd_law,λ s u=>.of_eq rfl,λ i p j=>K53.all_law T⟩
  case S=>exact λ w H a g b r d=>⟨a,g,rfl,d,b,λ _=>rfl⟩
  case C=>exact λ _ _ _ _ _ z=>z
