import PyProof.Rows.All
import Wide.All
import OpenK.AllK
import Wide.FinOn
import Lean
import PyProof.EqAt
import PyProof.EqKinds
import PyProof.TupleCall
import Open.Tops
import KE.KIntText
import PyProof.ZipIter
import PyProof.ReprRoads
import PyProof.Draws
import KE.KDictSum
import KE.KSortedM
import OpenK.KRaise
import OpenK.KOwn
import PyProof.ExcBaseAll.ValueError
import KE.KTryMore
import PyProof.NsDelKeeps
import KE.KDictOf
import KE.KEqDict
import PyProof.DictWalks
import PyProof.TupleKey
import PyProof.MinMaxWalk
import KE.KSortTup
import PyProof.StrWalks
import KE.KRevIter
import KE.KListMore
import PyProof.StrLawsTight
import PyProof.StrLawsChain
import PySem.Challenge.RW_talejudge_k56_whole_against_all_orders
open PySem.W renaming Frag->b0,kia_one->i3,keepIn->E3,findIn->F3,instObj->A4,fnOf->r6,nsIn->W6,callWith_K->c7,plainGet->P7,lookIn->C8,codeIn->D8,plainGet_of->P8,methodObj->o9,hasDictIn->u9,takerIn->Z9,isFn->j17,cellsFrom_some->j18,specialIn->j3e,plainOver->j3f,kitx_list->j3g,kitx_dict->j3h
open PySem renaming wpAny_bind->c0,Shared->u0,wpAny_pure->x0,wpAny->L0,Params->O0,World->S0,model->X0,starEach->A1,reduceHash->C1,Around->L1,wpAny_holding->Z1,compareOp->j2,wpAny_newObj_type->C2,OsState->Q2,wpAny_call_entry->T2,wpAny_callSpecial?_slot->W2,eval->d3,wpAny_truthy_bool->u3,mainGlobals->v3,treeTable->A3,SetTable->B3,wpAny_mono->M3,sysModules->S3,attributeBase->U3,codeAny_builtin->Z3,boot_len->i4,wpAny_pyIter_tuple->C4,wpAny_Call_Name_kw->D4,backTo->E4,eqIsQuiet->N4,wpAny_typeOf->O4,binaryOp->P4,wpAny_setField->Z4,wpAny_isInstance->c5,rawInt->d5,codeAny->u5,Builtin->A5,wpAny_passesOwn->G5,wpAny_attempt->J5,wpAny_setState_of->N5,intKind->O5,foldedSetIterable->P5,mem_of_lookup->V5,NameKind->c6,bootBuiltins->g6,Keyword->j6,wpAny_setEntries_of->o6,wpAny_rule->D6,pyNext->E6,tupleKind->J6,keywordEach->K6,wpAny_seqItems->N6,placesWithHash->O6,codeAny_mono->P6,swapsWith->b7,wpAny_field->m7,sliceBounds->v7,callSpecialIfBoundUnlessNone?->z7,importedModules->G7,tupleKind_room_in1->X7,getattributeRaised->Y7,call_meets->Z7,wpAny_pyIter_list->t8,wpAny_pyIter_enum->u8,relabel->y8,getItem->z8,behindInMarks->B8,wpAny_pyNext_tuple_item->M8,backToKw->N8,atKey->O8,wpAny_pyNext_tuple_end->V8,strKind_is->W8,assignEach->Y8,Paired->Z8,IsPart->c9,wpAny_execs_nil->d9,letOwnedTupleGo->g9,getAttrByItsOwn->i9,wpAny_of_eq->K9,wpAny_fieldsOf->L9,isSubtype_type->M9,firstArgMember->N9,boundAndCalled->O9,valueAt->Q9,setNext->S9,holding->U9,Fin->j00,plainId_quiet->j03,getAttr?->j09,fits_of_scanBound->j0b,concat_meets->j0c,callerA->j0d,wpAny_askSetting->j14,noFill_tuple_add->j15,Result->j16,wpAny_throw->j1d,subscripted->j1e,sizeLine_eq->j1f,wpAny_specialOf->j26,wpAny_ite_split->j27,Within->j28,standAt->j2c,dictSet->j2d,wpAny_letOwnedTupleGo_enum->j30,typeLookup->j31,relayAll->j32,pyIter->j33,hookBehind->j34,Thread->j39,ReadsAll->j3a
open PySem.PyData renaming keyHash->d0,depthAll->W1,int->T3,depth->Y6,canLayAll0->K7,str->j3i
open PySem.Builtin.Tuple renaming tupleHashOf->j0,tupleExact->z5,tupleItemsOf->A9
open List renaming not_mem_nil->o0,getElem?_eq_getElem->B0,length_map->D0,length_append->F0,mem_of_getElem?->G0,size_toArray->J0,getElem?_map->K0,mem_cons_self->Q0,map_cons->R0,mem_cons->W0,mem_cons_of_mem->Y0,length_cons->Z0,map_append->j1,mem_append_right->D1,range->G1,length_range->O1,forall_mem_cons->U1,append_nil->Y1,replicate->A2,length_filter_le->D2,getElem?_cons_succ->E2,getElem?_append_right->F2,getElem?_append_left->N2,map_map->X2,getElem?_range->Z2,getElem?_cons_zero->C3,append_assoc->K3,length_replicate->O3,length_take->P3,foldl_cons->X3,lookup_cons->d4,take_zero->o4,drop_zero->u4,getElem?_eq_none->y4,length_nil->F4,find?_cons->G4,getElem?_mapIdx->J4,foldl_append->K4,ext_getElem?->L4,getElem_mem->Q4,filter_cons->R4,take_of_length_le->V4,dropLast_concat_getLast->i5,getElem?_modify->L5,take_length->Q5,map_nil->S5,all_eq_true->U5,nodup_cons->i6,length_modify->m6,length->u6,nodup_append->A6,mem_append_left->U6,lookup->V6,forIn_cons->Z6,nodup_nil->B7,mem_singleton->C7,forIn_nil->D7,filter_append->E7,take_add_one->S7,any_cons->W7,length_drop->b8,getElem?_replicate->c8,filter_cons_of_pos->d8,filter_cons_of_neg->g8,ext_getElem->i8,any_eq_true->j8,range_succ->F8,mem_append->G8,length_eraseIdx->U8,flatMap_append->m9,filterMap_cons->n9,all_cons->z9,pairwise_map->V9,eraseIdxIfInBounds_toArray->j02,of_mem_zip->j07,length_set->j08,length_eraseIdx_of_lt->j12,pairwise_iff_getElem->j1a,drop_eq_getElem_cons->j1b,length_filterMap_le->j23,pairwise_mergeSort->j2b,pairwise_lt_range->j2e,getElem?_set_self->j2f,any_map->j2g,all_map->j2h,take_append_drop->j3b,getElem?_toArray->j3c,getElem?_set_ne->j40
open PySem.Heap renaming get?_push_of_some->y0,get?_push_size->M0,lt_size->N0,get?_update_self->P2,size_push->m3,DictOf->L3,SameBut->X4,get?_update_other->B6,ExtBut->j41
open Nat renaming le_refl->A0,le_trans->C0,ne_of_lt->V0,lt_of_le_of_lt->B1,lt_of_lt_of_le->E1,lt_succ_of_lt->F1,lt_succ_self->V1,zero_le->X1,le_succ->B2,ne_of_gt->y3,lt_irrefl->J3,le_of_lt->R3,not_lt_zero->Y3,zero_add->X5,succ_le_succ->Y5,le_succ_of_le->G6,le_of_not_lt->R6,mul_le_mul_right->X6,le_of_eq->A7,lt_trichotomy->V7,le_add_right->o8,lt_trans->E8,mul_le_mul->a9,lt_of_succ_lt->j01,min_eq_left->j0g,add_assoc->j2a
open Bool renaming false_ne_true->P0,and_eq_true->D3,and_false->C6,false_and->F7,true_and->E9,false_or->F9,false_eq_true->G9,not_eq_true->j05,not_true->j25
open Or renaming inr->T0,inl->U0
open PySem.Value renaming ref->v1,none->K2,type->V3,bool->j4,int->L6,str->g7,isStrOf->O7,isInt->j37,float->j38
open Option.some renaming inj->J1
open PySem.PassesOwn renaming never->K1
open PySem.SetTable renaming below->N1,grown->n5,insertAt->j9,advance->j3d
open PySem.NameKind renaming free->P1
open PySem.Str renaming ofString->Q1
open Array renaming length_toList->v2,getElem?_eq_none->G3,getElem?_toList->N3,getElem?_eq_getElem->B4
open PySem.Obj renaming mapFields->G2,mapSeq->M7,mapDictKeys->L8,putSet->P9
open Ne renaming symm->J2
open PySem.Heap.SameBut renaming update->O2
open ForInStep renaming yield->U2
open Pure renaming pure->V2,pure->j29
open PyProof.Rows renaming boot_isinstance->Y2,IntsAre->c3,callWith_type1->j3,slot_tuple_getitem->v4,boot_tuple->F6,boot_dict->U7,AllBare->A8,callWith_builtin1->S8,envOfC->X8,boot_str->j0e,boot_sorted->j1g,boot_int->j35,boot_all->j36
open Sum.inl renaming inj->Q3
open False renaming elim->W3
open PySem.F renaming plainAttrs_list->M4,slot_tuple_iterator_next->Z5,args_tuple_add_2->J7,entry_tuple_add->Q7,slot_tuple_add->a8,slot_dict_get->n8,plain_list_iadd->j0i,plainAttrs_dict->j0j,args_dict_get_2->j10,entry_dict_get->j19,args_tuple_iterator_next_1->j1c,type_list_pop->j20,slot_list_pop->j21,slot_dict_pop->j22,entry_tuple_iterator_next->j24
open List.Pairwise renaming map->S4,nil->J8
open PySem.Builtin.SmallTypes renaming nextOf->T4,ownedTupleFields->Y4
open PySem.Calls renaming spliced_cons->U4,spliced_nil->o5,callWith_builtin->z6,evalArgs_plain->Q8,Name_function_global->j0h,call_function_entry->j13
open PySem.Builtin.Slice renaming slicePlaces->j5,sliceAdjust->S6,sliceApplied->B9
open List.Perm renaming refl->m5
open PySem.W.Fast renaming tw16697807410369149715->B5,tw13926502685295537346->C5,tw13383273872528276517->D5,te14364793385576792824->E5,tw4214721358667687652->K5,tw14364793385576792824->m8
open Int renaming toNat_natCast->F5,emod_lt_of_pos->y6,emod_nonneg->d7,zero_add->K8
open PySem.Builtin.Dict renaming updateFrom->M5,selfAndRest->X9,addKeywords->Y9,pairItems->j04
open Sum.inr renaming inj->d6
open PySem.Shared renaming TypeIs->M6
open PySem.SetTable.below renaming go->Q6
open Option renaming map_some->T6,isSome_map->L7,map->j06,toList_none->j3j
open PySem.Builtin.List renaming listTooLong->a7,listLengthHint->C9,listExtendWith->D9
open PySem.Code renaming builtin->i7,isFrame->W9,frames->j44
open PySem.Paired renaming length->N7
open PUnit renaming unit->y9
open PySem.Around renaming under->J9,under_plainId->j2j
open ForIn renaming forIn->j0a
open PySem.SetTable.probe renaming go->j0f
open Prod renaming ext->j11
open PySem.SeqAt.EqAt renaming str_str->j1h,str_int->j1i,int_str->j1j
open PySem.Heap.DictOf renaming new->j2i
open PyProof.Rows.F renaming entry_set_update_loop->j42
open PySem.Data renaming fields->j43
set_option maxRecDepth 100000
set_option maxHeartbeats 0
namespace PySem.W.Fast
noncomputable def tw2131359863684544357:=0
noncomputable def tw13204721809723799427:=0
noncomputable def tw4998125745036747173:=0
noncomputable def tw12607605277929330721:=0
noncomputable def tw17123680910969327191:=0
noncomputable def tw8474554609802603347:=0
noncomputable def tw7515290419404807568:=0
noncomputable def tw8881309298053651032:=0
noncomputable def tw14440378323605632209:=0
noncomputable def tw3576156100959989410:=0
noncomputable def tw16768206256350668062:=0
noncomputable def tw7031712753529080825:=0
noncomputable def tw16317773208872442611:=0
end PySem.W.Fast
namespace K56
open_shared pre for PySem.Challenge.pw_talejudge_k56_whole_against_all_orders leaving 43
end K56
set_option maxHeartbeats 200000
-- CHANGE: your row's module here,as the last of these rows
set_option Elab.async false
set_option linter.all false
namespace L2
open PySem PySem.Spec PyProof.Rows
abbrev Key:=Sum Int Str
noncomputable def keyIs:Key->Value->Bool
 | .inl k,v=>j37 k v
 | .inr x,v=>O7 x v
noncomputable def keyH (w:S0):Key->Int
 | .inl k=>hashInt k
 | .inr x=>hashStr w x
theorem z0o :∀{k:Key} {v:Value},keyIs k v=true->(∃i t,k=Sum.inl i/\v=L6 i t)\/(∃x t,k=Sum.inr x/\v=g7 x t)
 | .inl i,v,h=>by obtain ⟨t,e⟩:=Value.isInt_shape (k:=i) (v:=v) h;exact .inl ⟨i,t,rfl,e⟩
 | .inr x,v,h=>by obtain ⟨t,e⟩:=Value.isStrOf_shape (x:=x) (v:=v) h;exact .inr ⟨x,t,rfl,e⟩
theorem zih (i:Int) (t:Tok):keyIs (.inl i) (.int i t)=true:=by simp [keyIs,j37]
theorem zi2 (x:Str) (t:Tok):keyIs (.inr x) (.str x t)=true:=by simp [keyIs,O7]
theorem key_ll (a b:Int):decide ((Sum.inl a:Key)=Sum.inl b)=(a == b):=by
 by_cases e:a=b
 ·subst e;simp
 ·have h:¬ (Sum.inl a:Key)=Sum.inl b:=λ q=>e (Q3 q);rw [decide_eq_false h];exact (beq_eq_false_iff_ne.mpr e).symm
theorem key_rr (a b:Str):decide ((Sum.inr a:Key)=Sum.inr b)=decide (a=b):=by
 by_cases e:a=b
 ·subst e;simp
 ·have h:¬ (Sum.inr a:Key)=Sum.inr b:=λ q=>e (d6 q);rw [decide_eq_false h,decide_eq_false e]
theorem key_lr (a:Int) (b:Str):decide ((Sum.inl a:Key)=Sum.inr b)=false:=decide_eq_false (λ q=>nomatch q)
theorem key_rl (a:Str) (b:Int):decide ((Sum.inr a:Key)=Sum.inl b)=false:=decide_eq_false (λ q=>nomatch q)
noncomputable def z0h (prog:Program) (w:S0):PySem.KeyKind prog w Key where
 is:=keyIs
 hash:=keyH w
 inj:=λ v a b ha hb=>by
  rcases z0o ha with ⟨i,t,rfl,rfl⟩|⟨x,t,rfl,rfl⟩
  ·rcases z0o hb with ⟨j,u,rfl,e⟩|⟨y,u,rfl,e⟩
   ·injection e with e1 _;rw [e1]
   ·exact nomatch e
  ·rcases z0o hb with ⟨j,u,rfl,e⟩|⟨y,u,rfl,e⟩
   ·exact nomatch e
   ·injection e with e1 _;rw [e1]
 byValue:=λ k v h=>by rcases z0o h with ⟨i,t,rfl,rfl⟩|⟨x,t,rfl,rfl⟩<;>rfl
 pyHash:=λ hv h=>by
  rcases z0o hv with ⟨i,t,rfl,rfl⟩|⟨x,t,rfl,rfl⟩
  ·exact wpAny_pyHash_int h
  ·exact wpAny_pyHash_str h
 eqBool:=λ hu hv h=>by
  rcases z0o hu with ⟨i,t,rfl,rfl⟩|⟨x,t,rfl,rfl⟩
  ·rcases z0o hv with ⟨j,u,rfl,rfl⟩|⟨y,u,rfl,rfl⟩
   ·rw [key_ll] at h;exact wpAny_eqBool_int h
   ·rw [key_lr] at h;exact j1j i t y u _ _ _ _ h
  ·rcases z0o hv with ⟨j,u,rfl,rfl⟩|⟨y,u,rfl,rfl⟩
   ·rw [key_rl] at h;exact j1i x t j u _ _ _ _ h
   ·rw [key_rr] at h;exact wpAny_eqBool_str h
 «strs»:=λ k x t v h=>by
  rcases z0o h with ⟨i,u,rfl,e⟩|⟨y,u,rfl,e⟩
  ·exact nomatch e
  ·injection e with e1 _;subst e1;cases v<;>rfl
theorem zds (prog:Program) (w:S0) (i:Int) (t:Tok):(z0h prog w).is (.inl i) (.int i t)=true:=zih i t
theorem zdu (prog:Program) (w:S0) (x:Str) (t:Tok):(z0h prog w).is (.inr x) (.str x t)=true:=zi2 x t
inductive V where
 | non|bl (b:Bool)|int (i:Int)|str (x:Str)|byt (b:Array UInt8)|flt (b:UInt64)|ref (a:Addr)|ty (n:String)
 deriving DecidableEq
noncomputable def RelV:V->Value->Prop
 | .non,u=>u=K2
 | .bl b,u=>u=j4 b
 | .int i,u=>∃t,u=L6 i t
 | .str x,u=>∃t,u=g7 x t
 | .byt b,u=>∃t,u=Value.bytes b t
 | .flt b,u=>∃t,u=j38 b t
 | .ref a,u=>u=v1 a
 | .ty n,u=>u=V3 n
abbrev Vals:List V->List Value->Prop:=Z8 RelV
theorem Vals.length {xs:List V} {us:List Value} (r:Vals xs us):xs.length=us.length:=N7 r
theorem Vals.get :∀{xs:List V} {us:List Value} {i:Nat} {x:V},Vals xs us->xs[i]? = some x->∃u,us[i]? = some u/\RelV x u
 | _,_,_,_,.nil,e=>by simp at e
 | _,_,0,_,.cons r _,e=>by simp at e;subst e;exact ⟨_,rfl,r⟩
 | _,_,i + 1,x,.cons _ t,e=>by obtain ⟨u,a,b⟩:=Vals.get (i:=i) (x:=x) t (by simpa using e);exact ⟨u,by simpa using a,b⟩
theorem Vals.set {x:V} {u:Value} (r:RelV x u) :∀{xs:List V} {us:List Value} (i:Nat),Vals xs us->Vals (xs.set i x) (us.set i u)
 | _,_,_,.nil=>.nil
 | _,_,0,.cons _ t=>.cons r t
 | _,_,i + 1,.cons q t=>.cons q (Vals.set r i t)
theorem Vals.append :∀{xs ys:List V} {us ws:List Value},Vals xs us->Vals ys ws->Vals (xs++ys) (us++ws)
 | _,_,_,_,.nil,s=>s
 | _,_,_,_,.cons r t,s=>.cons r (Vals.append t s)
theorem Vals.take :∀{xs:List V} {us:List Value} (n:Nat),Vals xs us->Vals (xs.take n) (us.take n)
 | _,_,0,_=>.nil
 | _,_,_ + 1,.nil=>.nil
 | _,_,n + 1,.cons r t=>.cons r (Vals.take n t)
theorem Vals.drop :∀{xs:List V} {us:List Value} (n:Nat),Vals xs us->Vals (xs.drop n) (us.drop n)
 | _,_,0,r=>r
 | _,_,_ + 1,.nil=>.nil
 | _,_,n + 1,.cons _ t=>Vals.drop n t
noncomputable def RelO:Option V->Option Value->Prop
 | some v,some u=>RelV v u
 | none,none=>True
 | _,_=>False
def KV {κ:Type}:List (κ×V)->List (κ×Value)->Prop:=Z8 λ (p:κ×V) (q:κ×Value)=>p.1=q.1/\RelV p.2 q.2
noncomputable def kV:Key->V
 | .inl i=>.int i
 | .inr x=>.str x
inductive HO where
 | lst (xs:List V)
 | tup (xs:List V)
 | dK (kvs:List (Key×V))|dT (kvs:List (List Key×V))
 | set (S:Int->Bool) (n:Nat)
 | ins (C dx:Addr) (fs:List (Str×V))
 | own (x:Addr)
 | xd (fs:List (Str×V))
 | met (f x:Addr)
 | rng (lo hi:Int)
 | frz (o:Obj) (u:HO)
 | tbl (ps:Array Value)
 | ext (φ:Heap->Prop)
noncomputable abbrev Hp:=Addr->Option HO
noncomputable def upd (H:Hp) (a:Addr) (o:HO):Hp:=λ b=>if b=a then some o else H b
theorem upd_same {H:Hp} {a:Addr} {o:HO}:upd H a o a=some o:=by unfold upd;rw [if_pos rfl]
theorem upd_ne {H:Hp} {a b:Addr} {o:HO} (h:b≠a):upd H a o b=H b:=by unfold upd;rw [if_neg h]
theorem ne_of {H:Hp} {a b:Addr} {o u:HO} (h:H a=some o) (h':H b=some u) (d:o≠u):a≠b:=by intro e;subst e;rw [h] at h';exact d (J1 h')
theorem z0b {H:Hp} {a b:Addr} {o:HO} (h:H a=some o) (h':H b=none):a≠b:=by intro e;subst e;rw [h] at h';cases h'
section
variable (P:Program) (w:S0)
def IsTupN (h:Heap) (a:Addr) (items:Array Value):Prop:=IsTup h a items/\∃o,h.get? a=some o/\o.dict=none
theorem IsTupN.new (h:Heap) (items:Array Value):IsTupN (h.push { cls:=.type "tuple",data:=.seq items }) h.objs.size items:=⟨IsTup.new _ _,_,M0 _ rfl,rfl⟩
noncomputable def ObjOk (H:Hp) (h:Heap) (a:Addr):HO->Prop
 | .lst xs=>xs.length<=sizeLine/\∃(its:List Value) (n:Nat),Vals xs its/\h.get? a=some { cls:=.type "list",data:=.seq its.toArray n }
 | .tup xs=>xs.length<=sizeLine/\∃its:List Value,Vals xs its/\IsTupN h a its.toArray
 | .dK kvs=>kvs.length<=sizeLine/\(a == S3)=false/\∃vs,KV kvs vs/\h.DictOf (z0h P w) a vs
 | .dT kvs=>kvs.length<=sizeLine/\(a == S3)=false/\∃xs:List (List Key×Addr×Value),
   Z8 (λ (p:List Key×V) (q:List Key×Addr×Value)=>p.1=q.1/\H q.2.1=some (.tup (p.1.map kV))/\RelV p.2 q.2.2) kvs xs/\
   ∃o es ep,h.get? a=some o/\o.ExactDict/\o.data=.dict es ep/\es.toList=xs.map (entryOfKey (J6 (z0h P w)))/\(xs.map (·.1)).Nodup
 | .set S n=>h.SetOf (O5 P w) a S n
 | .ins C dx fs=>H dx=some (.own a)/\fs.length<=1000/\dx≠a/\h.get? a=some (A4 C dx)/\
   ∃mA,h.Ns1 dx mA/\(∀f,RelO (fs.lookup f) (mA f))/\j28 mA (fs.map (·.1))
 | .own _=>∃o,h.get? a=some o
 | .xd fs=>∃mA,h.Ns1 a mA/\∀f,RelO (fs.lookup f) (mA f)
 | .rng lo hi=>∃t u v,h.get? a=some { cls:=.type "range",data:=.fields #[.int lo t,.int hi u,.int 1 v] }
 | .frz o u=>h.get? a=some o/\ObjOk H h a u
 | .tbl ps=>h.get? a=some { cls:=.none,data:=.fields ps }
 | .met f x=>h.get? a=some (o9 (.ref f) (.ref x))
 | .ext φ=>φ h/\(∃o,h.get? a=some o)/\∀h1 h2:Heap,φ h1->(∀o,h1.get? a=some o->h2.get? a=some o)->φ h2
def HOk (H:Hp) (h:Heap):Prop:=∀a o,H a=some o->ObjOk P w H h a o
end
section
variable {P:Program} {w:S0} {H H':Hp} {h h':Heap} {a:Addr} {o:HO}
theorem ObjOk.lt (x:ObjOk P w H h a o):a < h.objs.size:=by
 cases o with
 | lst xs=>obtain ⟨_,_,_,_,e⟩:=x;exact N0 e
 | tup xs=>obtain ⟨_,_,_,p⟩:=x;exact p.1.lt
 | dK kvs=>obtain ⟨_,_,_,_,o,_,_,e,_⟩:=x;exact N0 e
 | dT kvs=>obtain ⟨_,_,_,_,o,_,_,e,_⟩:=x;exact N0 e
 | set S n=>obtain ⟨o,_,_,_,e,_⟩:=x;exact N0 e
 | ins C dx fs=>obtain ⟨_,_,_,e,_⟩:=x;exact N0 e
 | own y=>obtain ⟨_,e⟩:=x;exact N0 e
 | xd fs=>obtain ⟨_,⟨_,_,_,e,_⟩,_⟩:=x;exact N0 e
 | rng lo hi=>obtain ⟨_,_,_,e⟩:=x;exact N0 e
 | frz ob u=>obtain ⟨e,_⟩:=x;exact N0 e
 | tbl ps=>exact N0 (show h.get? a=some _ from x)
 | met f y=>exact N0 (show h.get? a=some _ from x)
 | ext φ=>obtain ⟨_,⟨_,e⟩,_⟩:=x;exact N0 e
theorem Paired.mapP {α β:Type} {F G:α->β->Prop} :∀{l₁:List α} {l₂:List β},Z8 F l₁ l₂->(∀a b,F a b->G a b)->Z8 G l₁ l₂
 | _,_,.nil,_=>.nil
 | _,_,.cons r t,f=>.cons (f _ _ r) (Paired.mapP t f)
theorem ObjOk.stay (x:ObjOk P w H h a o) (k :∀b u,(b=a\/H b=some (.own a))->h.get? b=some u->h'.get? b=some u)
  (ho :∀b,H b=some (.own a)->H' b=some (.own a)) (ht :∀b xs,H b=some (.tup xs)->H' b=some (.tup xs)):ObjOk P w H' h' a o:=by
 induction o with
 | lst xs=>obtain ⟨z,s,n,r,e⟩:=x;exact ⟨z,s,n,r,k _ _ (.inl rfl) e⟩
 | tup xs=>obtain ⟨z,s,r,⟨g,e,c⟩,D,l,G⟩:=x;exact ⟨z,s,r,⟨g,k _ _ (.inl rfl) e,c⟩,D,k _ _ (.inl rfl) l,G⟩
 | dK kvs=>obtain ⟨z,y,F,r,g,i,j,e,c⟩:=x;exact ⟨z,y,F,r,g,i,j,k _ _ (.inl rfl) e,c⟩
 | dT kvs=>obtain ⟨z,y,xs,r,g,i,j,e,c⟩:=x;exact ⟨z,y,xs,Paired.mapP r λ p q z=>⟨z.1,ht _ _ z.2.1,z.2.2⟩,g,i,j,k _ _ (.inl rfl) e,c⟩
 | set S n=>obtain ⟨g,i,j,t,e,c⟩:=x;exact ⟨g,i,j,t,k _ _ (.inl rfl) e,c⟩
 | ins C dx fs=>obtain ⟨d,z,E,e,A,⟨m,i,j,l,c⟩,r⟩:=x;exact ⟨ho _ d,z,E,k _ _ (.inl rfl) e,A,⟨m,i,j,k _ _ (.inr d) l,c⟩,r⟩
 | own y=>obtain ⟨g,e⟩:=x;exact ⟨g,k _ _ (.inl rfl) e⟩
 | xd fs=>obtain ⟨A,⟨m,i,j,e,c⟩,r⟩:=x;exact ⟨A,⟨m,i,j,k _ _ (.inl rfl) e,c⟩,r⟩
 | rng lo hi=>obtain ⟨t,u,v,e⟩:=x;exact ⟨t,u,v,k _ _ (.inl rfl) e⟩
 | frz g u ih=>obtain ⟨e,q⟩:=x;exact ⟨k _ _ (.inl rfl) e,ih q⟩
 | tbl ps=>have e:h.get? a=some { cls:=.none,data:=.fields ps }:=x;show h'.get? a=some { cls:=.none,data:=.fields ps };exact k a _ (.inl rfl) e
 | met f y=>have e:h.get? a=some (o9 (.ref f) (.ref y)):=x;show h'.get? a=some (o9 (.ref f) (.ref y));exact k a _ (.inl rfl) e
 | ext φ=>obtain ⟨p,⟨o,e⟩,B⟩:=x;exact ⟨B _ _ p λ o q=>k _ _ (.inl rfl) q,⟨o,k _ _ (.inl rfl) e⟩,B⟩
theorem HOk.lt (x:HOk P w H h) (e:H a=some o):a < h.objs.size:=(x a o e).lt
theorem HOk.fresh (x:HOk P w H h) (e:h.objs.size<=a):H a=none:=by
 cases q:H a with
 | none=>rfl
 | some u=>exact absurd (E1 (x.lt q) e) (J3 _)
theorem HOk.kept (x:HOk P w H h) (k :∀b u,h.get? b=some u->h'.get? b=some u):HOk P w H h':=λ a o e=>(x a o e).stay (λ b u _ q=>k b u q) (λ _ q=>q) λ _ _ q=>q
theorem HOk.laid (x:HOk P w H h) (k :∀b u,h.get? b=some u->h'.get? b=some u) (hp:h.objs.size<=a) (new:ObjOk P w (upd H a o) h' a o):HOk P w (upd H a o) h':=λ b u e=>by
 have d:=x.fresh hp;by_cases hb:b=a
 ·subst hb;rw [upd_same] at e;cases e;exact new
 ·rw [upd_ne hb] at e;exact (x b u e).stay (λ c v _ q=>k c v q) (λ c q=>by rw [upd_ne (z0b q d)];exact q) λ c f q=>by rw [upd_ne (z0b q d)];exact q
end
def Rd (H:Hp) (a:Addr) (u:HO):Prop:=H a=some u\/∃o,H a=some (.frz o u)
theorem Rd.ok {P:Program} {w:S0} {H:Hp} {h:Heap} {a:Addr} {u:HO} (r:Rd H a u) (x:HOk P w H h):ObjOk P w H h a u:=by
 rcases r with r|⟨o,r⟩
 ·exact x a u r
 ·obtain ⟨_,q⟩:=x a _ r;exact q
noncomputable def Mut:Option HO->Prop
 | some (.lst _)=>True
 | some (.dK _)=>True
 | some (.dT _)=>True
 | some (.set _ _)=>True
 | some (.ins _ _ _)=>True
 | some (.ext _)=>True
 | _=>False
section
variable {P:Program} {w:S0} {H:Hp} {h h':Heap} {x e:Addr} {o':HO}
theorem HOk.write (ok:HOk P w H h) (mu:Mut (H x)) (he:e=x\/H e=some (.own x)) (k :∀b u,b≠e->h.get? b=some u->h'.get? b=some u) (heo :∃u,h'.get? e=some u)
  (new:ObjOk P w (upd H x o') h' x o'):HOk P w (upd H x o') h':=λ b u q=>by
 have f :∀c y,H c=some (.own y)->c≠x:=λ c y r z=>by subst z;rw [r] at mu;exact mu
 have j :∀c d,H c=some (.tup d)->c≠x:=λ c d r z=>by subst z;rw [r] at mu;exact mu
 by_cases hb:b=x
 ·subst hb;rw [upd_same] at q;cases q;exact new
 ·rw [upd_ne hb] at q;by_cases hbe:b=e
  ·have g:H b=some (.own x):=by
    rcases he with z|z
    ·exact absurd (hbe.trans z) hb
    ·rw [hbe];exact z
   rw [q] at g;cases g;obtain ⟨v,i⟩:=heo;exact ⟨v,by rw [hbe];exact i⟩
  ·refine (ok b u q).stay (λ c v a r=>k c v ?_ r) (λ c r=>by rw [upd_ne (f c b r)];exact r) λ c d r=>by rw [upd_ne (j c d r)];exact r
   rcases a with rfl|a
   ·exact hbe
   ·rintro rfl;rcases he with z|z
    ·exact f c b a z
    ·rw [a] at z;cases z;exact hb rfl
end
structure Un (fs ex:List Addr) (H H':Hp) (h h':Heap):Prop where
 keep :∀b o,h.get? b=some o->H b=none->b∉fs->b∉ex->h'.get? b=some o
 slot :∀b o,h.get? b=some o->H b=none->b∈fs->b∉ex->∃sl,h'.get? b=some { o with slots:=sl }
 free :∀b o,h.get? b=some o->H b=none->b∉ex->H' b=none
 there :∀b o,h.get? b=some o->b∉ex->∃o',h'.get? b=some o'
 tups :∀b xs,H b=some (.tup xs)->H' b=some (.tup xs)
 frzs :∀b o u,H b=some (.frz o u)->H' b=some (.frz o u)
 tbls :∀b ps,H b=some (.tbl ps)->∃more,H' b=some (.tbl (ps++more))
section
variable {fs fs' ex ex':List Addr} {H H1 H2:Hp} {h h1 h2 h':Heap} {a x e:Addr} {o:HO}
theorem Un.any (u:Un fs ex H H1 h h1) {b:Addr} {ob:Obj} (q:h.get? b=some ob) (n:H b=none) (hx:b∉ex) :∃sl,h1.get? b=some { ob with slots:=sl }:=by
 by_cases hb:b∈fs
 ·exact u.slot b ob q n hb hx
 ·exact ⟨ob.slots,u.keep b ob q n hb hx⟩
theorem Un.kept (k :∀b u,h.get? b=some u->h'.get? b=some u):Un fs ex H H h h':=
 ⟨λ b a q _ _ _=>k b a q,λ b a q _ _ _=>⟨a.slots,k b a q⟩,λ _ _ _ n _=>n,λ b a q _=>⟨a,k b a q⟩,λ _ _ q=>q,λ _ _ _ q=>q,λ _ c q=>⟨#[],by rw [q];simp⟩⟩
theorem Un.refl:Un fs ex H H h h:=Un.kept λ _ _ q=>q
theorem Un.laid (k :∀b u,h.get? b=some u->h'.get? b=some u) (hp:h.objs.size<=a) (hn:H a=none):Un fs ex H (upd H a o) h h' where
 keep:=λ b u q _ _ _=>k b u q
 slot:=λ b u q _ _ _=>⟨u.slots,k b u q⟩
 free:=λ b u q n _=>by rw [upd_ne (V0 (E1 (N0 q) hp))];exact n
 there:=λ b u q _=>⟨u,k b u q⟩
 tups:=λ b c q=>by rw [upd_ne (z0b q hn)];exact q
 frzs:=λ b u c q=>by rw [upd_ne (z0b q hn)];exact q
 tbls:=λ b d q=>⟨#[],by rw [upd_ne (z0b q hn),q];simp⟩
theorem Un.write (mu:Mut (H x)) (he:e=x\/H e=some (.own x)) (k :∀b u,b≠e->h.get? b=some u->h'.get? b=some u) (heo :∃u,h'.get? e=some u):Un fs ex H (upd H x o) h h':=by
 have d :∀b,H b=none->b≠x:=λ b n z=>by subst z;rw [n] at mu;exact mu
 have c :∀b,H b=none->b≠e:=λ b n z=>by
  subst z;rcases he with r|r
  ·exact d b n r
  ·rw [n] at r;cases r
 have a :∀b u,H b=some u->¬ Mut (some u)->b≠x:=λ b u q g z=>by subst z;rw [q] at mu;exact g mu
 refine ⟨λ b u q n _ _=>k b u (c b n) q,λ b u q n _ _=>⟨u.slots,k b u (c b n) q⟩,λ b u q n _=>by rw [upd_ne (d b n)];exact n,λ b u q _=>?_,
  λ b f q=>by rw [upd_ne (a b _ q λ z=>z)];exact q,λ b u f q=>by rw [upd_ne (a b _ q λ z=>z)];exact q,λ b i q=>⟨#[],by rw [upd_ne (a b _ q λ z=>z),q];simp⟩⟩
 by_cases hbe:b=e
 ·subst hbe;exact heo
 ·exact ⟨u,k b u hbe q⟩
end
noncomputable def trk (h:Heap) (H:Hp):List Addr:=(G1 h.objs.size).filter λ a=>(H a).isSome
noncomputable def hidT (h:Heap) (H:Hp):Heap:=PySem.W.hideAll h (trk h H)
theorem zje (h:Heap) (H:Hp):(hidT h H).objs.size=h.objs.size:=PySem.W.hideAll_size _ _
theorem zlh {h:Heap} {H:Hp} {b:Addr} {o:Obj} (e:h.get? b=some o) (n:H b=none):(hidT h H).get? b=some o:=
 PySem.W.hideAll_get _ e λ a=>by have q:(H b).isSome=true:=(List.mem_filter.mp a).2;rw [n] at q;simp at q
theorem znc {h:Heap} {H:Hp} {b:Addr} {o:Obj} (e:(hidT h H).get? b=some o):h.get? b=some o/\H b=none:=by
 have a:h.get? b=some o:=PySem.W.of_hideAll (trk h H) e;refine ⟨a,?_⟩;cases q:H b with
 | none=>rfl
 | some x=>have c:b∈trk h H:=List.mem_filter.mpr ⟨List.mem_range.mpr (N0 a),by simp [q]⟩;have z:(hidT h H).get? b=none:=PySem.W.hideAll_none (trk h H) c;rw [z] at e;cases e
noncomputable def zmn (g h:Heap) (L:Addr):List (Addr×Obj):=(G1 h.objs.size).filterMap λ a=>if a=L\/(g.get? a).isSome=true then none else (h.get? a).map λ o=>(a,o)
noncomputable def rest (g h:Heap) (L d:Addr):List (Addr×Obj):=(zmn g h L).filter λ p=>decide (p.1≠d)
structure Mod (K:b0) (mg:Str->Option Value) (base:Heap):Prop where
 kin:K.In base
 glob:base.Ns v3 mg
 blt :∃mb,base.Ns builtinsNs mb/\∀x:Str,x≠"__name__"->mb x=g6 x
 nolimit:base.NoLimit
structure Cx where
 prog:Program
 w:S0
 K:b0
 mg:Str->Option Value
 base:Heap
 A:L1
 N:List Str
 s₀:u0
 H₀:Hp
 env:Env
 outer:List Env
 stack:List Env
 ex:List Addr
 fn:Str->Bool
 calm:Bool
 pn:List (Addr×Obj)
 xe:Value->u0->Prop
noncomputable def frs (l:List Env):List Addr:=l.filterMap (·.frame)
noncomputable abbrev Cx.fs (X:Cx):List Addr:=frs X.outer
def Vis (sc:Scope) (x:Str):Prop:=sc.names.lookup x=some .local\/sc.names.lookup x=some .cell\/sc.names.lookup x=some .free
def Loc (sc:Scope) (x:Str):Prop:=sc.names.lookup x=some .local\/sc.names.lookup x=some .cell
def Look (env:Env) (h:Heap) (m:Str->Option Value) (x:Str) (u:Value):Prop:=
 (env.kindOf x=some .local/\m x=some u)\/((env.kindOf x=some .cell\/env.kindOf x=some .free)/\∃c,env.cells.lookup x=some c/\h.IsCell c (some u))
structure Cx.Ok (X:Cx):Prop where
 mod:Mod X.K X.mg X.base
 kind:X.env.scope.kind=.function
 glob:X.env.globals=v3
 blt:X.env.builtins=builtinsNs
 above:X.s₀.heap.objs.size<=X.env.locals
 inj :∀x y c,X.env.cells.lookup x=some c->X.env.cells.lookup y=some c->x=y
 has :∀x,(X.env.kindOf x=some .cell\/X.env.kindOf x=some .free)->∃c,X.env.cells.lookup x=some c
 cab :∀x c,X.fn x=true->X.env.cells.lookup x=some c->X.s₀.heap.objs.size<=c
 hd:X.calm=true->X.A.handled=none
 frames:X.A.frames=some X.stack
 stk:X.stack=X.outer\/(X.stack=X.env :: X.outer/\X.env.frame=some X.env.locals)
 exf :∀b∈X.ex,b≠X.env.locals/\∀x c,X.env.cells.lookup x=some c->c≠b
 bs :∀b o,X.base.get? b=some o->X.s₀.heap.get? b=some o/\X.H₀ b=none
 bsz:X.base.objs.size<=X.s₀.heap.objs.size
 noex :∀b o,X.base.get? b=some o->b∉X.ex
 exfs :∀b∈X.ex,b∉X.fs
 funs:X.s₀.heap.FunFrames X.base X.outer
 frf :∀b∈X.fs,X.H₀ b=none
structure Inv (X:Cx) (pins:List (Addr×Obj)) (σ:List (Option V)) (H:Hp) (s:u0):Prop where
 ok:X.Ok
 os:s.os=X.s₀.os
 bare:A8 s.gens
 base:Un X.fs X.ex X.H₀ H X.s₀.heap s.heap
 loc :∃m,s.heap.Ns X.env.locals m/\∀(i:Nat) (x:Str) (v:V),X.N[i]? = some x->σ[i]? = some (some v)->Vis X.env.scope x->∃u,RelV v u/\Look X.env s.heap m x u
 cell :∀x c,X.env.cells.lookup x=some c->∃v,s.heap.IsCell c v
 free:H X.env.locals=none
 freeC :∀x c,X.env.cells.lookup x=some c->H c=none
 pin :∀p∈X.pn++pins,s.heap.get? p.1=some p.2/\H p.1=none/\p.1≠X.env.locals/\p.1∉X.fs/\∀v,p.2.data≠.cell v
 hok:HOk X.prog X.w H s.heap
 len:σ.length=X.N.length
section
variable {X:Cx} {pins:List (Addr×Obj)} {σ:List (Option V)} {H H':Hp} {s:u0} {h':Heap}
theorem Cx.Ok.nofr (ok:X.Ok) {b:Addr} {o:Obj} (e:X.base.get? b=some o):b∉X.fs:=λ a=>by have:=(ok.funs.mem a).1;rw [e] at this;cases this
theorem Inv.bs (I:Inv X pins σ H s) :∀b o,X.base.get? b=some o->s.heap.get? b=some o/\H b=none:=λ b o e=>⟨I.base.keep b o (I.ok.bs b o e).1 (I.ok.bs b o e).2 (I.ok.nofr e) (I.ok.noex b o e),I.base.free b o (I.ok.bs b o e).1 (I.ok.bs b o e).2 (I.ok.noex b o e)⟩
theorem Inv.bk (I:Inv X pins σ H s) :∀b o,X.base.get? b=some o->s.heap.get? b=some o:=λ b o e=>(I.bs b o e).1
theorem Inv.mod (I:Inv X pins σ H s):Mod X.K X.mg X.base:=I.ok.mod
theorem Inv.kIn (I:Inv X pins σ H s):X.K.In s.heap:=I.ok.mod.kin.keeps I.bk
theorem Inv.lt (I:Inv X pins σ H s):X.env.locals < s.heap.objs.size:=let ⟨_,hn,_⟩:=I.loc;hn.lt
theorem Inv.sz (I:Inv X pins σ H s):X.s₀.heap.objs.size<=s.heap.objs.size:=C0 I.ok.above (R3 I.lt)
theorem Inv.nofs (I:Inv X pins σ H s) {a:Addr} (h:s.heap.objs.size<=a):a∉X.fs:=λ c=>by obtain ⟨_,o,b,_⟩:=I.ok.funs.mem c;exact absurd (E1 (N0 b) (C0 I.sz h)) (J3 _)
theorem Inv.cne (I:Inv X pins σ H s) :∀x c,X.env.cells.lookup x=some c->c≠X.env.locals:=λ x c e z=>by obtain ⟨v,o,b,a⟩:=I.cell x c e;obtain ⟨m,⟨g,i,h,d,f,_⟩,_⟩:=I.loc;rw [z,d] at b;cases b;rw [f] at a;cases a
theorem Inv.funs (I:Inv X pins σ H s):s.heap.FunFrames X.base X.outer:=by
 have all :∀(l:List Env),(∀b∈frs l,b∈X.fs)->X.s₀.heap.FunFrames X.base l->s.heap.FunFrames X.base l:=by
  intro l;induction l with
  | nil=>intro _ _;trivial
  | cons env r ih=>intro f g;obtain ⟨m,⟨L,o,a,h,j,i⟩,k⟩:=g;have d:L∈X.fs:=f L (by unfold frs;rw [n9,a];exact Q0);obtain ⟨n,e⟩:=I.base.slot L o j (I.ok.frf L d) d λ z=>I.ok.exfs L z d;exact ⟨m,⟨L,_,a,h,e,i⟩,ih (λ b c=>f b (by unfold frs;rw [n9,a];exact Y0 _ c)) k⟩
 exact all X.outer (λ _ c=>c) I.ok.funs
theorem Inv.stack (I:Inv X pins σ H s):s.heap.FunFrames X.base X.stack:=by
 rcases I.ok.stk with e|⟨e,hf⟩
 ·rw [e];exact I.funs
 ·rw [e];obtain ⟨m,a,_⟩:=I.loc;refine .cons (by rw [I.ok.kind];decide) hf a ?_ I.funs;exact Heap.get?_none_of_le (C0 I.ok.bsz I.ok.above)
theorem Inv.stkSub (I:Inv X pins σ H s) :∀b∈frs X.stack,b∈X.env.locals :: X.fs:=λ b a=>by
 rcases I.ok.stk with e|⟨e,hf⟩
 ·rw [e] at a;exact Y0 _ a
 ·rw [e] at a;unfold frs at a;rw [n9,hf] at a;exact a
theorem Inv.stkFree (I:Inv X pins σ H s) :∀b∈frs X.stack,H b=none:=λ b a=>by
 rcases List.mem_cons.mp (I.stkSub b a) with e|a
 ·rw [e];exact I.free
 ·obtain ⟨_,o,c,_⟩:=I.ok.funs.mem a;exact I.base.free b o c (I.ok.frf b a) λ z=>I.ok.exfs b z a
theorem Inv.step {g':Array GenState} {t':Nat} {d':Drawn} {ch:List Addr} (I:Inv X pins σ H s)
  (hch :∀b∈ch,(b∈X.ex\/X.s₀.heap.objs.size<=b)/\b≠X.env.locals/\(∀x c,X.env.cells.lookup x=some c->c≠b)/\∀p∈X.pn++pins,p.1≠b)
  (keep :∀b o,b≠X.env.locals->b∉X.fs->b∉ch->s.heap.get? b=some o->H b=none->h'.get? b=some o)
  (slot :∀b o,b≠X.env.locals->b∈X.fs->b∉ch->s.heap.get? b=some o->H b=none->∃sl,h'.get? b=some { o with slots:=sl }) (free :∀b o,b∉ch->s.heap.get? b=some o->H b=none->H' b=none)
  (there :∀b o,b∉ch->s.heap.get? b=some o->∃o',h'.get? b=some o')
  (tups :∀b xs,H b=some (.tup xs)->H' b=some (.tup xs)) (frzs :∀b o u,H b=some (.frz o u)->H' b=some (.frz o u)) (tbls :∀b ps,H b=some (.tbl ps)->∃more,H' b=some (.tbl (ps++more)))
  (ns :∀m,s.heap.Ns X.env.locals m->h'.Ns X.env.locals m) (hok:HOk X.prog X.w H' h') (hg:A8 g') :
  Inv X pins σ H' { s with heap:=h',gens:=g',drawn:=d',toks:=t' }:=by
 have B :∀b o,X.s₀.heap.get? b=some o->b≠X.env.locals:=λ b o e=>V0 (E1 (N0 e) I.ok.above);have y :∀b o,X.s₀.heap.get? b=some o->b∉X.ex->b∉ch:=λ b o e a g=>by
  rcases (hch b g).1 with z|z
  ·exact a z
  ·exact absurd (E1 (N0 e) z) (J3 _)
 have D :∀x c,X.env.cells.lookup x=some c->∀v,s.heap.IsCell c v->h'.IsCell c v:=λ x c e v ⟨o,h,A⟩=>by
  have t:c∉ch:=λ z=>(hch c z).2.2.1 x c e rfl;by_cases hc:c∈X.fs
  ·obtain ⟨sl,q⟩:=slot c o (I.cne x c e) hc t h (I.freeC x c e);exact ⟨_,q,A⟩
  ·exact ⟨o,keep c o (I.cne x c e) hc t h (I.freeC x c e),A⟩
 refine ⟨I.ok,I.os,hg,⟨λ b o e n g a=>?_,λ b o e n g a=>?_,λ b o e n a=>?_,λ b o e a=>?_,λ b xs e=>tups b xs (I.base.tups b xs e),λ b o xs e=>frzs b o xs (I.base.frzs b o xs e),λ b ps e=>?_⟩,?_,λ x c e=>?_,?_,λ x c e=>?_,λ p E=>?_,hok,I.len⟩
 ·exact keep b o (B b o e) g (y b o e a) (I.base.keep b o e n g a) (I.base.free b o e n a)
 ·obtain ⟨sl,f⟩:=I.base.slot b o e n g a;obtain ⟨J,j⟩:=slot b _ (B b o e) g (y b o e a) f (I.base.free b o e n a);exact ⟨J,j⟩
 ·obtain ⟨o',f⟩:=I.base.there b o e a;exact free b o' (y b o e a) f (I.base.free b o e n a)
 ·obtain ⟨o',f⟩:=I.base.there b o e a;exact there b o' (y b o e a) f
 ·obtain ⟨K,f⟩:=I.base.tbls b ps e;obtain ⟨L,j⟩:=tbls b _ f;exact ⟨K++L,by rw [j,Array.append_assoc]⟩
 ·obtain ⟨m,N,M⟩:=I.loc;refine ⟨m,ns m N,λ i x v f j G=>?_⟩;obtain ⟨u,r,l⟩:=M i x v f j G;refine ⟨u,r,?_⟩;rcases l with l|⟨k,c,e,z⟩
  ·exact .inl l
  ·exact .inr ⟨k,c,e,D x c e _ z⟩
 ·obtain ⟨v,z⟩:=I.cell x c e;exact ⟨v,D x c e v z⟩
 ·obtain ⟨m,⟨o,_,_,h,_⟩,_⟩:=I.loc;exact free _ o (λ z=>(hch _ z).2.1 rfl) h I.free
 ·obtain ⟨v,o,h,A⟩:=I.cell x c e;exact free c o (λ z=>(hch c z).2.2.1 x c e rfl) h (I.freeC x c e)
 ·obtain ⟨e,n,F,C,d⟩:=I.pin p E;have t:p.1∉ch:=λ z=>(hch p.1 z).2.2.2 p E rfl;exact ⟨keep p.1 p.2 F C t e n,free p.1 p.2 t e n,F,C,d⟩
theorem Inv.un {t':Nat} (I:Inv X pins σ H s) (u:Un X.fs [] H H' s.heap h') (hok:HOk X.prog X.w H' h'):Inv X pins σ H' { s with heap:=h',toks:=t' }:=by obtain ⟨m,⟨o,p,t,c,r⟩,_⟩:=id I.loc;obtain ⟨l,i⟩:=u.any c I.free (by simp);exact I.step (g':=s.gens) (d':=s.drawn) (ch:=[]) (λ _ z=>nomatch z) (λ b o _ a _ e n=>u.keep b o e n a (by simp)) (λ b o _ a _ e n=>u.slot b o e n a (by simp)) (λ b o _ e n=>u.free b o e n (by simp)) (λ b o _ e=>u.there b o e (by simp)) u.tups u.frzs u.tbls (λ q f=>by obtain ⟨k,j,g,d,h⟩:=f;rw [c] at d;cases d;exact ⟨_,j,g,i,h⟩) hok I.bare
theorem Inv.call {g':Array GenState} {t':Nat} {d':Drawn} {ch:List Addr} (I:Inv X pins σ H s) (u:Un (frs X.stack) ch H H' s.heap h') (hok:HOk X.prog X.w H' h') (hg:A8 g')
  (hch :∀b∈ch,(b∈X.ex\/X.s₀.heap.objs.size<=b)/\b≠X.env.locals/\(∀x c,X.env.cells.lookup x=some c->c≠b)/\∀p∈X.pn++pins,p.1≠b) :
  Inv X pins σ H' { s with heap:=h',gens:=g',drawn:=d',toks:=t' }:=by
 obtain ⟨m,⟨o,v,A,f,r⟩,_⟩:=id I.loc;obtain ⟨t,d⟩:=u.any f I.free λ z=>(hch _ z).2.1 rfl;exact I.step (ch:=ch) hch (λ b o d l a e n=>u.keep b o e n (λ z=>(List.mem_cons.mp (I.stkSub b z)).elim d l) a) (λ b o _ _ a e n=>u.any e n a) (λ b o a e n=>u.free b o e n a) (λ b o a e=>u.there b o e a) u.tups u.frzs u.tbls (λ y h=>by obtain ⟨q,k,i,g,j⟩:=h;rw [f] at g;cases g;exact ⟨_,k,i,d,j⟩) hok hg
theorem Inv.turned {t':Nat} {it:Addr} (I:Inv X pins σ H s) (k :∀b o,b≠it->s.heap.get? b=some o->h'.get? b=some o) (hn:H it=none) (hL:it≠X.env.locals)
  (h1:it∈X.ex\/X.s₀.heap.objs.size<=it) (h2 :∀x c,X.env.cells.lookup x=some c->c≠it) (h3 :∀p∈X.pn++pins,p.1≠it):Inv X pins σ H { s with heap:=h',toks:=t' }:=by
 have d :∀b u,H b=some u->b≠it:=λ b u e z=>by rw [z,hn] at e;cases e
 refine I.step (g':=s.gens) (d':=s.drawn) (ch:=[it]) (λ b f=>?_) (λ b o _ _ a e _=>k b o (λ z=>a (by simp [z])) e) (λ b o _ _ a e _=>⟨o.slots,k b o (λ z=>a (by simp [z])) e⟩) (λ _ _ _ _ n=>n)
  (λ b o a e=>⟨o,k b o (λ z=>a (by simp [z])) e⟩) (λ _ _ e=>e) (λ _ _ _ e=>e) (λ b l e=>⟨#[],by rw [e];simp⟩) (λ m h=>?_) (λ b u e=>?_) I.bare
 ·have e:b=it:=by simpa using f
  subst e;exact ⟨h1,hL,h2,h3⟩
 ·obtain ⟨o,j,i,g,r⟩:=h;exact ⟨o,j,i,k _ o (J2 hL) g,r⟩
 ·refine (I.hok b u e).stay (λ c v a q=>k c v ?_ q) (λ _ q=>q) λ _ _ q=>q;rcases a with z|z
  ·rw [z];exact d b u e
  ·exact d c _ z
theorem Inv.tok (I:Inv X pins σ H s) (t:Nat):Inv X pins σ H { s with toks:=t }:=I.un (h':=s.heap) (t':=t) Un.refl I.hok
theorem Inv.kept {t':Nat} (I:Inv X pins σ H s) (k :∀b u,s.heap.get? b=some u->h'.get? b=some u):Inv X pins σ H { s with heap:=h',toks:=t' }:=I.un (Un.kept k) (I.hok.kept k)
theorem Inv.laid {a:Addr} {o:HO} {t':Nat} (I:Inv X pins σ H s) (k :∀b u,s.heap.get? b=some u->h'.get? b=some u) (hp:s.heap.objs.size<=a) (new:ObjOk X.prog X.w (upd H a o) h' a o) :
  Inv X pins σ (upd H a o) { s with heap:=h',toks:=t' }:=I.un (Un.laid k hp (I.hok.fresh hp)) (I.hok.laid k hp new)
theorem Inv.write {x e:Addr} {o:HO} {t':Nat} (I:Inv X pins σ H s) (mu:Mut (H x)) (he:e=x\/H e=some (.own x)) (k :∀b u,b≠e->s.heap.get? b=some u->h'.get? b=some u) (heo :∃u,h'.get? e=some u)
  (new:ObjOk X.prog X.w (upd H x o) h' x o):Inv X pins σ (upd H x o) { s with heap:=h',toks:=t' }:=I.un (Un.write mu he k heo) (I.hok.write mu he k heo new)
theorem Inv.weak {σ':List (Option V)} (I:Inv X pins σ H s) (hl:σ'.length=σ.length) (w :∀(i:Nat) v,σ'[i]? = some (some v)->σ[i]? = some (some v)):Inv X pins σ' H s:=
 ⟨I.ok,I.os,I.bare,I.base,let ⟨m,hn,hl'⟩:=I.loc;⟨m,hn,λ i x v b a c=>hl' i x v b (w i v a) c⟩,I.cell,I.free,I.freeC,I.pin,I.hok,hl.trans I.len⟩
theorem Inv.pins_of {pins':List (Addr×Obj)} (I:Inv X pins σ H s) (h :∀p∈pins',s.heap.get? p.1=some p.2/\H p.1=none/\p.1≠X.env.locals/\p.1∉X.fs/\∀v,p.2.data≠.cell v):Inv X pins' σ H s:=
 ⟨I.ok,I.os,I.bare,I.base,I.loc,I.cell,I.free,I.freeC,λ p a=>(List.mem_append.mp a).elim (λ z=>I.pin p (U6 _ z)) (h p),I.hok,I.len⟩
theorem zhf {N:List Str} (hN:N.Nodup) {i j:Nat} {x:Str} (a:N[i]? = some x) (b:N[j]? = some x):i=j:=by obtain ⟨e,d⟩:=List.getElem?_eq_some_iff.mp a;obtain ⟨f,c⟩:=List.getElem?_eq_some_iff.mp b;exact (List.getElem_inj hN).mp (d.trans c.symm)
theorem zib {M:Model} {A:L1} {E:Value->u0->Prop} {i:Nat} {x:Str} {v:V} {u:Value} {Q:Unit->u0->Prop} (I:Inv X pins σ H s) (hN:X.N.Nodup) (hi:X.N[i]? = some x) (hx:Loc X.env.scope x) (r:RelV v u)
  (h :∀s',Inv X pins (σ.set i (some v)) H s'->(∃a,X4 a s.heap s'.heap/\(a=X.env.locals\/X.env.cells.lookup x=some a))->Q () s') (hf:X.fn x=true\/X.env.scope.names.lookup x=some .local:=by first|exact .inl rfl|exact .inr rfl|assumption):L0 M A (storeName X.env x u) Q E s:=by
 obtain ⟨m,W,hl⟩:=id I.loc;have a5:(X.env.scope.kind == .class || (X.env.scope.kind == .module && X.env.locals != X.env.globals))=false:=by rw [I.ok.kind];rfl
 have a2:i < σ.length:=by rw [I.len];exact (List.getElem?_eq_some_iff.mp hi).1
 have cne:=I.cne;have Z :∀{a:Addr} {C:Heap},(∃o,s.heap.get? a=some o/\H a=none)->X4 a s.heap C->HOk X.prog X.w H C:=λ {a C} ha f b ob e=>by
  obtain ⟨_,_,Y⟩:=ha;refine (I.hok b ob e).stay (λ c D l q=>(f.2 c ?_).trans q) (λ _ q=>q) λ _ _ q=>q;rintro rfl;rcases l with rfl|l
  ·rw [Y] at e;cases e
  ·rw [Y] at l;cases l
 rcases hx with hk|hk
 ·refine wpAny_storeName_local hk W (λ C a4 f=>?_) a5;obtain ⟨oL,_,_,a6,_⟩:=id W;refine h _ ⟨I.ok,I.os,I.bare,⟨λ b o e n B hx=>?_,λ b o e n B hx=>?_,I.base.free,λ b o e hx=>?_,I.base.tups,I.base.frzs,I.base.tbls⟩,⟨_,a4,λ j y S g t J=>?_⟩,λ y c e=>?_,I.free,I.freeC,λ p R=>?_,Z ⟨oL,a6,I.free⟩ f,by simpa using I.len⟩ ⟨_,f,.inl rfl⟩
  ·exact (f.2 b (V0 (E1 (N0 e) I.ok.above))).trans (I.base.keep b o e n B hx)
  ·obtain ⟨O,g⟩:=I.base.slot b o e n B hx;exact ⟨O,(f.2 b (V0 (E1 (N0 e) I.ok.above))).trans g⟩
  ·obtain ⟨K,g⟩:=I.base.there b o e hx;exact ⟨K,(f.2 b (V0 (E1 (N0 e) I.ok.above))).trans g⟩
  ·by_cases hj:j=i
   ·subst hj;rw [hi] at g;cases g;rw [j2f a2] at t;cases t;exact ⟨u,r,.inl ⟨hk,by simp⟩⟩
   ·rw [j40 (J2 hj)] at t;obtain ⟨T,P,q⟩:=hl j y S g t J;refine ⟨T,P,?_⟩;rcases q with ⟨k,e⟩|⟨k,c,e,z⟩
    ·refine .inl ⟨k,?_⟩;have:y≠x:=λ e=>hj (zhf hN g (e ▸ hi));simp [this,e]
    ·exact .inr ⟨k,c,e,z.sameBut f (cne y c e)⟩
  ·obtain ⟨D,z⟩:=I.cell y c e;exact ⟨D,z.sameBut f (cne y c e)⟩
  ·obtain ⟨e,n,F,L,d⟩:=I.pin p R;exact ⟨(f.2 p.1 F).trans e,n,F,L,d⟩
 ·have U:X.fn x=true:=by
   rcases hf with z|z
   ·exact z
   ·rw [z] at hk;cases hk
  obtain ⟨c,l⟩:=I.ok.has x (.inl hk);obtain ⟨D,z⟩:=I.cell x c l;refine wpAny_storeName_cell I.ok.kind hk l z (λ C a0 f=>?_);obtain ⟨oc,a1,a3⟩:=id z;refine h { s with heap:=C } ⟨I.ok,I.os,I.bare,⟨λ b o e n B hx=>?_,λ b o e n B hx=>?_,I.base.free,λ b o e hx=>?_,I.base.tups,I.base.frzs,I.base.tbls⟩,⟨m,W.sameBut f (J2 (cne x c l)),λ j y S g t J=>?_⟩,λ y G e=>?_,I.free,I.freeC,λ p R=>?_,Z ⟨oc,a1,I.freeC x c l⟩ f,by simpa using I.len⟩ ⟨c,f,.inr l⟩
  ·exact (f.2 b (V0 (E1 (N0 e) (I.ok.cab x c U l)))).trans (I.base.keep b o e n B hx)
  ·obtain ⟨O,g⟩:=I.base.slot b o e n B hx;exact ⟨O,(f.2 b (V0 (E1 (N0 e) (I.ok.cab x c U l)))).trans g⟩
  ·obtain ⟨K,g⟩:=I.base.there b o e hx;exact ⟨K,(f.2 b (V0 (E1 (N0 e) (I.ok.cab x c U l)))).trans g⟩
  ·by_cases hj:j=i
   ·subst hj;rw [hi] at g;cases g;rw [j2f a2] at t;cases t;exact ⟨u,r,.inr ⟨.inl hk,c,l,a0⟩⟩
   ·rw [j40 (J2 hj)] at t;obtain ⟨T,P,q⟩:=hl j y S g t J;refine ⟨T,P,?_⟩;rcases q with q|⟨k,G,e,z'⟩
    ·exact .inl q
    ·refine .inr ⟨k,G,e,z'.sameBut f ?_⟩;rintro rfl;exact hj (zhf hN g (I.ok.inj _ _ _ e l ▸ hi))
  ·by_cases hcc:G=c
   ·subst hcc;exact ⟨_,a0⟩
   ·obtain ⟨w2,z2⟩:=I.cell y G e;exact ⟨w2,z2.sameBut f hcc⟩
  ·obtain ⟨e,n,F,L,d⟩:=I.pin p R;refine ⟨(f.2 p.1 ?_).trans e,n,F,L,d⟩;intro q;rw [q,a1] at e;have q':oc=p.2:=J1 e;exact d D (by rw [<-q'];exact a3)
theorem zgq {M:Model} {A:L1} {E:Value->u0->Prop} {i:Nat} {x:Str} {v:V} {u:Value} {Q:Unit->u0->Prop} (I:Inv X pins σ H s) (hN:X.N.Nodup) (hi:X.N[i]? = some x) (hx:Loc X.env.scope x) (r:RelV v u)
  (h :∀s',Inv X pins (σ.set i (some v)) H s'->Q () s') (hf:X.fn x=true\/X.env.scope.names.lookup x=some .local:=by first|exact .inl rfl|exact .inr rfl|assumption):L0 M A (storeName X.env x u) Q E s:=
 zib I hN hi hx r (λ s' a _=>h s' a) hf
theorem Inv.call' {s':u0} {ch:List Addr} (I:Inv X pins σ H s) (ho:s'.os=s.os) (u:Un (frs X.stack) ch H H' s.heap s'.heap) (hok:HOk X.prog X.w H' s'.heap) (hg:A8 s'.gens)
  (hch :∀b∈ch,(b∈X.ex\/X.s₀.heap.objs.size<=b)/\b≠X.env.locals/\(∀x c,X.env.cells.lookup x=some c->c≠b)/\∀p∈X.pn++pins,p.1≠b):Inv X pins σ H' s':=by
 obtain ⟨d,g',d',t',a⟩:=s';have e:a=s.os:=ho;subst e;exact I.call (g':=g') (t':=t') (d':=d') u hok hg hch
end
noncomputable abbrev XK:=Value->Option Addr->Hp->Prop
noncomputable abbrev St:=List (Option V)
noncomputable abbrev VK:=V->Hp->Prop
noncomputable abbrev TE:=St->Hp->VK->Prop
noncomputable abbrev TT:=St->Hp->(Bool->Hp->Prop)->Prop
noncomputable abbrev TA:=St->Hp->(List V->Hp->Prop)->Prop
structure Ends where
 nx:St->Hp->Prop
 rt:VK
 bk:St->Hp->Prop:=λ _ _=>False
 ct:St->Hp->Prop:=λ _ _=>False
noncomputable abbrev TS:=Ends->St->Hp->Prop
def EP (X:Cx) (pins:List (Addr×Obj)) (σ:St) (Q:VK) (u:Value) (s':u0):Prop:=∃v H',Inv X pins σ H' s'/\RelV v u/\Q v H'
def TP (X:Cx) (pins:List (Addr×Obj)) (σ:St) (Q:Bool->Hp->Prop) (b:Bool) (s':u0):Prop:=∃H',Inv X pins σ H' s'/\Q b H'
def AP (X:Cx) (pins:List (Addr×Obj)) (σ:St) (Q:List V->Hp->Prop) (us:List Value) (s':u0):Prop:=∃vs H',Inv X pins σ H' s'/\Vals vs us/\Q vs H'
def SP (X:Cx) (pins:List (Addr×Obj)) (D:Ends) (f:Flow) (s':u0):Prop:=
 match f with
 | .next=>∃σ' H',Inv X pins σ' H' s'/\D.nx σ' H'
 | .brk=>∃σ' H',Inv X pins σ' H' s'/\D.bk σ' H'
 | .cont=>∃σ' H',Inv X pins σ' H' s'/\D.ct σ' H'
 | .ret u=>∃v σ' H',Inv X pins σ' H' s'/\RelV v u/\D.rt v H'
def PE (X:Cx) (e:Expr) (t:TE):Prop:=
 ∀(pins:List (Addr×Obj)) (s:u0) (σ:St) (H:Hp) (Q:VK),Inv X pins σ H s->t σ H Q->L0 (X0 X.prog X.w) X.A (d3 e X.env) (EP X pins σ Q) X.xe s
def PT (X:Cx) (e:Expr) (t:TT):Prop:=
 ∀(pins:List (Addr×Obj)) (s:u0) (σ:St) (H:Hp) (Q:Bool->Hp->Prop),Inv X pins σ H s->t σ H Q->L0 (X0 X.prog X.w) X.A (isTrue e X.env (d3 e X.env)) (TP X pins σ Q) X.xe s
def PW (X:Cx) (e:Expr) (t:TT):Prop:=
 ∀(whole:Sem Value) (pins:List (Addr×Obj)) (s:u0) (σ:St) (H:Hp) (Q:Bool->Hp->Prop),Inv X pins σ H s->t σ H Q->L0 (X0 X.prog X.w) X.A (isTrue e X.env whole) (TP X pins σ Q) X.xe s
theorem PW.pt {X:Cx} {e:Expr} {t:TT} (h:PW X e t):PT X e t:=h _
def PA (X:Cx) (es:List Expr) (t:TA):Prop:=
 ∀(pos:Pos) (pins:List (Addr×Obj)) (s:u0) (σ:St) (H:Hp) (Q:List V->Hp->Prop),Inv X pins σ H s->t σ H Q->L0 (X0 X.prog X.w) X.A (spliced (E4 pos (A1 es X.env))) (AP X pins σ Q) X.xe s
def PS (X:Cx) (st:Stmt) (t:TS):Prop:=
 ∀(pins:List (Addr×Obj)) (s:u0) (σ:St) (H:Hp) (D:Ends),Inv X pins σ H s->t D σ H->L0 (X0 X.prog X.w) X.A (exec st X.env) (SP X pins D) X.xe s
def PSs (X:Cx) (st:List Stmt) (t:TS):Prop:=
 ∀(pins:List (Addr×Obj)) (s:u0) (σ:St) (H:Hp) (D:Ends),Inv X pins σ H s->t D σ H->L0 (X0 X.prog X.w) X.A (execs st X.env) (SP X pins D) X.xe s
theorem thn {α:Type} {t:Sem α} {Q Q':α->u0->Prop} {M:Model} {A:L1} {E:Value->u0->Prop} {s:u0} (h:L0 M A t Q E s) (hQ :∀a s,Q a s->Q' a s):L0 M A t Q' E s:=M3 h hQ λ _ _ x=>x
section
variable {X:Cx}
noncomputable def tVar (i:Nat):TE:=λ σ H Q=>∃v,σ[i]? = some (some v)/\Q v H
noncomputable def tC (v:V):TE:=λ _ H Q=>Q v H
theorem pe_var {i:Nat} {x:Str} {pos:Pos} (hN:X.N[i]? = some x) (hv:Vis X.env.scope x) (hd:(x == ("__debug__" : Str))=false:=by decide) (hcd:(x == ("__classdict__" : Str))=false:=by decide):PE X (.Name x pos) (tVar i):=by
 intro j s σ H Q I h;obtain ⟨v,e,h⟩:=h;obtain ⟨m,d,f⟩:=I.loc;obtain ⟨u,r,l⟩:=f i x v hN e hv;have b:EP X j σ Q u s:=⟨v,H,I,r,h⟩
 rcases l with ⟨a,g⟩|⟨a,c,hc,hcell⟩
 ·exact wpAny_Name (wpAny_loadName_local I.ok.kind a d g b) hd
 ·rcases a with a|a
  ·exact wpAny_Name (wpAny_loadName_cell I.ok.kind a hc hcell b) hd
  ·exact wpAny_Name (wpAny_loadName_free I.ok.kind a hc hcell b hcd) hd
theorem pe_int {i j pos}:PE X (.Constant (.int i) j pos) (tC (.int i)):=λ _ _ _ H _ I h=>wpAny_Constant_int ⟨.int i,H,I.tok _,⟨_,rfl⟩,h⟩
theorem pe_bl {b j pos}:PE X (.Constant (.bool b) j pos) (tC (.bl b)):=λ _ _ _ H _ I h=>Constant_bool ⟨.bl b,H,I,rfl,h⟩
theorem pe_non {j pos}:PE X (.Constant .none j pos) (tC .non):=λ _ _ _ H _ I h=>Constant_none ⟨.non,H,I,rfl,h⟩
theorem pe_str {x j pos}:PE X (.Constant (.str x) j pos) (tC (.str x)):=λ _ _ _ H _ I h=>Calls.Constant_str ⟨.str x,H,I.tok _,⟨_,rfl⟩,h⟩
def Gl (X:Cx) (x:Str):Prop:=X.env.kindOf x=some .globalImplicit
theorem zgg {E:Value->u0->Prop} {pins:List (Addr×Obj)} {s:u0} {σ:St} {H:Hp} {x:Str} {u:Value} {pos:Pos} {Q:Value->u0->Prop} (I:Inv X pins σ H s) (hg:Gl X x) (hm:X.mg x=some u) (h:Q u s)
  (hd:(x == ("__debug__" : Str))=false:=by decide):L0 (X0 X.prog X.w) X.A (d3 (.Name x pos) X.env) Q E s:=
 j0h I.ok.kind hg (Calls.loadGlobal_global (by rw [I.ok.glob];exact I.mod.glob.keeps I.bk) hm h) hd
theorem ld_blt {E:Value->u0->Prop} {pins:List (Addr×Obj)} {s:u0} {σ:St} {H:Hp} {x:Str} {u:Value} {pos:Pos} {Q:Value->u0->Prop} (I:Inv X pins σ H s) (hg:Gl X x) (hm:X.mg x=none) (hv:g6 x=some u) (h:Q u s)
  (hn:x≠"__name__":=by decide) (hd:(x == ("__debug__" : Str))=false:=by decide):L0 (X0 X.prog X.w) X.A (d3 (.Name x pos) X.env) Q E s:=by
 obtain ⟨c,a,b⟩:=I.mod.blt;exact j0h I.ok.kind hg (Calls.loadGlobal_builtin (by rw [I.ok.glob];exact I.mod.glob.keeps I.bk) hm (by rw [I.ok.blt];exact a.keeps I.bk) ((b x hn).trans hv) h) hd
theorem z6u {x:Str} {v:V} {u:Value} {pos:Pos} (hg:Gl X x) (hm:X.mg x=some u) (r:RelV v u) (hd:(x == ("__debug__" : Str))=false:=by decide):PE X (.Name x pos) (tC v):=
 λ _ _ _ H _ I h=>zgg I hg hm ⟨v,H,I,r,h⟩ hd
theorem z2i {x:Str} {v:V} {u:Value} {pos:Pos} (hg:Gl X x) (hm:X.mg x=none) (hv:g6 x=some u) (r:RelV v u) (hn:x≠"__name__":=by decide) (hd:(x == ("__debug__" : Str))=false:=by decide):PE X (.Name x pos) (tC v):=
 λ _ _ _ H _ I h=>ld_blt I hg hm hv ⟨v,H,I,r,h⟩ hn hd
variable {a b:Expr} {ta tb:TE} {pos:Pos}
def PC (X:Cx) (op:CmpOp) (a b:Expr) (t:TE):Prop:=
 ∀(pins:List (Addr×Obj)) (s:u0) (σ:St) (H:Hp) (Q:VK),Inv X pins σ H s->t σ H Q->
  L0 (X0 X.prog X.w) X.A (d3 a X.env) (λ v s₁=>L0 (X0 X.prog X.w) X.A (d3 b X.env) (λ u s₂=>L0 (X0 X.prog X.w) X.A (j2 op v u) (EP X pins σ Q) X.xe s₂) X.xe s₁) X.xe s
noncomputable def tB (t:TE):TT:=λ σ H Q=>t σ H λ x H1=>∃c,x=.bl c/\Q c H1
theorem pt_cmp {op:CmpOp} {t:TE} (h:PC X op a b t) (h1:B8 op b=false:=by first|exact nobehind _ (by decide) (by decide)|rfl):PT X (.Compare a [op] [b] pos) (tB t):=by intro f s σ H Q I hw;refine wpAny_isTrue_Compare1 (thn (h f s σ H _ I hw) λ v i h1=>thn h1 λ u g e=>thn e λ c j ⟨x,H1,I1,r1,q1⟩=>?_) h1;obtain ⟨d,rfl,q⟩:=q1;cases r1;exact u3 ⟨H1,I1,q⟩
theorem pt_val {e:Expr} {t:TE} (h:PE X e t) (he :∀whole,isTrue e X.env whole=(do let v <-whole;j2c e.pos;U9 [v] (truthy v)):=by intro _;rfl):PT X e (tB t):=by intro a s σ H Q I hw;refine isTrue_plain (thn (h a s σ H _ I hw) λ v b ⟨x,H1,I1,r1,q1⟩=>?_) (he _);obtain ⟨d,rfl,q⟩:=q1;cases r1;exact u3 ⟨H1,I1,q⟩
variable {tA tB':TT} {rest:List Expr}
noncomputable def tAnd (t u:TT):TT:=λ σ H Q=>t σ H λ c H1=>if c=true then u σ H1 Q else Q false H1
noncomputable def tOr (t u:TT):TT:=λ σ H Q=>t σ H λ c H1=>if c=true then Q true H1 else u σ H1 Q
noncomputable def tNot (t:TT):TT:=λ σ H Q=>t σ H λ c H1=>Q (!c) H1
theorem z7u (ha:PT X a tA):PW X (.BoolOp .And [a] pos) tA:=by
 intro f b s σ H Q I h;refine isTrue_and (thn (ha b s σ H Q I h) λ c d e=>?_);cases c with
 | true=>exact isTrue_and_nil e
 | false=>exact e
theorem pw_or1 (ha:PT X a tA):PW X (.BoolOp .Or [a] pos) tA:=by
 intro f b s σ H Q I h;refine isTrue_or (thn (ha b s σ H Q I h) λ c d e=>?_);cases c with
 | false=>exact isTrue_or_nil e
 | true=>exact e
theorem pw_and (ha:PT X a tA) (hb:PW X (.BoolOp .And (b :: rest) pos) tB'):PW X (.BoolOp .And (a :: b :: rest) pos) (tAnd tA tB'):=by
 intro f d s σ H Q I h;refine isTrue_and (thn (ha d s σ H _ I h) λ c e ⟨H1,I1,q1⟩=>?_);cases c with
 | true=>exact hb f d e σ H1 Q I1 q1
 | false=>exact ⟨H1,I1,q1⟩
theorem pw_or (ha:PT X a tA) (hb:PW X (.BoolOp .Or (b :: rest) pos) tB'):PW X (.BoolOp .Or (a :: b :: rest) pos) (tOr tA tB'):=by
 intro f d s σ H Q I h;refine isTrue_or (thn (ha d s σ H _ I h) λ c e ⟨H1,I1,q1⟩=>?_);cases c with
 | true=>exact ⟨H1,I1,q1⟩
 | false=>exact hb f d e σ H1 Q I1 q1
theorem pt_not (ha:PT X a tA):PT X (.UnaryOp .Not a pos) (tNot tA):=by intro d s σ H Q I h;exact isTrue_not (ha d s σ H (λ c b=>Q (!c) b) I h)
noncomputable def tAndV (ta tb:TE):TE:=λ σ H Q=>ta σ H λ x H1=>∃c,x=.bl c/\if c=true then tb σ H1 Q else Q (.bl false) H1
noncomputable def tOrV (ta tb:TE):TE:=λ σ H Q=>ta σ H λ x H1=>∃c,x=.bl c/\if c=true then Q (.bl true) H1 else tb σ H1 Q
noncomputable def tNotV (ta:TE):TE:=λ σ H Q=>ta σ H λ x H1=>∃c,x=.bl c/\Q (.bl (!c)) H1
theorem pe_one {op} {t:TE} (h:PE X a t):PE X (.BoolOp op [a] pos) t:=λ b s σ H Q I hw=>BoolOp_one (h b s σ H Q I hw)
theorem pe_and (ha:PE X a ta) (hb:PE X (.BoolOp .And (b :: rest) pos) tb):PE X (.BoolOp .And (a :: b :: rest) pos) (tAndV ta tb):=by
 intro e s σ H Q I h;refine BoolOp_and (thn (ha e s σ H _ I h) λ v f ⟨x,H1,I1,r1,d⟩=>?_);obtain ⟨c,rfl,d⟩:=d;cases r1;refine u3 ?_;cases c with
 | true=>exact hb e f σ H1 Q I1 d
 | false=>exact ⟨.bl false,H1,I1,rfl,d⟩
theorem pe_or (ha:PE X a ta) (hb:PE X (.BoolOp .Or (b :: rest) pos) tb):PE X (.BoolOp .Or (a :: b :: rest) pos) (tOrV ta tb):=by
 intro e s σ H Q I h;refine BoolOp_or (thn (ha e s σ H _ I h) λ v f ⟨x,H1,I1,r1,d⟩=>?_);obtain ⟨c,rfl,d⟩:=d;cases r1;refine u3 ?_;cases c with
 | false=>exact hb e f σ H1 Q I1 d
 | true=>exact ⟨.bl true,H1,I1,rfl,d⟩
theorem pe_not (ha:PE X a ta):PE X (.UnaryOp .Not a pos) (tNotV ta):=by intro d s σ H Q I h;refine UnaryOp_ (thn (ha d s σ H _ I h) λ v e ⟨x,H1,I1,r1,b⟩=>?_);obtain ⟨c,rfl,b⟩:=b;cases r1;exact not_of (u3 ⟨.bl (!c),H1,I1,rfl,b⟩)
noncomputable def tIf (t:TT) (ta tb:TE):TE:=λ σ H Q=>t σ H λ c H1=>if c=true then ta σ H1 Q else tb σ H1 Q
theorem zlt {c:Expr} (hc:PT X c tA) (ha:PE X a ta) (hb:PE X b tb):PE X (.IfExp c a b pos) (tIf tA ta tb):=by
 intro e s σ H Q I h;refine wpAny_IfExp (thn (hc e s σ H _ I h) λ d f ⟨H1,I1,q1⟩=>?_);cases d with
 | true=>exact ha e f σ H1 Q I1 q1
 | false=>exact hb e f σ H1 Q I1 q1
end
def SqL (K:b0) (H:Hp) (a:Addr) (xs:List V):Prop:=
 Rd H a (.lst xs)\/
  ∃(o:Obj) (its:Array Value) (n:Nat),K.lookup a=some o/\o.cls=.type "list"/\o.dict=none/\o.data=.seq its n/\its.size<=sizeLine/\Vals xs its.toList
def SqT (K:b0) (H:Hp) (a:Addr) (xs:List V):Prop:=
 Rd H a (.tup xs)\/
  ∃(o:Obj) (its:Array Value) (n:Nat),K.lookup a=some o/\o.cls=.type "tuple"/\o.data=.seq its n/\its.size<=sizeLine/\Vals xs its.toList
noncomputable def absV:Value->Option V
 | .none=>some .non
 | .bool b=>some (.bl b)
 | .int i _=>some (.int i)
 | .str x _=>some (.str x)
 | .bytes b _=>some (.byt b)
 | .float b _=>some (.flt b)
 | .ref a=>some (.ref a)
 | .type n=>some (.ty n)
 | _=>none
theorem RelV.abs {x:V} {u:Value} (r:RelV x u):absV u=some x:=by
 cases x with
 | non=>cases r;rfl
 | bl _=>cases r;rfl
 | int _=>obtain ⟨t,rfl⟩:=r;rfl
 | str _=>obtain ⟨t,rfl⟩:=r;rfl
 | byt _=>obtain ⟨t,rfl⟩:=r;rfl
 | flt _=>obtain ⟨t,rfl⟩:=r;rfl
 | ref _=>cases r;rfl
 | ty _=>cases r;rfl
theorem RelV.inj {x y:V} {u:Value} (r:RelV x u) (q:RelV y u):x=y:=J1 (r.abs.symm.trans q.abs)
theorem Vals.inj :∀{xs ys:List V} {us:List Value},Vals xs us->Vals ys us->xs=ys
 | _,_,_,.nil,.nil=>rfl
 | _,_,_,.cons r t,.cons r' t'=>by rw [r.inj r',Vals.inj t t']
section
variable {X:Cx} {pins:List (Addr×Obj)} {σ:St} {H:Hp} {s:u0} {a:Addr} {xs ys:List V}
theorem SqL.of {K:b0} (h:H a=some (.lst xs)):SqL K H a xs:=.inl (.inl h)
theorem SqT.of {K:b0} (h:H a=some (.tup xs)):SqT K H a xs:=.inl (.inl h)
theorem Inv.list (I:Inv X pins σ H s) (h:SqL X.K H a xs) :∃its:List Value,Vals xs its/\PlainL s.heap a its.toArray/\xs.length<=sizeLine:=by
 rcases h with h|⟨o,its,n,hk,hc,hd,hs,hz,r⟩
 ·obtain ⟨z,its,n,r,e⟩:=h.ok I.hok;exact ⟨its,r,⟨_,n,e,rfl,rfl,rfl⟩,z⟩
 ·refine ⟨its.toList,r,⟨o,n,I.kIn a o hk,hc,hd,by simpa using hs⟩,?_⟩;have e:=r.length;simp only [v2] at e;omega
theorem Inv.tuple (I:Inv X pins σ H s) (h:SqT X.K H a xs) :∃its:List Value,Vals xs its/\IsTup s.heap a its.toArray/\xs.length<=sizeLine:=by
 rcases h with h|⟨o,its,n,hk,hc,hs,hz,r⟩
 ·obtain ⟨z,its,r,p⟩:=h.ok I.hok;exact ⟨its,r,p.1,z⟩
 ·refine ⟨its.toList,r,⟨o,I.kIn a o hk,hc,n,by simpa using hs⟩,?_⟩;have e:=r.length;simp only [v2] at e;omega
theorem Inv.list_inj (I:Inv X pins σ H s) (h:SqL X.K H a xs) (h':SqL X.K H a ys):xs=ys:=by
 obtain ⟨i,r,⟨o,n,e,_,_,d⟩,_⟩:=I.list h;obtain ⟨g,f,⟨j,k,b,_,_,c⟩,_⟩:=I.list h';rw [e] at b;cases b;rw [d] at c;injection c with d1 _;have:i=g:=by simpa using congrArg Array.toList d1
 subst this;exact r.inj f
theorem Inv.tuple_inj (I:Inv X pins σ H s) (h:SqT X.K H a xs) (h':SqT X.K H a ys):xs=ys:=by
 obtain ⟨i,r,⟨o,e,_,n,d⟩,_⟩:=I.tuple h;obtain ⟨g,f,⟨j,b,_,k,c⟩,_⟩:=I.tuple h';rw [e] at b;cases b;rw [d] at c;injection c with d1 _;have:i=g:=by simpa using congrArg Array.toList d1
 subst this;exact r.inj f
end
noncomputable abbrev Cx.wish (X:Cx) (E:Value->u0->Prop):Cx:={ X with xe:=E }
noncomputable abbrev Cx.nox (X:Cx):Cx:=X.wish λ _ _=>False
theorem Cx.Ok.wish {X:Cx} (ok:X.Ok) (E:Value->u0->Prop):(X.wish E).Ok:=
 ⟨ok.mod,ok.kind,ok.glob,ok.blt,ok.above,ok.inj,ok.has,ok.cab,ok.hd,ok.frames,ok.stk,ok.exf,ok.bs,ok.bsz,ok.noex,ok.exfs,ok.funs,ok.frf⟩
theorem Cx.Ok.unwish {X:Cx} {E:Value->u0->Prop} (ok:(X.wish E).Ok):X.Ok:=
 ⟨ok.mod,ok.kind,ok.glob,ok.blt,ok.above,ok.inj,ok.has,ok.cab,ok.hd,ok.frames,ok.stk,ok.exf,ok.bs,ok.bsz,ok.noex,ok.exfs,ok.funs,ok.frf⟩
section
variable {X:Cx} {pins:List (Addr×Obj)} {σ:St} {H:Hp} {s:u0} {E:Value->u0->Prop}
theorem Inv.wish (I:Inv X pins σ H s) (E:Value->u0->Prop):Inv (X.wish E) pins σ H s:=⟨I.ok.wish E,I.os,I.bare,I.base,I.loc,I.cell,I.free,I.freeC,I.pin,I.hok,I.len⟩
theorem Inv.unwish (I:Inv (X.wish E) pins σ H s):Inv X pins σ H s:=⟨I.ok.unwish,I.os,I.bare,I.base,I.loc,I.cell,I.free,I.freeC,I.pin,I.hok,I.len⟩
theorem SP.unwish {D:Ends} {f:Flow} {s':u0} (h:SP (X.wish E) pins D f s'):SP X pins D f s':=by
 cases f with
 | next=>obtain ⟨b,a,I,q⟩:=h;exact ⟨b,a,I.unwish,q⟩
 | brk=>obtain ⟨b,a,I,q⟩:=h;exact ⟨b,a,I.unwish,q⟩
 | cont=>obtain ⟨b,a,I,q⟩:=h;exact ⟨b,a,I.unwish,q⟩
 | ret u=>obtain ⟨v,b,a,I,r,q⟩:=h;exact ⟨v,b,a,I.unwish,r,q⟩
theorem PSs.nox {st:List Stmt} {t:TS} (h:PSs X.nox st t):PSs X st t:=λ a s σ H D I hw=>M3 (h a s σ H D (I.wish _) hw) (λ _ _ q=>q.unwish) λ _ _ z=>W3 z
end
section
variable {X:Cx} {st:Stmt} {rest:List Stmt} {t u:TS} {e:Expr} {te:TE} {pos:Pos}
noncomputable def tNext:TS:=λ D σ H=>D.nx σ H
noncomputable def tSeq (t u:TS):TS:=λ D σ H=>t { D with nx:=u D } σ H
theorem z0e:PSs X [] tNext:=λ _ _ σ H _ I h=>d9 ⟨σ,H,I,h⟩
theorem z02 (h1:PS X st t) (h2:PSs X rest u):PSs X (st :: rest) (tSeq t u):=by
 intro a s σ H D I h;refine wpAny_execs_cons (thn (h1 a s σ H { D with nx:=u D } I h) λ f c q=>?_);cases f with
 | next=>obtain ⟨e,b,d,q⟩:=q;exact h2 a c e b D d q
 | ret v=>exact q
 | brk=>exact q
 | cont=>exact q
theorem z04 (h1:PS X st t):PSs X [st] t:=by
 intro a s σ H D I h;refine wpAny_execs_cons (thn (h1 a s σ H D I h) λ f b q=>?_);cases f with
 | next=>exact d9 q
 | ret v=>exact q
 | brk=>exact q
 | cont=>exact q
theorem Inv.quiet {pins:List (Addr×Obj)} {σ:St} {H:Hp} {s:u0} (I:Inv X pins σ H s):interactive X.env=false:=by simp [interactive,I.ok.kind]
noncomputable def tDrop (te:TE):TS:=λ D σ H=>te σ H λ _ H1=>D.nx σ H1
theorem z22 (he:PE X e te) (hs:b7 e none pos.line X.env=V2 false:=by rfl):PS X (.Expr e pos) (tDrop te):=by intro a s σ H D I h;exact wpAny_Expr_any (thn (he a s σ H _ I h) λ v b ⟨x,H1,I1,r1,q1⟩=>⟨σ,H1,I1,q1⟩) I.quiet hs
noncomputable def tRet (te:TE):TS:=λ D σ H=>te σ H D.rt
theorem ps_ret (he:PE X e te):PS X (.Return (some e) pos) (tRet te):=by intro a s σ H D I h;exact wpAny_Return_some (thn (he a s σ H _ I h) λ v b ⟨x,H1,I1,r1,q1⟩=>⟨x,σ,H1,I1,r1,q1⟩)
noncomputable def tIfS (c:TT) (t u:TS):TS:=λ D σ H=>c σ H λ b H1=>if b=true then t D σ H1 else u D σ H1
theorem ps_if {c:Expr} {a b:List Stmt} {tc:TT} (hc:PT X c tc) (ha:PSs X a t) (hb:PSs X b u):PS X (.If c a b pos) (tIfS tc t u):=by
 intro e s σ H D I h;refine wpAny_If (thn (hc e s σ H _ I h) λ d f ⟨H1,I1,q1⟩=>?_);cases d with
 | true=>exact ha e f σ H1 D I1 q1
 | false=>exact hb e f σ H1 D I1 q1
noncomputable def tNever:TS:=λ _ _ _=>False
theorem zbs:PS X st tNever:=λ _ _ _ _ _ _ h=>h.elim
end
noncomputable abbrev TG:=V->St->Hp->(St->Hp->Prop)->Prop
noncomputable abbrev TGs:=List V->St->Hp->(St->Hp->Prop)->Prop
def PG (X:Cx) (target:Expr) (t:TG):Prop:=
 ∀(pins:List (Addr×Obj)) (s:u0) (σ:St) (H:Hp) (v:V) (u:Value) (Q:St->Hp->Prop),Inv X pins σ H s->RelV v u->t v σ H Q->
  L0 (X0 X.prog X.w) X.A (assign target X.env u) (λ _ s'=>∃σ' H',Inv X pins σ' H' s'/\Q σ' H') X.xe s
def PGs (X:Cx) (ts:List Expr) (t:TGs):Prop:=
 ∀(pins:List (Addr×Obj)) (s:u0) (σ:St) (H:Hp) (vs:List V) (us:List Value) (Q:St->Hp->Prop),Inv X pins σ H s->Vals vs us->t vs σ H Q->
  L0 (X0 X.prog X.w) X.A (assignInOrder ((Y8 ts X.env).map (·.2)) us) (λ _ s'=>∃σ' H',Inv X pins σ' H' s'/\Q σ' H') X.xe s
noncomputable abbrev TSet:=V->V->V->Hp->(Hp->Prop)->Prop
def PSet (X:Cx) (t:TSet):Prop:=
 ∀(pins:List (Addr×Obj)) (s:u0) (σ:St) (H:Hp) (o i v:V) (ov iv u:Value) (Q:Hp->Prop),Inv X pins σ H s->RelV o ov->RelV i iv->RelV v u->t o i v H Q->
  L0 (X0 X.prog X.w) X.A (setItem ov iv u) (λ _ s'=>∃H',Inv X pins σ H' s'/\Q H') X.xe s
section
variable {X:Cx} {pos:Pos}
noncomputable def gName (i:Nat):TG:=λ v σ H Q=>Q (σ.set i (some v)) H
theorem z0f {i:Nat} {x:Str} (hN:X.N.Nodup) (hi:X.N[i]? = some x) (hx:Loc X.env.scope x) (hf:X.fn x=true\/X.env.scope.names.lookup x=some .local:=by first|exact .inl rfl|exact .inr rfl|assumption):PG X (.Name x pos) (gName i):=by intro c s σ H v u Q I r h;exact wpAny_assign_Name (zgq I hN hi hx r (λ b a=>⟨_,H,a,h⟩) hf)
noncomputable def gNil:TGs:=λ vs σ H Q=>vs=[]/\Q σ H
noncomputable def gCons (t:TG) (u:TGs):TGs:=λ vs σ H Q=>∃v r,vs=v :: r/\t v σ H λ σ' H'=>u r σ' H' Q
theorem z0m:PGs X [] gNil:=by intro c s σ H b a Q I r h;obtain ⟨e,h⟩:=h;subst e;cases r;exact assignInOrder_nil ⟨σ,H,I,h⟩
theorem z07 {e:Expr} {es:List Expr} {t:TG} {u:TGs} (h1:PG X e t) (h2:PGs X es u)
  (hs:(Y8 (e :: es) X.env).map (·.2)=assign e X.env :: (Y8 es X.env).map (·.2):=by rfl):PGs X (e :: es) (gCons t u):=by
 intro a s σ H g d Q I r h;obtain ⟨v,f,c,h⟩:=h;subst c;cases r with
 | cons r rr=>rw [hs];refine assignInOrder_cons (thn (h1 a s σ H _ _ _ I r h) λ _ b ⟨σ1,H1,I1,q1⟩=>?_);exact h2 a b σ1 H1 _ _ Q I1 rr q1
noncomputable def gTup (K:b0) (n:Nat) (t:TGs):TG:=λ v σ H Q=>∃a xs,v=.ref a/\SqT K H a xs/\xs.length=n/\t xs σ H Q
theorem pg_tup {es:List Expr} {k:Nat} {t:TGs} {n:Nat} (hc:X.calm=true) (h:PGs X es t)
  (hn:(Y8 es X.env).length=n:=by rfl) (hst:(Y8 es X.env).findIdx? (·.1)=none:=by rfl):PG X (.Tuple es k pos) (gTup X.K n t):=by
 intro c s σ H v u Q I r hw;obtain ⟨a,p,l,m,i,hw⟩:=hw;subst l;cases r;obtain ⟨x,d,q,w⟩:=I.tuple m;refine assign_Tuple_tuple (I.ok.hd hc) q (by simp [hn,<-i,d.length]) hst λ f g=>?_;have j:Inv X c σ H { s with heap:=f }:=I.kept (t':=s.toks) λ b o e=>g b o (V0 (N0 e)) e;exact h c _ σ H p _ Q j (by simpa using d) hw
noncomputable def gSub (to ti:TE) (t:TSet):TG:=λ v σ H Q=>to σ H λ o H1=>ti σ H1 λ i H2=>t o i v H2 λ H3=>Q σ H3
theorem pg_sub {o i:Expr} {to ti:TE} {t:TSet} (ho:PE X o to) (hi:PE X i ti) (hs:PSet X t)
  (ha :∀v,assign (.Subscript o i pos) X.env v=(do
   let ov <-U9 [v] (d3 o X.env)
   let iv <-U9 [v,ov] (d3 i X.env)
   j2c pos
   U9 [v,ov,iv] (setItem ov iv v)
   release [v,ov,iv] []):=by intro _;rfl):PG X (.Subscript o i pos) (gSub to ti t):=by
 intro a s σ H v u Q I r h;rw [ha];refine c0 (Z1 (thn (ho a s σ H _ I h) λ ov c ⟨x,H1,I1,r1,q1⟩=>?_));refine c0 (Z1 (thn (hi a c σ H1 _ I1 q1) λ iv b ⟨y,H2,I2,r2,q2⟩=>?_));refine c0 (wpAny_standAt (c0 (Z1 (thn (hs a b σ H2 x y v ov iv u _ I2 r1 r2 r q2) λ _ d ⟨H3,I3,q3⟩=>?_))));exact wpAny_release ⟨σ,H3,I3,q3⟩
noncomputable def tAsg (te:TE) (g:TG):TS:=λ D σ H=>te σ H λ x H1=>g x σ H1 D.nx
theorem ps_asg {tg e:Expr} {te:TE} {g:TG} (he:PE X e te) (hg:PG X tg g) (hs:swapsWithSole [tg] e pos.line X.env=V2 false:=by rfl) (hw:swappedStores [tg] e X.env=V2 none:=by rfl)
  (h1:(Y8 [tg] X.env).map (·.2)=[assign tg X.env]:=by rfl):PS X (.Assign [tg] e pos) (tAsg te g):=by
 intro a s σ H D I h;refine wpAny_Assign_stores (thn (he a s σ H _ I h) λ v b ⟨x,H1,I1,r1,q1⟩=>?_) hs hw;rw [h1];exact thn (hg a b σ H1 x v _ I1 r1 q1) λ _ c q=>q
theorem ps_set {i:Nat} {x:Str} {e:Expr} {te:TE} {pos':Pos} (hN:X.N.Nodup) (hi:X.N[i]? = some x) (hx:Loc X.env.scope x) (he:PE X e te) (hs:b7 e (some (.Name x pos')) pos.line X.env=V2 false:=by rfl) (hf:X.fn x=true\/X.env.scope.names.lookup x=some .local:=by first|exact .inl rfl|exact .inr rfl|assumption) :
  PS X (.Assign [.Name x pos'] e pos) (tAsg te (gName i)):=by
 intro b s σ H D I h;refine wpAny_Assign_Name (thn (he b s σ H _ I h) λ v d ⟨y,H1,I1,r1,q1⟩=>?_) hs;exact zgq I1 hN hi hx r1 (λ c a=>⟨_,H1,a,q1⟩) hf
noncomputable def tWhile (c:TT) (tb:TS):TS:=λ D σ H=>∃W:Nat->St->Hp->Prop,(∃m,W m σ H)/\∀m σ H,W m σ H->
 c σ H λ b H1=>if b=true then∃N:St->Hp->Prop,(∀σ' H',N σ' H'->∃m',m' < m/\W m' σ' H')/\tb { D with nx:=N,ct:=N,bk:=D.nx } σ H1 else D.nx σ H1
theorem zfd {c:Expr} {body:List Stmt} {tc:TT} {tb:TS} (hp:PassesOwn (X0 X.prog X.w) X.A X.env X.xe) (hc:PT X c tc) (hb:PSs X body tb):PS X (.While c body [] pos) (tWhile tc tb):=by
 intro j s σ H D I h;obtain ⟨W,⟨r,y⟩,u⟩:=h;refine wpAny_While (codeAny_whileLoop (λ n x=>∃σ' H',Inv X j σ' H' x/\W n σ' H') ?_ r ⟨σ,H,I,y⟩);rintro n t ⟨σ1,H1,I1,w1⟩;refine G5 hp (thn (hc j t σ1 H1 _ I1 (u n σ1 H1 w1)) λ b q ⟨H2,I2,e⟩=>?_);cases b with
 | true=>
  obtain ⟨N,p,e⟩:=e;rw [if_pos rfl];refine G5 hp (thn (hb j q σ1 H2 _ I2 e) λ f z g=>?_);cases f with
  | next=>obtain ⟨d,a,m,o⟩:=g;obtain ⟨l,i,k⟩:=p d a o;exact ⟨l,i,d,a,m,k⟩
  | cont=>obtain ⟨d,a,m,o⟩:=g;obtain ⟨l,i,k⟩:=p d a o;exact ⟨l,i,d,a,m,k⟩
  | brk=>exact g
  | ret v=>exact g
 | false=>rw [if_neg P0];exact d9 ⟨σ1,H2,I2,e⟩
end
structure It where
 go:Nat->Hp->Prop
 yld:Nat->Hp->V->Hp->Prop
 stop:Nat->Hp->Prop
def FpOk (X:Cx) (pins:List (Addr×Obj)) (H:Hp) (b:Addr):Prop:=
 H b=none/\b≠X.env.locals/\b∉X.fs/\(b∈X.ex\/X.s₀.heap.objs.size<=b)/\(∀x c,X.env.cells.lookup x=some c->c≠b)/\∀p∈X.pn++pins,p.1≠b
theorem Inv.fpOk {X:Cx} {pins:List (Addr×Obj)} {σ:St} {H H':Hp} {s:u0} {b:Addr} (I:Inv X pins σ H s) (hb:s.heap.objs.size<=b) (hn:H' b=none):FpOk X pins H' b:=by
 refine ⟨hn,y3 (E1 I.lt hb),I.nofs hb,.inr (C0 I.sz hb),λ x c e z=>?_,λ p a z=>?_⟩
 ·obtain ⟨v,q⟩:=I.cell x c e;exact absurd (E1 q.lt (by rw [z];exact hb)) (J3 _)
 ·exact absurd (E1 (N0 (I.pin p a).1) (by rw [z];exact hb)) (J3 _)
structure Turn (P:Program) (w:S0) (K:b0) (tg:Expr) (J:It) (fp:List Addr) (it:Addr) (tn:Nat->Heap->Prop):Prop where
 mem:it∈fp
 obj :∀i h,tn i h->∀b∈fp,∃o,h.get? b=some o/\∀v,o.data≠.cell v
 keep :∀i h h',tn i h->(∀b∈fp,∀o,h.get? b=some o->h'.get? b=some o)->tn i h'
 item :∀(X:Cx),X.prog=P->X.w=w->X.K=K->X.calm=true->∀(i:Nat) (pins:List (Addr×Obj)) (s:u0) (σ:St) (H:Hp) (E:Value->u0->Prop),Inv X pins σ H s->(∀b∈fp,FpOk X pins H b)->tn i s.heap->J.go i H->
  L0 (X0 P w) X.A (E6 (.ref it)) (λ r s1=>∃u,r=some u/\
   L0 (X0 P w) X.A (g9 tg (.ref it) u) (λ _ s2=>∃x H',Inv X pins σ H' s2/\RelV x u/\J.yld i H x H'/\tn (i + 1) s2.heap/\∀b∈fp,H' b=none) E s1) E s
 done :∀(X:Cx),X.prog=P->X.w=w->X.K=K->X.calm=true->∀(i:Nat) (pins:List (Addr×Obj)) (s:u0) (σ:St) (H:Hp) (E:Value->u0->Prop),Inv X pins σ H s->(∀b∈fp,FpOk X pins H b)->tn i s.heap->J.stop i H->
  L0 (X0 P w) X.A (E6 (.ref it)) (λ r s1=>r=none/\Inv X pins σ H s1) E s
 self :∀(A:L1) (i:Nat) (s:u0) (Q:Value->u0->Prop) (E:Value->u0->Prop),tn i s.heap->Q (.ref it) s->L0 (X0 P w) A (j33 (.ref it)) Q E s
noncomputable abbrev TI:=St->Hp->(It->Hp->Prop)->Prop
def PIE (X:Cx) (pins:List (Addr×Obj)) (σ:St) (tg:Expr) (R:It->Hp->Prop) (itv:Value) (s2:u0):Prop:=
 ∃(it:Addr) (fp:List Addr) (tn:Nat->Heap->Prop) (J:It) (H':Hp),itv=.ref it/\Inv X pins σ H' s2/\Turn X.prog X.w X.K tg J fp it tn/\tn 0 s2.heap/\(∀b∈fp,FpOk X pins H' b)/\R J H'
def PI (X:Cx) (tg iter:Expr) (wi:TI):Prop:=
 ∀(pins:List (Addr×Obj)) (s:u0) (σ:St) (H:Hp) (R:It->Hp->Prop),Inv X pins σ H s->wi σ H R->
  L0 (X0 X.prog X.w) X.A (d3 iter X.env) (λ v s1=>L0 (X0 X.prog X.w) X.A (j33 v) (PIE X pins σ tg R) X.xe s1) X.xe s
theorem go_of {M:Model} {A:L1} {E:Value->u0->Prop} {s:u0} {tg:Expr} {it:Addr} {u:Value} {o:Obj} {n:String} {vs:Array Value} {Q:Unit->u0->Prop} (ho:s.heap.get? it=some o) (hc:o.cls=.type n) (hd:o.data=.fields vs)
    (hn:["enumerate","zip","dict_itemiterator","dict_reverseitemiterator","odict_iterator","itertools.zip_longest","itertools.pairwise"].contains n=false) (hQ:Q () s):L0 M A (g9 tg (.ref it) u) Q E s:=by
  unfold g9;cases tg<;>first
    | exact x0 hQ
    | (cases u<;>first
        | exact x0 hQ
        | (refine c0 (wpAny_load ho ?_)
           rw [hc,hd];show L0 M A (if (["enumerate","zip","dict_itemiterator","dict_reverseitemiterator","odict_iterator","itertools.zip_longest","itertools.pairwise"].contains n && vs[0]? == some (d5 _))=true then _ else _) Q E s;rw [if_neg (by intro h;rw [hn,F7] at h;cases h)];exact x0 hQ))
noncomputable def Itl (K:b0) (a:Addr):It:=
 ⟨λ i H=>∃xs x,SqL K H a xs/\xs[i]? = some x,λ i H x H'=>H'=H/\∀xs,SqL K H a xs->xs[i]? = some x,λ i H=>∃xs,SqL K H a xs/\xs.length<=i⟩
noncomputable def Itt (K:b0) (a:Addr):It:=
 ⟨λ i H=>∃xs x,SqT K H a xs/\xs[i]? = some x,λ i H x H'=>H'=H/\∀xs,SqT K H a xs->xs[i]? = some x,λ i H=>∃xs,SqT K H a xs/\xs.length<=i⟩
noncomputable def Itr (lo:Int) (n:Nat):It:=⟨λ i _=>i < n,λ i H x H'=>H'=H/\x=.int (lo + i),λ i _=>n<=i⟩
theorem zhq {P:Program} {w:S0} {K:b0} {tg:Expr} (a it:Addr):Turn P w K tg (Itl K a) [it] it (λ i h=>h.IsListIter it a i) where
 mem:=by simp
 obj:=λ i h f b g=>by
  have e:b=it:=by simpa using g
  subst e;obtain ⟨o,e,c,d⟩:=f;exact ⟨o,e,λ v z=>by rw [d] at z;cases z⟩
 keep:=λ i h j f k=>f.at λ o e=>k it (by simp) o e
 item:=by intro X r hw C J i G s σ H E I l f B;subst r hw C;obtain ⟨V,x,m,t⟩:=B;obtain ⟨T,q,p,R⟩:=I.list m;obtain ⟨u,U,O⟩:=q.get t;obtain ⟨n,D,Q,A,y,F⟩:=l it (by simp);refine wpAny_pyNext_list_item f p.isList (x:=u) (by simpa using U) λ j L M=>?_;have S:Inv X G σ H { s with heap:=j }:=I.turned (t':=s.toks) (λ b o g e=>(M.2 b g).trans e) n D A y F;obtain ⟨o,e,c,d⟩:=id L;exact ⟨u,rfl,go_of (s:={ s with heap:=j }) e c d (by decide) ⟨x,H,S,O,⟨rfl,λ Z N=>by rw [I.list_inj N m];exact t⟩,L,λ b g=>(l b g).1⟩⟩
 done:=by intro X r hw C J i G s σ H E I l f B;subst r hw C;obtain ⟨V,m,t⟩:=B;obtain ⟨T,q,p,R⟩:=I.list m;obtain ⟨n,D,Q,A,y,F⟩:=l it (by simp);have Y:=q.length;exact wpAny_pyNext_list_end (I.ok.hd J) f p.isList (by simp;omega) λ j W=>⟨rfl,I.turned (t':=s.toks) (λ b o g e=>W b o g e) n D A y F⟩
 self:=λ _ _ _ _ _ f h=>wpAny_pyIter_listiter f h
theorem zf7 {P:Program} {w:S0} {K:b0} {tg:Expr} (a it:Addr):Turn P w K tg (Itt K a) [it] it (λ i h=>h.IsTupleIter it a i) where
 mem:=by simp
 obj:=λ i h f b g=>by
  have e:b=it:=by simpa using g
  subst e;obtain ⟨o,e,c,d⟩:=f;exact ⟨o,e,λ v z=>by rw [d] at z;cases z⟩
 keep:=λ i h j f k=>f.at λ o e=>k it (by simp) o e
 item:=by intro X r hw D L i J s σ H E I l f B;subst r hw D;obtain ⟨V,x,m,t⟩:=B;obtain ⟨C,q,p,S⟩:=I.tuple m;obtain ⟨u,U,Q⟩:=q.get t;obtain ⟨n,F,R,A,y,G⟩:=l it (by simp);refine M8 f (show s.heap.IsTuple a C.toArray from p) (x:=u) (by simpa using U) λ j M N=>?_;have T:Inv X J σ H { s with heap:=j }:=I.turned (t':=s.toks) (λ b o g e=>(N.2 b g).trans e) n F A y G;obtain ⟨o,e,c,d⟩:=id M;exact ⟨u,rfl,go_of (s:={ s with heap:=j }) e c d (by decide) ⟨x,H,T,Q,⟨rfl,λ Z O=>by rw [I.tuple_inj O m];exact t⟩,M,λ b g=>(l b g).1⟩⟩
 done:=by intro X r hw D L i J s σ H E I l f B;subst r hw D;obtain ⟨V,m,t⟩:=B;obtain ⟨C,q,p,S⟩:=I.tuple m;obtain ⟨n,F,R,A,y,G⟩:=l it (by simp);have Y:=q.length;exact V8 (I.ok.hd L) f (show s.heap.IsTuple a C.toArray from p) (by simp;omega) λ j W=>⟨rfl,I.turned (t':=s.toks) (λ b o g e=>W b o g e) n F A y G⟩
 self:=λ _ _ _ _ _ f h=>wpAny_pyIter_tupleiter f h
theorem zf4 {P:Program} {w:S0} {K:b0} {tg:Expr} (it:Addr) (lo:Int) (n:Nat):Turn P w K tg (Itr lo n) [it] it (λ i h=>IsRangeIter h it (lo + (i:Nat) * 1) ((n:Int) - (i:Nat)) 1) where
 mem:=by simp
 obj:=λ i h a b c=>by
  have e:b=it:=by simpa using c
  subst e;exact ⟨_,a,λ v z=>by have J:j43 _=Data.cell v:=z;cases J⟩
 keep:=λ i h d a k=>k it (by simp) _ a
 item:=by intro X j hw r q i y s σ H E I f a p;subst j hw r;obtain ⟨g,u,F,m,l,x⟩:=f it (by simp);have W:=Walks.range (prog:=X.prog) (w:=X.w) (I.ok.hd q) it lo 1 n;refine W.item i s _ _ p a λ v d B D A C=>?_;obtain ⟨t,rfl⟩:=D;have G:Inv X y σ H { s with heap:=d,toks:=B }:=I.turned (λ b o c e=>C b o (by simpa using c) e) g u m l x;refine ⟨_,rfl,go_of (s:={ s with heap:=d,toks:=B }) (n:="range_iterator") A rfl rfl (by decide) ⟨.int (lo + i),H,G,⟨t,?_⟩,⟨rfl,rfl⟩,A,λ b c=>(f b c).1⟩⟩;rw [Int.mul_one]
 done:=by intro X j hw r q i y s σ H E I f a p;subst j hw r;obtain ⟨g,u,F,m,l,x⟩:=f it (by simp);exact wpAny_pyNext_range_end (I.ok.hd q) a (by have:n<=i:=p;omega) λ d L=>⟨rfl,I.turned (t':=s.toks) (λ b o c e=>L b o c e) g u m l x⟩
 self:=λ _ _ _ _ _ a h=>wpAny_pyIter_rangeiter a h
section
variable {X:Cx} {tg:Expr}
noncomputable def iList (K:b0) (tl:TE):TI:=λ σ H R=>tl σ H λ x H1=>∃a,x=.ref a/\(∃xs,SqL K H1 a xs)/\R (Itl K a) H1
noncomputable def iTup (K:b0) (tl:TE):TI:=λ σ H R=>tl σ H λ x H1=>∃a,x=.ref a/\(∃xs,SqT K H1 a xs)/\R (Itt K a) H1
theorem z16 {l:Expr} {tl:TE} (hl:PE X l tl):PI X tg l (iList X.K tl):=by
 intro d s σ H R I h;refine thn (hl d s σ H _ I h) λ v c ⟨x,H1,I1,r1,q1⟩=>?_;obtain ⟨a,e,⟨m,f⟩,q⟩:=q1;subst e;cases r1;obtain ⟨k,j,p,i⟩:=I1.list f;refine t8 p.isList ?_;refine ⟨c.heap.objs.size,[c.heap.objs.size],_,_,H1,rfl,I1.kept (t':=c.toks) λ b o e=>y0 _ e,zhq a _,⟨_,M0 _ rfl,rfl,rfl⟩,λ b g=>?_,q⟩;have e:b=c.heap.objs.size:=by simpa using g
 subst e;exact I1.fpOk (A0 _) (I1.hok.fresh (A0 _))
theorem pi_tup {l:Expr} {tl:TE} (hl:PE X l tl):PI X tg l (iTup X.K tl):=by
 intro d s σ H R I h;refine thn (hl d s σ H _ I h) λ v c ⟨x,H1,I1,r1,q1⟩=>?_;obtain ⟨a,e,⟨m,g⟩,q⟩:=q1;subst e;cases r1;obtain ⟨f,k,p,j⟩:=I1.tuple g;refine C4 (show c.heap.IsTuple a f.toArray from p) ?_;refine ⟨c.heap.objs.size,[c.heap.objs.size],_,_,H1,rfl,I1.kept (t':=c.toks) λ b o e=>y0 _ e,zf7 a _,⟨_,M0 _ rfl,rfl,rfl⟩,λ b i=>?_,q⟩;have e:b=c.heap.objs.size:=by simpa using i
 subst e;exact I1.fpOk (A0 _) (I1.hok.fresh (A0 _))
theorem zlz {pins:List (Addr×Obj)} {σ:St} {H:Hp} {s:u0} {R:It->Hp->Prop} {E:Value->u0->Prop} {lo hi:Int} {t u v:Tok} {tk:Nat} (I:Inv X pins σ H s) (h1:-(2 ^ 62)<=lo) (h2:lo < 2 ^ 62) (h3:-(2 ^ 62)<=hi) (h4:hi < 2 ^ 62)
  (q:R (Itr lo (hi - lo).toNat) H):L0 (X0 X.prog X.w) X.A (j33 (.ref s.heap.objs.size)) (PIE X pins σ tg R) E { s with heap:=s.heap.push { cls:=.type "range",data:=.fields #[.int lo t,.int hi u,.int 1 v] },toks:=tk }:=by
 refine wpAny_pyIter_range (IsRange.new ..) (small_one h1 h2 h3 h4) ?_;have a:Inv X pins σ H { s with heap:=s.heap.push { cls:=.type "range",data:=.fields #[.int lo t,.int hi u,.int 1 v] },toks:=tk }:=I.kept λ b o e=>y0 _ e;refine ⟨(s.heap.push { cls:=.type "range",data:=.fields #[.int lo t,.int hi u,.int 1 v] }).objs.size,[(s.heap.push { cls:=.type "range",data:=.fields #[.int lo t,.int hi u,.int 1 v] }).objs.size],_,_,H,rfl,
  a.kept (t':=tk) λ b o e=>y0 _ e,zf4 _ lo (hi - lo).toNat,?_,λ b d=>?_,q⟩
 ·have f:lo + ((0:Nat):Int) * 1=lo:=by simp
  have c:(((hi - lo).toNat:Nat):Int) - ((0:Nat):Int)=Builtin.Range.rangeSize lo hi 1:=by rw [rangeSize_one];split<;>omega
  show IsRangeIter _ _ (lo + ((0:Nat):Int) * 1) ((((hi - lo).toNat:Nat):Int) - ((0:Nat):Int)) 1;rw [f,c];exact M0 _ rfl
 ·have e:b=(s.heap.push { cls:=.type "range",data:=.fields #[.int lo t,.int hi u,.int 1 v] }).objs.size:=by simpa using d
  subst e;exact a.fpOk (A0 _) (a.hok.fresh (A0 _))
noncomputable def iRng1 (ta:TA):TI:=λ σ H R=>ta σ H λ vs H1=>∃j:Int,vs=[.int j]/\-(2 ^ 62)<=j/\j < 2 ^ 62/\R (Itr 0 j.toNat) H1
theorem z4e {a:Expr} {ta:TA} {p pos:Pos} (hg:Gl X "range") (hm:X.mg "range" = none) (ha:PA X [a] ta) (hs:A1 [a] X.env=[(false,d3 a X.env)]:=by rfl):PI X tg (.Call (.Name "range" p) [a] [] pos) (iRng1 ta):=by
 intro c s σ H R I h;refine Call_ (ld_blt I hg hm boot_range (j3 (thn (ha pos c s σ H _ I h) λ f g ⟨vs,H1,I1,r1,b⟩=>?_) hs rfl));obtain ⟨j,e,b,d,q⟩:=b;subst e;cases r1 with
 | cons r rr=>cases rr;obtain ⟨t,rfl⟩:=r;exact call_range_1 (zlz I1 (by omega) (by omega) b d (by simpa using q))
noncomputable def tFor (wi:TI) (g:TG) (tb:TS):TS:=λ D σ H=>wi σ H λ J H1=>∃W:Nat->Nat->St->Hp->Prop,(∃m,W 0 m σ H1)/\∀i m σ H,W i m σ H->
 (J.stop i H/\D.nx σ H)\/(J.go i H/\∃N:St->Hp->Prop,(∀σ' H',N σ' H'->∃m',m' < m/\W (i + 1) m' σ' H')/\∀x H',J.yld i H x H'->g x σ H' λ σ2 H2=>tb { D with nx:=N,ct:=N,bk:=D.nx } σ2 H2)
noncomputable def pinsAt (fp:List Addr) (h:Heap):List (Addr×Obj):=fp.filterMap λ b=>(h.get? b).map λ o=>(b,o)
theorem z4b {fp:List Addr} {h:Heap} {b:Addr} {o:Obj} (hb:b∈fp) (e:h.get? b=some o):(b,o)∈pinsAt fp h:=List.mem_filterMap.mpr ⟨b,hb,by rw [e];rfl⟩
theorem zdh {fp:List Addr} {h:Heap} {p:Addr×Obj} (hp:p∈pinsAt fp h):p.1∈fp/\h.get? p.1=some p.2:=by
 obtain ⟨b,c,e⟩:=List.mem_filterMap.mp hp;cases q:h.get? b with
 | none=>rw [q] at e;cases e
 | some o=>rw [q] at e;have a:(b,o)=p:=J1 e;subst a;exact ⟨c,q⟩
theorem Inv.pinned {pins:List (Addr×Obj)} {σ:St} {H:Hp} {s:u0} {fp:List Addr} (I:Inv X pins σ H s) (hf :∀b∈fp,FpOk X pins H b) (ho :∀b∈fp,∃o,s.heap.get? b=some o/\∀v,o.data≠.cell v):Inv X (pins++pinsAt fp s.heap) σ H s:=
 I.pins_of λ p h=>(List.mem_append.mp h).elim (λ z=>I.pin p (D1 _ z)) λ z=>by obtain ⟨a,e⟩:=zdh z;obtain ⟨i,f,g,_⟩:=hf p.1 a;obtain ⟨o,c,d⟩:=ho p.1 a;rw [e] at c;cases c;exact ⟨e,i,f,g,d⟩
theorem Inv.unpinned {pins pl:List (Addr×Obj)} {σ:St} {H:Hp} {s:u0} (I:Inv X (pins++pl) σ H s):Inv X pins σ H s:=I.pins_of λ p a=>I.pin p (D1 _ (U6 _ a))
theorem ps_for {iter:Expr} {body:List Stmt} {wi:TI} {g:TG} {tb:TS} {pos:Pos} (hp:PassesOwn (X0 X.prog X.w) X.A X.env X.xe) (hc:X.calm=true) (hi:PI X tg iter wi) (hg:PG X tg g) (hb:PSs X body tb)
  (hs :∀x,P5 iter X.env x=V2 x:=by intro _;rfl):PS X (.For tg iter body [] pos) (tFor wi g tb):=by
 intro l s σ H D I h;refine wpAny_For (thn (hi l s σ H _ I h) λ v s1 K=>thn K λ a2 s2 Z=>?_) hs;obtain ⟨it,q,z,J,H2,e,S,T,a1,E,W,⟨L,w0⟩,Y⟩:=Z;subst e
 -- what stays true of the iterator's objects through the loop
 have t :∀{H':Hp},(∀b∈q,H' b=none)->∀b∈q,FpOk X l H' b:=λ hn b hb=>⟨hn b hb,(E b hb).2⟩
 refine codeAny_forLoop_any (λ n F=>∃i σ' H',Inv X l σ' H' F/\z i F.heap/\(∀b∈q,H' b=none)/\W i n σ' H') ?_ L ⟨0,σ,H2,S,a1,λ b hb=>(E b hb).1,w0⟩;rintro n C ⟨i,σ3,H3,I3,st3,fr3,w3⟩;rcases Y i n σ3 H3 w3 with ⟨a0,qn⟩|⟨go,N,hN,step⟩
 ·refine G5 hp (thn (T.done X rfl rfl rfl hc i l C σ3 H3 X.xe I3 (t fr3) st3 a0) λ r Q ⟨hr,I4⟩=>?_);subst hr;exact d9 ⟨σ3,H3,I4,qn⟩
 ·refine G5 hp (thn (T.item X rfl rfl rfl hc i l C σ3 H3 X.xe I3 (t fr3) st3 go) λ r Q ⟨u,hr,h4⟩=>?_);subst hr;refine G5 hp (thn h4 λ _ B ⟨x,H5,I5,r5,y5,st5,fr5⟩=>?_);have P:=I5.pinned (t fr5) (T.obj _ _ st5);refine G5 hp (thn (hg _ B σ3 H5 x u _ P r5 (step x H5 y5)) λ _ M ⟨σ6,H6,I6,q6⟩=>?_);refine G5 hp (thn (hb _ M σ6 H6 _ I6 q6) λ f y k=>?_);have G :∀{j:St} {c:Hp},Inv X (l++pinsAt q B.heap) j c y->N j c->∃m,m < n/\∃i σ' H',Inv X l σ' H' y/\z i y.heap/\(∀b∈q,H' b=none)/\W i m σ' H':=λ {j c} a p=>by obtain ⟨U,O,R⟩:=hN j c p;refine ⟨U,O,i + 1,j,c,a.unpinned,T.keep _ _ _ st5 λ b hb o e=>(a.pin (b,o) (D1 _ (D1 _ (z4b hb e)))).1,λ b hb=>?_,R⟩;obtain ⟨o,e,d⟩:=T.obj _ _ st5 b hb;exact (a.pin (b,o) (D1 _ (D1 _ (z4b hb e)))).2.1
  cases f with
  | next=>obtain ⟨j,c,a,p⟩:=k;exact G a p
  | cont=>obtain ⟨j,c,a,p⟩:=k;exact G a p
  | brk=>obtain ⟨j,c,a,k⟩:=k;exact ⟨j,c,a.unpinned,k⟩
  | ret v=>obtain ⟨V,j,c,a,r7,k⟩:=k;exact ⟨V,j,c,a.unpinned,r7,k⟩
end
theorem z3y {K:b0} {a:Addr} {xs:List V} {g:TG} {tb:TS} {D:Ends} {σ:St} {H:Hp} (Pv:Nat->St->Hp->Prop) (h0:Pv 0 σ H) (hl :∀i σ H,i<=xs.length->Pv i σ H->SqL K H a xs)
  (hs :∀i x σ H,xs[i]? = some x->Pv i σ H->g x σ H λ σ2 H2=>tb { D with nx:=Pv (i + 1),ct:=Pv (i + 1),bk:=D.nx } σ2 H2) (hd :∀σ H,Pv xs.length σ H->D.nx σ H) :
  ∃W:Nat->Nat->St->Hp->Prop,(∃m,W 0 m σ H)/\∀i m σ H,W i m σ H->
   ((Itl K a).stop i H/\D.nx σ H)\/((Itl K a).go i H/\∃N:St->Hp->Prop,(∀σ' H',N σ' H'->∃m',m' < m/\W (i + 1) m' σ' H')/\∀x H',(Itl K a).yld i H x H'->g x σ H' λ σ2 H2=>tb { D with nx:=N,ct:=N,bk:=D.nx } σ2 H2):=by
 refine ⟨λ i m σ H=>m=xs.length - i/\i<=xs.length/\Pv i σ H,⟨xs.length,by simp,X1 _,h0⟩,?_⟩;rintro i m σ H ⟨rfl,hi,p⟩;have q:=hl i σ H hi p;by_cases hlt:i < xs.length
 ·refine .inr ⟨⟨xs,xs[i],q,by simp [hlt]⟩,Pv (i + 1),λ σ' H' b=>⟨xs.length - (i + 1),by omega,rfl,hlt,b⟩,λ x H' y=>?_⟩;obtain ⟨e,y⟩:=y;subst e;exact hs i x σ _ (y xs q) p
 ·have e:i=xs.length:=by omega
  subst e;exact .inl ⟨⟨xs,q,A0 _⟩,hd σ H p⟩
theorem zmx {K:b0} {a:Addr} {xs:List V} {g:TG} {tb:TS} {D:Ends} {σ:St} {H:Hp} (Pv:Nat->St->Hp->Prop) (h0:Pv 0 σ H) (hl :∀i σ H,i<=xs.length->Pv i σ H->SqT K H a xs)
  (hs :∀i x σ H,xs[i]? = some x->Pv i σ H->g x σ H λ σ2 H2=>tb { D with nx:=Pv (i + 1),ct:=Pv (i + 1),bk:=D.nx } σ2 H2) (hd :∀σ H,Pv xs.length σ H->D.nx σ H) :
  ∃W:Nat->Nat->St->Hp->Prop,(∃m,W 0 m σ H)/\∀i m σ H,W i m σ H->
   ((Itt K a).stop i H/\D.nx σ H)\/((Itt K a).go i H/\∃N:St->Hp->Prop,(∀σ' H',N σ' H'->∃m',m' < m/\W (i + 1) m' σ' H')/\∀x H',(Itt K a).yld i H x H'->g x σ H' λ σ2 H2=>tb { D with nx:=N,ct:=N,bk:=D.nx } σ2 H2):=by
 refine ⟨λ i m σ H=>m=xs.length - i/\i<=xs.length/\Pv i σ H,⟨xs.length,by simp,X1 _,h0⟩,?_⟩;rintro i m σ H ⟨rfl,hi,p⟩;have q:=hl i σ H hi p;by_cases hlt:i < xs.length
 ·refine .inr ⟨⟨xs,xs[i],q,by simp [hlt]⟩,Pv (i + 1),λ σ' H' b=>⟨xs.length - (i + 1),by omega,rfl,hlt,b⟩,λ x H' y=>?_⟩;obtain ⟨e,y⟩:=y;subst e;exact hs i x σ _ (y xs q) p
 ·have e:i=xs.length:=by omega
  subst e;exact .inl ⟨⟨xs,q,A0 _⟩,hd σ H p⟩
theorem z5k {lo:Int} {n:Nat} {g:TG} {tb:TS} {D:Ends} {σ:St} {H:Hp} (Pv:Nat->St->Hp->Prop) (h0:Pv 0 σ H)
  (hs :∀i σ H,i < n->Pv i σ H->g (.int (lo + i)) σ H λ σ2 H2=>tb { D with nx:=Pv (i + 1),ct:=Pv (i + 1),bk:=D.nx } σ2 H2) (hd :∀σ H,Pv n σ H->D.nx σ H) :
  ∃W:Nat->Nat->St->Hp->Prop,(∃m,W 0 m σ H)/\∀i m σ H,W i m σ H->
   ((Itr lo n).stop i H/\D.nx σ H)\/((Itr lo n).go i H/\∃N:St->Hp->Prop,(∀σ' H',N σ' H'->∃m',m' < m/\W (i + 1) m' σ' H')/\∀x H',(Itr lo n).yld i H x H'->g x σ H' λ σ2 H2=>tb { D with nx:=N,ct:=N,bk:=D.nx } σ2 H2):=by
 refine ⟨λ i m σ H=>m=n - i/\i<=n/\Pv i σ H,⟨n,by simp,X1 _,h0⟩,?_⟩;rintro i m σ H ⟨rfl,hi,p⟩;by_cases hlt:i < n
 ·refine .inr ⟨hlt,Pv (i + 1),λ σ' H' a=>⟨n - (i + 1),by omega,rfl,hlt,a⟩,λ x H' y=>?_⟩;obtain ⟨e,y⟩:=y;subst e y;exact hs i σ _ hlt p
 ·have e:i=n:=by omega
  subst e;exact .inl ⟨A0 _,hd σ H p⟩
noncomputable abbrev R2:=V->V->Hp->VK->Prop
def OpR (X:Cx) (f:Value->Value->Sem Value) (r:R2):Prop:=
 ∀(pins:List (Addr×Obj)) (s:u0) (σ:St) (H:Hp) (x y:V) (v u:Value) (Q:VK),Inv X pins σ H s->RelV x v->RelV y u->r x y H Q->
  L0 (X0 X.prog X.w) X.A (f v u) (EP X pins σ Q) X.xe s
def UnR (X:Cx) (f:Value->Sem Value) (r:V->Hp->VK->Prop):Prop:=
 ∀(pins:List (Addr×Obj)) (s:u0) (σ:St) (H:Hp) (x:V) (v:Value) (Q:VK),Inv X pins σ H s->RelV x v->r x H Q->
  L0 (X0 X.prog X.w) X.A (f v) (EP X pins σ Q) X.xe s
def CallR (X:Cx) (f:Value) (r:List V->Hp->VK->Prop):Prop:=
 ∀(pins:List (Addr×Obj)) (s:u0) (σ:St) (H:Hp) (xs:List V) (us:List Value) (Q:VK),Inv X pins σ H s->Vals xs us->r xs H Q->
  L0 (X0 X.prog X.w) X.A (call f us) (EP X pins σ Q) X.xe s
noncomputable def tOp (r:R2) (ta tb:TE):TE:=λ σ H Q=>ta σ H λ x H1=>tb σ H1 λ y H2=>r x y H2 Q
noncomputable def tUn (r:V->Hp->VK->Prop) (ta:TE):TE:=λ σ H Q=>ta σ H λ x H1=>r x H1 Q
noncomputable def rI (C:Int->Int->Prop) (g:Int->Int->V):R2:=λ x y H Q=>∃i j,x=.int i/\y=.int j/\C i j/\Q (g i j) H
noncomputable def rI0 (g:Int->Int->V):R2:=λ x y H Q=>∃i j,x=.int i/\y=.int j/\Q (g i j) H
def rU (g:Int->V):V->Hp->VK->Prop:=λ x H Q=>∃i,x=.int i/\Q (g i) H
section
variable {X:Cx} {a b c:Expr} {ta tb tc:TE} {pos:Pos}
theorem binT (ha:PE X a ta) (hb:PE X b tb) {pins:List (Addr×Obj)} {s:u0} {σ:St} {H:Hp} {R:V->V->Hp->Prop} (I:Inv X pins σ H s)
  (h:ta σ H λ x H1=>tb σ H1 λ y H2=>R x y H2) {Q:Value->u0->Prop} {f:Value->Value->Sem Value}
  (hf :∀v u s2 x y H2,Inv X pins σ H2 s2->RelV x v->RelV y u->R x y H2->L0 (X0 X.prog X.w) X.A (f v u) Q X.xe s2) :
  L0 (X0 X.prog X.w) X.A (d3 a X.env) (λ v s₁=>L0 (X0 X.prog X.w) X.A (d3 b X.env) (λ u s₂=>L0 (X0 X.prog X.w) X.A (f v u) Q X.xe s₂) X.xe s₁) X.xe s:=by
 refine thn (ha pins s σ H _ I h) λ v c ⟨x,H1,I1,r1,q1⟩=>?_;refine thn (hb pins c σ H1 _ I1 q1) λ u s2 ⟨y,H2,I2,r2,q2⟩=>?_;exact hf v u s2 x y H2 I2 r1 r2 q2
theorem pe_op {op:Operator} {r:R2} (ho:OpR X (P4 op) r) (ha:PE X a ta) (hb:PE X b tb):PE X (.BinOp a op b pos) (tOp r ta tb):=by intro i s σ H Q I h;exact wpAny_BinOp (binT ha hb I h λ v u c x y f g d e q=>ho i c σ f x y v u Q g d e q)
theorem pe_un {op:UnaryOp} {r:V->Hp->VK->Prop} (ho:UnR X (unaryOp op) r) (ha:PE X a ta):PE X (.UnaryOp op a pos) (tUn r ta):=by intro b s σ H Q I h;exact UnaryOp_ (thn (ha b s σ H _ I h) λ v c ⟨x,H1,I1,r1,q1⟩=>ho b c σ H1 x v Q I1 r1 q1)
theorem opI {f:Value->Value->Sem Value} {C:Int->Int->Prop} {g:Int->Int->Int}
  (rule :∀(i j:Int) (t u:Tok) (s:u0) (Q:Value->u0->Prop) (E:Value->u0->Prop),C i j->Q (.int (g i j) s.toks) { s with toks:=s.toks + 1 }->L0 (X0 X.prog X.w) X.A (f (.int i t) (.int j u)) Q E s) :
  OpR X f (rI C λ i j=>.int (g i j)):=by
 intro e s σ H x y v u Q I c d h;obtain ⟨i,j,rfl,rfl,b,q⟩:=h;obtain ⟨t,rfl⟩:=c;obtain ⟨a,rfl⟩:=d;exact rule i j t a s _ _ b ⟨.int (g i j),H,I.tok _,⟨_,rfl⟩,q⟩
theorem opI0 {f:Value->Value->Sem Value} {g:Int->Int->Int}
  (rule :∀(i j:Int) (t u:Tok) (s:u0) (Q:Value->u0->Prop) (E:Value->u0->Prop),Q (.int (g i j) s.toks) { s with toks:=s.toks + 1 }->L0 (X0 X.prog X.w) X.A (f (.int i t) (.int j u)) Q E s) :
  OpR X f (rI0 λ i j=>.int (g i j)):=by
 intro d s σ H x y v u Q I b c h;obtain ⟨i,j,rfl,rfl,q⟩:=h;obtain ⟨t,rfl⟩:=b;obtain ⟨a,rfl⟩:=c;exact rule i j t a s _ _ ⟨.int (g i j),H,I.tok _,⟨_,rfl⟩,q⟩
theorem opB0 {f:Value->Value->Sem Value} {g:Int->Int->Bool}
  (rule :∀(i j:Int) (t u:Tok) (s:u0) (Q:Value->u0->Prop) (E:Value->u0->Prop),Q (.bool (g i j)) s->L0 (X0 X.prog X.w) X.A (f (.int i t) (.int j u)) Q E s) :
  OpR X f (rI0 λ i j=>.bl (g i j)):=by
 intro d s σ H x y v u Q I b c h;obtain ⟨i,j,rfl,rfl,q⟩:=h;obtain ⟨t,rfl⟩:=b;obtain ⟨a,rfl⟩:=c;exact rule i j t a s _ _ ⟨.bl (g i j),H,I,rfl,q⟩
def CPow (i j:Int):Prop:=0<=j/\j<=1000000/\i.natAbs < 2 ^ 64
def CMul (i j:Int):Prop:=(-(2 ^ 64) < i/\i < 2 ^ 64)\/(-(2 ^ 64) < j/\j < 2 ^ 64)
theorem CMul.ok {i j:Int} (h:CMul i j):IntMulOk i j:=by
 rcases h with ⟨a,b⟩|⟨a,b⟩
 ·exact .of_left (intBits_le_64 a b)
 ·exact .of_right (intBits_le_64 a b)
theorem op_add:OpR X (P4 .Add) (rI0 λ i j=>.int (i + j)):=opI0 λ _ _ _ _ _ _ _ q=>add_int q
theorem op_sub:OpR X (P4 .Sub) (rI0 λ i j=>.int (i - j)):=opI0 λ _ _ _ _ _ _ _ q=>sub_int q
theorem op_mul:OpR X (P4 .Mult) (rI CMul λ i j=>.int (i * j)):=opI λ _ _ _ _ _ _ _ a q=>mul_int q a.ok
theorem op_mod:OpR X (P4 .Mod) (rI (λ _ j=>0 < j) λ i j=>.int (i % j)):=opI λ i j _ _ _ _ _ a q=>by have b:(0:Int) < j:=a;exact mod_int' (by omega) (by rw [Int.fmod_eq_emod_of_nonneg i (by omega)];exact q)
theorem op_pow:OpR X (P4 .Pow) (rI CPow λ i j=>.int (i ^ j.toNat)):=opI λ _ _ _ _ _ _ _ a q=>pow_int_small a.1 a.2.1 a.2.2 q
theorem unI {f:Value->Sem Value} {g:Int->Int}
  (rule :∀(i:Int) (t:Tok) (s:u0) (Q:Value->u0->Prop) (E:Value->u0->Prop),Q (.int (g i) s.toks) { s with toks:=s.toks + 1 }->L0 (X0 X.prog X.w) X.A (f (.int i t)) Q E s) :
  UnR X f (rU λ i=>.int (g i)):=by
 intro b s σ H x v Q I a h;obtain ⟨i,rfl,q⟩:=h;obtain ⟨t,rfl⟩:=a;exact rule i t s _ _ ⟨.int (g i),H,I.tok _,⟨_,rfl⟩,q⟩
theorem un_neg:UnR X (unaryOp .USub) (rU λ i=>.int (-i)):=unI λ _ _ _ _ _ q=>neg_int q
end
noncomputable def scal:V->V->Bool
 | .non,.non=>true | .non,.int _=>true | .int _,.non=>true | .non,.bl _=>true | .bl _,.non=>true | .non,.str _=>true | .str _,.non=>true
 | .int _,.int _=>true | .bl _,.bl _=>true | .str _,.str _=>true | .byt _,.byt _=>true
 | .int _,.str _=>true | .str _,.int _=>true | .bl _,.str _=>true | .str _,.bl _=>true
 | _,_=>false
noncomputable def rEq:R2:=λ x y H Q=>scal x y=true/\Q (.bl (decide (x=y))) H
noncomputable def rNe:R2:=λ x y H Q=>scal x y=true/\Q (.bl (!decide (x=y))) H
theorem zk0 {i j:Int}:decide (V.int i=V.int j)=(i == j):=by rw [Bool.eq_iff_iff];simp
theorem dec_bl {i j:Bool}:decide (V.bl i=V.bl j)=(i == j):=by rw [Bool.eq_iff_iff];simp
theorem zk6 {i j:Str}:decide (V.str i=V.str j)=(i == j):=by rw [Bool.eq_iff_iff];simp
theorem zjl {i j:Array UInt8}:decide (V.byt i=V.byt j)=(i.toList == j.toList):=by rw [Bool.eq_iff_iff];cases i;cases j;simp
section
variable {X:Cx} {a b c:Expr} {ta tb tc:TE} {pos:Pos}
theorem fin_bl {pins:List (Addr×Obj)} {σ:St} {H:Hp} {s:u0} {Q:VK} {k k':Bool} (I:Inv X pins σ H s) (q:Q (.bl k) H) (e:k=k'):EP X pins σ Q (.bool k') s:=by subst e;exact ⟨.bl k,H,I,rfl,q⟩
theorem op_eq:OpR X (j2 .Eq) rEq:=by
 intro e s σ H x y v u Q I d a h;obtain ⟨c,q⟩:=h;cases x with
 | non=>
  cases d;cases y with
  | non=>cases a;exact PySem.EqNone.eq_none_none (fin_bl I q (by simp))
  | bl j=>cases a;exact PySem.EqNone.eq_none_bool (fin_bl I q (by simp))
  | int j=>obtain ⟨b,rfl⟩:=a;exact PySem.EqNone.eq_none_int (fin_bl I q (by simp))
  | str j=>obtain ⟨b,rfl⟩:=a;exact PySem.EqNone.eq_none_str (fin_bl I q (by simp))
  | _=>exact absurd (show false=true from c) P0
 | bl i=>
  cases d;cases y with
  | non=>cases a;exact PySem.EqNone.eq_bool_none (fin_bl I q (by simp))
  | bl j=>cases a;exact eq_bool (fin_bl I q dec_bl)
  | str j=>obtain ⟨b,rfl⟩:=a;exact PySem.EqMixed.eq_bool_str (fin_bl I q (by simp))
  | _=>exact absurd (show false=true from c) P0
 | int i=>
  obtain ⟨t,rfl⟩:=d;cases y with
  | non=>cases a;exact PySem.EqNone.eq_int_none (fin_bl I q (by simp))
  | int j=>obtain ⟨b,rfl⟩:=a;exact eq_int (fin_bl I q zk0)
  | str j=>obtain ⟨b,rfl⟩:=a;exact PySem.EqMixed.eq_int_str (fin_bl I q (by simp))
  | _=>exact absurd (show false=true from c) P0
 | str i=>
  obtain ⟨t,rfl⟩:=d;cases y with
  | non=>cases a;exact PySem.EqNone.eq_str_none (fin_bl I q (by simp))
  | bl j=>cases a;exact PySem.EqMixed.eq_str_bool (fin_bl I q (by simp))
  | int j=>obtain ⟨b,rfl⟩:=a;exact PySem.EqMixed.eq_str_int (fin_bl I q (by simp))
  | str j=>obtain ⟨b,rfl⟩:=a;exact eq_str (fin_bl I q zk6)
  | _=>exact absurd (show false=true from c) P0
 | byt i=>
  obtain ⟨t,rfl⟩:=d;cases y with
  | byt j=>obtain ⟨b,rfl⟩:=a;exact PySem.W.eq_bytes (fin_bl I q zjl)
  | _=>exact absurd (show false=true from c) P0
 | _=>cases y<;>exact absurd (show false=true from c) P0
theorem op_ne:OpR X (j2 .NotEq) rNe:=by
 intro e s σ H x y v u Q I d a h;obtain ⟨c,q⟩:=h;cases x with
 | non=>
  cases d;cases y with
  | non=>cases a;exact PySem.EqNone.ne_none_none (fin_bl I q (by simp))
  | bl j=>cases a;exact PySem.EqNone.ne_none_bool (fin_bl I q (by simp))
  | int j=>obtain ⟨b,rfl⟩:=a;exact PySem.EqNone.ne_none_int (fin_bl I q (by simp))
  | str j=>obtain ⟨b,rfl⟩:=a;exact PySem.EqNone.ne_none_str (fin_bl I q (by simp))
  | _=>exact absurd (show false=true from c) P0
 | bl i=>
  cases d;cases y with
  | non=>cases a;exact PySem.EqNone.ne_bool_none (fin_bl I q (by simp))
  | bl j=>cases a;exact ne_bool (fin_bl I q (congrArg not dec_bl))
  | str j=>obtain ⟨b,rfl⟩:=a;exact PySem.EqMixed.ne_bool_str (fin_bl I q (by simp))
  | _=>exact absurd (show false=true from c) P0
 | int i=>
  obtain ⟨t,rfl⟩:=d;cases y with
  | non=>cases a;exact PySem.EqNone.ne_int_none (fin_bl I q (by simp))
  | int j=>obtain ⟨b,rfl⟩:=a;exact ne_int (fin_bl I q (congrArg not zk0))
  | str j=>obtain ⟨b,rfl⟩:=a;exact PySem.EqMixed.ne_int_str (fin_bl I q (by simp))
  | _=>exact absurd (show false=true from c) P0
 | str i=>
  obtain ⟨t,rfl⟩:=d;cases y with
  | non=>cases a;exact PySem.EqNone.ne_str_none (fin_bl I q (by simp))
  | bl j=>cases a;exact PySem.EqMixed.ne_str_bool (fin_bl I q (by simp))
  | int j=>obtain ⟨b,rfl⟩:=a;exact PySem.EqMixed.ne_str_int (fin_bl I q (by simp))
  | str j=>obtain ⟨b,rfl⟩:=a;exact ne_str (fin_bl I q (congrArg not zk6))
  | _=>exact absurd (show false=true from c) P0
 | byt i=>
  obtain ⟨t,rfl⟩:=d;cases y with
  | byt j=>obtain ⟨b,rfl⟩:=a;exact PySem.W.ne_bytes (fin_bl I q (congrArg not zjl))
  | _=>exact absurd (show false=true from c) P0
 | _=>cases y<;>exact absurd (show false=true from c) P0
theorem op_lt:OpR X (j2 .Lt) (rI0 λ i j=>.bl (decide (i < j))):=opB0 λ _ _ _ _ _ _ _ q=>lt_int q
theorem op_le:OpR X (j2 .LtE) (rI0 λ i j=>.bl (decide (i<=j))):=opB0 λ _ _ _ _ _ _ _ q=>le_int q
theorem op_gt:OpR X (j2 .Gt) (rI0 λ i j=>.bl (decide (j < i))):=opB0 λ _ _ _ _ _ _ _ q=>gt_int q
theorem op_isN:OpR X (j2 .Is) (λ x y H Q=>y=.non/\Q (.bl (decide (x=.non))) H):=by
 intro c s σ H x y v u Q I a b h;obtain ⟨rfl,q⟩:=h;cases b;refine is_none_gen (fin_bl I q ?_);cases x<;>first
  | (cases a;rfl)
  | (obtain ⟨t,rfl⟩:=a;rfl)
theorem z7y:OpR X (j2 .IsNot) (λ x y H Q=>y=.non/\Q (.bl (!decide (x=.non))) H):=by
 intro c s σ H x y v u Q I a b h;obtain ⟨rfl,q⟩:=h;cases b;refine isnot_none_gen (fin_bl I q ?_);cases x<;>first
  | (cases a;rfl)
  | (obtain ⟨t,rfl⟩:=a;rfl)
theorem OpR.or {f:Value->Value->Sem Value} {r r':R2} (h:OpR X f r) (h':OpR X f r'):OpR X f (λ x y H Q=>r x y H Q\/r' x y H Q):=by
 intro c s σ H x y v u Q I a b q;rcases q with q|q
 ·exact h c s σ H x y v u Q I a b q
 ·exact h' c s σ H x y v u Q I a b q
theorem nomark (b:Expr) {op:CmpOp} (h:op≠.In:=by decide) (h2:op≠.NotIn:=by decide):B8 op b=false:=by
 have c:(op == CmpOp.In)=false:=by cases op<;>first|rfl|exact absurd rfl h
 have a:(op == CmpOp.NotIn)=false:=by cases op<;>first|rfl|exact absurd rfl h2
 cases b<;>simp [B8,c,a]
theorem z0v {op:CmpOp} {r:R2} (ho:OpR X (j2 op) r) (ha:PE X a ta) (hb:PE X b tb) (hm:B8 op b=false):PE X (.Compare a [op] [b] pos) (tOp r ta tb):=by intro i s σ H Q I h;exact wpAny_Compare1 (binT ha hb I h λ v u c x y f g d e q=>ho i c σ f x y v u Q g d e q) hm
noncomputable def tTest (t:TE):TT:=λ σ H Q=>t σ H λ x H'=>∃k,x=.bl k/\Q k H'
theorem z08 {op:CmpOp} {r:R2} (ho:OpR X (j2 op) r) (ha:PE X a ta) (hb:PE X b tb) (hm:B8 op b=false):PT X (.Compare a [op] [b] pos) (tTest (tOp r ta tb)):=by
 intro d s σ H Q I h;refine wpAny_isTrue_Compare1 (thn (ha d s σ H _ I h) λ v g ⟨x,H1,I1,r1,q1⟩=>thn (hb d g σ H1 _ I1 q1) λ u f ⟨y,H2,I2,r2,q2⟩=>thn (ho d f σ H2 x y v u _ I2 r1 r2 q2) λ c i ⟨z,H3,I3,r3,k,e,q3⟩=>?_) hm;subst e;cases r3;exact u3 ⟨H3,I3,q3⟩
noncomputable def tChain (r r':R2) (ta tb tc:TE):TE:=λ σ H Q=>ta σ H λ x H1=>tb σ H1 λ y H2=>r x y H2 λ z H3=>∃k,z=.bl k/\
 (if k=true then tc σ H3 λ w' H4=>r' y w' H4 Q else Q (.bl false) H3)
theorem zkv {op op':CmpOp} {r r':R2} (ho:OpR X (j2 op) r) (ho':OpR X (j2 op') r') (ha:PE X a ta) (hb:PE X b tb) (hc:PE X c tc)
  (hm:lastMarks [op,op'] [b,c]=false:=by with_unfolding_all rfl):PE X (.Compare a [op,op'] [b,c] pos) (tChain r r' ta tb tc):=by
 intro f s σ H Q I h;refine Compare_chain (thn (ha f s σ H _ I h) λ v i ⟨x,H1,I1,r1,q1⟩=>chain_link (thn (hb f i σ H1 _ I1 q1) λ u g ⟨y,H2,I2,r2,q2⟩=>thn (ho f g σ H2 x y v u _ I2 r1 r2 q2) λ d j ⟨z,H3,I3,r3,k,e,q3⟩=>?_)) hm;subst e;cases r3;refine u3 ?_;cases k with
 | false=>exact ite_ff ⟨.bl false,H3,I3,rfl,q3⟩
 | true=>exact ite_tt (chain_last (thn (hc f j σ H3 _ I3 q3) λ l m ⟨z',H4,I4,r4,q4⟩=>ho' f m σ H4 y z' u l Q I4 r2 r4 q4))
theorem zki {op op':CmpOp} {r r':R2} (ho:OpR X (j2 op) r) (ho':OpR X (j2 op') r') (ha:PE X a ta) (hb:PE X b tb) (hc:PE X c tc)
  (hm:lastMarks [op,op'] [b,c]=false:=by with_unfolding_all rfl):PT X (.Compare a [op,op'] [b,c] pos) (tTest (tChain r r' ta tb tc)):=by
 intro f s σ H Q I h;refine isTrue_chain (thn (ha f s σ H _ I h) λ v l ⟨x,H1,I1,r1,q1⟩=>test_link (thn (hb f l σ H1 _ I1 q1) λ u g ⟨y,H2,I2,r2,q2⟩=>thn (ho f g σ H2 x y v u _ I2 r1 r2 q2) λ d m ⟨z,H3,I3,r3,k,e,q3⟩=>?_)) hm;subst e;cases r3;refine u3 ?_;cases k with
 | false=>obtain ⟨t,n,o⟩:=q3;cases n;exact ite_ff ⟨H3,I3,o⟩
 | true=>refine ite_tt (test_last (thn (hc f m σ H3 _ I3 q3) λ i j ⟨z',H4,I4,r4,q4⟩=>thn (ho' f j σ H4 y z' u i _ I4 r2 r4 q4) λ q p ⟨z2,H5,I5,r5,k2,e2,q5⟩=>?_));subst e2;cases r5;exact u3 ⟨H5,I5,q5⟩
theorem line63:(sizeLine:Nat) < 2 ^ 63:=by rw [j1f];decide
theorem op_add_str:OpR X (P4 .Add) (λ x y H Q=>∃i j,x=.str i/\y=.str j/\i.length + j.length<=sizeLine/\Q (.str (i++j)) H):=by intro f s σ H x y v u Q I b c h;obtain ⟨i,j,rfl,rfl,d,q⟩:=h;obtain ⟨t,rfl⟩:=b;obtain ⟨a,rfl⟩:=c;exact add_str (λ a e=>⟨.str (i++j),H,I.tok _,⟨_,rfl⟩,q⟩) d
theorem vals1 {x:V} {us:List Value} (r:Vals [x] us) :∃u,us=[u]/\RelV x u:=by
 cases r with
 | cons r1 r2=>cases r2;exact ⟨_,rfl,r1⟩
theorem vals2 {x y:V} {us:List Value} (r:Vals [x,y] us) :∃u w',us=[u,w']/\RelV x u/\RelV y w':=by
 cases r with
 | cons r1 r2=>
  cases r2 with
  | cons r3 r4=>cases r4;exact ⟨_,_,rfl,r1,r3⟩
theorem call_int1:CallR X (.type "int") (λ xs H Q=>(∃i,xs=[.int i]/\Q (.int i) H)\/∃k,xs=[.bl k]/\Q (.int (if k then 1 else 0)) H):=by
 intro c s σ H xs b Q I r h;rcases h with ⟨i,rfl,q⟩|⟨k,rfl,q⟩
 ·obtain ⟨u,rfl,t,rfl⟩:=vals1 r;exact call_int_int ⟨.int i,H,I,⟨_,rfl⟩,q⟩
 ·obtain ⟨u,rfl,a⟩:=vals1 r;cases a;exact call_int_bool ⟨.int (if k then 1 else 0),H,I.tok _,⟨_,rfl⟩,q⟩
end
structure ObjM (h:Heap) (x dx C:Addr) (mA:Str->Option Value):Prop where
 obj:h.get? x=some (A4 C dx)
 ns:h.Ns1 dx mA
 ne:dx≠x
theorem zj1 {h:Heap} {dx:Addr} {mA:Str->Option Value} (n:h.Ns1 dx mA) :∃od,h.get? dx=some od/\∀name,C8 name od=some (mA name):=by
 obtain ⟨o,b,l,g,c,j,_,i⟩:=n;refine ⟨o,g,λ name=>?_⟩;have e:=i name;unfold nsFind findBy at e;rw [<-Array.find?_toList] at e;unfold C8;rw [c];dsimp only;split
 ·rename_i y q;rw [q] at e;exact congrArg some e
 ·rename_i q;rw [q] at e;have a:b.toList.any (·.refKey)=false:=by rw [List.any_eq_false];intro y f;obtain ⟨z,t,k⟩:=j y (Array.mem_toList_iff.mp f);simp [DictEntry.refKey,k]
  have d:¬ b.toList.any (·.refKey)=true:=by rw [a];exact P0
  rw [if_neg d];exact congrArg some e
theorem ObjM.look {h:Heap} {x dx C:Addr} {mA:Str->Option Value} (I:ObjM h x dx C mA) :∃od,PySem.W.InstAt h x (A4 C dx) C (some od)/\∀name,C8 name od=some (mA name):=
 let ⟨od,ho,hl⟩:=zj1 I.ns
 ⟨od,⟨I.obj,rfl,rfl,ho⟩,hl⟩
section
variable {prog:Program} {w:S0} {A:L1} {E:Value->u0->Prop} {s:u0} {K:b0} {x dx C f:Addr} {mA:Str->Option Value} {name:Str} {v:Value}
theorem znf {expr:Bool} {Q:Value->u0->Prop} (X:K.In s.heap) (I:ObjM s.heap x dx C mA) (hg:P7 K C name=true) (hh:u9 K C=true)
  (ha:F3 K (.ref C) name=some none) (hv:mA name=some v) (hv':PySem.W.handedIn v=true) (h:Q v { s with toks:=s.toks + 1 }) :
  L0 (X0 prog w) A (getAttr (.ref x) name expr) Q E s:=by
 obtain ⟨b,J,a⟩:=I.look;exact PySem.W.get_value X J (P8 hg).1 (PySem.W.findObj_own hh ha rfl (by rw [a,hv])) hv' h
theorem zl8 {pl:Sem Bool} {Q:Value×List Value->u0->Prop} (X:K.In s.heap) (I:ObjM s.heap x dx C mA) (hg:P7 K C name=true)
  (hf:F3 K (.ref C) name=some (some (.ref f))) (ht:j17 K (.ref f)=true) (hv:mA name=none) (h:Q (.ref f,[.ref x]) s) :
  L0 (X0 prog w) A (getMethod (.ref x) name pl) Q E s:=by
 obtain ⟨b,J,a⟩:=I.look;exact PySem.W.method_fn X J (P8 hg).1 (P8 hg).2 hf (beq_iff_eq.mp ht) (by show (C8 name b).map (·.isSome)=some false;rw [a,hv];rfl) h
theorem zfl {ns:List Str} {Q:Unit->u0->Prop} (X:K.In s.heap) (I:ObjM s.heap x dx C mA)
  (hs:F3 K (.ref C) "__setattr__" = some (some (.builtin "object.__setattr__"))) (hp:j3f K C=true) (ht:Z9 K C name=some none) (hh:u9 K C=true)
  (hw:j28 mA ns) (hsz:ns.length<=sizeLine)
  (h :∀h',ObjM h' x dx C (λ y=>if y=name then some v else mA y)->X4 dx s.heap h'->Q () { s with heap:=h',toks:=s.toks + 2 }) :
  L0 (X0 prog w) A (setAttr (.ref x) name v) Q E s:=by
 obtain ⟨m,J,l⟩:=I.look;refine PySem.W.set_plain X J hs (PySem.W.osa_open (s:={ s with toks:=s.toks + 1 }) (r:=none) X J hp ht λ b=>?_);obtain ⟨n,e,j⟩:=PySem.W.any_some hh;have k:s.heap.get? x=some ⟨.ref C,some dx,.plain,#[]⟩:=I.obj;refine c0 (x0 (c0 (c0 (wpAny_loadPart k (c0 (PySem.W.Looks.here (s:={ s with toks:=s.toks + 1 }) (PySem.W.looks_clsIn X e) ?_))))));rw [j];refine x0 (a:=some dx) (c0 (x0 (c0 ?_)));refine wpAny_nsSet1 (s:={ s with toks:=s.toks + 1 }) I.ns λ h' c d=>?_;obtain ⟨q,p,o,f,i,g⟩:=c.count (PySem.Within.cons name v hw);refine c0 (wpAny_lookBehind f (by rw [i];exact pastItsLine_dict (C0 g (by rw [Z0];omega))) ?_);exact x0 (h _ ⟨(d.2 _ (J2 I.ne)).trans I.obj,c,I.ne⟩ d)
theorem zkg {R:j16->u0->Prop} {vs:List Value} {kw:List (Str×Value)} (X:K.In s.heap) (hm:PySem.W.makesIn K C=true)
  (hi:F3 K (.ref C) "__init__" = some (some (.ref f))) (hf:PySem.W.typeIn K (.ref f)=some (.type "function"))
  (h:u5 (X0 prog w) (A.under (.builtin "type.__call__" ⟨.ref C :: vs,kw⟩)) (.call (.ref f) ⟨.ref (s.heap.objs.size + 1) :: vs,kw⟩) (PySem.W.InitBack (s.heap.objs.size + 1) R)
   { s with heap:=(s.heap.push PySem.W.emptyDict).push (A4 C s.heap.objs.size) }) :
  u5 (X0 prog w) A (.call (.ref C) ⟨vs,kw⟩) R s:=by
 obtain ⟨b,g,d,t,c⟩:=s;exact PySem.W.make_core (PySem.W.makes_of X hm) (PySem.W.looks_findIn X hi) (λ a=>PySem.W.bind_fn X a hf) (.inl rfl) h
end
noncomputable def putF (f:Str) (v:V):List (Str×V)->List (Str×V)
 | []=>[(f,v)]
 | (g,x) :: r=>if g=f then (g,v) :: r else (g,x) :: putF f v r
theorem z3c (f g:Str) (v:V) :∀fs:List (Str×V),(putF f v fs).lookup g=if g=f then some v else fs.lookup g
 | []=>by
  show V6 g [(f,v)]=_;by_cases h:g=f
  ·have a:(g == f)=true:=beq_iff_eq.mpr h;simp only [V6,a,if_pos h]
  ·have a:(g == f)=false:=beq_eq_false_iff_ne.mpr h;simp only [V6,a,if_neg h]
 | (k,x) :: r=>by
  have b:=z3c f g v r;rw [show putF f v ((k,x) :: r)=(if k=f then (k,v) :: r else (k,x) :: putF f v r) from rfl];by_cases hk:k=f
  ·rw [if_pos hk];by_cases h:g=k
   ·have a:(g == k)=true:=beq_iff_eq.mpr h;simp only [V6,a,if_pos (h.trans hk)]
   ·have a:(g == k)=false:=beq_eq_false_iff_ne.mpr h;simp only [V6,a,if_neg (λ e:g=f=>h (e.trans hk.symm))]
  ·rw [if_neg hk];by_cases h:g=k
   ·have a:(g == k)=true:=beq_iff_eq.mpr h;simp only [V6,a,if_neg (λ e:g=f=>hk (h.symm.trans e))]
   ·have a:(g == k)=false:=beq_eq_false_iff_ne.mpr h;simp only [V6,a];exact b
theorem z8m (f:Str) (v:V) :∀fs:List (Str×V),f∈(putF f v fs).map (·.1)/\∀g,g∈fs.map (·.1)->g∈(putF f v fs).map (·.1)
 | []=>⟨by simp [putF],λ g h=>by simp at h⟩
 | (k,x) :: r=>by
  obtain ⟨b,a⟩:=z8m f v r;rw [show putF f v ((k,x) :: r)=(if k=f then (k,v) :: r else (k,x) :: putF f v r) from rfl];by_cases hk:k=f
  ·rw [if_pos hk];subst hk;exact ⟨by simp,λ g h=>by simpa using h⟩
  ·rw [if_neg hk];refine ⟨?_,λ g h=>?_⟩
   ·rw [R0];exact Y0 _ b
   ·rw [R0] at h⊢;rcases List.mem_cons.mp h with e|e
    ·exact List.mem_cons.mpr (.inl e)
    ·exact Y0 _ (a g e)
theorem z7l (f:Str) (v:V) :∀fs:List (Str×V),(putF f v fs).length<=fs.length + 1
 | []=>by simp [putF]
 | (k,x) :: r=>by
  have a:=z7l f v r;rw [show putF f v ((k,x) :: r)=(if k=f then (k,v) :: r else (k,x) :: putF f v r) from rfl];by_cases hk:k=f
  ·rw [if_pos hk,Z0,Z0];omega
  ·rw [if_neg hk,Z0,Z0];omega
theorem RelO.some_of {v:V} {o:Option Value} (r:RelO (some v) o) :∃u,o=some u/\RelV v u:=by
 cases o with
 | none=>exact (show False from r).elim
 | some u=>exact ⟨u,rfl,r⟩
theorem RelO.none_of {o:Option Value} (r:RelO none o):o=none:=by
 cases o with
 | none=>rfl
 | some u=>exact (show False from r).elim
theorem zhr {v:V} {u:Value} (r:RelV v u):PySem.W.handedIn u=true:=by
 cases v with
 | non=>cases (show u=K2 from r);rfl
 | bl b=>cases (show u=j4 b from r);rfl
 | int i=>obtain ⟨t,e⟩:=(show∃t,u=L6 i t from r);cases e;rfl
 | str x=>obtain ⟨t,e⟩:=(show∃t,u=g7 x t from r);cases e;rfl
 | byt b=>obtain ⟨t,e⟩:=(show∃t,u=Value.bytes b t from r);cases e;rfl
 | flt b=>obtain ⟨t,e⟩:=(show∃t,u=j38 b t from r);cases e;rfl
 | ref a=>cases (show u=v1 a from r);rfl
 | ty n=>cases (show u=V3 n from r);rfl
section
variable {P:Program} {w:S0} {H H':Hp} {h h':Heap} {a C dx:Addr} {fs fs':List (Str×V)}
theorem zcf (hok:HOk P w H h) (e:H a=some (.ins C dx fs)) :∃mA,ObjM h a dx C mA/\(∀f,RelO (fs.lookup f) (mA f))/\j28 mA (fs.map (·.1))/\fs.length<=1000/\H dx=some (.own a):=by
 obtain ⟨d,z,c,b,mA,n,r,q⟩:=(show ObjOk P w H h a (.ins C dx fs) from hok a _ e)
 exact ⟨mA,⟨b,n,c⟩,r,q,z,d⟩
end
structure Cls (K:b0) (C:Addr):Prop where
 pg:P7 K C Str.empty=true
 hd:u9 K C=true
 po:j3f K C=true
 sa:F3 K (.ref C) "__setattr__" = some (some (.builtin "object.__setattr__"))
theorem Cls.get {K:b0} {C:Addr} (c:Cls K C) (f:Str):P7 K C f=true:=c.pg
def NoAttr (K:b0) (C:Addr) (f:Str):Prop:=F3 K (.ref C) f=some none
theorem NoAttr.taker {K:b0} {C:Addr} {f:Str} (n:NoAttr K C f):Z9 K C f=some none:=by unfold Z9;rw [show F3 K (.ref C) f=some none from n];rfl
structure Con (K:b0) (C:Addr) (f:Str) (v:V) (u:Value):Prop where
 at_:F3 K (.ref C) f=some (some u)
 rel:RelV v u
 get:j3e K u "__get__" = some none
 cp:PySem.W.copiedNames.contains f=false
structure Meth (K:b0) (C:Addr) (m:Str) (f:Addr):Prop where
 at_:F3 K (.ref C) m=some (some (.ref f))
 fn:j17 K (.ref f)=true
 kp:E3 K (.ref f)=true
section
variable {X:Cx} {pins:List (Addr×Obj)} {σ:St} {H:Hp} {s:u0} {a C dx:Addr} {fs:List (Str×V)} {f:Str} {v:V} {A:L1} {E:Value->u0->Prop}
theorem zha {b:Bool} {Q:Value->u0->Prop} (I:Inv X pins σ H s) (e:H a=some (.ins C dx fs)) (c:Cls X.K C) (n:NoAttr X.K C f) (l:fs.lookup f=some v)
  (h :∀u s',Inv X pins σ H s'->RelV v u->Q u s'):L0 (X0 X.prog X.w) A (getAttr (.ref a) f b) Q E s:=by
 obtain ⟨i,O,r,_,_,_⟩:=zcf I.hok e;obtain ⟨u,g,d⟩:=RelO.some_of (v:=v) (o:=i f) (by rw [<-l];exact r f);exact znf I.kIn O (c.get f) c.hd n g (zhr d) (h u _ (I.tok _) d)
theorem zf6 {m:Str} {g:Addr} {pl:Sem Bool} {Q:Value×List Value->u0->Prop} (I:Inv X pins σ H s) (e:H a=some (.ins C dx fs)) (c:Cls X.K C) (k:Meth X.K C m g) (l:fs.lookup m=none)
  (h:Q (.ref g,[.ref a]) s):L0 (X0 X.prog X.w) A (getMethod (.ref a) m pl) Q E s:=by
 obtain ⟨d,O,r,_,_,_⟩:=zcf I.hok e;have b:d m=none:=RelO.none_of (by rw [<-l];exact r m);exact zl8 I.kIn O (c.get m) k.at_ k.fn b h
theorem zf8 {y:V} {u:Value} {Q:Unit->u0->Prop} (I:Inv X pins σ H s) (e:H a=some (.ins C dx fs)) (c:Cls X.K C) (n:NoAttr X.K C f) (hl:fs.length < 1000) (ry:RelV y u)
  (h :∀s',Inv X pins σ (upd H a (.ins C dx (putF f y fs))) s'->Q () s'):L0 (X0 X.prog X.w) A (setAttr (.ref a) f u) Q E s:=by
 obtain ⟨k,O,r,i,_,j⟩:=zcf I.hok e;have p:(fs.map (·.1)).length<=sizeLine:=by rw [D0,j1f];omega
 refine zfl I.kIn O c.sa c.po n.taker c.hd i p λ t d B=>h _ ?_;have l :∃o,t.get? dx=some o:=let ⟨o,_,_,e',_⟩:=d.ns;⟨o,e'⟩;refine I.write (x:=a) (e:=dx) (by rw [e];exact True.intro) (.inr j) (λ b q m z=>(B.2 b m).trans z) l ?_;refine ⟨by rw [upd_ne O.ne];exact j,?_,O.ne,d.obj,_,d.ns,λ g=>?_,λ g v=>?_⟩
 ·have:=z7l f y fs;omega
 ·show RelO ((putF f y fs).lookup g) (if g=f then some u else k g);rw [z3c];by_cases q:g=f
  ·rw [if_pos q,if_pos q];exact ry
  ·rw [if_neg q,if_neg q];exact r g
 ·by_cases q:g=f
  ·rw [q];exact (z8m f y fs).1
  ·refine (z8m f y fs).2 g (i g λ z=>v ?_);show (if g=f then some u else k g)=none;rw [if_neg q];exact z
theorem Inv.made (I:Inv X pins σ H s):Inv X pins σ (upd (upd H s.heap.objs.size (.own (s.heap.objs.size + 1))) (s.heap.objs.size + 1) (.ins C s.heap.objs.size []))
  { s with heap:=(s.heap.push PySem.W.emptyDict).push (A4 C s.heap.objs.size) }:=by
 have c:(s.heap.push PySem.W.emptyDict).get? s.heap.objs.size=some PySem.W.emptyDict:=M0 s.heap rfl;have f:((s.heap.push PySem.W.emptyDict).push (A4 C s.heap.objs.size)).get? (s.heap.objs.size + 1)=some (A4 C s.heap.objs.size):=by
  have:=M0 (s.heap.push PySem.W.emptyDict) (o:=A4 C s.heap.objs.size) rfl
  rwa [m3] at this
 have h:(s.heap.push PySem.W.emptyDict).Ns s.heap.objs.size (λ _=>none):=⟨PySem.W.emptyDict,#[],_,c,rfl,(λ e i=>absurd i (by simp)),λ _=>rfl⟩
 have g:=I.laid (a:=s.heap.objs.size) (o:=.own (s.heap.objs.size + 1)) (h':=s.heap.push PySem.W.emptyDict) (t':=s.toks) (λ b u q=>y0 _ q) (A0 _) ⟨_,c⟩;refine g.laid (a:=s.heap.objs.size + 1) (o:=.ins C s.heap.objs.size []) (t':=s.toks) (λ b u q=>y0 _ q) (A7 (m3 _ _)) ?_;have d:s.heap.objs.size≠s.heap.objs.size + 1:=V0 (V1 _);refine ⟨by rw [upd_ne d,upd_same],X1 _,d,f,λ _=>none,(Heap.Ns1.of_empty h).at λ o q=>y0 _ q,λ _=>True.intro,λ y j=>absurd rfl j⟩
theorem zmq {prog:Program} {w:S0} {env:Env} {e:Expr} {f:Str} {pos:Pos} {s:u0} {Q:Value->u0->Prop} (hb:U3 e f env (d3 e env)=d3 e env)
  (h:L0 (X0 prog w) A (d3 e env) (λ o s₁=>L0 (X0 prog w) A (getAttr o f true) Q E s₁) E s):L0 (X0 prog w) A (d3 (.Attribute e f pos) env) Q E s:=
 Attribute_any_ h (by rw [arm_eval_Attribute,hb])
end
noncomputable def tFld (K:b0) (ta:TE) (f:Str):TE:=λ σ H Q=>ta σ H λ x H1=>∃a C dx fs v,x=.ref a/\H1 a=some (.ins C dx fs)/\Cls K C/\NoAttr K C f/\fs.lookup f=some v/\Q v H1
noncomputable def sFld (K:b0) (ta tv:TE) (f:Str):TS:=λ D σ H=>tv σ H λ y H1=>ta σ H1 λ x H2=>∃a C dx fs,x=.ref a/\H2 a=some (.ins C dx fs)/\Cls K C/\NoAttr K C f/\fs.length < 1000/\
 D.nx σ (upd H2 a (.ins C dx (putF f y fs)))
section
variable {X:Cx} {o e value:Expr} {f:Str} {pos pos' tpos:Pos} {ta tv:TE}
theorem pe_fld (he:PE X e ta) (hb:U3 e f X.env (d3 e X.env)=d3 e X.env):PE X (.Attribute e f pos) (tFld X.K ta f):=by intro g s σ H Q I h;refine zmq hb (thn (he g s σ H _ I h) λ u j ⟨x,H1,I1,rx,a,C,dx,fs,v,ex,ea,c,n,l,q⟩=>?_);subst ex;obtain rfl:u=v1 a:=rx;exact zha I1 ea c n l λ k i d b=>⟨v,H1,d,b,q⟩
theorem ps_fld (ha:PE X o ta) (hv:PE X value tv) (hs:b7 value (some (.Attribute o f pos')) pos.line X.env=V2 false):PS X (.Assign [.Attribute o f pos'] value pos) (sFld X.K ta tv f):=by intro b s σ H D I h;refine plainObj_wpAny_Assign_Attribute (thn (hv b s σ H _ I h) λ u d ⟨y,H1,I1,ry,q⟩=>thn (ha b d σ H1 _ I1 q) λ g i ⟨x,H2,I2,rx,a,C,dx,fs,ex,ea,c,n,l,q2⟩=>?_) hs;subst ex;obtain rfl:g=v1 a:=rx;exact zf8 I2 ea c n l ry λ j e=>⟨σ,_,e,q2⟩
end
section
variable {X:Cx} {pins:List (Addr×Obj)} {σ:St} {H:Hp} {s:u0} {A:L1} {E:Value->u0->Prop} {Q:Value->u0->Prop} {c:Value} {b:Bool}
inductive TyOf (K:b0) (H:Hp):V->Value->Prop where
 | non:TyOf K H .non (.type "NoneType")
 | bl (x:Bool):TyOf K H (.bl x) (.type "bool")
 | int (i:Int):TyOf K H (.int i) (.type "int")
 | str (x:Str):TyOf K H (.str x) (.type "str")
 | flt (x:UInt64):TyOf K H (.flt x) (.type "float")
 | lst {a:Addr} {xs:List V} (e:H a=some (.lst xs)):TyOf K H (.ref a) (.type "list")
 | frz {a:Addr} {o:Obj} {xs:List V} (e:H a=some (.frz o (.lst xs))):TyOf K H (.ref a) (.type "list")
 | tup {a:Addr} {xs:List V} (e:H a=some (.tup xs)):TyOf K H (.ref a) (.type "tuple")
 | dK {a:Addr} {kvs:List (Key×V)} (e:H a=some (.dK kvs)):TyOf K H (.ref a) (.type "dict")
 | dT {a:Addr} {kvs:List (List Key×V)} (e:H a=some (.dT kvs)):TyOf K H (.ref a) (.type "dict")
 | ins {a C dx:Addr} {fs:List (Str×V)} (e:H a=some (.ins C dx fs)) (cl:Cls K C) (ha:F3 K (.ref C) "__class__" = some (some (.builtin "object.__class__")))
   (hn:j3e K (.builtin "object.__class__") "__get__" = some (some (.builtin "getset_descriptor.__get__"))) (htk:PySem.W.takesIn K (.builtin "object.__class__")=some true)
   (hm:PySem.W.mroIn K C (.type "object")=some true):TyOf K H (.ref a) (.ref C)
theorem ziu {x:V} {u t:Value} (I:Inv X pins σ H s) (rx:RelV x u) (ty:TyOf X.K H x t) (e:PySem.W.kitOne X.K t c=some b) (h :∀tk,Q (.bool b) { s with toks:=tk }) :
  L0 (X0 X.prog X.w) A (call (.builtin "isinstance") [u,c]) Q E s:=by
 cases ty with
 | non=>cases (show u=K2 from rx);exact i3 PySem.W.kitx_none I.kIn True.intro e (λ z=>nomatch z) h
 | bl y=>cases (show u=j4 y from rx);exact i3 PySem.W.kitx_bool I.kIn True.intro e (λ z=>nomatch z) h
 | int i=>obtain ⟨t,q⟩:=(show∃t,u=L6 i t from rx);cases q;exact i3 PySem.W.kitx_int I.kIn True.intro e (λ z=>nomatch z) h
 | str y=>obtain ⟨t,q⟩:=(show∃t,u=g7 y t from rx);cases q;exact i3 PySem.W.kitx_str I.kIn True.intro e (λ z=>nomatch z) h
 | flt y=>obtain ⟨t,q⟩:=(show∃t,u=j38 y t from rx);cases q;exact i3 PySem.W.kitx_float I.kIn True.intro e (λ z=>nomatch z) h
 | @lst a f ea=>
  cases (show u=v1 a from rx);obtain ⟨_,_,n,_,d⟩:=(show ObjOk X.prog X.w H s.heap a (.lst f) from I.hok a _ ea)
  exact i3 j3g I.kIn ⟨_,d,rfl⟩ e (λ z=>nomatch z) h
 | @frz a ob f ea=>
  cases (show u=v1 a from rx);obtain ⟨_,_,_,n,_,d⟩:=(show ObjOk X.prog X.w H s.heap a (.frz ob (.lst f)) from I.hok a _ ea)
  exact i3 j3g I.kIn ⟨_,d,rfl⟩ e (λ z=>nomatch z) h
 | @tup a f ea=>
  cases (show u=v1 a from rx);obtain ⟨_,_,_,p,_⟩:=(show ObjOk X.prog X.w H s.heap a (.tup f) from I.hok a _ ea)
  obtain ⟨o,d,g,_⟩:=p;exact i3 PySem.W.kitx_tuple I.kIn ⟨o,d,g⟩ e (λ z=>nomatch z) h
 | @dK a kvs ea=>
  cases (show u=v1 a from rx);obtain ⟨_,_,r,_,p⟩:=(show ObjOk X.prog X.w H s.heap a (.dK kvs) from I.hok a _ ea)
  obtain ⟨o,k,j,d,g,_⟩:=p;exact i3 j3h I.kIn ⟨o,d,g.1⟩ e (λ z=>nomatch z) h
 | @dT a kvs ea=>
  cases (show u=v1 a from rx);obtain ⟨_,_,f,_,o,k,j,d,g,_⟩:=(show ObjOk X.prog X.w H s.heap a (.dT kvs) from I.hok a _ ea)
  exact i3 j3h I.kIn ⟨o,d,g.1⟩ e (λ z=>nomatch z) h
 | @ins a C dx fs ea cl ha hn htk hm=>cases (show u=v1 a from rx);obtain ⟨m,O,_⟩:=zcf I.hok ea;obtain ⟨l,J,_⟩:=O.look;exact i3 (PySem.W.kitx_own (cl.get _) cl.hd ha hn htk hm) I.kIn J e (λ z=>nomatch z) h
end
structure Room (k:Nat) (A:L1):Prop where
 hd:A.handled=none
 dp:A.depth + 3 * k + 5 < recursionLimit
 un:A.units + 16 * k + 200 < cLine
 gd:A.guards=some []
theorem Room.mono {j k:Nat} {A:L1} (r:Room k A) (h:j<=k):Room j A:=⟨r.hd,by have:=r.dp;omega,by have:=r.un;omega,r.gd⟩
theorem Room.deeper {k:Nat} {A:L1} (r:Room (k + 1) A) (env:Env):Room k (A.deeper env):=
 ⟨r.hd,by have:=r.dp;show A.depth + 1 + 3 * k + 5 < _;omega,by have:=r.un;show A.units + 3 + 16 * k + 200 < _;omega,r.gd⟩
theorem zfw {A:L1} {C:Addr} {us:List Value} {kw:List (Str×Value)}:(A.under (.builtin "type.__call__" ⟨.ref C :: us,kw⟩)).depth=A.depth + 1:=by first|rfl|simp [J9,Code.weight,Code.isCreation,Code.isGuard,Code.isCaller,j44,W9,guardIds]
theorem zer {A:L1} {C:Addr} {us:List Value} {kw:List (Str×Value)}:(A.under (.builtin "type.__call__" ⟨.ref C :: us,kw⟩)).units=A.units + 1:=by first|rfl|simp [J9,Code.cUnits,j44,W9]
theorem Room.make {k:Nat} {A:L1} (r:Room (k + 1) A) (C:Addr) (us:List Value) (kw:List (Str×Value)):Room k (A.under (.builtin "type.__call__" ⟨.ref C :: us,kw⟩)):=
 ⟨r.hd,by have:=r.dp;rw [zfw];omega,by have:=r.un;rw [zer];omega,by have h:=r.gd;first|exact h|simp [J9,h,Code.weight,Code.isCreation,Code.isGuard,Code.isCaller,j44,W9,guardIds]⟩
theorem Room.depth {k:Nat} {A:L1} (r:Room k A):A.depth < recursionLimit:=by have:=r.dp;omega
theorem Room.units {k:Nat} {A:L1} (r:Room k A):A.units + 64 < cLine:=by have:=r.un;omega
noncomputable def tNil:TA:=λ _ H Q=>Q [] H
noncomputable def tCons (ta:TE) (tr:TA):TA:=λ σ H Q=>ta σ H λ x H1=>tr σ H1 λ xs H2=>Q (x :: xs) H2
section
variable {X:Cx} {e:Expr} {es:List Expr} {te:TE} {t:TA} {pos:Pos}
theorem pa_nil:PA X [] tNil:=λ _ _ _ _ H Q I h=>o5 ⟨[],H,I,.nil,h⟩
theorem z00 (ha:PE X e te) (hr:PA X es t) (hs:A1 (e :: es) X.env=(false,d3 e X.env) :: A1 es X.env:=by rfl):PA X (e :: es) (tCons te t):=by intro a b s σ H Q I h;rw [hs];show L0 _ _ (spliced ((false,d3 e X.env) :: E4 a (A1 es X.env))) _ _ s;refine U4 (thn (ha b s σ H _ I h) λ u c ⟨x,H1,I1,r1,q1⟩=>?_);exact thn (hr a b c σ H1 _ I1 q1) λ d f ⟨xs,H2,I2,r2,q2⟩=>⟨x :: xs,H2,I2,.cons r1 r2,q2⟩
noncomputable def tTup (t:TA):TE:=λ σ H Q=>t σ H λ xs H1=>xs.length<=sizeLine/\∀p,H1 p=none->Q (.ref p) (upd H1 p (.tup xs))
noncomputable def tLst (t:TA):TE:=λ σ H Q=>t σ H λ xs H1=>xs.length<=sizeLine/\∀p,H1 p=none->Q (.ref p) (upd H1 p (.lst xs))
theorem pe_tup {x1} (h:PA X es t):PE X (.Tuple es x1 pos) (tTup t):=by intro g s σ H Q I f;refine wpAny_Tuple_spliced (thn (h pos g s σ H _ I f) λ d a ⟨xs,H1,I1,r,z,q⟩=>⟨by rw [<-r.length];exact z,?_⟩);have c:H1 a.heap.objs.size=none:=I1.hok.fresh (A0 _);refine ⟨.ref a.heap.objs.size,upd H1 a.heap.objs.size (.tup xs),I1.laid (t':=a.toks) (λ b u e=>y0 _ e) (A0 _) ?_,rfl,q _ c⟩;exact ⟨z,d,r,IsTupN.new _ _⟩
theorem pe_lst (h:PA X es t):PE X (.List es pos) (tLst t):=by intro g s σ H Q I f;refine wpAny_List_spliced (thn (h pos g s σ H _ I f) λ d a ⟨xs,H1,I1,r,z,q⟩=>⟨by rw [<-r.length];exact z,?_⟩);have c:H1 a.heap.objs.size=none:=I1.hok.fresh (A0 _);refine ⟨.ref a.heap.objs.size,upd H1 a.heap.objs.size (.lst xs),I1.laid (t':=a.toks) (λ b u e=>y0 _ e) (A0 _) ?_,rfl,q _ c⟩;exact ⟨z,d,0,r,M0 _ rfl⟩
end
noncomputable abbrev Sp:=List V->Hp->VK->XK->Prop
noncomputable abbrev CXT:=List Env->Hp->u0->XK->Value->u0->Prop
structure Env0 (P:Program) (w:S0) (K:b0) (mg:Str->Option Value) (base:Heap) (A:L1) (outer:List Env) (s:u0) (H:Hp):Prop where
 frames:A.frames=some outer
 mod:Mod K mg base
 bs :∀b o,base.get? b=some o->s.heap.get? b=some o/\H b=none
 bsz:base.objs.size<=s.heap.objs.size
 funs:s.heap.FunFrames base outer
 frf :∀b∈frs outer,H b=none
 hok:HOk P w H s.heap
 bare:A8 s.gens
def CE (outer:List Env) (P:Program) (w:S0) (H:Hp) (s:u0) (Q:VK) (u:Value) (s':u0):Prop:=
 ∃v H',s'.os=s.os/\A8 s'.gens/\Un (frs outer) [] H H' s.heap s'.heap/\HOk P w H' s'.heap/\RelV v u/\Q v H'
def CR (CX:CXT) (outer:List Env) (P:Program) (w:S0) (H:Hp) (s:u0) (Q:VK) (E:XK) (r:j16) (s':u0):Prop:=
 match r with
 | .ok (.ret u)=>CE outer P w H s Q u s'
 | .ok _=>False
 | .error e=>CX outer H s E e s'
structure FnOk (P:Program) (w:S0) (K:b0) (mg:Str->Option Value) (base:Heap) (CX:CXT) (k:Nat) (f:Addr) (fd:FuncData) (ps:List Str) (sp:Sp):Prop where
 len :∀vs H Q E,sp vs H Q E->vs.length=ps.length
 run :∀(A:L1) (outer:List Env) (s:u0) (H:Hp) (args:Args) (us:List Value) (vs:List V) (Q:VK) (E:XK),Room k A->Env0 P w K mg base A outer s H->BindsTo s fd args (ps.zip us)->Vals vs us->sp vs H Q E->
  u5 (X0 P w) A (.call (.ref f) args) (CR CX outer P w H s Q E) s
theorem Env0.make {P:Program} {w:S0} {K:b0} {mg:Str->Option Value} {base:Heap} {A:L1} {outer:List Env} {s:u0} {H:Hp} (e:Env0 P w K mg base A outer s H) (C:Addr) (us:List Value) (kw:List (Str×Value)) :
  Env0 P w K mg base (A.under (.builtin "type.__call__" ⟨.ref C :: us,kw⟩)) outer s H:=⟨by first|exact e.frames|(simpa [J9,Code.envs,W9,pushEnvs] using e.frames),e.mod,e.bs,e.bsz,e.funs,e.frf,e.hok,e.bare⟩
section
variable {X:Cx} {pins:List (Addr×Obj)} {σ:St} {H:Hp} {s s':u0}
theorem Inv.env0 (I:Inv X pins σ H s):Env0 X.prog X.w X.K X.mg X.base X.A X.stack s H:=
 ⟨I.ok.frames,I.ok.mod,I.bs,C0 I.ok.bsz I.sz,I.stack,I.stkFree,I.hok,I.bare⟩
theorem Inv.after {Q:VK} {u:Value} (I:Inv X pins σ H s) (h:CE X.stack X.prog X.w H s Q u s'):EP X pins σ Q u s':=by obtain ⟨v,a,j,c,un,e,r,q⟩:=h;obtain ⟨f,g,d,t,i⟩:=s';obtain rfl:i=s.os:=j;exact ⟨v,a,I.call (h':=f) (g':=g) (d':=d) (t':=t) (ch:=[]) un e c (λ b z=>absurd z (by simp)),r,q⟩
end
noncomputable def tCall (sp:Sp) (dvs:List V) (E:XK) (t:TA):TE:=λ σ H Q=>t σ H λ vs H1=>sp (vs++dvs) H1 Q E
noncomputable def tMeth (C:Addr) (m:Str) (sp:Sp) (dvs:List V) (E:XK) (ta:TE) (t:TA):TE:=λ σ H Q=>ta σ H λ x H1=>∃a dx fs,x=.ref a/\H1 a=some (.ins C dx fs)/\fs.lookup m=none/\
 t σ H1 λ vs H2=>sp (x :: (vs++dvs)) H2 Q E
noncomputable def tMake (C:Addr) (sp:Sp) (dvs:List V) (E:XK) (t:TA):TE:=λ σ H Q=>t σ H λ vs H1=>∀x dx,H1 x=none->H1 dx=none->dx≠x->
 sp (.ref x :: (vs++dvs)) (upd (upd H1 dx (.own x)) x (.ins C dx [])) (λ v H2=>v=.non/\Q (.ref x) H2) E
def Binds (K:b0) (fd:FuncData) (ps:List Str) (ds:List Value):Prop:=
 ∀(s:u0) (us:List Value),K.In s.heap->(us++ds).length=ps.length->BindsTo s fd ⟨us,[]⟩ (ps.zip (us++ds))
theorem Binds.all {K:b0} {fd:FuncData} {ps:List Str} (h :∀us:List Value,us.length=ps.length->bindArgs fd ⟨us,[]⟩=V2 (ps.zip us)):Binds K fd ps []:=λ s us _ a=>by rw [Y1] at a⊢;exact .of_eq (h us a)
def Passes (CX:CXT) (X:Cx) (E:XK):Prop:=∀(pins:List (Addr×Obj)) (σ:St) (H:Hp) (s:u0) (e:Value) (s':u0),Inv X pins σ H s->CX X.stack H s E e s'->X.xe e s'
section
variable {X:Cx} {CX:CXT} {k:Nat} {f C:Addr} {fd:FuncData} {ps:List Str} {sp:Sp} {dvs:List V} {ds:List Value} {E:XK} {x m:Str} {p pos apos:Pos} {e o:Expr} {es:List Expr} {ta:TE} {t:TA}
theorem run_fn {pins:List (Addr×Obj)} {σ:St} {H:Hp} {s:u0} {Q:VK} {us:List Value} {vs:List V} (F:FnOk X.prog X.w X.K X.mg X.base CX k f fd ps sp) (hr:Room k X.A) (hb:Binds X.K fd ps ds) (hd:Vals dvs ds) (hx:Passes CX X E)
  (I:Inv X pins σ H s) (r:Vals vs us) (h:sp (vs++dvs) H Q E):L0 (X0 X.prog X.w) X.A (call (.ref f) us) (EP X pins σ Q) X.xe s:=by
 have b:Vals (vs++dvs) (us++ds):=r.append hd;have c:(us++ds).length=ps.length:=by rw [<-b.length];exact F.len _ _ _ _ h
 refine wpAny_call (P6 (F.run X.A X.stack s H ⟨us,[]⟩ (us++ds) (vs++dvs) Q E hr I.env0 (hb s us I.kIn c) b h) λ r d a=>?_);cases r with
 | error e=>exact hx pins σ H s e d I a
 | ok fl=>
  cases fl with
  | ret u=>exact I.after a
  | next=>exact W3 a
  | brk=>exact W3 a
  | cont=>exact W3 a
theorem zm3 (F:FnOk X.prog X.w X.K X.mg X.base CX k f fd ps sp) (hr:Room k X.A) (hg:Gl X x) (hm:X.mg x=some (.ref f)) (hk:E3 X.K (.ref f)=true) (hb:Binds X.K fd ps ds) (hd:Vals dvs ds) (hx:Passes CX X E)
  (ha:PA X (e :: es) t) (hdb:(x == ("__debug__" : Str))=false:=by decide) (he:A1 (e :: es) X.env=(false,d3 e X.env) :: A1 es X.env:=by rfl) (hpl:(E4 pos (A1 es X.env)).any (·.1)=false:=by rfl) :
  PE X (.Call (.Name x p) (e :: es) [] pos) (tCall sp dvs E t):=by
 intro a s σ H Q I h;refine D4 (zgg I hg hm ?_ hdb);refine c7 (h₀:=X.base) I.ok.mod.kin hk (thn (ha pos a s σ H _ I h) λ b c ⟨vs,H1,I1,r,q⟩=>⟨I1.kIn,?_⟩) he hpl;exact run_fn F hr hb hd hx I1 r q
theorem zho {pl:Sem Bool} (he:PE X o ta) (c:Cls X.K C) (hm:Meth X.K C m f) (F:FnOk X.prog X.w X.K X.mg X.base CX k f fd ps sp) (hr:Room k X.A) (hb:Binds X.K fd ps ds) (hd:Vals dvs ds) (hx:Passes CX X E) (ha:PA X (e :: es) t)
  (hst:A1 (e :: es) X.env=(false,d3 e X.env) :: A1 es X.env:=by rfl) (hpl:(E4 pos (A1 es X.env)).any (·.1)=false:=by rfl)
  (ht:d3 (.Call (.Attribute o m apos) (e :: es) [] pos) X.env=(do
   let ov <-d3 o X.env
   j2c apos.atName
   let (f,first) <-U9 [ov] (getMethod ov m pl)
   callWith pos f first (E4 pos (A1 (e :: es) X.env)) (N8 pos (K6 [] X.env))):=by rfl) :
  PE X (.Call (.Attribute o m apos) (e :: es) [] pos) (tMeth C m sp dvs E ta t):=by
 intro b s σ H Q I h;refine PySem.W.methodCall_KW (pl:=pl) (thn (he b s σ H _ I h) λ u d ⟨x,H1,I1,rx,a,dx,fs,ex,ea,l,q⟩=>?_) ht;subst ex;obtain rfl:u=v1 a:=rx;refine zf6 I1 ea c hm l ?_;refine c7 (first:=[.ref a]) (h₀:=X.base) I.ok.mod.kin hm.kp (thn (ha pos b d σ H1 _ I1 q) λ us g ⟨vs,H2,I2,r,q2⟩=>⟨I2.kIn,?_⟩) hst hpl;exact run_fn (us:=.ref a :: us) (vs:=.ref a :: vs) F hr hb hd hx I2 (.cons rfl r) q2
structure Mk (K:b0) (C f:Addr):Prop where
 makes:PySem.W.makesIn K C=true
 init:F3 K (.ref C) "__init__" = some (some (.ref f))
 fn:j17 K (.ref f)=true
 kp:E3 K (.ref C)=true
theorem zlj {pins:List (Addr×Obj)} {σ:St} {H:Hp} {s:u0} {Q:VK} {us:List Value} {vs:List V} (M:Mk X.K C f) (F:FnOk X.prog X.w X.K X.mg X.base CX k f fd ps sp) (hr:Room (k + 1) X.A) (hb:Binds X.K fd ps ds) (hd:Vals dvs ds)
  (hx:Passes CX X E) (I:Inv X pins σ H s) (r:Vals vs us)
  (h :∀x dx,H x=none->H dx=none->dx≠x->sp (.ref x :: (vs++dvs)) (upd (upd H dx (.own x)) x (.ins C dx [])) (λ v H2=>v=.non/\Q (.ref x) H2) E) :
  L0 (X0 X.prog X.w) X.A (call (.ref C) us) (EP X pins σ Q) X.xe s:=by
 have d:=h (s.heap.objs.size + 1) s.heap.objs.size (I.hok.fresh (B2 _)) (I.hok.fresh (A0 _)) (V0 (V1 _));have b:=Inv.made (C:=C) I;have c:Vals (V.ref (s.heap.objs.size + 1) :: (vs++dvs)) (v1 (s.heap.objs.size + 1) :: (us++ds)):=.cons rfl (r.append hd);have g:(v1 (s.heap.objs.size + 1) :: us++ds).length=ps.length:=by have e:=c.length;rw [F.len _ _ _ _ d] at e;exact e.symm
 refine wpAny_call (zkg (f:=f) I.kIn M.makes M.init (beq_iff_eq.mp M.fn) (P6 (F.run _ X.stack _ _ ⟨v1 (s.heap.objs.size + 1) :: us,[]⟩ (v1 (s.heap.objs.size + 1) :: (us++ds)) _ _ E (hr.make C us [])
  (b.env0.make C us []) (hb _ (v1 (s.heap.objs.size + 1) :: us) b.kIn g) c d) λ r n a=>?_))
 cases r with
 | error e=>exact hx pins σ _ _ e n b a
 | ok fl=>
  cases fl with
  | ret u=>obtain ⟨v,i,j,o,m,l⟩:=b.after a;subst m;exact ⟨o,⟨V.ref (s.heap.objs.size + 1),i,j,rfl,l⟩⟩
  | next=>exact W3 a
  | brk=>exact W3 a
  | cont=>exact W3 a
theorem zk8 (M:Mk X.K C f) (F:FnOk X.prog X.w X.K X.mg X.base CX k f fd ps sp) (hr:Room (k + 1) X.A) (hg:Gl X x) (hm:X.mg x=some (.ref C)) (hb:Binds X.K fd ps ds) (hd:Vals dvs ds) (hx:Passes CX X E)
  (ha:PA X (e :: es) t) (hdb:(x == ("__debug__" : Str))=false:=by decide) (he:A1 (e :: es) X.env=(false,d3 e X.env) :: A1 es X.env:=by rfl) (hpl:(E4 pos (A1 es X.env)).any (·.1)=false:=by rfl) :
  PE X (.Call (.Name x p) (e :: es) [] pos) (tMake C sp dvs E t):=by
 intro a s σ H Q I h;refine D4 (zgg I hg hm ?_ hdb);refine c7 (h₀:=X.base) I.ok.mod.kin M.kp (thn (ha pos a s σ H _ I h) λ b c ⟨vs,H1,I1,r,q⟩=>⟨I1.kIn,?_⟩) he hpl;exact zlj M F hr hb hd hx I1 r q
end
section
variable {X:Cx} {CX:CXT} {k:Nat} {f C:Addr} {fd:FuncData} {ps ks:List Str} {sp:Sp} {E:XK} {x m:Str} {p pos apos kpos:Pos} {e o:Expr} {es:List Expr} {kws:List j6} {te ta:TE} {t tk:TA} {nm:Option Str}
structure KBinds (K:b0) (fd:FuncData) (ps ks:List Str) (g:List Value->List Value->List Value) (gV:List V->List V->List V):Prop where
 to :∀(s:u0) (us ws:List Value),K.In s.heap->(g us ws).length=ps.length->BindsTo s fd ⟨us,ks.zip ws⟩ (ps.zip (g us ws))
 rel :∀{vs:List V} {us:List Value} {zs:List V} {ws:List Value},Vals vs us->Vals zs ws->Vals (gV vs zs) (g us ws)
variable {g:List Value->List Value->List Value} {gV:List V->List V->List V}
end
structure FnScope (N P:List Str) (sc:Scope):Prop where
 kind:sc.kind=.function
 co:sc.isCoroutine=false
 gen:sc.isGenerator=false
 nd:N.Nodup
 pre:N.take P.length=P
 par :∀x∈P,sc.names.lookup x=some .local\/sc.names.lookup x=some .cell
 nofree :∀y∈sc.names,y.2≠.free
theorem zct {kindOf:Str->Option c6} {x:Str} :∀{binds:List (Str×Value)} {m:Str->Option Value},(∀v,(x,v)∉binds)->bindL kindOf binds m x=m x
 | [],_,_=>rfl
 | (n,v) :: r,m,h=>by
  unfold bindL;rw [zct λ w hw=>h w (Y0 _ hw)];split
  ·have:x≠n:=by rintro rfl;exact h v Q0
   simp [this]
  ·rfl
theorem zd4 {kindOf:Str->Option c6} {x:Str} :∀{binds:List (Str×Value)} {m:Str->Option Value},(∀v,(x,v)∉binds)->bindC kindOf binds m x=m x
 | [],_,_=>rfl
 | (n,v) :: r,m,h=>by
  unfold bindC;rw [zd4 λ w hw=>h w (Y0 _ hw)];split
  ·rfl
  ·have:x≠n:=by rintro rfl;exact h v Q0
   simp [this]
theorem zdf {kindOf:Str->Option c6} {x:Str} {v:Value} :∀{P:List Str} {vs:List Value} {i:Nat} {m:Str->Option Value},P.Nodup->P[i]? = some x->vs[i]? = some v->kindOf x=some .local->
  bindL kindOf (P.zip vs) m x=some v
 | [],_,_,_,_,h,_,_=>by simp at h
 | _ :: _,[],_,_,_,_,h,_=>by simp at h
 | p :: P,w :: vs,0,m,nd,h1,h2,hk=>by simp at h1 h2;subst h1;subst h2;show bindL kindOf ((p,w) :: P.zip vs) m p=_;unfold bindL;rw [zct λ v a=>(List.nodup_cons.mp nd).1 (j07 a).1,if_pos hk];simp
 | p :: P,w :: vs,i + 1,m,nd,h1,h2,hk=>by show bindL kindOf ((p,w) :: P.zip vs) m x=_;unfold bindL;exact zdf (i:=i) (List.nodup_cons.mp nd).2 (by simpa using h1) (by simpa using h2) hk
theorem zcs {kindOf:Str->Option c6} {x:Str} {v:Value} :∀{P:List Str} {vs:List Value} {i:Nat} {m:Str->Option Value},P.Nodup->P[i]? = some x->vs[i]? = some v->kindOf x≠some .local->
  bindC kindOf (P.zip vs) m x=some v
 | [],_,_,_,_,h,_,_=>by simp at h
 | _ :: _,[],_,_,_,_,h,_=>by simp at h
 | p :: P,w :: vs,0,m,nd,h1,h2,hk=>by simp at h1 h2;subst h1;subst h2;show bindC kindOf ((p,w) :: P.zip vs) m p=_;unfold bindC;rw [zd4 λ v a=>(List.nodup_cons.mp nd).1 (j07 a).1,if_neg hk];simp
 | p :: P,w :: vs,i + 1,m,nd,h1,h2,hk=>by show bindC kindOf ((p,w) :: P.zip vs) m x=_;unfold bindC;exact zcs (i:=i) (List.nodup_cons.mp nd).2 (by simpa using h1) (by simpa using h2) hk
noncomputable def start (N:List Str) (vs:List V):St:=vs.map some++A2 (N.length - vs.length) none
noncomputable def cxOf (CX:CXT) (P:Program) (w:S0) (K:b0) (mg:Str->Option Value) (base:Heap) (N:List Str) (qual:Str) (scope:Scope) (f:Addr) (cd:Value) (A:L1) (outer:List Env) (s:u0) (H:Hp) (E:XK):Cx where
 prog:=P
 w:=w
 K:=K
 mg:=mg
 base:=base
 A:=A.deeper (X8 qual scope s.heap.objs.size f cd)
 N:=N
 s₀:=s
 H₀:=H
 env:=X8 qual scope s.heap.objs.size f cd
 outer:=outer
 stack:=X8 qual scope s.heap.objs.size f cd :: outer
 ex:=[]
 calm:=true
 fn:=λ _=>true
 pn:=[]
 xe:=λ e s'=>L0 (X0 P w) (A.deeper (X8 qual scope s.heap.objs.size f cd)) («leaving» (X8 qual scope s.heap.objs.size f cd) e) (λ _ s''=>CX outer H s E e s'') (λ e' s''=>CX outer H s E e' s'') s'
theorem zel {sc:Scope} {n:Nat} {x:Str} (h:sc.names.lookup x=some .cell) :∃c,(cellsFrom n sc.names []).lookup x=some c:=by have q:=j18 sc.names n [] (.inl h);exact Option.isSome_iff_exists.mp q
theorem zik {CX:CXT} {P:Program} {w:S0} {K:b0} {mg:Str->Option Value} {base:Heap} {N ps:List Str} {qual:Str} {scope:Scope} {f:Addr} {cd:Value} {A:L1} {outer:List Env} {s s1:u0} {H:Hp} {E:XK} {us:List Value} {vs:List V}
  (S:FnScope N ps scope) (hd:A.handled=none) (e0:Env0 P w K mg base A outer s H) (hl:vs.length=ps.length) (r:Vals vs us)
  (x:InCallC s s.heap.objs.size (bindL (X8 qual scope s.heap.objs.size f cd).kindOf (ps.zip us) λ _=>none) (cellsFrom (s.heap.objs.size + 1) scope.names []) (bindC (X8 qual scope s.heap.objs.size f cd).kindOf (ps.zip us) λ _=>none) s1) :
  Inv (cxOf CX P w K mg base N qual scope f cd A outer s H E) [] (start N vs) H s1:=by
 have J:ps.length<=N.length:=by have:=congrArg u6 S.pre;rw [P3] at this;omega
 obtain ⟨l,I,rfl,C⟩:=x.done;have o :∀b:Addr,b∉(cxOf CX P w K mg base N qual scope f cd A outer s H E).ex:=λ b z=>absurd (show b∈([]:List Addr) from z) (by simp);refine ⟨⟨e0.mod,S.kind,rfl,rfl,A0 _,λ y z c l d=>?_,λ y g=>?_,λ y c _ h=>?_,λ _=>hd,Around.frames_deeper e0.frames,.inr ⟨rfl,rfl⟩,λ b z=>absurd z (o b),e0.bs,e0.bsz,λ b _ _=>o b,λ b z=>absurd z (o b),e0.funs,e0.frf⟩,
  rfl,e0.bare,Un.kept C,⟨_,x.toInCall.ns,λ i y v l d G=>?_⟩,λ y c h=>⟨_,x.cell y c h⟩,e0.hok.fresh (A0 _),λ y c h=>?_,λ p j=>absurd (show p∈([]:List (Addr×Obj)) from j) (by simp),e0.hok.kept C,?_⟩
 ·exact name_of_addr x.apart (V5 l) (V5 d)
 ·have g:scope.names.lookup y=some .cell\/scope.names.lookup y=some .free:=g;rcases g with g|g
  ·exact zel g
  ·exact absurd rfl (S.nofree _ (V5 g))
 ·exact R3 (x.above y c (V5 h))
 ·have m:i < vs.length:=by
   unfold start at d;by_cases m:i < vs.length
   ·exact m
   ·rw [F2 (by simpa using m)] at d;rw [c8] at d;split at d<;>cases d
  have F:vs[i]? = some v:=by
   unfold start at d;rw [N2 (by simpa using m),K0] at d;cases e:vs[i]? with
   | none=>rw [e] at d;cases d
   | some a=>rw [e] at d;cases d;rfl
  obtain ⟨u,B,D⟩:=r.get F;have j:ps[i]? = some y:=by rw [<-S.pre,List.getElem?_take_of_lt (by omega)];exact l
  have t:ps.Nodup:=by rw [<-S.pre];exact S.nd.sublist (List.take_sublist _ _)
  refine ⟨u,D,?_⟩;rcases S.par y (G0 j) with k|k
  ·exact .inl ⟨k,zdf t j B k⟩
  ·obtain ⟨c,e⟩:=zel (n:=s.heap.objs.size + 1) k;refine .inr ⟨.inl k,c,e,?_⟩;have q:=x.cell y c e;rw [zcs t j B (by show scope.names.lookup y≠_;rw [k];decide)] at q;exact q
 ·exact e0.hok.fresh (R3 (x.above y c (V5 h)))
 ·unfold start;show _=N.length;rw [F0,D0,O3];omega
theorem fn_of {CX:CXT} {P:Program} {w:S0} {K:b0} {mg:Str->Option Value} {base:Heap} {k:Nat} {f:Addr} {name qual:Str} {params:Arguments} {body:List Stmt} {scope:Scope} {dV kV doc pm cdv ct oc:Value} {an od:Option Addr}
  {osl:Array (Option Value)} {N ps:List Str} {sp:Sp} (lk:K.lookup f=some ⟨oc,od,.func (r6 name qual params body scope dV kV doc pm an cdv ct),osl⟩) (hcd:D8 K cdv qual=true) (S:FnScope N ps scope)
  (len :∀vs H Q E,sp vs H Q E->vs.length=ps.length)
  (hbody :∀(A:L1) (outer:List Env) (s:u0) (H:Hp) (vs:List V) (Q:VK) (E:XK),Room k (A.deeper (X8 qual scope s.heap.objs.size f cdv))->sp vs H Q E->
   ∃t,PSs (cxOf CX P w K mg base N qual scope f cdv A outer s H E) body t/\t { nx:=λ _ H'=>Q .non H',rt:=Q } (start N vs) H) :
  FnOk P w K mg base CX (k + 1) f (r6 name qual params body scope dV kV doc pm an cdv ct) ps sp:=by
 refine ⟨len,λ A outer s H R F vs Q E i c G r m=>?_⟩;have C:=len _ _ _ _ m;have KX:K.In s.heap:=c.mod.kin.keeps λ b o e=>(c.bs b o e).1;have z:s.heap.NoLimit:=c.mod.nolimit.keeps λ b o e=>(c.bs b o e).1;have M :∀y∈ps.zip F,scope.names.lookup y.1=some .local\/(scope.names.lookup y.1=some .cell/\((cellsFrom (s.heap.objs.size + 1) scope.names []).lookup y.1).isSome=true):=λ ⟨n,v⟩ hy=>by
  rcases S.par n (j07 hy).1 with q|q
  ·exact .inl q
  ·exact .inr ⟨q,j18 _ _ _ (.inl q)⟩
 refine codeAny_call_function i.depth (KX _ _ lk) rfl S.co S.gen rfl (PySem.W.codeRec_of KX hcd) (G _ _ _ _ ?_);refine wpAny_newFunctionEnv_cells S.kind M λ O B j x=>?_;subst B;refine ⟨z.keeps x.toInCall.keep,codeAny_func ?_⟩;obtain ⟨t,L,D⟩:=hbody A outer s H vs Q E (i.deeper _) m;have I:Inv (cxOf CX P w K mg base N qual scope f cdv A outer s H E) [] (start N vs) H j:=zik S i.hd c C r x;refine M3 (L [] j (start N vs) H _ I D) (λ p h a=>?_) λ e h a=>a;have l :∀{d:St} {H':Hp} {v:V} {u:Value},Inv (cxOf CX P w K mg base N qual scope f cdv A outer s H E) [] d H' h->RelV v u->Q v H'->CE outer P w H s Q u h:=
  λ {d H' v u} J g q=>⟨v,H',J.os,J.bare,J.base,J.hok,g,q⟩
 cases p with
 | ret u=>obtain ⟨v,d,H',J,g,q⟩:=a;exact l J g q
 | next=>obtain ⟨d,H',J,q⟩:=a;exact l (v:=V.non) (u:=K2) J rfl q
 | brk=>obtain ⟨_,_,_,q⟩:=a;exact W3 q
 | cont=>obtain ⟨_,_,_,q⟩:=a;exact W3 q
section
variable {X:Cx} {x:Str} {p pos:Pos} {e:Expr} {es:List Expr} {t:TA} {id T:String} {r:List V->Hp->VK->Prop}
noncomputable def tCB (r:List V->Hp->VK->Prop) (t:TA):TE:=λ σ H Q=>t σ H λ vs H1=>r vs H1 Q
theorem z0c (hc:CallR X (.builtin id) r) (hg:Gl X x) (hm:X.mg x=none) (hv:g6 x=some (.builtin id)) (ha:PA X (e :: es) t) (hn:x≠"__name__":=by decide) (hdb:(x == ("__debug__" : Str))=false:=by decide)
  (he:A1 (e :: es) X.env=(false,d3 e X.env) :: A1 es X.env:=by rfl) (hpl:(E4 pos (A1 es X.env)).any (·.1)=false:=by rfl):PE X (.Call (.Name x p) (e :: es) [] pos) (tCB r t):=by
 intro a s σ H Q I h;refine D4 (ld_blt I hg hm hv ?_ hn hdb);exact S8 (thn (ha pos a s σ H _ I h) λ b c ⟨vs,H1,I1,r1,q1⟩=>hc a c σ H1 vs b Q I1 r1 q1) he hpl
theorem z0g (hc:CallR X (.type T) r) (hg:Gl X x) (hm:X.mg x=none) (hv:g6 x=some (.type T)) (ha:PA X (e :: es) t) (hn:x≠"__name__":=by decide) (hdb:(x == ("__debug__" : Str))=false:=by decide)
  (he:A1 (e :: es) X.env=(false,d3 e X.env) :: A1 es X.env:=by rfl) (hpl:(E4 pos (A1 es X.env)).any (·.1)=false:=by rfl):PE X (.Call (.Name x p) (e :: es) [] pos) (tCB r t):=by
 intro a s σ H Q I h;refine D4 (ld_blt I hg hm hv ?_ hn hdb);exact j3 (thn (ha pos a s σ H _ I h) λ b c ⟨vs,H1,I1,r1,q1⟩=>hc a c σ H1 vs b Q I1 r1 q1) he hpl
end
end L2
namespace HT
open PySem PyProof.Rows
section
variable {prog:Program} {w:S0} {A:L1} {E:Value->u0->Prop} {s:u0}
theorem cat_tup {t b:Addr} {vs ws:List Value} {Q:Value->u0->Prop} (ht:IsTup s.heap t vs.toArray) (hb:IsTup s.heap b ws.toArray) (hv:vs≠[])
  (h1:ws=[]->Q (.ref t) s) (h2:ws≠[]->Q (.ref s.heap.objs.size) { s with heap:=s.heap.push { cls:=.type "tuple",data:=.seq (vs++ws).toArray } })
  (hsz:vs.length + ws.length<=sizeLine):L0 (X0 prog w) A (P4 .Add (.ref t) (.ref b)) Q E s:=by
 obtain ⟨⟨cls,h,data,k⟩,c,d,n,f⟩:=id ht;obtain ⟨⟨p,l,o,i⟩,a,j,g,m⟩:=id hb;simp only at d f j m;subst d f j m;have e:vs.toArray++ws.toArray=(vs++ws).toArray:=by simp
 by_cases hw:ws=[]
 ·exact j0c ⟨_,c,rfl⟩ ⟨_,a,rfl⟩ j15 seq_tuple_add a8 Q7 (J7 _ _)
   (tuple_addW1 t b vs.toArray ws.toArray n g h l k i (by simpa using hv) (by simp [hw])) ⟨c,a,h1 hw⟩
 ·refine j0c ⟨_,c,rfl⟩ ⟨_,a,rfl⟩ j15 seq_tuple_add a8 Q7 (J7 _ _)
   (tuple_addW2 t b vs.toArray ws.toArray n g h l k i (by simpa using hv) (by simpa using hw) (by rw [J0,J0];exact hsz)) ⟨c,a,?_⟩
  rw [e];exact h2 hw
noncomputable def sIx (n d:Nat):Option Int->Nat
 | none=>d
 | some v=>if v < 0 then (v + (n:Int)).toNat else min v.toNat n
theorem sIx_none (n d:Nat):sIx n d none=d:=rfl
theorem sIx_nat (n d k:Nat):sIx n d (some (k:Int))=min k n:=by show (if (k:Int) < 0 then ((k:Int) + (n:Int)).toNat else min (k:Int).toNat n)=min k n;rw [if_neg (by omega),F5]
theorem sIx_le (n d:Nat) (hd:d<=n) (o:Option Int):sIx n d o<=n:=by
 cases o with
 | none=>exact hd
 | some v=>
  show (if v < 0 then (v + (n:Int)).toNat else min v.toNat n)<=n;by_cases hv:v < 0
  ·rw [if_pos hv];omega
  ·rw [if_neg hv];exact Nat.min_le_right _ _
theorem zk3 (v:Int) (n d:Nat):(if v < 0 then max (v + (n:Int)) 0 else min v (n:Int))=((sIx n d (some v):Nat):Int):=by
 show (if v < 0 then max (v + (n:Int)) 0 else min v (n:Int))=(((if v < 0 then (v + (n:Int)).toNat else min v.toNat n):Nat):Int);by_cases hv:v < 0
 ·simp only [if_pos hv];omega
 ·simp only [if_neg hv];omega
theorem zh0 (lo hi:Option Int) (n:Nat):S6 lo hi 1 (n:Int)=(((sIx n 0 lo:Nat):Int),((sIx n n hi:Nat):Int)):=by
 have a:¬ ((1:Int) < 0):=by omega
 unfold S6;simp only [a,if_false];refine j11 ?_ ?_
 ·cases lo with
  | none=>rfl
  | some v=>exact zk3 v n 0
 ·cases hi with
  | none=>rfl
  | some v=>exact zk3 v n n
theorem zhi (i j:Nat):j5 (i:Int) (j:Int) 1=j - i:=by
 unfold j5;have a:(1:Int) > 0:=by omega
 simp only [a,if_true,Int.ediv_one];split<;>omega
theorem z9u {v:Value} {o:Option Int} {Q:Option Int->u0->Prop} (p:c9 v o) (h:Q o s):L0 (X0 prog w) A (Builtin.Slice.slicePartIndex v) Q E s:=by
 cases p with
 | none=>exact slicePart_none h
 | int i t=>exact slicePart_int h
theorem z2k {sl:Addr} {vl vu:Value} {lo hi:Option Int} {n:Nat} {Q:Int×Int×Nat->u0->Prop} (hs:s.heap.IsSliceOf sl vl vu .none) (pl:c9 vl lo) (pu:c9 vu hi)
  (h:Q (((sIx n 0 lo:Nat):Int),1,sIx n n hi - sIx n 0 lo) s):L0 (X0 prog w) A (B9 (.ref sl) (V2 (n:Int))) Q E s:=by
 obtain ⟨c,a,d,b⟩:=id hs;unfold B9 Builtin.Slice.sliceFields;refine c0 (c0 (m7 a b (x:=vl) rfl (c0 (m7 a b (x:=vu) rfl (c0 (m7 a b (x:=.none) rfl (x0 ?_)))))));refine c0 (slicePart_none ?_);show L0 _ _ (if ((1:Int) == 0)=true then _ else _) _ _ s;rw [if_neg (by decide)];refine c0 (z9u pl (c0 (z9u pu (c0 (x0 ?_)))));show L0 _ _ (match S6 lo hi 1 (n:Int) with|(lo,hi)=>V2 (lo,(1:Int),j5 lo hi 1)) _ _ s;rw [zh0 lo hi n];show L0 _ _ (V2 (((sIx n 0 lo:Nat):Int),(1:Int),j5 ((sIx n 0 lo:Nat):Int) ((sIx n n hi:Nat):Int) 1)) _ _ s;rw [zhi];exact x0 h
theorem zl2 (xs:Array Value) (i k:Nat):((G1 k).filterMap λ (m:Nat)=>xs[((i:Int) + (m:Int) * 1).toNat]?).toArray=((xs.toList.drop i).take k).toArray:=by
 have e:(λ (m:Nat)=>xs[((i:Int) + (m:Int) * 1).toNat]?)=λ m=>xs[i + m]?:=by
  funext m;have:((i:Int) + (m:Int) * 1).toNat=i + m:=by omega
  rw [this]
 rw [e];have:=pick_run xs i k;rw [List.filterMap_map] at this;have a:((λ x=>xs[x]?) ∘ λ x=>i + x)=λ m=>xs[i + m]?:=rfl;rw [a] at this;rw [this]
theorem getItem_tuple_cut {t sl:Addr} {items:Array Value} {vl vu:Value} {lo hi:Option Int} {Q:Value->u0->Prop} (ht:IsTup s.heap t items) (hs:s.heap.IsSliceOf sl vl vu .none) (pl:c9 vl lo) (pu:c9 vu hi)
  (hw:¬ (sIx items.size 0 lo=0/\sIx items.size items.size hi=items.size))
  (h:Q (.ref s.heap.objs.size) { s with heap:=s.heap.push { cls:=.type "tuple",data:=.seq ((items.toList.drop (sIx items.size 0 lo)).take (sIx items.size items.size hi - sIx items.size 0 lo)).toArray } })
  (hsz:items.size<=sizeLine):L0 (X0 prog w) A (z8 (.ref t) (.ref sl)) Q E s:=by
 have a:sizeOk (.seq ((items.toList.drop (sIx items.size 0 lo)).take (sIx items.size items.size hi - sIx items.size 0 lo)).toArray):=by show ((items.toList.drop (sIx items.size 0 lo)).take (sIx items.size items.size hi - sIx items.size 0 lo)).toArray.size<=sizeLine;rw [J0,P3,b8,v2];omega
 have g:sIx items.size items.size hi<=items.size:=sIx_le _ _ (A0 _) hi;obtain ⟨e,d,b,k⟩:=id hs;have f:s.TypeIs (.ref sl) "slice":=⟨e,d,b⟩
 unfold z8
 try with_reducible refine Z1 ?_
 first|refine c0 (x0 ?_)|skip
 refine c0 (wpAny_sequenceKey ht.typeIs (by decide) ?_);refine c0 (W2 (name:=Q1 "__getitem__") ht.typeIs v4
  (T2 v4 ht.typeIs entry_tuple_getitem ?_ (args_tuple_getitem _ _)))
 show L0 _ _ (A9 (.ref t) >>= _) _ _ s;refine c0 (tupleItemsOf_ ht ?_);refine c0 (O4 f ?_);rw [if_pos (by decide)];refine c0 (z2k hs pl pu ?_);have c:¬ ((((sIx items.size 0 lo:Nat):Int) == 0 && (1:Int) == 1 && (sIx items.size items.size hi - sIx items.size 0 lo) == items.size)=true):=by intro q;rw [D3,D3] at q;have i:((sIx items.size 0 lo:Nat):Int)=0:=eq_of_beq q.1.1;have j:sIx items.size items.size hi - sIx items.size 0 lo=items.size:=eq_of_beq q.2;exact hw ⟨by omega,by omega⟩
 show L0 _ _ (if (((sIx items.size 0 lo:Nat):Int) == 0 && (1:Int) == 1 && (sIx items.size items.size hi - sIx items.size 0 lo) == items.size)=true then _ else _) _ _ s;rw [if_neg c,zl2];first
  | exact c0 (m:=z5 _) (C2 (x0 ⟨_,rfl,x0 h⟩) a)
  | exact c0 (m:=z5 _) (C2 (c0 (x0 (x0 ⟨_,rfl,x0 h⟩))) a)
  | exact c0 (c0 (m:=z5 _) (C2 (x0 (x0 ⟨_,rfl,x0 h⟩)) a))
  | exact c0 (c0 (m:=z5 _) (C2 (x0 ⟨_,rfl,x0 h⟩) a))
end
end HT
namespace L2
open PySem PySem.Spec PyProof.Rows
noncomputable abbrev TO:=St->Hp->(Option Int->Hp->Prop)->Prop
def PO (X:Cx) (e:Option Expr) (t:TO):Prop:=
 ∀(pins:List (Addr×Obj)) (s:u0) (σ:St) (H:Hp) (Q:Option Int->Hp->Prop),Inv X pins σ H s->t σ H Q->
  L0 (X0 X.prog X.w) X.A (evalPart e X.env) (λ u s'=>∃o H',Inv X pins σ H' s'/\c9 u o/\Q o H') X.xe s
noncomputable def zf1:TO:=λ _ H Q=>Q none H
noncomputable def tPart (t:TE):TO:=λ σ H Q=>t σ H λ x H1=>∃i,x=.int i/\Q (some i) H1
theorem z6t {ns:List Int} :∀{us:List Value},Vals (ns.map V.int) us->c3 us ns:=by
 induction ns with
 | nil=>intro us r;rw [S5] at r;cases r;exact .nil
 | cons n ns ih=>
  intro us r;rw [R0] at r;cases r with
  | cons r1 r2=>obtain ⟨t,e⟩:=r1;subst e;exact .cons n t (ih r2)
section
variable {X:Cx} {e:Expr} {te:TE} {lo hi:Option Expr} {tl th:TO} {pos p2:Pos}
theorem z5z:PO X none zf1:=by intro a s σ H Q I h;rw [evalPart_none];exact x0 ⟨none,H,I,.none,h⟩
theorem z4p (h:PE X e te):PO X (some e) (tPart te):=by intro a s σ H Q I hw;rw [evalPart_some];refine thn (h a s σ H _ I hw) λ u b ⟨x,H1,I1,r1,q1⟩=>?_;obtain ⟨i,rfl,q⟩:=q1;obtain ⟨t,rfl⟩:=r1;exact ⟨some i,H1,I1,.int i t,q⟩
def SlR (X:Cx) (r:V->Option Int->Option Int->Hp->VK->Prop):Prop:=
 ∀(pins:List (Addr×Obj)) (s:u0) (σ:St) (H:Hp) (x:V) (v vl vu:Value) (lo hi:Option Int) (sl:Addr) (Q:VK),Inv X pins σ H s->RelV x v->s.heap.IsSliceOf sl vl vu .none->c9 vl lo->c9 vu hi->r x lo hi H Q->
  ∃T id,j31 (.type T) "__getitem__" = V2 (some (.builtin id))/\s.TypeIs v T/\L0 (X0 X.prog X.w) X.A (z8 v (.ref sl)) (EP X pins σ Q) X.xe s
theorem SlR.or {r r':V->Option Int->Option Int->Hp->VK->Prop} (h:SlR X r) (h':SlR X r'):SlR X (λ x lo hi H Q=>r x lo hi H Q\/r' x lo hi H Q):=by
 intro i s σ H x v b e lo hi f Q I a d c g q;rcases q with q|q
 ·exact h i s σ H x v b e lo hi f Q I a d c g q
 ·exact h' i s σ H x v b e lo hi f Q I a d c g q
noncomputable def tSl (r:V->Option Int->Option Int->Hp->VK->Prop) (te:TE) (tl th:TO):TE:=λ σ H Q=>te σ H λ x H1=>tl σ H1 λ l H2=>th σ H2 λ u H3=>r x l u H3 Q
theorem z2x {r:V->Option Int->Option Int->Hp->VK->Prop} (hr:SlR X r) (he:PE X e te) (hl:PO X lo tl) (hu:PO X hi th):PE X (.Subscript e (.Slice lo hi none p2) pos) (tSl r te tl th):=by intro c s σ H Q I h;refine Subscript_ (thn (he c s σ H _ I h) λ v j ⟨x,H1,I1,r1,q1⟩=>?_);refine wpAny_Slice (thn (hl c j σ H1 _ I1 q1) λ d g ⟨l,H2,I2,pl,q2⟩=>thn (hu c g σ H2 _ I2 q2) λ f a ⟨u,H3,I3,pu,q3⟩=>?_);rw [evalPart_none];refine x0 ?_;have i:Inv X c σ H3 { a with heap:=a.heap.push { cls:=.type "slice",data:=.fields #[d,f,.none] } }:=I3.kept (t':=a.toks) λ b o q=>y0 _ q;obtain ⟨T,id,k,n,m⟩:=hr c { a with heap:=a.heap.push { cls:=.type "slice",data:=.fields #[d,f,.none] } } σ H3 x v d f l u a.heap.objs.size Q i r1 (Heap.IsSliceOf.new ..) pl pu q3;show L0 (X0 X.prog X.w) X.A (subscriptTail e (.Slice lo hi none p2) v (.ref a.heap.objs.size)) (EP X c σ Q) X.xe { a with heap:=a.heap.push { cls:=.type "slice",data:=.fields #[d,f,.none] } };exact tail_any (ops:=[.ref a.heap.objs.size,v]) n k m (by with_unfolding_all rfl)
noncomputable def cutV (xs:List V) (lo hi:Option Int):List V:=(xs.drop (HT.sIx xs.length 0 lo)).take (HT.sIx xs.length xs.length hi - HT.sIx xs.length 0 lo)
theorem z7p (xs:List V) (lo hi:Option Int):(cutV xs lo hi).length<=xs.length:=by unfold cutV;rw [P3,b8];omega
def rSlT (K:b0):V->Option Int->Option Int->Hp->VK->Prop:=λ x lo hi H Q=>∃a xs,x=.ref a/\SqT K H a xs/\
 ¬ (HT.sIx xs.length 0 lo=0/\HT.sIx xs.length xs.length hi=xs.length)/\∀p,H p=none->Q (.ref p) (upd H p (.tup (cutV xs lo hi)))
theorem sl_tup:SlR X (rSlT X.K):=by
 intro u s σ H x v w y d e t Q I p j l m h;obtain ⟨a,c,rfl,k,hw,q⟩:=h;cases p;obtain ⟨n,r,i,g⟩:=I.tuple k;have f:n.toArray.size=c.length:=by rw [J0];exact r.length.symm
 refine ⟨"tuple",_,PyProof.Rows.slot_tuple_getitem.lookup,i.typeIs,?_⟩;refine HT.getItem_tuple_cut i j l m (by rw [f];exact hw) ?_ (by rw [f];exact g);rw [f];refine ⟨.ref s.heap.objs.size,_,I.laid (t':=s.toks) (o:=.tup (cutV c d e)) (λ b z q=>y0 _ q) (A0 _) ?_,rfl,q _ (I.hok.fresh (A0 _))⟩;exact ⟨C0 (z7p c d e) g,_,(r.drop (HT.sIx c.length 0 d)).take (HT.sIx c.length c.length e - HT.sIx c.length 0 d),IsTupN.new _ _⟩
noncomputable def rCatT (K:b0):R2:=λ x y H Q=>∃a b xs ys,x=.ref a/\y=.ref b/\SqT K H a xs/\SqT K H b ys/\xs≠[]/\xs.length + ys.length<=sizeLine/\
 (ys=[]->Q (.ref a) H)/\(ys≠[]->∀p,H p=none->Q (.ref p) (upd H p (.tup (xs++ys))))
theorem Vals.nil_iff {xs:List V} {us:List Value} (r:Vals xs us):us=[]↔xs=[]:=by
 cases r with
 | nil=>simp
 | cons _ _=>simp
theorem zcz:OpR X (P4 .Add) (rCatT X.K):=by intro A s σ H x y v u Q I n p h;obtain ⟨a,b,t,l,rfl,rfl,m,r,k,e,f,i⟩:=h;cases n;cases p;obtain ⟨C,d,g,_⟩:=I.tuple m;obtain ⟨D,c,j,_⟩:=I.tuple r;refine HT.cat_tup g j (λ z=>k (d.nil_iff.mp z)) (λ z=>⟨.ref a,H,I,rfl,f (c.nil_iff.mp z)⟩) (λ z=>?_) (by rw [<-d.length,<-c.length];exact e);refine ⟨.ref s.heap.objs.size,_,I.laid (t':=s.toks) (o:=.tup (t++l)) (λ b B q=>y0 _ q) (A0 _) ?_,rfl,i (λ w=>z (c.nil_iff.mpr w)) _ (I.hok.fresh (A0 _))⟩;exact ⟨by rw [F0];exact e,_,d.append c,IsTupN.new _ _⟩
end
noncomputable def ixN (n:Nat) (i:Int):Option Nat:=if 0<=i then (if i < n then some i.toNat else none) else if -(n:Int)<=i then some (i + n).toNat else none
noncomputable def atI {α:Type} (xs:List α) (i:Int):Option α:=(ixN xs.length i).bind λ j=>xs[j]?
theorem zk2 {n:Nat} {i:Int} {j:Nat} (h:ixN n i=some j):seqIndex? i n=some j/\j < n/\-(n:Int)<=i/\i < n:=by
 unfold ixN at h;by_cases h0:0<=i
 ·rw [if_pos h0] at h;by_cases h1:i < n
  ·rw [if_pos h1] at h;have e:i.toNat=j:=J1 h;exact ⟨by rw [seqIndex_of h0 h1,e],by omega,by omega,h1⟩
  ·rw [if_neg h1] at h;cases h
 ·rw [if_neg h0] at h;by_cases h1:-(n:Int)<=i
  ·rw [if_pos h1] at h;have e:(i + n).toNat=j:=J1 h;exact ⟨by rw [seqIndex_neg (by omega) h1,e],by omega,h1,by omega⟩
  ·rw [if_neg h1] at h;cases h
theorem zh4 {α:Type} {xs:List α} {i:Int} {v:α} (h:atI xs i=some v) :∃j,seqIndex? i xs.length=some j/\xs[j]? = some v/\j < xs.length/\-(xs.length:Int)<=i/\i < xs.length:=by
 unfold atI at h;cases e:ixN xs.length i with
 | none=>rw [e] at h;cases h
 | some j=>rw [e] at h;obtain ⟨a,d,b,c⟩:=zk2 e;exact ⟨j,a,h,d,b,c⟩
theorem z05 {α:Type} {xs:List α} {j:Nat} {v:α} (h:xs[j]? = some v):atI xs (j:Int)=some v:=by
 have a:j < xs.length:=(List.getElem?_eq_some_iff.mp h).1;have e:ixN xs.length (j:Int)=some j:=by unfold ixN;rw [if_pos (by omega),if_pos (by omega)];simp
 unfold atI;rw [e];exact h
def zjz (b:Expr):Prop:=∀o i,j1e b false o i=operate [o,i] (z8 o i)
def IxR (X:Cx) (r:R2):Prop:=
 ∀(value slice:Expr) (pins:List (Addr×Obj)) (s:u0) (σ:St) (H:Hp) (x y:V) (v u:Value) (Q:VK),Inv X pins σ H s->RelV x v->RelV y u->r x y H Q->
  j1e slice false v u=operate [v,u] (z8 v u)->L0 (X0 X.prog X.w) X.A (subscriptTail value slice v u) (EP X pins σ Q) X.xe s
def MtR (X:Cx) (id:String) (r:V->List V->Hp->VK->Prop):Prop:=
 ∀(pins:List (Addr×Obj)) (s:u0) (σ:St) (H:Hp) (x:V) (xs:List V) (v:Value) (us:List Value) (Q:VK),Inv X pins σ H s->RelV x v->Vals xs us->r x xs H Q->
  L0 (X0 X.prog X.w) X.A (call (.builtin id) (v :: us)) (EP X pins σ Q) X.xe s
section
variable {X:Cx} {a b:Expr} {ta tb:TE} {pos:Pos}
theorem IxR.or {r r':R2} (h:IxR X r) (h':IxR X r'):IxR X (λ x y H Q=>r x y H Q\/r' x y H Q):=by
 intro c e f s σ H x y v u Q I a b q d;rcases q with q|q
 ·exact h c e f s σ H x y v u Q I a b q d
 ·exact h' c e f s σ H x y v u Q I a b q d
theorem pe_ix {r:R2} (hr:IxR X r) (ha:PE X a ta) (hb:PE X b tb) (hs:zjz b):PE X (.Subscript a b pos) (tOp r ta tb):=by intro i s σ H Q I h;exact Subscript_ (binT ha hb I h λ v u c x y f g d e q=>hr a b i c σ f x y v u Q g d e q (hs _ _))
noncomputable def rIxL (K:b0):R2:=λ x y H Q=>∃p xs i v,x=.ref p/\y=.int i/\SqL K H p xs/\atI xs i=some v/\Q v H
noncomputable def rIxT (K:b0):R2:=λ x y H Q=>∃p xs i v,x=.ref p/\y=.int i/\SqT K H p xs/\atI xs i=some v/\Q v H
noncomputable def rIxS:R2:=λ x y H Q=>∃z i c,x=.str z/\y=.int i/\z.length<=sizeLine/\atI z.cps.toList i=some c/\Q (.str ⟨#[c]⟩) H
theorem ix_list:IxR X (rIxL X.K):=by
 intro L M d s σ H x y v u Q I C D h e;obtain ⟨p,O,i,z,rfl,rfl,B,l,q⟩:=h;cases C;obtain ⟨t,rfl⟩:=D;obtain ⟨A,r,c,G⟩:=I.list B;obtain ⟨j,a,n,J,F,E⟩:=zh4 l;obtain ⟨w,g,k⟩:=r.get n;have m:=r.length;have N:=line63;have f:EP X d σ Q w s:=⟨z,H,I,k,q⟩
 by_cases h0:0<=i
 ·have b:i.toNat=j:=by rw [seqIndex_of h0 E] at a;exact J1 a
  exact item_listR c.isList h0 (by omega) (by rw [b];simpa using g) f e
 ·have b:(i + (A.toArray.size:Int)).toNat=j:=by rw [seqIndex_neg (by omega) F] at a;rw [J0,<-m];exact J1 a
  exact subscriptTail_builtinR (x:=w) c.isList.typeIs slot_list_getitem.lookup
   (wpAny_getItem_list_neg (Q:=λ r o=>r=w/\EP X d σ Q r o) c.isList (by omega) (by rw [J0]<;>omega) (by omega) (by rw [b];simpa using g) ⟨rfl,f⟩) e
theorem ix_tup:IxR X (rIxT X.K):=by
 intro E F a s σ H x y v u Q I n o h f;obtain ⟨p,M,i,z,rfl,rfl,m,e,q⟩:=h;cases n;obtain ⟨t,rfl⟩:=o;obtain ⟨G,r,b,C⟩:=I.tuple m;obtain ⟨j,c,k,D,N,L⟩:=zh4 e;obtain ⟨w,B,d⟩:=r.get k;have g:=r.length;have J:=line63;have A:EP X a σ Q w s:=⟨z,H,I,d,q⟩
 exact subscriptTail_builtinR (x:=w) b.typeIs slot_tuple_getitem.lookup
  (getItem_tuple (j:=j) (Q:=λ r l=>r=w/\EP X a σ Q r l) b (by omega) (by omega) (by rw [J0,<-g];exact c) (by simpa using B) ⟨rfl,A⟩) f
theorem ix_str:IxR X rIxS:=by
 intro B C p s σ H x y v u Q I l m h e;obtain ⟨z,i,c,rfl,rfl,r,d,q⟩:=h;obtain ⟨t,rfl⟩:=l;obtain ⟨A,rfl⟩:=m;obtain ⟨j,a,g,w,o,n⟩:=zh4 d;have f:z.cps.toList.length=z.length:=by simp [Str.length]
 rw [f] at a o n;have D:=line63;exact tail_any (typeIs_str s z t) slot_str_getitem.lookup (getItem_str (c:=c) (by have k:decide (i < -(2 ^ 63:Int))=false:=decide_eq_false (by omega);have b:decide (i ≥ 2 ^ 63)=false:=decide_eq_false (by omega);rw [k,b,Bool.or_false]) (by rw [a];simpa using g) ⟨.str ⟨#[c]⟩,H,I.tok _,⟨_,rfl⟩,q⟩) e
noncomputable def rIx (K:b0):R2:=λ x y H Q=>rIxL K x y H Q\/rIxT K x y H Q\/rIxS x y H Q
theorem ix_seq:IxR X (rIx X.K):=ix_list.or (ix_tup.or ix_str)
theorem zg2 (its:List Value) (n j:Nat) (u:Value):M7 (·.setIfInBounds j u) { cls:=.type "list",data:=.seq its.toArray n }={ cls:=.type "list",data:=.seq (its.set j u).toArray n }:=by simp [M7]
theorem Inv.lst {pins:List (Addr×Obj)} {σ:St} {H:Hp} {s:u0} {p:Addr} {xs:List V} (I:Inv X pins σ H s) (h:H p=some (.lst xs)) :
  ∃(its:List Value) (n:Nat),Vals xs its/\s.heap.get? p=some { cls:=.type "list",data:=.seq its.toArray n }/\xs.length<=sizeLine:=by
 obtain ⟨z,its,n,r,e⟩:=I.hok p _ h;exact ⟨its,n,r,e,z⟩
theorem Inv.lstUpd {pins:List (Addr×Obj)} {σ:St} {H:Hp} {s:u0} {p:Addr} {xs ys:List V} {its its':List Value} {n n':Nat} {f:Obj->Obj} (I:Inv X pins σ H s) (h:H p=some (.lst xs))
  (ho:s.heap.get? p=some { cls:=.type "list",data:=.seq its.toArray n }) (hf:f { cls:=.type "list",data:=.seq its.toArray n }={ cls:=.type "list",data:=.seq its'.toArray n' }) (r:Vals ys its') (hz:ys.length<=sizeLine) (t:Nat) :
  Inv X pins σ (upd H p (.lst ys)) { s with heap:=s.heap.update p f,toks:=t }:=by
 have e:(s.heap.update p f).get? p=some { cls:=.type "list",data:=.seq its'.toArray n' }:=by rw [P2 f ho (by rw [hf]<;>rfl),hf]
 refine I.write (x:=p) (e:=p) (by rw [h];trivial) (.inl rfl) (λ b u a q=>(B6 _ _ (J2 a)).trans q) ⟨_,e⟩ ?_;exact ⟨hz,its',n',r,e⟩
def rSetL:V->V->V->Hp->(Hp->Prop)->Prop:=λ o i v H Q=>∃p xs k j,o=.ref p/\i=.int k/\H p=some (.lst xs)/\ixN xs.length k=some j/\Q (upd H p (.lst (xs.set j v)))
theorem z6x:PSet X rSetL:=by
 intro x s σ H o i v E G u Q I w C z h;obtain ⟨p,B,k,j,rfl,rfl,e,y,q⟩:=h;cases w;obtain ⟨t,rfl⟩:=C;obtain ⟨l,n,r,b,A⟩:=I.lst e;obtain ⟨a,D,f,m⟩:=zk2 y;have c:=r.length;have F:=line63;have g:Inv X x σ (upd H p (.lst (B.set j v))) { s with heap:=s.heap.update p (M7 (·.setIfInBounds j u)) }:=
  I.lstUpd e b (zg2 l n j u) (r.set z j) (by rw [j08];exact A) s.toks
 by_cases h0:0<=k
 ·have d:k.toNat=j:=by rw [seqIndex_of h0 m] at a;exact J1 a
  exact PySem.W.ki_setAt b h0 (by omega) (by rw [J0,<-c];exact m) (by rw [d];exact ⟨_,g,q⟩)
 ·have d:(k + (l.toArray.size:Int)).toNat=j:=by rw [seqIndex_neg (by omega) f] at a;rw [J0,<-c];exact J1 a
  exact PySem.W.ki_setBack b (by omega) (by rw [J0,<-c];exact f) (by omega) (by rw [d];exact ⟨_,g,q⟩)
theorem zaq (lo hi:Option Int) (n:Nat):(v7 lo hi none n).1=((HT.sIx n 0 lo:Nat):Int)/\(v7 lo hi none n).2.1=((HT.sIx n n hi:Nat):Int)/\(v7 lo hi none n).2.2=1:=by
 refine ⟨?_,?_,rfl⟩
 ·cases lo with
  | none=>simp [v7,HT.sIx]
  | some i=>
   simp only [v7,HT.sIx,Option.getD_none,show (1:Int) > 0 by decide,if_true];by_cases h:i < 0
   ·simp only [h,if_true]<;>omega
   ·simp only [h,if_false]<;>omega
 ·cases hi with
  | none=>simp [v7,HT.sIx]
  | some i=>
   simp only [v7,HT.sIx,Option.getD_none,show (1:Int) > 0 by decide,if_true];by_cases h:i < 0
   ·simp only [h,if_true]<;>omega
   ·simp only [h,if_false]<;>omega
theorem z9w (its:List Value) (lo hi:Option Int):slicePick its.toArray lo hi none=((its.drop (HT.sIx its.length 0 lo)).take (HT.sIx its.length its.length hi - HT.sIx its.length 0 lo)).toArray:=by obtain ⟨a,c,b⟩:=zaq lo hi its.toArray.size;unfold slicePick;rw [a,c,b];simp only [sliceRange_one,pick_run,J0]<;>rfl
def rSlL (K:b0):V->Option Int->Option Int->Hp->VK->Prop:=λ x lo hi H Q=>∃a xs,x=.ref a/\SqL K H a xs/\∀p,H p=none->Q (.ref p) (upd H p (.lst (cutV xs lo hi)))
theorem sl_list:SlR X (rSlL X.K):=by intro t s σ H x v u w d e p Q I n g k m h;obtain ⟨a,c,rfl,j,q⟩:=h;cases n;obtain ⟨z,r,f,i⟩:=I.list j;have l:=r.length;refine ⟨"list",_,slot_list_getitem.lookup,f.isList.typeIs,?_⟩;refine wpAny_getItem_list_slice f.isList g k m .none (by simp) ?_ (by rw [J0]<;>omega);rw [z9w,<-l];refine ⟨.ref s.heap.objs.size,_,I.laid (t':=s.toks) (o:=.lst (cutV c d e)) (λ b y q=>y0 _ q) (A0 _) ?_,rfl,q _ (I.hok.fresh (A0 _))⟩;exact ⟨C0 (z7p c d e) i,_,0,(r.drop (HT.sIx c.length 0 d)).take (HT.sIx c.length c.length e - HT.sIx c.length 0 d),M0 _ rfl⟩
noncomputable def flatV:V->Bool
 | .non=>true
 | .bl _=>true
 | .int _=>true
 | .str _=>true
 | _=>false
noncomputable def eqV:V->V->Bool
 | .non,.non=>true
 | .bl a,.bl b=>a == b
 | .bl a,.int b=>(if a then 1 else 0) == b
 | .int a,.bl b=>a == (if b then 1 else 0)
 | .int a,.int b=>a == b
 | .str a,.str b=>a == b
 | _,_=>false
theorem eqAt_V {A:L1} {s:u0} {y x:V} {u v:Value} (ry:RelV y u) (rx:RelV x v) (fy:flatV y=true) (fx:flatV x=true):SeqAt.EqAt A s u v (eqV y x):=by
 cases y with
 | non=>
  cases ry;cases x with
  | non=>cases rx;exact SeqAt.EqAt.same _
  | bl b=>cases rx;exact SeqAt.EqAt.none_bool b
  | int b=>obtain ⟨t,rfl⟩:=rx;exact SeqAt.EqAt.none_int b t
  | str b=>obtain ⟨t,rfl⟩:=rx;exact SeqAt.EqAt.none_str b t
  | _=>exact absurd (show false=true from fx) P0
 | bl a=>
  cases ry;cases x with
  | non=>cases rx;exact SeqAt.EqAt.bool_none a
  | bl b=>cases rx;exact SeqAt.EqAt.bool_bool a b
  | int b=>obtain ⟨t,rfl⟩:=rx;exact SeqAt.EqAt.bool_int a b t
  | str b=>obtain ⟨t,rfl⟩:=rx;exact SeqAt.EqAt.bool_str a b t
  | _=>exact absurd (show false=true from fx) P0
 | int a=>
  obtain ⟨c,rfl⟩:=ry;cases x with
  | non=>cases rx;exact SeqAt.EqAt.int_none a c
  | bl b=>cases rx;exact SeqAt.EqAt.int_bool a c b
  | int b=>obtain ⟨t,rfl⟩:=rx;exact SeqAt.EqAt.int_int a c b t
  | str b=>obtain ⟨t,rfl⟩:=rx;exact j1j a c b t
  | _=>exact absurd (show false=true from fx) P0
 | str a=>
  obtain ⟨c,rfl⟩:=ry;cases x with
  | non=>cases rx;exact SeqAt.EqAt.str_none a c
  | bl b=>cases rx;exact SeqAt.EqAt.str_bool a c b
  | int b=>obtain ⟨t,rfl⟩:=rx;exact j1i a c b t
  | str b=>obtain ⟨t,rfl⟩:=rx;exact j1h a c b t
  | _=>exact absurd (show false=true from fx) P0
 | _=>exact absurd (show false=true from fy) P0
noncomputable def eqU (x:V) (u:Value):Bool:=match u with
 | .none=>eqV .non x
 | .bool b=>eqV (.bl b) x
 | .int i _=>eqV (.int i) x
 | .str z _=>eqV (.str z) x
 | _=>false
theorem eqU_of {x y:V} {u:Value} (r:RelV y u) (f:flatV y=true):eqU x u=eqV y x:=by
 cases y with
 | non=>cases r;rfl
 | bl b=>cases r;rfl
 | int i=>obtain ⟨t,rfl⟩:=r;rfl
 | str z=>obtain ⟨t,rfl⟩:=r;rfl
 | _=>exact absurd (show false=true from f) P0
theorem zad {x:V} :∀{xs:List V} {us:List Value},Vals xs us->xs.all flatV=true->us.any (eqU x)=xs.any λ y=>eqV y x
 | _,_,.nil,_=>rfl
 | y :: xs,u :: us,.cons r t,f=>by rw [z9,D3] at f;rw [W7,W7,eqU_of r f.1,zad t f.2]
theorem z6j {A:L1} {s:u0} {x:V} {v:Value} (rx:RelV x v) (fx:flatV x=true) :∀{xs:List V} {us:List Value},Vals xs us->xs.all flatV=true->∀u∈us,SeqAt.EqAt A s u v (eqU x u)
 | _,_,.nil,_=>λ u a=>by cases a
 | y :: xs,u :: us,.cons r t,f=>λ b a=>by
  rw [z9,D3] at f;rcases List.mem_cons.mp a with rfl|a
  ·rw [eqU_of r f.1];exact eqAt_V r rx f.1 fx
  ·exact z6j rx fx t f.2 b a
noncomputable def inV (x:V) (xs:List V):Bool:=xs.any λ y=>eqV y x
noncomputable def rIn (K:b0) (neg:Bool):R2:=λ x y H Q=>∃p xs,y=.ref p/\(SqL K H p xs\/SqT K H p xs)/\flatV x=true/\xs.all flatV=true/\Q (.bl (if neg then !inV x xs else inV x xs)) H
theorem z1t:OpR X (j2 .In) (rIn X.K false):=by
 intro i s σ H x y v u Q I e g h;obtain ⟨p,j,rfl,b,d,fs,q⟩:=h;cases g;rcases b with b|b
 ·obtain ⟨a,r,c,f⟩:=I.list b;refine SeqAt.in_listAt (eqU x) c.isList (λ w hw=>z6j e d r fs w (by simpa using hw)) ⟨.bl _,H,I,rfl,?_⟩;rw [show a.toArray.any (eqU x)=a.any (eqU x) by simp,zad r fs];exact q
 ·obtain ⟨a,r,c,f⟩:=I.tuple b;refine SeqAt.in_tupleAt (eqU x) c (λ w hw=>z6j e d r fs w (by simpa using hw)) ⟨.bl _,H,I,rfl,?_⟩;rw [show a.toArray.any (eqU x)=a.any (eqU x) by simp,zad r fs];exact q
theorem z1h:OpR X (j2 .NotIn) (rIn X.K true):=by
 intro i s σ H x y v u Q I e g h;obtain ⟨p,j,rfl,b,d,fs,q⟩:=h;cases g;rcases b with b|b
 ·obtain ⟨a,r,c,f⟩:=I.list b;refine SeqAt.notIn_listAt (eqU x) c.isList (λ w hw=>z6j e d r fs w (by simpa using hw)) ⟨.bl _,H,I,rfl,?_⟩;rw [show a.toArray.any (eqU x)=a.any (eqU x) by simp,zad r fs];exact q
 ·obtain ⟨a,r,c,f⟩:=I.tuple b;refine SeqAt.notIn_tupleAt (eqU x) c (λ w hw=>z6j e d r fs w (by simpa using hw)) ⟨.bl _,H,I,rfl,?_⟩;rw [show a.toArray.any (eqU x)=a.any (eqU x) by simp,zad r fs];exact q
theorem call_len_seq:CallR X (.builtin "len") (λ xs H Q=>∃p ys,xs=[.ref p]/\(SqL X.K H p ys\/SqT X.K H p ys)/\Q (.int ys.length) H):=by
 intro k s σ H xs j Q I r h;obtain ⟨p,ys,rfl,a,q⟩:=h;obtain ⟨u,rfl,e⟩:=vals1 r;cases e;have i:=line63;rcases a with a|a
 ·obtain ⟨g,d,b,f⟩:=I.list a;have c:=d.length;exact Calls.call_len_list b.isList (by simp only [J0]<;>omega) ⟨.int ys.length,H,I.tok _,⟨s.toks + 1,by rw [J0,c]⟩,q⟩
 ·obtain ⟨g,d,b,f⟩:=I.tuple a;have c:=d.length;exact len_tuple b (by simp only [J0]<;>omega) ⟨.int ys.length,H,I.tok _,⟨s.toks + 1,by rw [J0,c]⟩,q⟩
theorem zb7:CallR X (.builtin "len") (λ xs H Q=>∃z,xs=[.str z]/\z.length<=sizeLine/\Q (.int z.length) H):=by intro c s σ H xs b Q I r h;obtain ⟨z,rfl,d,q⟩:=h;obtain ⟨u,rfl,t,rfl⟩:=vals1 r;have a:=line63;exact len_str (by omega) ⟨.int z.length,H,I.tok _,⟨_,rfl⟩,q⟩
theorem CallR.or {f:Value} {r r':List V->Hp->VK->Prop} (h:CallR X f r) (h':CallR X f r'):CallR X f (λ xs H Q=>r xs H Q\/r' xs H Q):=by
 intro c s σ H xs a Q I b q;rcases q with q|q
 ·exact h c s σ H xs a Q I b q
 ·exact h' c s σ H xs a Q I b q
theorem zbo:CallR X (.type "list") (λ xs H Q=>∃p ys,xs=[.ref p]/\(SqL X.K H p ys\/SqT X.K H p ys)/\∀l,H l=none->Q (.ref l) (upd H l (.lst ys))):=by
 intro y s σ H xs B Q I r h;obtain ⟨p,ys,rfl,j,q⟩:=h;obtain ⟨u,rfl,A⟩:=vals1 r;cases A;have x :∀(c:List Value),Vals ys c->ys.length<=sizeLine->∀(a:Heap) (f:Nat),(∀b o',s.heap.get? b=some o'->a.get? b=some o')->
   a.get? s.heap.objs.size=some { cls:=.type "list",dict:=none,data:=.seq c.toArray f,slots:=#[] }->EP X y σ Q (.ref s.heap.objs.size) { s with heap:=a }:=λ c d g a f i e=>
  ⟨.ref s.heap.objs.size,_,I.laid (t':=s.toks) i (A0 _) (show ObjOk X.prog X.w _ a _ (.lst ys) from ⟨g,c,f,d,e⟩),rfl,q _ (I.hok.fresh (A0 _))⟩
 rcases j with j|j
 ·obtain ⟨c,d,t,g⟩:=I.list j;have z:=d.length;obtain ⟨o,k,v,n,m⟩:=t.isList;exact call_list_seq p (.inl rfl) k v m (λ a f i e=>x c d g a f i e) (by simp only [J0]<;>omega)
 ·obtain ⟨c,d,t,g⟩:=I.tuple j;have z:=d.length;obtain ⟨o,k,v,n,m⟩:=t;exact call_list_seq p (.inr rfl) k v m (λ a f i e=>x c d g a f i e) (by simp only [J0]<;>omega)
theorem z0n:CallR X (.type "tuple") (λ xs H Q=>∃p ys,xs=[.ref p]/\((SqL X.K H p ys/\∀l,H l=none->Q (.ref l) (upd H l (.tup ys)))\/(SqT X.K H p ys/\Q (.ref p) H))):=by
 intro i s σ H xs x Q I r h;obtain ⟨p,ys,rfl,h⟩:=h;obtain ⟨u,rfl,t⟩:=vals1 r;cases t;rcases h with ⟨g,q⟩|⟨g,q⟩
 ·obtain ⟨f,c,d,j⟩:=I.list g;have v:=c.length;refine call_tuple_list d.isList (λ a n=>?_) (by simp only [J0]<;>omega);have k:Inv X i σ H { s with heap:=a }:=I.kept (t':=s.toks) n;have m:Inv X i σ (upd H a.objs.size (.tup ys)) { s with heap:=a.push { cls:=.type "tuple",data:=.seq f.toArray } }:=
   k.laid (t':=s.toks) (λ b o e=>y0 _ e) (A0 _) (show ObjOk X.prog X.w _ _ _ (.tup ys) from ⟨j,f,c,IsTupN.new _ _⟩)
  exact ⟨.ref a.objs.size,_,m,rfl,q _ (k.hok.fresh (A0 _))⟩
 ·obtain ⟨f,c,d,j⟩:=I.tuple g;exact call_tuple_same d ⟨.ref p,H,I,rfl,q⟩
def tyV (K:b0) (T:String) (x:V) (H:Hp):Prop:=match x with
 | .str _=>T = "str"
 | .int _=>T = "int"
 | .ref p=>(T = "list"/\∃xs,SqL K H p xs)\/(T = "tuple"/\∃o,K.lookup p=some o/\o.cls=.type "tuple"/\o.dict=none)\/
   (T = "dict"/\((∃kvs,H p=some (.dK kvs))\/∃kvs,H p=some (.dT kvs)))\/(T = "set"/\∃S n,H p=some (.set S n))
 | _=>False
theorem tyV_is {pins:List (Addr×Obj)} {σ:St} {H:Hp} {s:u0} {T:String} {x:V} {v:Value} (I:Inv X pins σ H s) (r:RelV x v) (ty:tyV X.K T x H) :
  s.TypeIs v T/\∀a,v=.ref a->∃ob,s.heap.get? a=some ob/\ob.dict=none:=by
 cases x with
 | str z=>obtain ⟨t,rfl⟩:=r;cases (show T = "str" from ty);exact ⟨typeIs_str s z t,λ _ e=>nomatch e⟩
 | int i=>obtain ⟨t,rfl⟩:=r;cases (show T = "int" from ty);exact ⟨typeIs_int s i t,λ _ e=>nomatch e⟩
 | ref p=>
  cases r;rcases ty with ⟨rfl,l,k⟩|⟨rfl,o,b,hc,g⟩|⟨rfl,b⟩|⟨rfl,S,n,b⟩
  ·obtain ⟨m,_,h,_⟩:=I.list k;refine ⟨h.isList.typeIs,λ a e=>?_⟩;cases e;obtain ⟨o,n,e,c,g,_⟩:=h;exact ⟨o,e,g⟩
  ·refine ⟨⟨o,I.kIn p o b,hc⟩,λ a e=>?_⟩;cases e;exact ⟨o,I.kIn _ o b,g⟩
  ·have z :∃o,s.heap.get? p=some o/\o.ExactDict:=by
    rcases b with ⟨j,b⟩|⟨j,b⟩
    ·obtain ⟨_,_,_,_,o,_,_,e,d,_⟩:=I.hok p _ b;exact ⟨o,e,d⟩
    ·obtain ⟨_,_,_,_,o,_,_,e,d,_⟩:=I.hok p _ b;exact ⟨o,e,d⟩
   obtain ⟨o,e,d⟩:=z;refine ⟨⟨o,e,d.1⟩,λ a f=>?_⟩;cases f;exact ⟨o,e,d.2.1⟩
  ·obtain ⟨o,_,_,_,e,d,_⟩:=I.hok p _ b;refine ⟨⟨o,e,d.1⟩,λ a f=>?_⟩;cases f;exact ⟨o,e,d.2.1⟩
 | _=>exact W3 ty
noncomputable def tBM0 (K:b0) (T:String) (r:V->List V->Hp->VK->Prop) (to:TE):TE:=λ σ H Q=>to σ H λ x H1=>tyV K T x H1/\r x [] H1 Q
noncomputable def tBM (K:b0) (T:String) (r:V->List V->Hp->VK->Prop) (to:TE) (t:TA):TE:=λ σ H Q=>to σ H λ x H1=>tyV K T x H1/\t σ H1 λ xs H2=>r x xs H2 Q
variable {o e:Expr} {es:List Expr} {to:TE} {t:TA} {name:Str} {apos cpos:Pos} {T id:String} {r:V->List V->Hp->VK->Prop}
theorem pe_bm0 (pa:PlainAttrs T) (slot:Slot T name id) (hty:typeOf (.builtin id)=V2 (.type "method_descriptor")) (hm:MtR X id r) (ho:PE X o to)
  (hbase:U3 o name X.env (d3 o X.env)=d3 o X.env:=by rfl) (hline:(apos.endLine == cpos.line)=true:=by rfl):PE X (.Call (.Attribute o name apos) [] [] cpos) (tBM0 X.K T r to):=by
 intro a s σ H Q I h;refine wpAny_Call_method0_late hbase hline (thn (ho a s σ H _ I h) λ v d ⟨x,H1,I1,r1,ty,q1⟩=>?_);obtain ⟨b,c⟩:=tyV_is I1 r1 ty;exact ⟨T,id,pa,slot,hty,b,c,z6 rfl (PySem.evalArgs_none (hm a d σ H1 x [] v [] Q I1 r1 .nil q1))⟩
theorem pe_bm (pa:PlainAttrs T) (slot:Slot T name id) (hty:typeOf (.builtin id)=V2 (.type "method_descriptor")) (hm:MtR X id r) (ho:PE X o to) (ha:PA X (e :: es) t)
  (hbase:U3 o name X.env (d3 o X.env)=d3 o X.env:=by rfl)
  (hfew:((E4 cpos (A1 (e :: es) X.env)).all (λ x=>!x.1) && (N8 cpos (K6 [] X.env)).all (λ x=>x.1.isSome)
   && decide ((e :: es).length + ([]:List j6).length + (if ([]:List j6).isEmpty then 0 else 1) < 30))=true:=by rfl)
  (hline:(apos.endLine == cpos.line)=true:=by rfl) (hs:A1 (e :: es) X.env=(false,d3 e X.env) :: A1 es X.env:=by rfl) (hplain:(E4 cpos (A1 es X.env)).any (·.1)=false:=by rfl) :
  PE X (.Call (.Attribute o name apos) (e :: es) [] cpos) (tBM X.K T r to t):=by
 intro a s σ H Q I h;refine wpAny_Call_method_late hbase hfew hline rfl (thn (ho a s σ H _ I h) λ v i ⟨x,H1,I1,r1,ty,q1⟩=>?_);obtain ⟨c,d⟩:=tyV_is I1 r1 ty;refine ⟨T,id,pa,slot,hty,c,d,?_⟩;have b:=ha cpos a i σ H1 _ I1 q1;rw [hs] at b⊢;refine z6 (by show (false || (E4 cpos (A1 es X.env)).any (·.1))=false;rw [hplain]<;>rfl) (Q8 ?_);exact thn b λ f g ⟨vs,H2,I2,r2,q2⟩=>hm a g σ H2 x vs v f Q I2 r1 r2 q2
end
def MtM (X:Cx) (id:String) (r:V->List V->Hp->VK->Prop):Prop:=
 ∀(pins:List (Addr×Obj)) (s:u0) (σ:St) (H:Hp) (x:V) (xs:List V) (v:Value) (us:List Value) (Q:VK),Inv X pins σ H s->RelV x v->Vals xs us->r x xs H Q->
  L0 (X0 X.prog X.w) X.A (call (.builtin id) (v :: us)) (EP X pins σ Q) X.xe s
theorem Vals.one :∀{x:V} {us:List Value},Vals [x] us->∃u,us=[u]/\RelV x u
 | _,_,.cons r .nil=>⟨_,rfl,r⟩
theorem Vals.zero :∀{us:List Value},Vals [] us->us=[]
 | _,.nil=>rfl
theorem Vals.dropLast {xs:List V} {us:List Value} (h:Vals xs us):Vals xs.dropLast us.dropLast:=by
 induction h with
 | nil=>exact .nil
 | cons r t ih=>
  cases t with
  | nil=>exact .nil
  | cons q t'=>exact .cons r ih
theorem Vals.eraseIdx :∀{xs:List V} {us:List Value} (i:Nat),Vals xs us->Vals (xs.eraseIdx i) (us.eraseIdx i)
 | _,_,_,.nil=>.nil
 | _,_,0,.cons _ t=>t
 | _,_,i + 1,.cons r t=>.cons r (Vals.eraseIdx i t)
theorem zey {α:Type} (l:List α):l.eraseIdx (l.length - 1)=l.dropLast:=by
 induction l with
 | nil=>rfl
 | cons a r ih=>
  cases r with
  | nil=>rfl
  | cons b r=>
   have e:(a :: b :: r).length - 1=((b :: r).length - 1) + 1:=by have c:(a :: b :: r).length=r.length + 2:=rfl;have d:(b :: r).length=r.length + 1:=rfl;omega
   rw [e,List.eraseIdx_cons_succ,ih]
   all_goals rfl
theorem zd6 {α:Type} :∀(l:List α) (i:Nat),(l.eraseIdx i).length<=l.length
 | [],_=>A0 _
 | _ :: _,0=>B2 _
 | _ :: r,i + 1=>Y5 (zd6 r i)
section
variable {X:Cx} {pins:List (Addr×Obj)} {σ:St} {H:Hp} {s:u0} {l b:Addr} {xs ys zs:List V}
theorem Inv.lset {its its':List Value} {n:Nat} {f:Array Value->Array Value} {t':Nat} (I:Inv X pins σ H s) (hH:H l=some (.lst xs))
  (e:s.heap.get? l=some { cls:=.type "list",data:=.seq its.toArray n }) (hf:f its.toArray=its'.toArray) (hv:Vals ys its') (hz:ys.length<=sizeLine) :
  Inv X pins σ (upd H l (.lst ys)) { s with heap:=s.heap.update l (M7 f),toks:=t' }:=by
 have q:=PySem.IsL.update e f;rw [hf] at q;refine I.write (x:=l) (e:=l) (by rw [hH];exact trivial) (.inl rfl) (λ c u b a=>(B6 s.heap (M7 f) (J2 b)).trans a) ⟨_,q⟩ ?_;exact ⟨hz,its',_,hv,q⟩
theorem Inv.lnew {its:List Value} {t':Nat} (I:Inv X pins σ H s) (hv:Vals ys its) (hz:ys.length<=sizeLine) :
  Inv X pins σ (upd H s.heap.objs.size (.lst ys)) { s with heap:=s.heap.push { cls:=.type "list",data:=.seq its.toArray },toks:=t' }:=
 I.laid (λ _ _ q=>y0 _ q) (A0 _) ⟨hz,its,0,hv,M0 _ rfl⟩
theorem Inv.fresh (I:Inv X pins σ H s):H s.heap.objs.size=none:=I.hok.fresh (A0 _)
theorem Inv.lstM (I:Inv X pins σ H s) (hH:H l=some (.lst xs)):xs.length<=sizeLine/\∃(its:List Value) (n:Nat),Vals xs its/\xs.length=its.length/\s.heap.get? l=some { cls:=.type "list",data:=.seq its.toArray n }:=by obtain ⟨z,its,n,r,e⟩:=I.hok l _ hH;exact ⟨z,its,n,r,r.length,e⟩
theorem zkh {n:Nat} (h:n<=sizeLine):a7 n=false:=by unfold a7;exact decide_eq_false (by omega)
end
section
variable {X:Cx}
def zjx:V->List V->Hp->VK->Prop:=λ x vs H Q=>∃l xs y,x=.ref l/\vs=[y]/\H l=some (.lst xs)/\xs.length < sizeLine/\Q .non (upd H l (.lst (xs++[y])))
theorem zj9:MtM X "list.append" zjx:=by intro g s σ H x j v m Q I f d h;obtain ⟨l,o,y,rfl,rfl,b,i,q⟩:=h;cases f;obtain ⟨u,rfl,c⟩:=d.one;obtain ⟨z,a,n,r,k,e⟩:=I.lstM b;refine Z7 F.slot_list_append ⟨_,e,rfl⟩ F.entry_list_append (F.args_list_append_2 _ _) (PySem.list_append l a.toArray n u (by rw [J0];omega)) ⟨e,?_⟩;refine ⟨.non,_,I.lset (its':=a++[u]) b e (by simp) (r.append (.cons c .nil)) ?_,rfl,q⟩;rw [F0,List.length_singleton];omega
def zjt:V->List V->Hp->VK->Prop:=λ x vs H Q=>∃l b xs zs,x=.ref l/\vs=[.ref b]/\H l=some (.lst xs)/\H b=some (.lst zs)/\xs.length + zs.length<=sizeLine/\Q .non (upd H l (.lst (xs++zs)))
theorem zj3:MtM X "list.extend" zjt:=by
 intro w s σ H x A v D Q I p m h;obtain ⟨l,b,G,J,rfl,rfl,d,g,y,q⟩:=h;cases p;obtain ⟨u,rfl,j⟩:=m.one;cases j;obtain ⟨z,a,n,r,B,e⟩:=I.lstM d;obtain ⟨C,c,i,o,E,f⟩:=I.lstM g;have t:a.toArray.size + c.toArray.size<=sizeLine:=by rw [J0,J0];omega
 have k:¬ (not a.toArray.isEmpty && a7 (a.toArray.size + c.toArray.size))=true:=by rw [zkh t,C6];exact P0
 refine Z7 F.slot_list_extend ⟨_,e,rfl⟩ F.entry_list_extend (F.args_list_extend_2 _ _)
  (AutoSeq1.list_extend_list_list_0 l a.toArray n b c.toArray i k (by rw [J0];omega) (by omega)) ⟨e,f,?_⟩
 refine ⟨.non,_,I.lset (its':=a++c) d e (by simp) (r.append o) ?_,rfl,q⟩;rw [F0];omega
def rPop:V->List V->Hp->VK->Prop:=λ x vs H Q=>∃l xs y,x=.ref l/\vs=[]/\H l=some (.lst xs)/\xs[xs.length - 1]? = some y/\Q y (upd H l (.lst xs.dropLast))
theorem mt_pop:MtM X "list.pop" rPop:=by
 intro o s σ H x p v t Q I k f h;obtain ⟨l,w,y,rfl,rfl,b,c,q⟩:=h;cases k;have i:=f.zero;subst i;obtain ⟨z,a,n,r,g,e⟩:=I.lstM b;obtain ⟨u,j,d⟩:=r.get c;have m:a.toArray[a.toArray.size - 1]? = some u:=by show a.toArray[a.length - 1]? = some u;rw [<-N3,<-g];exact j
 refine Z7 F.slot_list_pop ⟨_,e,rfl⟩ F.entry_list_pop (F.args_list_pop_1 _) (MeetsSeq.list_pop_last l a.toArray n u m (by rw [J0];omega)) ⟨e,?_⟩;refine ⟨y,_,I.lset (its':=a.dropLast) b e ?_ r.dropLast ?_,d,q⟩
 ·show a.toArray.eraseIdxIfInBounds (a.toArray.size - 1)=a.dropLast.toArray;rw [J0,j02,zey]
 ·rw [List.length_dropLast];omega
def rPopAt:V->List V->Hp->VK->Prop:=λ x vs H Q=>∃l xs i k y,x=.ref l/\vs=[.int i]/\H l=some (.lst xs)/\-(2 ^ 63)<=i/\i < 2 ^ 63/\seqIndex? i xs.length=some k/\xs[k]? = some y/\Q y (upd H l (.lst (xs.eraseIdx k)))
theorem zkm:MtM X "list.pop" rPopAt:=by
 intro C s σ H x D v E Q I p j h;obtain ⟨l,A,i,k,y,rfl,rfl,b,c,o,B,f,q⟩:=h;cases p;obtain ⟨u,rfl,g⟩:=j.one;obtain ⟨t,rfl⟩:=g;obtain ⟨z,a,n,r,m,e⟩:=I.lstM b;obtain ⟨w,hw,d⟩:=r.get f;refine Z7 F.slot_list_pop ⟨_,e,rfl⟩ F.entry_list_pop (F.args_list_pop_2 _ _)
  (MeetsSeq.list_pop_at l a.toArray n i t k w (fitsIndex_both c o) (by rw [J0,<-m];exact B) (by rw [<-N3];exact hw) (by rw [J0];omega)) ⟨e,?_⟩
 refine ⟨y,_,I.lset (its':=a.eraseIdx k) b e ?_ (r.eraseIdx k) ?_,d,q⟩
 ·show a.toArray.eraseIdxIfInBounds k=(a.eraseIdx k).toArray;rw [j02]
 ·have:=zd6 A k;omega
noncomputable def rCat:R2:=λ x y H Q=>∃l b xs zs,x=.ref l/\y=.ref b/\H l=some (.lst xs)/\H b=some (.lst zs)/\xs.length + zs.length<=sizeLine/\∀p,H p=none->Q (.ref p) (upd H p (.lst (xs++zs)))
theorem op_cat:OpR X (P4 .Add) rCat:=by
 intro p s σ H x y v u Q I j k h;obtain ⟨l,b,C,D,rfl,rfl,m,f,t,q⟩:=h;cases j;cases k;obtain ⟨z,a,n,r,w,e⟩:=I.lstM m;obtain ⟨A,c,o,i,B,d⟩:=I.lstM f;refine PySem.P.add_list e d ?_ (by rw [J0,J0];omega);have g:a.toArray++c.toArray=(a++c).toArray:=by simp
 rw [g];exact ⟨.ref _,_,I.lnew (t':=s.toks) (r.append i) (by rw [F0];omega),rfl,q _ I.fresh⟩
end
section
variable {prog:Program} {w:S0} {A:L1} {E:Value->u0->Prop} {s:u0}
set_option maxRecDepth 100000 in
end
section
variable {κ:Type} [DecidableEq κ]
noncomputable def valV (kvs:List (κ×V)) (k:κ):Option V:=(kvs.find? λ kv=>decide (kv.1=k)).map (·.2)
noncomputable def putK (kvs:List (κ×V)) (k:κ) (v:V):List (κ×V):=
 if (kvs.any λ kv=>decide (kv.1=k))=true then kvs.map (λ kv=>if kv.1=k then (kv.1,v) else kv) else kvs++[(k,v)]
noncomputable def dropK (kvs:List (κ×V)) (k:κ):List (κ×V):=kvs.filter λ kv=>decide (kv.1≠k)
theorem z0t {p:κ×V} {r:List (κ×V)} {k:κ} (e:p.1=k):valV (p :: r) k=some p.2:=by simp [valV,G4,e]
theorem z0p {p:κ×V} {r:List (κ×V)} {k:κ} (e:¬ p.1=k):valV (p :: r) k=valV r k:=by simp [valV,G4,e]
theorem z83 (k:κ) :∀kvs:List (κ×V),(kvs.any λ kv=>decide (kv.1=k))=(valV kvs k).isSome
 | []=>rfl
 | p :: r=>by
  rw [W7];by_cases e:p.1=k
  ·simp only [z0t e,decide_eq_true e,Bool.true_or,Option.isSome_some]
  ·rw [z0p e,decide_eq_false e,F9];exact z83 k r
theorem zgk (k j:κ) (y:V) :∀kvs:List (κ×V),valV (kvs.map λ kv=>if kv.1=k then (kv.1,y) else kv) j=(valV kvs j).map λ x=>if j=k then y else x
 | []=>rfl
 | p :: r=>by
  have a:=zgk k j y r;rw [R0];by_cases h:p.1=k
  ·rw [if_pos h];by_cases e:p.1=j
   ·rw [z0t (p:=(p.1,y)) e,z0t e,T6,if_pos (e.symm.trans h)]
   ·rw [z0p (p:=(p.1,y)) e,z0p e,a]
  ·rw [if_neg h];by_cases e:p.1=j
   ·rw [z0t (p:=p) e,z0t e,T6,if_neg (λ z=>h (e.trans z))]
   ·rw [z0p (p:=p) e,z0p e,a]
theorem zd0 (k j:κ) (y:V) :∀kvs:List (κ×V),valV kvs k=none->valV (kvs++[(k,y)]) j=if j=k then some y else valV kvs j
 | [],_=>by
  by_cases e:k=j
  ·rw [if_pos e.symm];exact z0t (p:=(k,y)) e
  ·rw [if_neg (λ z=>e z.symm)];exact z0p (p:=(k,y)) e
 | p :: r,hn=>by
  rw [List.cons_append];have a:¬ p.1=k:=λ z=>by rw [z0t z] at hn;cases hn
  rw [z0p a] at hn;have b:=zd0 k j y r hn;by_cases e:p.1=j
  ·rw [z0t e,z0t e,if_neg (λ z=>a (e.trans z))]
  ·rw [z0p e,z0p e,b]
theorem z1d (kvs:List (κ×V)) (k j:κ) (y:V):valV (putK kvs k y) j=if j=k then some y else valV kvs j:=by
 unfold putK;by_cases a:(kvs.any λ b=>decide (b.1=k))=true
 ·rw [if_pos a,zgk];rw [z83] at a;by_cases e:j=k
  ·obtain ⟨x,c⟩:=Option.isSome_iff_exists.mp a;rw [if_pos e,e,c,T6,if_pos rfl]
  ·rw [if_neg e];cases valV kvs j with
   | none=>rfl
   | some x=>rw [T6,if_neg e]
 ·rw [if_neg a];refine zd0 k j y kvs ?_;rw [z83] at a;cases q:valV kvs k with
  | none=>rfl
  | some x=>rw [q] at a;exact (a rfl).elim
theorem z3a (kvs:List (κ×V)) (k:κ) (v:V):(putK kvs k v).length<=kvs.length + 1:=by
 unfold putK;split
 ·rw [D0];omega
 ·rw [F0,Z0,F4];omega
theorem RelO.isSome_eq {o:Option V} {u:Option Value} (r:RelO o u):o.isSome=u.isSome:=by
 cases o with
 | none=>cases u with
  | none=>rfl
  | some _=>exact (show False from r).elim
 | some _=>cases u with
  | none=>exact (show False from r).elim
  | some _=>rfl
theorem RelO.getD {o:Option V} {u:Option Value} {d:V} {d':Value} (r:RelO o u) (rd:RelV d d'):RelV (o.getD d) (u.getD d'):=by
 cases o with
 | none=>cases u with
  | none=>exact rd
  | some _=>exact (show False from r).elim
 | some _=>cases u with
  | none=>exact (show False from r).elim
  | some _=>exact r
theorem KV.val {kvs:List (κ×V)} {vs:List (κ×Value)} (r:KV kvs vs) (k:κ):RelO (valV kvs k) (Q9 vs k):=by
 unfold KV at r;induction r with
 | nil=>exact True.intro
 | @cons p q ps qs h t ih=>
  obtain ⟨c,d⟩:=h;by_cases e:p.1=k
  ·have a:q.1=k:=c.symm.trans e;have b:Q9 (q :: qs) k=some q.2:=by simp [Q9,G4,a]
   rw [z0t e,b];exact d
  ·have a:¬ q.1=k:=λ z=>e (c.trans z);have b:Q9 (q :: qs) k=Q9 qs k:=by simp [Q9,G4,a]
   rw [z0p e,b];exact ih
theorem KV.any {kvs:List (κ×V)} {vs:List (κ×Value)} (r:KV kvs vs) (k:κ):(kvs.any λ kv=>decide (kv.1=k))=vs.any λ kv=>decide (kv.1=k):=by
 unfold KV at r;induction r with
 | nil=>rfl
 | cons h t ih=>rw [W7,W7,ih,h.1]
theorem KV.repl {kvs:List (κ×V)} {vs:List (κ×Value)} (r:KV kvs vs) (k:κ) {y:V} {u:Value} (ry:RelV y u) :
  KV (kvs.map λ kv=>if kv.1=k then (kv.1,y) else kv) (vs.map λ kv=>if kv.1=k then (kv.1,u) else kv):=by
 unfold KV at r⊢;induction r with
 | nil=>exact .nil
 | @cons p q ps qs h t ih=>
  rw [R0,R0];refine .cons ?_ ih;obtain ⟨a,b⟩:=h;by_cases e:p.1=k
  ·rw [if_pos e,if_pos (a.symm.trans e)];exact ⟨a,ry⟩
  ·rw [if_neg e,if_neg (λ z=>e (a.trans z))];exact ⟨a,b⟩
theorem KV.put {kvs:List (κ×V)} {vs:List (κ×Value)} (r:KV kvs vs) (k:κ) {y:V} {u:Value} (ry:RelV y u):KV (putK kvs k y) (stored vs k u):=by
 unfold putK stored;rw [r.any k];by_cases e:(vs.any λ a=>decide (a.1=k))=true
 ·rw [if_pos e,if_pos e];exact r.repl k ry
 ·rw [if_neg e,if_neg e];exact Paired.snoc r ⟨rfl,ry⟩
theorem KV.drop {kvs:List (κ×V)} {vs:List (κ×Value)} (r:KV kvs vs) (k:κ):KV (dropK kvs k) (without vs k):=by
 unfold KV at r⊢;unfold dropK without;induction r with
 | nil=>exact .nil
 | @cons p q ps qs h t ih=>
  obtain ⟨c,d⟩:=h;rw [R4,R4];by_cases e:p.1=k
  ·have a:¬ decide (p.1≠k)=true:=by simp [e]
   have b:¬ decide (q.1≠k)=true:=by simp [c.symm.trans e]
   rw [if_neg a,if_neg b];exact ih
  ·have f:¬ q.1=k:=λ z=>e (c.trans z);have a:decide (p.1≠k)=true:=by simp [e]
   have b:decide (q.1≠k)=true:=by simp [f]
   rw [if_pos a,if_pos b];exact .cons ⟨c,d⟩ ih
theorem KV.keys {kvs:List (κ×V)} {vs:List (κ×Value)} (r:KV kvs vs):kvs.map (·.1)=vs.map (·.1):=by
 unfold KV at r;induction r with
 | nil=>rfl
 | cons h t ih=>rw [R0,R0,ih,h.1]
theorem KV.length {kvs:List (κ×V)} {vs:List (κ×Value)} (r:KV kvs vs):kvs.length=vs.length:=N7 r
theorem zlv (kvs:List (κ×V)) (k:κ):(dropK kvs k).length<=kvs.length:=D2 _ _
end
theorem kV_is {P:Program} {w:S0} {k:Key} {u:Value} (r:RelV (kV k) u):(z0h P w).is k u=true:=by
 cases k with
 | inl i=>obtain ⟨t,e⟩:=(show∃t,u=L6 i t from r);subst e;exact zds P w i t
 | inr x=>obtain ⟨t,e⟩:=(show∃t,u=g7 x t from r);subst e;exact zdu P w x t
theorem zdg {P:Program} {w:S0} :∀{ks:List Key} {us:List Value},Vals (ks.map kV) us->ItemsAre (z0h P w) ks us
 | [],_,r=>by rw [S5] at r;cases r;exact .nil
 | k :: ks,_,r=>by
  rw [R0] at r;cases r with
  | cons h t=>exact .cons (kV_is h) (zdg t)
abbrev KT (H:Hp):List (List Key×V)->List (List Key×Addr×Value)->Prop:=Z8 λ p q=>p.1=q.1/\H q.2.1=some (.tup (p.1.map kV))/\RelV p.2 q.2.2
theorem KT.val {H:Hp} {kvs:List (List Key×V)} {xs:List (List Key×Addr×Value)} (r:KT H kvs xs) (k:List Key):RelO (valV kvs k) ((O8 xs k).map (·.2)):=by
 induction r with
 | nil=>exact True.intro
 | @cons p q ps qs h t ih=>
  obtain ⟨c,_,d⟩:=h;by_cases e:p.1=k
  ·have a:q.1=k:=c.symm.trans e;have b:O8 (q :: qs) k=some q.2:=by simp [O8,G4,a]
   rw [z0t e,b];exact d
  ·have a:¬ q.1=k:=λ z=>e (c.trans z);have b:O8 (q :: qs) k=O8 qs k:=by simp [O8,G4,a]
   rw [z0p e,b];exact ih
theorem KT.repl {H:Hp} {kvs:List (List Key×V)} {xs:List (List Key×Addr×Value)} (r:KT H kvs xs) (k:List Key) {y:V} {u:Value} (ry:RelV y u) :
  KT H (kvs.map λ kv=>if kv.1=k then (kv.1,y) else kv) (xs.map (putAt k u)):=by
 induction r with
 | nil=>exact .nil
 | @cons p q ps qs h t ih=>
  rw [R0,R0];refine .cons ?_ ih;obtain ⟨a,b,c⟩:=h;unfold putAt;by_cases e:p.1=k
  ·rw [if_pos e,if_pos (a.symm.trans e)];exact ⟨a,b,ry⟩
  ·rw [if_neg e,if_neg (λ z=>e (a.trans z))];exact ⟨a,b,c⟩
theorem KT.put {H:Hp} {kvs:List (List Key×V)} {xs:List (List Key×Addr×Value)} (r:KT H kvs xs) (k:List Key) {b:Addr} {y:V} {u:Value} (hb:H b=some (.tup (k.map kV))) (ry:RelV y u) :
  KT H (putK kvs k y) (storedH xs k b u):=by
 have e:(kvs.any λ a=>decide (a.1=k))=(O8 xs k).isSome:=by rw [z83,(r.val k).isSome_eq,L7]
 unfold putK storedH;rw [e];by_cases q:(O8 xs k).isSome=true
 ·rw [if_pos q,if_pos q];exact r.repl k ry
 ·rw [if_neg q,if_neg q];exact Paired.snoc r ⟨rfl,hb,ry⟩
theorem KT.keeps {H H':Hp} {kvs:List (List Key×V)} {xs:List (List Key×Addr×Value)} (r:KT H kvs xs) (ht :∀b ys,H b=some (.tup ys)->H' b=some (.tup ys)):KT H' kvs xs:=
 Paired.mapP r λ _ _ z=>⟨z.1,ht _ _ z.2.1,z.2.2⟩
section
variable {P:Program} {w:S0} {H:Hp} {h:Heap} {a:Addr}
theorem rd_of {u:HO} (ok:HOk P w H h) (e:Rd H a u):ObjOk P w H h a u:=e.ok ok
theorem dk_rd {kvs:List (Key×V)} (ok:HOk P w H h) (e:Rd H a (.dK kvs)):kvs.length<=sizeLine/\(a == S3)=false/\∃vs,KV kvs vs/\h.DictOf (z0h P w) a vs:=
 show ObjOk P w H h a (.dK kvs) from rd_of ok e
theorem dk_of {kvs:List (Key×V)} (ok:HOk P w H h) (e:H a=some (.dK kvs)):kvs.length<=sizeLine/\(a == S3)=false/\∃vs,KV kvs vs/\h.DictOf (z0h P w) a vs:=dk_rd ok (.inl e)
theorem key_of {ks:List Key} (ok:HOk P w H h) (e:H a=some (.tup (ks.map kV))):(J6 (z0h P w)).is h ks a:=by
 obtain ⟨_,f,r,⟨o,b,c,n,d⟩,_⟩:=(show ObjOk P w H h a (.tup (ks.map kV)) from ok a _ e)
 exact ⟨o,f.toArray,n,b,c,d,by simpa using zdg r⟩
theorem dt_rd {kvs:List (List Key×V)} (ok:HOk P w H h) (e:Rd H a (.dT kvs)):kvs.length<=sizeLine/\(a == S3)=false/\
  ∃xs,KT H kvs xs/\h.DictOfH (J6 (z0h P w)) a xs:=by
 obtain ⟨z,y,xs,r,o,i,f,c,d,k,j,g⟩:=(show ObjOk P w H h a (.dT kvs) from rd_of ok e)
 refine ⟨z,y,xs,r,o,i,f,c,d,k,j,λ x b=>?_,g⟩;have all :∀{l:List (List Key×V)} {m:List (List Key×Addr×Value)},KT H l m->∀x∈m,(J6 (z0h P w)).is h x.1 x.2.1:=by
  intro l m q;induction q with
  | nil=>intro x b;exact nomatch b
  | @cons p q ps qs hq t ih=>
   intro x b;rcases List.mem_cons.mp b with e|b
   ·subst e;exact key_of ok (by rw [<-hq.1];exact hq.2.1)
   ·exact ih x b
 exact all r x b
theorem dt_of {kvs:List (List Key×V)} (ok:HOk P w H h) (e:H a=some (.dT kvs)):kvs.length<=sizeLine/\(a == S3)=false/\
  ∃xs,KT H kvs xs/\h.DictOfH (J6 (z0h P w)) a xs:=dt_rd ok (.inl e)
end
def DGet (H:Hp) (a:Addr) (y:V) (r:Option V):Prop:=
 (∃kvs k,Rd H a (.dK kvs)/\y=kV k/\r=valV kvs k)\/∃kvs k b,Rd H a (.dT kvs)/\y=.ref b/\H b=some (.tup (k.map kV))/\r=valV kvs k
def DPut (H:Hp) (a:Addr) (y v:V) (H':Hp):Prop:=
 (∃kvs k,H a=some (.dK kvs)/\y=kV k/\kvs.length < sizeLine/\H'=upd H a (.dK (putK kvs k v)))\/
 ∃kvs k b,H a=some (.dT kvs)/\y=.ref b/\H b=some (.tup (k.map kV))/\kvs.length < sizeLine/\H'=upd H a (.dT (putK kvs k v))
theorem DGet.k {H:Hp} {a:Addr} {kvs:List (Key×V)} {k:Key} (e:H a=some (.dK kvs)):DGet H a (kV k) (valV kvs k):=.inl ⟨kvs,k,.inl e,rfl,rfl⟩
theorem DPut.k {H:Hp} {a:Addr} {kvs:List (Key×V)} {k:Key} {v:V} (e:H a=some (.dK kvs)) (hl:kvs.length < sizeLine):DPut H a (kV k) v (upd H a (.dK (putK kvs k v))):=.inl ⟨kvs,k,e,rfl,hl,rfl⟩
section
variable {X:Cx} {pins:List (Addr×Obj)} {σ:St} {H:Hp} {s:u0} {a:Addr} {y v:V} {u r:Value} {o:Option V} {A:L1} {E:Value->u0->Prop}
theorem Inv.big (I:Inv X pins σ H s):S3 < s.heap.objs.size:=by have h:v3 < s.heap.objs.size:=(I.mod.glob.keeps I.bk).lt;exact E8 (by decide) h
theorem zhz {Q:Value->u0->Prop} (hu:A.units + 1 < cLine) (I:Inv X pins σ H s) (g:DGet H a y (some v)) (ry:RelV y u) (h :∀w' s',Inv X pins σ H s'->RelV v w'->Q w' s') :
  L0 (X0 X.prog X.w) A (z8 (.ref a) u) Q E s:=by
 rcases g with ⟨n,k,e,f,l⟩|⟨n,k,b,e,f,eb,l⟩
 ·subst f;obtain ⟨z,m,t,c,d⟩:=dk_rd I.hok e;obtain ⟨w',hw,i⟩:=RelO.some_of (v:=v) (o:=Q9 t k) (by rw [l];exact c.val k);exact wpAny_getItem_of (kV_is ry) d.mapOf hw (h w' _ (I.tok _) i)
 ·subst f;cases (show u=v1 b from ry);obtain ⟨z,m,q,c,d⟩:=dt_rd I.hok e;obtain ⟨w',hw,i⟩:=RelO.some_of (v:=v) (o:=(O8 q k).map (·.2)) (by rw [l];exact c.val k);obtain ⟨p,r,j⟩:=Option.map_eq_some_iff.mp hw;refine wpAny_getItem_heap (X7 hu) (key_of I.hok eb) d r ?_;rw [j];exact h w' _ (I.tok _) i
theorem d_in {Q:Value->u0->Prop} (hu:A.units + 1 < cLine) (I:Inv X pins σ H s) (g:DGet H a y o) (ry:RelV y u) (h :∀s',Inv X pins σ H s'->Q (.bool o.isSome) s') :
  L0 (X0 X.prog X.w) A (j2 .In u (.ref a)) Q E s:=by
 rcases g with ⟨j,k,e,i,l⟩|⟨j,k,b,e,i,eb,l⟩
 ·subst i;obtain ⟨z,c,n,d,f⟩:=dk_rd I.hok e;refine wpAny_in_of (kV_is ry) c f.mapOf ?_;rw [<-(d.val k).isSome_eq,<-l];exact h _ (I.tok _)
 ·subst i;cases (show u=v1 b from ry);obtain ⟨z,c,m,d,f⟩:=dt_rd I.hok e;refine wpAny_in_heap (X7 hu) (key_of I.hok eb) c f ?_;have q:=(d.val k).isSome_eq;rw [L7] at q;rw [<-q,<-l];exact h _ (I.tok _)
theorem z9c {h':Heap} {t':Nat} {ob:HO} (I:Inv X pins σ H s) (mu:Mut (H a)) (hs:X4 a s.heap h') (he :∃q,h'.get? a=some q) (new:ObjOk X.prog X.w (upd H a ob) h' a ob) :
  Inv X pins σ (upd H a ob) { s with heap:=h',toks:=t' }:=
 I.write (x:=a) (e:=a) mu (.inl rfl) (λ b q c z=>(hs.2 b c).trans z) he new
theorem dk_new {P:Program} {w:S0} {H':Hp} {h':Heap} {kvs:List (Key×V)} {vs:List (Key×Value)} (z:kvs.length<=sizeLine) (hd:(a == S3)=false) (rel:KV kvs vs) (dd:h'.DictOf (z0h P w) a vs) :
  ObjOk P w H' h' a (.dK kvs):=⟨z,hd,vs,rel,dd⟩
theorem zce {H':Hp} {Q:Unit->u0->Prop} (hu:A.units + 1 < cLine) (I:Inv X pins σ H s) (g:DPut H a y v H') (ry:RelV y u) (rv:RelV v r) (h :∀s',Inv X pins σ H' s'->Q () s') :
  L0 (X0 X.prog X.w) A (setItem (.ref a) u r) Q E s:=by
 rcases g with ⟨f,k,e,B,l,x⟩|⟨f,k,b,e,B,eb,l,x⟩
 ·subst B x;obtain ⟨z,n,K,d,m⟩:=dk_of I.hok e;have p:K.length<=sizeLine:=by rw [<-d.length];exact z
  have t:(putK f k v).length<=sizeLine:=by have:=z3a f k v;omega
  refine wpAny_setItem_pairs (hsz:=p) (kV_is ry) m λ C i o=>h _ ?_;have F :∃q,C.get? a=some q:=let ⟨q,_,_,j,_⟩:=i;⟨q,j⟩;exact z9c I (by rw [e];exact True.intro) o F (dk_new t n (d.put k rv) i)
 ·subst B x;cases (show u=v1 b from ry);obtain ⟨z,n,O,d,m⟩:=dt_of I.hok e;have p:O.length<=sizeLine:=by rw [<-N7 d];exact z
  have t:(putK f k v).length<=sizeLine:=by have:=z3a f k v;omega
  refine wpAny_setItem_heap (hsz:=p) (X7 hu) (key_of I.hok eb) m λ C i o=>h _ ?_;obtain ⟨q,G,M,j,L,J,P,_,N⟩:=i;refine z9c I (by rw [e];exact True.intro) o ⟨q,j⟩ ⟨t,n,_,(d.put k eb rv).keeps λ c R D=>?_,q,G,M,j,L,J,P,N⟩;rw [upd_ne (ne_of D e (λ z=>nomatch z))];exact D
end
section
variable {X:Cx} {pins:List (Addr×Obj)} {σ:St} {H:Hp} {s:u0} {a:Addr} {kvs:List (Key×V)} {k:Key} {u:Value} {A:L1} {E:Value->u0->Prop}
theorem d_pop {v:V} {more:List Value} {Q:Value->u0->Prop} (I:Inv X pins σ H s) (e:H a=some (.dK kvs)) (ry:RelV (kV k) u) (l:valV kvs k=some v) (hm:more=[]\/∃x,more=[x])
  (h :∀w' s',Inv X pins σ (upd H a (.dK (dropK kvs k))) s'->RelV v w'->Q w' s'):L0 (X0 X.prog X.w) A (call (.builtin "dict.pop") (.ref a :: u :: more)) Q E s:=by
 obtain ⟨z,j,f,b,d⟩:=dk_of I.hok e;obtain ⟨w',hw,r⟩:=RelO.some_of (v:=v) (o:=Q9 f k) (by rw [<-l];exact b.val k);have n:(keyPart u).isSome=true:=by
  cases k with
  | inl i=>obtain ⟨t,q⟩:=(show∃t,u=L6 i t from ry);subst q;rfl
  | inr x=>obtain ⟨t,q⟩:=(show∃t,u=g7 x t from ry);subst q;rfl
 have g:argsOk "dict.pop" ⟨.ref a :: u :: more,[]⟩:=by
  rcases hm with q|⟨x,q⟩
  ·subst q;exact PySem.F.args_dict_pop_2 _ _
  ·subst q;exact PySem.F.args_dict_pop_3 _ _ _
 refine call_meetsIn j22 d.typeIs PySem.F.entry_dict_pop g (meets_dict_pop_there (z0h X.prog X.w) a (kV_is ry) more hm n)
  ⟨f,w',d,by rw [<-b.length];exact z,hw,λ p c m=>h w' _ ?_ r⟩
 have y :∃q,p.get? a=some q:=let ⟨q,_,_,hq,_⟩:=c;⟨q,hq⟩;exact z9c I (by rw [e];exact True.intro) m y (dk_new (C0 (zlv kvs k) z) j (b.drop k) c)
theorem d_len {Q:Value->u0->Prop} (I:Inv X pins σ H s) (e:Rd H a (.dK kvs)) (h :∀t s',Inv X pins σ H s'->Q (.int kvs.length t) s'):L0 (X0 X.prog X.w) A (call (.builtin "len") [.ref a]) Q E s:=by obtain ⟨z,c,f,b,d⟩:=dk_rd I.hok e;refine call_len_dict c d (by rw [<-b.length];rw [j1f] at z;omega) ?_;rw [<-b.length];exact h _ _ (I.tok _)
end
def NoSl (i:Expr):Prop:=∀ov iv,j1e i false ov iv=operate [ov,iv] (z8 ov iv)
theorem zn2 {prog:Program} {w:S0} {A:L1} {E:Value->u0->Prop} {s:u0} {env:Env} {value slice:Expr} {pos:Pos} {T id:String} {Q:Value->u0->Prop}
  (hl:j31 (.type T) "__getitem__" = V2 (some (.builtin id))) (hs:NoSl slice)
  (h:L0 (X0 prog w) A (d3 value env) (λ o s₁=>L0 (X0 prog w) A (d3 slice env) (λ i s₂=>s₂.TypeIs o T/\L0 (X0 prog w) A (z8 o i) Q E s₂) E s₁) E s) :
  L0 (X0 prog w) A (d3 (.Subscript value slice pos) env) Q E s:=by
 refine Subscript_ (M3 h (λ o s₁ e=>M3 e (λ i s₂ a=>?_) λ _ _ x=>x) λ _ _ x=>x);obtain ⟨c,a⟩:=a;unfold subscriptTail;refine c0 ?_;rw [getitemInPython_of_ne c.not_modules];refine c0 (j26 c hl ?_);have b:L0 (X0 prog w) A (j1e slice false o i) (λ r d=>L0 (X0 prog w) A (letTemporaryGo value o r >>= λ _=>V2 r) Q E d) E s₂:=by rw [hs o i];exact wpAny_operating (M3 a (λ r d f=>c0 (wpAny_letTemporaryGo (x0 f))) λ _ _ x=>x)
 first
  | exact x0 (c0 b)
  | exact c0 (x0 (c0 b))
  | exact c0 b
theorem ze0 {X:Cx} {pins:List (Addr×Obj)} {σ:St} {H:Hp} {s:u0} {a:Addr} {y:V} {o:Option V} (I:Inv X pins σ H s) (g:DGet H a y o):s.TypeIs (.ref a) "dict":=by
 rcases g with ⟨d,k,e,_,_⟩|⟨d,k,b,e,_,_,_⟩
 ·obtain ⟨_,_,h,_,c⟩:=dk_rd I.hok e;exact c.typeIs
 ·obtain ⟨_,_,f,_,c⟩:=dt_rd I.hok e;exact c.typeIs
noncomputable def tDGet (td ty:TE):TE:=λ σ H Q=>td σ H λ x H1=>ty σ H1 λ y H2=>∃a v,x=.ref a/\DGet H2 a y (some v)/\Q v H2
noncomputable def tDIn (ty td:TE):TE:=λ σ H Q=>ty σ H λ y H1=>td σ H1 λ x H2=>∃a o,x=.ref a/\DGet H2 a y o/\Q (.bl o.isSome) H2
noncomputable def sDPut (td ty tv:TE):TS:=λ D σ H=>tv σ H λ v H1=>td σ H1 λ x H2=>ty σ H2 λ y H3=>∃a H4,x=.ref a/\DPut H3 a y v H4/\D.nx σ H4
section
variable {X:Cx} {o i e value:Expr} {pos pos' tpos:Pos} {td ty tv:TE}
theorem z2h (hu:X.A.units + 1 < cLine) (ho:PE X o td) (hi:PE X i ty) (hs:NoSl i):PE X (.Subscript o i pos) (tDGet td ty):=by intro b s σ H Q I h;refine zn2 PySem.F.slot_dict_getitem.lookup hs (thn (ho b s σ H _ I h) λ u c ⟨x,H1,I1,rx,q1⟩=>thn (hi b c σ H1 _ I1 q1) λ l f ⟨y,H2,I2,ry,a,v,ex,g,q2⟩=>?_);subst ex;obtain rfl:u=v1 a:=rx;exact ⟨ze0 I2 g,zhz hu I2 g ry λ k j d e=>⟨v,H2,d,e,q2⟩⟩
theorem pc_din (hu:X.A.units + 1 < cLine) (hi:PE X i ty) (ho:PE X o td):PC X .In i o (tDIn ty td):=by intro b s σ H Q I h;refine thn (hi b s σ H _ I h) λ j c ⟨y,H1,I1,ry,q1⟩=>thn (ho b c σ H1 _ I1 q1) λ u e ⟨x,H2,I2,rx,a,ov,ex,g,q2⟩=>?_;subst ex;obtain rfl:u=v1 a:=rx;exact d_in hu I2 g ry λ f d=>⟨.bl ov.isSome,H2,d,rfl,q2⟩
theorem z9z (hu:X.A.units + 1 < cLine) (ho:PE X o td) (hi:PE X i ty) (hv:PE X value tv) (hs:b7 value (some (.Subscript o i pos')) pos.line X.env=V2 false) :
  PS X (.Assign [.Subscript o i pos'] value pos) (sDPut td ty tv):=by
 intro b s σ H D I h;refine wpAny_Assign_Subscript (thn (hv b s σ H _ I h) λ r d ⟨v,H1,I1,rv,q1⟩=>thn (ho b d σ H1 _ I1 q1) λ u c ⟨x,H2,I2,rx,q2⟩=>thn (hi b c σ H2 _ I2 q2) λ j f ⟨y,H3,I3,ry,a,H4,ex,g,q3⟩=>?_) hs;subst ex;obtain rfl:u=v1 a:=rx;exact zce hu I3 g ry rv λ k e=>⟨σ,H4,e,q3⟩
end
theorem zgb {P:Program} {w:S0} {H:Hp} (h:Heap) (hb:S3 < h.objs.size):ObjOk P w H (h.push { cls:=.type "dict",data:=.dict #[] }) h.objs.size (.dK []):=
 ⟨X1 _,beq_eq_false_iff_ne.mpr (J2 (V0 hb)),[],.nil,j2i h⟩
noncomputable def tDNewK:TE:=λ _ H Q=>∀p,H p=none->Q (.ref p) (upd H p (.dK []))
section
variable {X:Cx} {pos:Pos}
theorem z8y:PE X (.Dict [] [] pos) tDNewK:=λ b s σ H Q I h=>wpAny_Dict_empty ⟨.ref s.heap.objs.size,_,I.laid (a:=s.heap.objs.size) (o:=.dK []) (t':=s.toks) (λ _ _ q=>y0 _ q) (A0 _) (zgb s.heap I.big),rfl,h _ (I.hok.fresh (A0 _))⟩
end
noncomputable def tPairs:List (TE×TE)->St->Hp->(List (V×V)->Hp->Prop)->Prop
 | [],_,H,Q=>Q [] H
 | (tk,tv) :: r,σ,H,Q=>tk σ H λ x H1=>tv σ H1 λ y H2=>tPairs r σ H2 λ ps H3=>Q ((x,y) :: ps) H3
abbrev VV:List (V×V)->List (Value×Value)->Prop:=Z8 λ p q=>RelV p.1 q.1/\RelV p.2 q.2
def PPs (X:Cx) (pos:Pos) (keys:List (Option Expr)) (values:List Expr) (trs:List (TE×TE)):Prop:=
 ∀(pins:List (Addr×Obj)) (s:u0) (σ:St) (H:Hp) (Q:List (V×V)->Hp->Prop),Inv X pins σ H s->tPairs trs σ H Q->
  L0 (X0 X.prog X.w) X.A (evalPairs (pairTrees keys values X.env pos)) (λ vs s'=>∃ps H',Inv X pins σ H' s'/\VV ps vs/\Q ps H') X.xe s
theorem zmr {X:Cx} {pos:Pos}:PPs X pos [] [] []:=λ a s σ H Q I h=>pairTrees_nil_walk ⟨[],H,I,.nil,h⟩
theorem zl9 {X:Cx} {pos:Pos} {k v:Expr} {ks:List (Option Expr)} {vs:List Expr} {tk tv:TE} {trs:List (TE×TE)} (hk:PE X k tk) (hv:PE X v tv) (hr:PPs X pos ks vs trs) :
  PPs X pos (some k :: ks) (v :: vs) ((tk,tv) :: trs):=λ a s σ H Q I h=>
 pairTrees_cons_walk (thn (hk a s σ H _ I h) λ u c ⟨x,H1,I1,rx,q1⟩=>thn (hv a c σ H1 _ I1 q1) λ e b ⟨y,H2,I2,ry,q2⟩=>thn (hr a b σ H2 _ I2 q2) λ f d ⟨ps,H3,I3,rel,q3⟩=>⟨(x,y) :: ps,H3,I3,.cons ⟨rx,ry⟩ rel,q3⟩)
noncomputable def mergeK (kvs more:List (Key×V)):List (Key×V):=more.foldl (λ acc kv=>putK acc kv.1 kv.2) kvs
theorem KV.merge :∀{more:List (Key×V)} {rs:List (Key×Value)} {kvs:List (Key×V)} {vs:List (Key×Value)},KV more rs->KV kvs vs->KV (mergeK kvs more) (merged vs rs):=by
 intro more rs kvs vs r;unfold KV at r;induction r generalizing kvs vs with
 | nil=>intro q;exact q
 | @cons p q ps qs h t ih=>
  intro a;have e:KV (putK kvs p.1 p.2) (stored vs q.1 q.2):=by have:=a.put p.1 h.2;rw [<-h.1];exact this
  exact ih e
theorem z59 :∀(more kvs:List (Key×V)),(mergeK kvs more).length<=kvs.length + more.length
 | [],kvs=>by show kvs.length<=kvs.length + 0;omega
 | p :: r,kvs=>by have a:=z59 r (putK kvs p.1 p.2);have b:=z3a kvs p.1 p.2;show (mergeK (putK kvs p.1 p.2) r).length<=_;rw [Z0];omega
theorem z9l {P:Program} {w:S0} :∀{kvs:List (Key×V)} {ws:List (Value×Value)},VV (kvs.map λ kv=>(kV kv.1,kv.2)) ws->∃rs,Carries (z0h P w) ws rs/\KV kvs rs
 | [],_,r=>by rw [S5] at r;cases r;exact ⟨[],True.intro,.nil⟩
 | p :: kvs,_,r=>by
  rw [R0] at r;cases r with
  | @cons a b as bs h t=>obtain ⟨rs,c,q⟩:=z9l (P:=P) (w:=w) t;obtain ⟨e,d⟩:=b;exact ⟨(p.1,d) :: rs,⟨kV_is h.1,rfl,c⟩,.cons ⟨rfl,h.2⟩ q⟩
noncomputable def tDisp (trs:List (TE×TE)):TE:=λ σ H Q=>∀p,H p=none->tPairs trs σ (upd H p (.dK [])) λ ps H2=>H2 p=some (.dK [])/\∃kvs:List (Key×V),ps=kvs.map (λ kv=>(kV kv.1,kv.2))/\kvs.length<=15/\Q (.ref p) (upd H2 p (.dK (mergeK [] kvs)))
theorem zmi {X:Cx} {pos:Pos} {keys:List (Option Expr)} {values:List Expr} {trs:List (TE×TE)} (h:PPs X pos keys values trs) (hall:keys.all (·.isSome)=true) (hl:keys.length=values.length) (h0:keys≠[])
  (h15:keys.length<=15):PE X (.Dict keys values pos) (tDisp trs):=by
 intro k s σ H Q I q;have t:=I.hok.fresh (A0 s.heap.objs.size);have r:=I.laid (a:=s.heap.objs.size) (o:=.dK []) (h':=s.heap.push { cls:=.type "dict",data:=.dict #[] }) (t':=s.toks) (λ _ _ q=>y0 _ q) (A0 _) (zgb s.heap I.big);refine wpAny_Dict_walk (knd:=z0h X.prog X.w) hall hl h0 h15 (thn (h k _ σ _ _ r (q _ t)) λ x u ⟨ps,H2,I2,rel,e,kvs,ep,lk,q2⟩=>?_);subst ep;obtain ⟨f,c,i⟩:=z9l (P:=X.prog) (w:=X.w) rel;obtain ⟨z,l,v,p,g⟩:=dk_of I2.hok e;cases p;refine ⟨f,c,g,λ h' b m=>⟨.ref s.heap.objs.size,_,?_,rfl,q2⟩⟩;have n:(mergeK [] kvs).length<=sizeLine:=by have d:=z59 kvs [];rw [F4] at d;rw [j1f];omega
 have j :∃q,h'.get? s.heap.objs.size=some q:=let ⟨q,_,_,hq,_⟩:=b;⟨q,hq⟩;exact z9c I2 (by rw [e];exact True.intro) m j (dk_new n l (i.merge .nil) b)
structure M1 (X:Cx) (o:Expr) (m:Str) (apos:Pos) (e:Expr) (cpos:Pos):Prop where
 base:U3 o m X.env (d3 o X.env)=d3 o X.env
 few:((E4 cpos (A1 [e] X.env)).all (λ x=>!x.1) && (N8 cpos (K6 [] X.env)).all (λ x=>x.1.isSome)
  && decide (([e]:List Expr).length + ([]:List j6).length + (if ([]:List j6).isEmpty then 0 else 1) < 30))=true
 line:(apos.endLine == cpos.line)=true
 trees:E4 cpos (A1 [e] X.env)=[(false,d3 e X.env)]
structure M2 (X:Cx) (o:Expr) (m:Str) (apos:Pos) (e f:Expr) (cpos:Pos):Prop where
 base:U3 o m X.env (d3 o X.env)=d3 o X.env
 few:((E4 cpos (A1 [e,f] X.env)).all (λ x=>!x.1) && (N8 cpos (K6 [] X.env)).all (λ x=>x.1.isSome)
  && decide (([e,f]:List Expr).length + ([]:List j6).length + (if ([]:List j6).isEmpty then 0 else 1) < 30))=true
 line:(apos.endLine == cpos.line)=true
 trees:E4 cpos (A1 [e,f] X.env)=[(false,d3 e X.env),(false,d3 f X.env)]
def IsD (H:Hp) (a:Addr):Prop:=(∃kvs,Rd H a (.dK kvs))\/∃kvs,Rd H a (.dT kvs)
theorem isD_at {X:Cx} {pins:List (Addr×Obj)} {σ:St} {H:Hp} {s:u0} {a:Addr} (I:Inv X pins σ H s) (d:IsD H a) :
  s.TypeIs (.ref a) "dict"/\(∀b,v1 a=.ref b->∃ob,s.heap.get? b=some ob/\ob.dict=none)/\(a == S3)=false:=by
 rcases d with ⟨i,e⟩|⟨i,e⟩
 ·obtain ⟨_,h,k,_,c⟩:=dk_rd I.hok e;refine ⟨c.typeIs,λ b q=>?_,h⟩;cases q;obtain ⟨ob,_,_,f,g,_⟩:=c;exact ⟨ob,f,g.2.1⟩
 ·obtain ⟨_,h,j,_,c⟩:=dt_rd I.hok e;refine ⟨c.typeIs,λ b q=>?_,h⟩;cases q;obtain ⟨ob,_,_,f,g,_⟩:=c;exact ⟨ob,f,g.2.1⟩
section
variable {X:Cx} {pins:List (Addr×Obj)} {σ:St} {H:Hp} {s:u0} {a:Addr} {y d:V} {u r:Value} {o:Option V} {A:L1} {E:Value->u0->Prop}
theorem d_get1 {Q:Value->u0->Prop} (hu:A.units + 1 < cLine) (I:Inv X pins σ H s) (g:DGet H a y o) (ry:RelV y u) (h :∀w' s',Inv X pins σ H s'->RelV (o.getD .non) w'->Q w' s') :
  L0 (X0 X.prog X.w) A (call (.builtin "dict.get") [.ref a,u]) Q E s:=by
 rcases g with ⟨j,k,e,i,l⟩|⟨j,k,b,e,i,eb,l⟩
 ·subst i;obtain ⟨z,d,n,f,c⟩:=dk_rd I.hok e;refine call_meetsIn n8 c.typeIs j19 (j10 _ _) (meets_dict_get (z0h X.prog X.w) a (kV_is ry) d) ⟨_,c.mapOf,h _ _ (I.tok _) ?_⟩;rw [l];exact (f.val k).getD rfl
 ·subst i;cases (show u=v1 b from ry);obtain ⟨z,d,m,f,c⟩:=dt_rd I.hok e;refine call_meetsIn n8 c.typeIs j19 (j10 _ _) (meetsH_dict_get (J6 (z0h X.prog X.w)) a b d) ⟨X7 hu,k,m,key_of I.hok eb,c,h _ _ (I.tok _) ?_⟩;rw [l];exact (f.val k).getD rfl
end
noncomputable def tDGet1 (td ty:TE):TE:=λ σ H Q=>td σ H λ x H1=>∃a,x=.ref a/\IsD H1 a/\ty σ H1 λ y H2=>∃o,DGet H2 a y o/\Q (o.getD .non) H2
noncomputable def tDPop1 (td ty:TE):TE:=λ σ H Q=>td σ H λ x H1=>∃a,x=.ref a/\IsD H1 a/\ty σ H1 λ y H2=>∃kvs k v,H2 a=some (.dK kvs)/\y=kV k/\valV kvs k=some v/\Q v (upd H2 a (.dK (dropK kvs k)))
section
variable {X:Cx} {o e f:Expr} {apos cpos:Pos} {td ty tx:TE}
theorem zkl (hu:X.A.units + 1 < cLine) (ho:PE X o td) (he:PE X e ty) (m:M1 X o "get" apos e cpos):PE X (.Call (.Attribute o "get" apos) [e] [] cpos) (tDGet1 td ty):=by intro b s σ H Q I h;refine wpAny_Call_method m.base m.few m.line j0j n8 PySem.F.type_dict_get (thn (ho b s σ H _ I h) λ u c ⟨x,H1,I1,rx,a,ex,d,q1⟩=>?_);subst ex;obtain rfl:u=v1 a:=rx;obtain ⟨i,k,_⟩:=isD_at I1 d;refine ⟨i,k,?_⟩;rw [m.trees];refine z6 rfl (Q8 (U4 (thn (he b c σ H1 _ I1 q1) λ q l ⟨y,H2,I2,ry,ov,g,q2⟩=>o5 ?_)));exact d_get1 hu I2 g ry λ p n f j=>⟨_,H2,f,j,q2⟩
theorem zet (ho:PE X o td) (he:PE X e ty) (m:M1 X o "pop" apos e cpos):PE X (.Call (.Attribute o "pop" apos) [e] [] cpos) (tDPop1 td ty):=by intro b s σ H Q I h;refine wpAny_Call_method m.base m.few m.line j0j j22 PySem.F.type_dict_pop (thn (ho b s σ H _ I h) λ u c ⟨x,H1,I1,rx,a,ex,d,q1⟩=>?_);subst ex;obtain rfl:u=v1 a:=rx;obtain ⟨g,j,_⟩:=isD_at I1 d;refine ⟨g,j,?_⟩;rw [m.trees];refine z6 rfl (Q8 (U4 (thn (he b c σ H1 _ I1 q1) λ r n ⟨y,H2,I2,ry,kvs,k,v,ea,ey,l,q2⟩=>o5 ?_)));subst ey;exact d_pop I2 ea ry l (.inl rfl) λ q p f i=>⟨v,_,f,i,q2⟩
end
end L2
namespace Att
open PySem PySem.W PySem.Calls PyProof.Rows
theorem z7a {P:O0} {h:Heap} :∀(ns:List Int) (vs:List Value),WellAll P h vs (ns.map WData.int)->c3 vs ns:=by
 intro ns;induction ns with
 | nil=>intro vs w;rw [S5] at w;cases w;exact .nil
 | cons n ns ih=>
  intro vs w;rw [R0] at w;cases w with
  | cons a b=>cases a;exact .cons _ _ (ih _ b)
theorem zin {l:OpenLaw} {n:Nat} (hn:l.most=some n) {P:O0} {h:Heap} {args:List WData} {vals:List Value}
  (hpre:l.row.toRowW.claim.pre args=true) (hwl:WellAll P h vals args) :
  ∃a vs ns,vals=[v1 a]/\args=[WData.list (ns.map WData.int)]/\h.get? a=some { cls:=.type "list",data:=.seq vs.toArray }/\c3 vs ns/\ns.length<=n:=by
 have j:WShape.hasAll [] args [.list .int]=true:=(pre_splitW hpre).1;have e:l.pre.holds [] { args:=args }=true:=(pre_splitW hpre).2;obtain ⟨d,r,rfl,f,g⟩:=hasAllW_cons j;obtain rfl:=hasAllW_nil g;obtain ⟨o,rfl,k⟩:=hasW_list f;obtain ⟨ns,rfl⟩:=items_int k;have i:ns.length<=n:=by
  unfold OpenLaw.pre at e;have c:(WTm.not (.lt (.lit (.int (n:Int))) (.len (.arg 0)))).holds [] { args:=[.list (ns.map .int)] }=true:=by have c:=(holds_andW e).1;rw [hn] at c;exact c
  have b:=condW_of c (w_not (w_lt w_lit (w_len_list (w_arg rfl))));rw [D0] at b;refine R6 λ q=>?_;have m:(n:Int) < ((ns.length:Nat):Int):=by omega
  first
   | (rw [decide_eq_true m] at b;exact absurd b (by decide))
   | (simp at b;omega)
 cases hwl with
 | cons w1 w2=>
  cases w2;cases w1 with
  | list ho hall=>exact ⟨_,_,ns,rfl,rfl,ho,z7a ns _ hall,i⟩
theorem zj0 (l:OpenLaw) (args:List WData):l.row.toRowW.claim.post args (.bool true) args=true:=
 postW_of (r:=l.row.toRowW) (X:=(true == true))
  (show WShape.has [] (.bool true) .bool=true by first|rfl|decide|simp [WShape.has,WShape.arms,WShape.armsAll])
  (show (WTm.eq .res (.lit (.bool true))).value [] { args:=args,res:=some (.bool true),after:=args }=some (.bool (true == true)) from w_eq_bool (w_res rfl) w_lit) rfl
theorem attach_call {l:OpenLaw} {n:Nat} {q:Program} {loose:List Str} {XP:(Str->Option Value)->Heap->Prop} {YP:S0->Heap->Prop} {d:DefRec}
  (hn:l.most=some n) (hdf:d.params.defaults=[])
  (call :∀(w:S0) (s₀ s₁:u0) (mg mb:Str->Option Value) (fa:Addr) (o:Obj) (pm cd doc:Value) (a:Addr) (vs:List Value) (ns:List Int),
   Ground q loose [] XP w s₀ mg mb s₁.heap->YP w s₁.heap->
   s₁.heap.get? fa=some o->o.data=.func (docDef d.name d.params d.body d.scope pm cd doc)->s₁.heap.CodeRec cd d.name->mg d.name=some (.ref fa)->
   s₁.heap.get? a=some { cls:=.type "list",data:=.seq vs.toArray }->c3 vs ns->ns.length<=n->s₁.gens = #[]->
   u5 (X0 l.prog w) j0d (.call (.ref fa) ⟨[.ref a],[]⟩) (λ r s'=>r=.ok (.ret (.bool true))/\OldK s₁.heap s'.heap/\s'.os=s₁.os/\A8 s'.gens) s₁) :
  WalkO q loose XP YP l.row.toRowW d [] (λ f vs=>PySem.call f vs):=by
 intro w s₀ s₁ mg mb G Y fa o pm cd doc u kV e h z b j s D C A c B hrd v E;obtain rfl:u=.none:=Dflts.none b hdf;obtain rfl:kV=.none:=Dflts.noKw b;obtain ⟨a,vs,ns,rfl,rfl,m,y,p⟩:=zin hn c v;refine enter_call (P6 (call w s₀ s₁ mg mb fa o pm cd doc a vs ns G Y e (fd_plain h) z j m y p s) λ r s' t=>?_);obtain ⟨rfl,k,i,x⟩:=t;exact ⟨.inl ⟨.bool true,.bool true,[],rfl,λ _=>rfl,.bool true,zj0 l _,λ _=>⟨J8,λ _ g=>(nomatch g)⟩⟩,k,i,x⟩
end Att
namespace L2
open PySem PySem.Spec PyProof.Rows
theorem z88 :∀{vs:List Value} {ns:List Int},c3 vs ns->Vals (ns.map V.int) vs
 | _,_,.nil=>.nil
 | _,_,.cons n t h=>.cons ⟨t,rfl⟩ (z88 h)
def Only (H:Hp):Prop:=∀b,H b=none\/∃o xs,H b=some (.frz o (.lst xs))
theorem zkp {P:Program} {w:S0} {K:b0} {mg mb:Str->Option Value} {CX:CXT} {k:Nat} {fa a:Addr} {fd:FuncData} {x:Str} {sp:Sp} {s₁:u0} {vs:List Value} {ns:List Int}
  (KX:K.In s₁.heap) (hns:s₁.heap.Ns v3 mg) (hb:s₁.heap.Ns builtinsNs mb) (hbb :∀x:Str,x≠"__name__"->mb x=g6 x) (hlim:s₁.heap.NoLimit) (hg:s₁.gens = #[])
  (ha:s₁.heap.get? a=some { cls:=.type "list",data:=.seq vs.toArray }) (hi:c3 vs ns) (hl:ns.length<=sizeLine) (hr:Room k j0d)
  (F :∀base:Heap,K.In base->base.Ns v3 mg->FnOk P w K mg base CX k fa fd [x] sp) (hbind :∀(s:u0) (u:Value),BindsTo s fd ⟨[u],[]⟩ [(x,u)])
  (hsp :∀H:Hp,Only H->SqL K H a (ns.map V.int)->sp [.ref a] H (λ v _=>v=.bl true) λ _ _ _=>False)
  (hCX :∀H e s',CX [] H s₁ (λ _ _ _=>False) e s'->False) :
  u5 (X0 P w) j0d (.call (.ref fa) ⟨[.ref a],[]⟩) (λ r s'=>r=.ok (.ret (.bool true))/\OldK s₁.heap s'.heap/\s'.os=s₁.os/\A8 s'.gens) s₁:=by
 have p:=z88 hi;have R:=hi.length
 -- from an abstract heap in which nothing but the script may be tracked
 have i :∀H:Hp,Only H->SqL K H a (ns.map V.int)->HOk P w H s₁.heap->(∀b,H b≠none->b=a)->(H a≠none->K.lookup a=none)->
   u5 (X0 P w) j0d (.call (.ref fa) ⟨[.ref a],[]⟩) (λ r s'=>r=.ok (.ret (.bool true))/\OldK s₁.heap s'.heap/\s'.os=s₁.os/\A8 s'.gens) s₁:=by
  intro H j N l y Q;have B :∀{b:Addr} {o:Obj},s₁.heap.get? b=some o->H b=none->(hidT s₁.heap H).get? b=some o:=λ e n=>zlh e n;have G :∀{b:Addr} {o:Obj} {es:Array DictEntry} {ep:Nat},s₁.heap.get? b=some o->o.data=.dict es ep->H b=none:=λ {b o es ep} e d=>by
   cases q:H b with
   | none=>rfl
   | some u=>have g:b=a:=y b (by rw [q];simp);subst g;rw [ha] at e;cases e;have I:Data.seq vs.toArray _=Data.dict es ep:=d;cases I
  have f :∀{b:Addr} {m:Str->Option Value},s₁.heap.Ns b m->(hidT s₁.heap H).Ns b m:=λ {b m} ⟨o,es,ep,e,d,r⟩=>⟨o,es,ep,B e (G e d),d,r⟩
  have A:K.In (hidT s₁.heap H):=λ b o e=>B (KX b o e) (by
   cases q:H b with
   | none=>rfl
   | some u=>have g:b=a:=y b (by rw [q];simp);subst g;rw [Q (by rw [q];simp)] at e;cases e)
  have J:Mod K mg (hidT s₁.heap H):=⟨A,f hns,⟨mb,f hb,hbb⟩,let ⟨mc,h1,h2⟩:=hlim;⟨mc,f h1,h2⟩⟩
  have M:Env0 P w K mg (hidT s₁.heap H) j0d [] s₁ H:=⟨rfl,J,λ b o e=>znc e,A7 (zje _ _),trivial,λ b hb=>absurd (show b∈([]:List Addr) from hb) (by simp),l,.of_eq hg⟩
  refine P6 ((F _ A (f hns)).run j0d [] s₁ H ⟨[.ref a],[]⟩ [.ref a] [.ref a] _ _ hr M (hbind s₁ (.ref a)) (.cons rfl .nil) (hsp H j N)) λ r s' h=>?_;cases r with
  | error e=>exact (hCX H e s' h).elim
  | ok fl=>
   cases fl with
   | next=>exact W3 h
   | brk=>exact W3 h
   | cont=>exact W3 h
   | ret u=>
    obtain ⟨v,T,os,O,un,D,E,q⟩:=h;have S:v=.bl true:=q;subst S;obtain rfl:u=j4 true:=E;refine ⟨rfl,OldK.of_keep λ b o e=>?_,os,O⟩;cases q:H b with
    | none=>exact un.keep b o e q (by intro z;exact absurd (show b∈([]:List Addr) from z) (by simp)) (by simp)
    | some u=>
     rcases j b with z|⟨ob,xs,z⟩
     ·rw [q] at z;cases z
     ·have L:=un.frzs b ob _ z;obtain ⟨t,_⟩:=l b _ z;obtain ⟨C,_⟩:=D b _ L;rw [e] at t;cases t;exact C
 cases hk:K.lookup a with
 | some o=>
  -- the script is one of the module's own objects
  have e:=KX a o hk;rw [ha] at e;cases e;refine i (λ _=>none) (λ _=>.inl rfl) (.inr ⟨_,vs.toArray,_,hk,rfl,rfl,rfl,by rw [J0,R];exact hl,by simpa using p⟩) (λ b u z=>by have c:(none:Option HO)=some u:=z;cases c) (λ b z=>absurd rfl z) λ z=>absurd rfl z
 | none=>
  refine i (λ b=>if b=a then some (.frz { cls:=.type "list",data:=.seq vs.toArray } (.lst (ns.map V.int))) else none) (λ b=>?_) (.inl (.inr ⟨{ cls:=.type "list",data:=.seq vs.toArray },if_pos rfl⟩)) (λ b u z=>?_) (λ b z=>?_) λ _=>hk
  ·by_cases hb:b=a
   ·exact .inr ⟨_,_,if_pos hb⟩
   ·exact .inl (if_neg hb)
  ·by_cases hb:b=a
   ·have c:=(if_pos hb).symm.trans z;cases c;subst hb;exact ⟨ha,by rw [D0];exact hl,vs,_,p,ha⟩
   ·have c:=(if_neg hb).symm.trans z;cases c
  ·by_cases hb:b=a
   ·exact hb
   ·exact absurd (if_neg hb) z
theorem walk_of {l:PySem.W.OpenLaw} {n k:Nat} {q:Program} {loose:List Str} {XP:(Str->Option Value)->Heap->Prop} {YP:S0->Heap->Prop} {d:DefRec} {K:O0->b0} {CX:S0->CXT} {sp:S0->Sp} {x:Str}
  (hn:l.most=some n) (hn2:n<=sizeLine) (hdf:d.params.defaults=[]) (hr:Room k j0d)
  (hY :∀(w:S0) (h:Heap),YP w h->(K w.params).In h)
  (F :∀(w:S0) (mg:Str->Option Value) (fa:Addr) (h:Heap),(K w.params).In h->h.Ns v3 mg->mg d.name=some (.ref fa)->
   ∃fd:FuncData,(∀(s:u0) (u:Value),BindsTo s fd ⟨[u],[]⟩ [(x,u)])/\
    ∀base:Heap,(K w.params).In base->base.Ns v3 mg->FnOk l.prog w (K w.params) mg base (CX w) k fa fd [x] (sp w))
  (hsp :∀(w:S0) (H:Hp) (a:Addr) (ns:List Int),ns.length<=n->Only H->SqL (K w.params) H a (ns.map V.int)->sp w [.ref a] H (λ v _=>v=.bl true) λ _ _ _=>False)
  (hCX :∀(w:S0) (H:Hp) (s:u0) (e:Value) (s':u0),CX w [] H s (λ _ _ _=>False) e s'->False) :
  PySem.W.WalkO q loose XP YP l.row.toRowW d [] (λ f vs=>PySem.call f vs):=by
 refine Att.attach_call hn hdf λ w L p mg D fa o I J E a vs ns G Y B C M j m z c r=>?_;have KX:=hY w _ Y;obtain ⟨fd,y,A⟩:=F w mg fa _ KX G.T.g j;exact zkp KX G.T.g G.T.b G.T.builtins G.T.nolimit r m z (C0 c hn2) hr A y (λ H i t=>hsp w H a ns c i t) λ H e s'=>hCX w H p e s'
noncomputable def za7 (s:Stmt):Arguments:=match s with
 | .FunctionDef _ a _ _ _ _ _ _ _ _=>a
 | _=>{ posonlyargs:=[],args:=[],vararg:=none,kwonlyargs:=[],kw_defaults:=[],kwarg:=none,defaults:=[] }
noncomputable def z6o (s:Stmt):List Stmt:=match s with
 | .FunctionDef _ _ b _ _ _ _ _ _ _=>b
 | _=>[]
noncomputable def z06 (s:Stmt):Scope:=match s with
 | .FunctionDef _ _ _ _ _ _ sc _ _ _=>sc
 | _=>{ kind:=.function,names:=[],isGenerator:=false,isCoroutine:=false }
noncomputable abbrev CX0:CXT:=λ _ _ _ _ _ _=>False
noncomputable abbrev E0:XK:=λ _ _ _=>False
theorem pass0 {X:Cx}:Passes CX0 X E0:=λ _ _ _ _ _ _ _ h=>h.elim
structure Fun (K:b0) (x qual:Str) (st:Stmt) (f:Addr) (fd:FuncData):Prop where
 ex :∃(oc:Value) (od:Option Addr) (kV doc pm:Value) (an:Option Addr) (cdv ct:Value) (osl:Array (Option Value)),
  fd=r6 x qual (za7 st) (z6o st) (z06 st) .none kV doc pm an cdv ct/\K.lookup f=some ⟨oc,od,.func fd,osl⟩/\D8 K cdv qual=true
 kp:E3 K (.ref f)=true
section
variable {P:Program} {w:S0} {K:b0} {mg:Str->Option Value} {base:Heap}
theorem Fun.ok {x qual:Str} {st:Stmt} {f:Addr} {fd:FuncData} {N ps:List Str} {k:Nat} {sp:Sp} (F:Fun K x qual st f fd) (S:FnScope N ps (z06 st)) (len :∀vs H Q E,sp vs H Q E->vs.length=ps.length)
  (hbody :∀(cdv:Value) (A:L1) (outer:List Env) (s:u0) (H:Hp) (vs:List V) (Q:VK) (E:XK),Room k (A.deeper (X8 qual (z06 st) s.heap.objs.size f cdv))->sp vs H Q E->
   ∃t,PSs (cxOf CX0 P w K mg base N qual (z06 st) f cdv A outer s H E).nox (z6o st) t/\t { nx:=λ _ H'=>Q .non H',rt:=Q } (start N vs) H):FnOk P w K mg base CX0 (k + 1) f fd ps sp:=by
 obtain ⟨n,i,kV,e,g,j,cdv,m,l,rfl,a,d⟩:=F.ex;refine fn_of a d S len λ A outer s H vs Q E b c=>?_;obtain ⟨t,h,q⟩:=hbody cdv A outer s H vs Q E b c;exact ⟨t,h.nox,q⟩
theorem Fun.binds {x qual:Str} {st:Stmt} {f:Addr} {fd:FuncData} {ps:List Str} (F:Fun K x qual st f fd)
  (h :∀(kV doc pm:Value) (an:Option Addr) (cdv ct:Value) (us:List Value),us.length=ps.length->bindArgs (r6 x qual (za7 st) (z6o st) (z06 st) .none kV doc pm an cdv ct) ⟨us,[]⟩=V2 (ps.zip us)):Binds K fd ps []:=by
 obtain ⟨d,a,kV,doc,pm,an,cdv,ct,b,rfl,c,e⟩:=F.ex;exact .all (h kV doc pm an cdv ct)
theorem fun_mk {x qual:Str} {st:Stmt} {f:Addr} {oc:Value} {od an:Option Addr} {osl:Array (Option Value)} {kV doc pm cdv ct:Value} (l:K.lookup f=some ⟨oc,od,.func (r6 x qual (za7 st) (z6o st) (z06 st) .none kV doc pm an cdv ct),osl⟩)
  (c:D8 K cdv qual=true) (k:E3 K (.ref f)=true):Fun K x qual st f (r6 x qual (za7 st) (z6o st) (z06 st) .none kV doc pm an cdv ct):=⟨⟨oc,od,kV,doc,pm,an,cdv,ct,osl,rfl,l,c⟩,k⟩
end
theorem hu_of {A:L1} {k:Nat} (hr:Room k A):A.units + 1 < cLine:=B1 (Nat.add_le_add_left (by decide:1<=64) _) hr.units
section
variable {X:Cx}
theorem pv (i:Nat) {x:Str} {pos:Pos} (hN:X.N[i]? = some x:=by rfl) (hv:Vis X.env.scope x:=by first|exact U0 rfl|exact T0 (U0 rfl)|exact T0 (T0 rfl)) (hd:(x == ("__debug__" : Str))=false:=by decide)
  (hcd:(x == ("__classdict__" : Str))=false:=by decide):PE X (.Name x pos) (tVar i):=pe_var hN hv hd hcd
end
theorem iteF {A B:Prop} (h:B):if false=true then A else B:=by rw [if_neg P0];exact h
theorem iteT {A B:Prop} (h:A):if true=true then A else B:=by rw [if_pos rfl];exact h
theorem ite2 {c A B:Prop} [Decidable c] (h1:c->A) (h2:¬ c->B):if c then A else B:=by
 by_cases h:c
 ·rw [if_pos h];exact h1 h
 ·rw [if_neg h];exact h2 h
def Same (H H':Hp):Prop:=∀b o,H b=some o->H' b=some o
theorem Same.refl (H:Hp):Same H H:=λ _ _ h=>h
theorem Same.trans {H H1 H2:Hp} (a:Same H H1) (b:Same H1 H2):Same H H2:=λ c o h=>b c o (a c o h)
theorem Same.free {H H':Hp} (e:Same H H') {l:Addr} (h:H' l=Option.none):H l=Option.none:=by
 cases q:H l with
 | none=>rfl
 | some o=>rw [e l o q] at h;cases h
theorem Same.seq {K:b0} {H H':Hp} {a:Addr} {xs:List V} (e:Same H H') (h:SqL K H a xs):SqL K H' a xs:=by
 rcases h with (h|⟨o,h⟩)|h
 ·exact .inl (.inl (e _ _ h))
 ·exact .inl (.inr ⟨o,e _ _ h⟩)
 ·exact .inr h
section
variable {X:Cx}
theorem z87:CallR X (.builtin "len") (λ xs H Q=>∃a kvs,xs=[V.ref a]/\H a=some (.dK kvs)/\Q (.int kvs.length) H):=by intro g s σ H xs e Q I r h;obtain ⟨a,kvs,rfl,b,q⟩:=h;obtain ⟨u,rfl,c⟩:=vals1 r;cases c;exact d_len I (.inl b) λ t f d=>⟨.int kvs.length,H,d,⟨t,rfl⟩,q⟩
end
section
variable {κ:Type} [DecidableEq κ]
theorem zck {p:κ×V} {r:List (κ×V)} {k:κ} (e:p.1=k):dropK (p :: r) k=dropK r k:=by unfold dropK;rw [R4,if_neg (by simp [e])]
theorem zcv {p:κ×V} {r:List (κ×V)} {k:κ} (e:¬ p.1=k):dropK (p :: r) k=p :: dropK r k:=by unfold dropK;rw [R4,if_pos (by simp [e])]
end
end L2
set_option maxHeartbeats 4000000
namespace L2
open PySem PySem.Spec PyProof.Rows
section
variable {prog:Program} {w:S0} {A:L1} {R:j16->u0->Prop} {s:u0}
theorem zis {elt target iter:Expr} {ifs:List Expr} {scope:Scope} {pos:Pos} {it acc:Value} {env:Env} (J:Nat->u0->Prop)
  (turn :∀n s,J n s->L0 (X0 prog w) A (E6 it) (λ r s₁=>match r with
   | none=>R (.ok .next) s₁
   | some v=>L0 (X0 prog w) A (g9 target it v) (λ _ s₂=>L0 (X0 prog w) A (assign target env v) (λ _ s₃=>
     L0 (X0 prog w) A (j0a ifs true λ c r=>if r=true then do let ok <-isTrue c env (d3 c env);V2 (U2 ok) else V2 (U2 r)) (λ ok s₄=>
      if ok=true then L0 (X0 prog w) A (d3 elt env) (λ x s₅=>L0 (X0 prog w) A (call (.builtin "list.append") [acc,x]) (λ _ s₆=>∃m,m < n/\J m s₆) (λ _ _=>False) s₅) (λ _ _=>False) s₄
      else∃m,m < n/\J m s₄) (λ _ _=>False) s₃) (λ _ _=>False) s₂) (λ _ _=>False) s₁) (λ _ _=>False) s)
  (n:Nat) (h:J n s):u5 (X0 prog w) A (.compLoop (.ListComp elt [⟨target,iter,ifs,0⟩] scope pos) 0 it acc env) R s:=by
 refine codeAny_loop rfl J (λ n s i=>?_) n h;show L0 _ A ((compTurn (.ListComp elt [⟨target,iter,ifs,0⟩] scope pos) 0 it acc env).onRaise (λ x=>do noteFrame x env;theTreesLotGoes x)) _ _ s;refine wpAny_noted ?_;rw [compTurn_list];refine c0 (wpAny_standAt (c0 (M3 (turn n s i) (λ r s₁ a=>?_) λ _ _ f=>f.elim)));cases r with
 | none=>exact x0 a
 | some v=>
  refine c0 (M3 a (λ _ s₂ d=>c0 (M3 d (λ _ s₃ j=>c0 (M3 j (λ ok s₄ b=>?_) λ _ _ f=>f.elim)) λ _ _ f=>f.elim)) λ _ _ f=>f.elim);cases ok with
  | false=>exact x0 ⟨rfl,b⟩
  | true=>exact c0 (c0 (M3 b (λ x s₅ e=>c0 (M3 e (λ _ s₆ g=>x0 (x0 ⟨rfl,g⟩)) λ _ _ f=>f.elim)) λ _ _ f=>f.elim))
end
theorem z3x {env:Env} :∀(names:List (Str×c6)) (acc:List (Str×Addr)),(∀y∈names,y.2=P1->∃c,env.cells.lookup y.1=some c)->(∀y c,acc.lookup y=some c->env.cells.lookup y=some c)->
  ∃cl,(j0a names acc λ (x:Str×c6) (r:List (Str×Addr))=>(match x with
    | (name,kind)=>if (kind == P1)=true then do let c <-cellOf env name;V2 (U2 ((name,c) :: r)) else V2 (U2 r):Sem (ForInStep (List (Str×Addr)))))=V2 cl/\
   (∀y c,cl.lookup y=some c->env.cells.lookup y=some c)/\(∀y,((y,P1)∈names\/∃c,acc.lookup y=some c)->∃c,cl.lookup y=some c)
 | [],acc,_,ha=>⟨acc,by rw [D7],ha,λ y h=>h.elim (λ z=>nomatch z) id⟩
 | (n,k) :: r,acc,hf,ha=>by
  rw [Z6];dsimp only;by_cases hk:k=P1
  ·subst hk;obtain ⟨c,j⟩:=hf (n,.free) Q0 rfl;have e:cellOf env n=V2 c:=by unfold cellOf;rw [j]
   rw [if_pos (by rfl),e];obtain ⟨cl,f,g,i⟩:=z3x r ((n,c) :: acc) (λ y a=>hf y (Y0 _ a)) (λ y d b=>by
    rw [d4] at b;by_cases a:(y == n)=true
    ·rw [a] at b;have:=eq_of_beq a;subst this;cases b;exact j
    ·rw [j05] at a;rw [a] at b;exact ha y d b)
   refine ⟨cl,f,g,λ y a=>i y ?_⟩;rcases a with a|⟨d,b⟩
   ·rcases List.mem_cons.mp a with z|z
    ·cases z;exact .inr ⟨c,by rw [d4];simp⟩
    ·exact .inl z
   ·refine .inr ?_;rw [d4];by_cases a:(y == n)=true
    ·rw [a];exact ⟨c,rfl⟩
    ·rw [j05] at a;rw [a];exact ⟨d,b⟩
  ·rw [if_neg (by simpa using hk)];obtain ⟨cl,f,g,i⟩:=z3x r acc (λ y a=>hf y (Y0 _ a)) ha;refine ⟨cl,f,g,λ y a=>i y ?_⟩;rcases a with a|a
   ·rcases List.mem_cons.mp a with z|z
    ·cases z;exact absurd rfl hk
    ·exact .inl z
   ·exact .inr a
theorem zf5 {scope:Scope} {env:Env} (hf :∀y∈scope.names,y.2=P1->∃c,env.cells.lookup y.1=some c) :
  ∃cl,closureFor scope env=V2 cl/\(∀y c,cl.lookup y=some c->env.cells.lookup y=some c)/\(∀y,(y,P1)∈scope.names->∃c,cl.lookup y=some c):=by
 obtain ⟨cl,a,b,d⟩:=z3x (env:=env) scope.names [] hf (λ _ _ z=>nomatch z);refine ⟨cl,?_,b,λ y e=>d y (.inl e)⟩;simp only [closureFor];rw [a];rfl
theorem mem_of_lookup {κ:Type} {y:Str} {k:κ} :∀{l:List (Str×κ)},l.lookup y=some k->(y,k)∈l
 | (n,c) :: r,h=>by
  rw [d4] at h;by_cases hy:(y == n)=true
  ·rw [hy] at h;cases h;rw [eq_of_beq hy];exact Q0
  ·rw [j05] at hy;rw [hy] at h;exact Y0 _ (mem_of_lookup h)
theorem z70 {scope:Scope} {env:Env} (hcell :∀y∈scope.names,y.2≠NameKind.cell) {y:Str} {k:c6} (h:(y8 scope env).names.lookup y=some k) (hk:k=.cell\/k=.free):(y,P1)∈scope.names:=by
 have m:=mem_of_lookup h;unfold y8 at m;obtain ⟨⟨n,c⟩,a,e⟩:=List.mem_map.mp m;dsimp only at e;by_cases hc:(c == P1)=true
 ·have:=eq_of_beq hc;subst this;split at e<;>(injection e with e1 e2;subst e1;exact a)
 ·rw [if_neg (by simp [hc])] at e;injection e with e1 e2;subst e1 e2;rcases hk with rfl|rfl
  ·exact absurd rfl (hcell _ a)
  ·exact absurd rfl hc
noncomputable abbrev cxComp (X:Cx) (scope:Scope) (cl:List (Str×Addr)) (N:List Str) (C:Addr) (s₂:u0) (H₂:Hp) (fp:List Addr):Cx:=
 { X with N:=N,s₀:=s₂,H₀:=H₂,env:=compEnvC scope cl C X.env,outer:=X.stack,stack:=X.stack,ex:=fp,fn:=λ _=>false,pn:=[],xe:=λ _ _=>False }
def PF (X:Cx) (ifs:List Expr) (t:TT):Prop:=
 ∀(pins:List (Addr×Obj)) (s:u0) (σ:St) (H:Hp) (Q:Bool->Hp->Prop),Inv X pins σ H s->t σ H Q->
  L0 (X0 X.prog X.w) X.A (j0a ifs true λ c r=>if r=true then do let ok <-isTrue c X.env (d3 c X.env);V2 (U2 ok) else V2 (U2 r)) (TP X pins σ Q) X.xe s
theorem pf_nil {X:Cx}:PF X [] (λ _ H Q=>Q true H):=λ _ _ _ H _ I h=>wpAny_tests_nil ⟨H,I,h⟩
theorem pf_one {X:Cx} {c:Expr} {t:TT} (h:PT X c t):PF X [c] t:=λ a s σ H Q I q=>wpAny_tests_one (h a s σ H Q I q)
theorem Vals.snoc {xs:List V} {us:List Value} {x:V} {u:Value} (r:Vals xs us) (q:RelV x u):Vals (xs++[x]) (us++[u]):=Vals.append r (.cons q .nil)
def TagOf (H:Hp) (x:V) (T:String):Prop:=match x with
 | .non=>T = "NoneType"
 | .bl _=>T = "bool"
 | .int _=>T = "int"
 | .str _=>T = "str"
 | .ref a=>((∃xs,H a=some (.lst xs))/\T = "list")\/((∃xs,H a=some (.tup xs))/\T = "tuple")\/((∃kvs,H a=some (.dK kvs))/\T = "dict")
 | _=>False
noncomputable def instB (T C:String):Bool:=T == C || (T == "bool" && C == "int")
theorem TagOf.ty {K:b0} {H:Hp} {x:V} {T:String} (h:TagOf H x T):TyOf K H x (.type T):=by
 cases x with
 | non=>cases (show T = "NoneType" from h);exact .non
 | bl b=>cases (show T = "bool" from h);exact .bl b
 | int i=>cases (show T = "int" from h);exact .int i
 | str z=>cases (show T = "str" from h);exact .str z
 | ref a=>
  rcases h with ⟨⟨c,e⟩,rfl⟩|⟨⟨c,e⟩,rfl⟩|⟨⟨c,e⟩,rfl⟩
  ·exact .lst e
  ·exact .tup e
  ·exact .dK e
 | _=>exact h.elim
theorem TagOf.one {H:Hp} {x:V} {T:String} (h:TagOf H x T):T = "NoneType"\/T = "bool"\/T = "int"\/T = "str"\/T = "list"\/T = "tuple"\/T = "dict":=by
 cases x with
 | non=>exact .inl h
 | bl b=>exact .inr (.inl h)
 | int i=>exact .inr (.inr (.inl h))
 | str z=>exact .inr (.inr (.inr (.inl h)))
 | ref a=>rcases h with ⟨_,rfl⟩|⟨_,rfl⟩|⟨_,rfl⟩<;>simp
 | _=>exact h.elim
noncomputable def isiC:List String:=["int","str","bool","tuple","list"]
theorem kit_of (K:b0) {T C:String} (h:T = "NoneType"\/T = "bool"\/T = "int"\/T = "str"\/T = "list"\/T = "tuple"\/T = "dict") (hC:C∈isiC):PySem.W.kitOne K (.type T) (.type C)=some (instB T C):=by
 have hC:C = "int"\/C = "str"\/C = "bool"\/C = "tuple"\/C = "list":=by simpa [isiC] using hC
 rcases h with rfl|rfl|rfl|rfl|rfl|rfl|rfl<;>rcases hC with rfl|rfl|rfl|rfl|rfl<;>kernel_rfl
section
variable {X:Cx}
theorem z0k:CallR X (.builtin "isinstance") (λ xs H Q=>∃x C T,xs=[x,.ty C]/\TagOf H x T/\C∈isiC/\Q (.bl (instB T C)) H):=by intro i s σ H xs g Q I r h;obtain ⟨x,C,T,rfl,a,f,q⟩:=h;obtain ⟨u,d,rfl,b,c⟩:=vals2 r;cases (show d=V3 C from c);exact ziu I b a.ty (kit_of X.K a.one f) λ e=>⟨.bl _,H,I.tok e,rfl,q⟩
theorem zhs {ys:List V} {its:List Value} (rv:Vals ys its) (hb :∀y∈ys,∃b,y=V.bl b):((G1 its.length).all λ i=>decide (ys[i]? = some (V.bl true)))=ys.all λ y=>decide (y=V.bl true):=by
 have e:=rv.length;rw [Bool.eq_iff_iff,U5,U5];constructor
 ·intro h y d;obtain ⟨i,a,rfl⟩:=List.getElem_of_mem d;have:=h i (List.mem_range.mpr (by omega));simpa [a] using this
 ·intro h i a;have c:i < ys.length:=by have:=List.mem_range.mp a;omega
  have:=h ys[i] (Q4 c);simpa [c] using this
theorem z46 (hc:X.calm=true):CallR X (.builtin "all") (λ xs H Q=>∃p ys,xs=[.ref p]/\SqL X.K H p ys/\(∀y∈ys,∃b,y=V.bl b)/\Q (.bl (ys.all λ y=>decide (y=V.bl true))) H):=by
 intro J s σ H xs O Q I r h;obtain ⟨p,ys,rfl,w,l,q⟩:=h;obtain ⟨u,rfl,B⟩:=vals1 r;cases B;obtain ⟨k,c,d,M⟩:=I.list w;have C:p≠s.heap.objs.size:=by obtain ⟨o,e,_⟩:=d.isList;exact V0 (N0 e)
 refine call_all_walk (t8 d.isList ?_);refine ⟨s.heap.objs.size,_,_,_,_,_,λ i=>decide (ys[i]? = some (V.bl true)),rfl,Walks.list (show X.A.in1.handled=none from I.ok.hd hc) s.heap.objs.size p C k.toArray,⟨⟨_,M0 _ rfl,rfl,rfl⟩,d.isList.at λ o e=>y0 _ e⟩,?_,?_⟩
 ·intro i v N L P a t;have a:k[i]? = some v:=by simpa using a
  obtain ⟨n,e⟩:=List.getElem?_eq_some_iff.mp a;have f:i < ys.length:=by rw [c.length];exact n
  obtain ⟨b,m⟩:=l ys[i] (Q4 f);obtain ⟨u,j,g⟩:=c.get (i:=i) (x:=ys[i]) (by simp [f]);rw [a] at j;cases j;rw [m] at g;cases (show v=j4 b from g);have:decide (ys[i]? = some (V.bl true))=b:=by rw [B0 f,m];cases b<;>simp
  exact u3 (this ▸ t)
 ·intro G E F;have e:=zhs c l;rw [<-J0] at e;refine ⟨.bl _,H,I.kept (t':=E) λ b o z=>F b o ?_ (y0 _ z),rfl,e.symm ▸ q⟩;intro D;rw [List.mem_singleton.mp D] at z;exact absurd (N0 z) (J3 _)
def CDivB (i j:Int):Prop:=0 < j/\j < 2 ^ 64
theorem zge:OpR X (P4 .FloorDiv) (rI CDivB λ i j=>.int (i / j)):=opI λ i j _ _ _ _ _ a q=>by
 obtain ⟨c,b⟩:=a;refine floordiv_int (by omega) ?_ (.inl (PyProof.noPylong_of_log2 ?_))
 ·rw [Int.fdiv_eq_ediv_of_nonneg _ (by omega)];exact q
 ·have:j.natAbs.log2 < 64:=(Nat.log2_lt (by omega)).mpr (by omega);omega
structure KDict (K:b0) (P:O0) (a:Addr) (kvs:List (Str×V)):Prop where
 ex :∃es n,K.lookup a=some ⟨.type "dict",none,.dict es n,#[]⟩/\Z8 (λ (p:Str×V) (e:DictEntry)=>(∃t,e.key=.str p.1 t)/\e.hash=d0 P p.1/\RelV p.2 e.val) kvs es.toList
 lo:(a == S3)=false
theorem zjd {kvs:List (Str×V)} {P:O0} :∀{es:List DictEntry},Z8 (λ (p:Str×V) (e:DictEntry)=>(∃t,e.key=.str p.1 t)/\e.hash=d0 P p.1/\RelV p.2 e.val) kvs es->∀z,
  RelO (kvs.lookup z) (findBy O7 es.toArray z):=by
 intro es r;induction r with
 | nil=>intro z;exact True.intro
 | @cons p e kvs es h t a=>
  intro z;obtain ⟨⟨g,d⟩,f,c⟩:=h;have a:=a z;unfold findBy at a⊢;rw [List.find?_toArray] at a⊢;rw [G4,d4];have b:O7 z e.key=(z == p.1):=by rw [d];show (p.1 == z)=_;rw [Bool.eq_iff_iff,beq_iff_eq,beq_iff_eq];exact ⟨λ q=>q.symm,λ q=>q.symm⟩
  cases hz:(z == p.1) with
  | true=>rw [b,hz];exact c
  | false=>rw [b,hz];exact a
theorem KDict.mapOf {a:Addr} {kvs:List (Str×V)} (D:KDict X.K X.w.params a kvs) {h:Heap} (k:X.K.In h) :∃f,h.MapOf (strKind X.prog X.w) a f/\∀z,RelO (kvs.lookup z) (f z):=by
 obtain ⟨b,n,d,r⟩:=D.ex;have c:PySem.W.KeysLit X.w.params b.toList:=by
  clear d D;generalize b.toList=l at r;induction r with
  | nil=>exact True.intro
  | cons h t ih=>obtain ⟨⟨g,c⟩,e,j⟩:=h;exact ⟨⟨_,g,c,e⟩,ih⟩
 have i :∀z,RelO (kvs.lookup z) (findBy O7 b.toList.toArray z):=zjd r;exact ⟨_,PySem.W.mapOf_K (prog:=X.prog) k d c,λ z=>by simpa using i z⟩
theorem zlq {a:Addr} {kvs:List (Str×V)} (D:KDict X.K X.w.params a kvs):OpR X (j2 .In) (λ x y H Q=>∃z,x=.str z/\y=.ref a/\Q (.bl (kvs.lookup z).isSome) H):=by intro g s σ H x y v u Q I c d h;obtain ⟨z,rfl,rfl,q⟩:=h;obtain ⟨t,rfl⟩:=c;cases d;obtain ⟨f,e,b⟩:=D.mapOf I.kIn;refine wpAny_in_of (W8 X.prog X.w z t) D.lo e ⟨.bl _,H,I.tok _,rfl,?_⟩;have:=b z;rw [RelO.isSome_eq this] at q;exact q
theorem ix_kd {a:Addr} {kvs:List (Str×V)} (D:KDict X.K X.w.params a kvs):IxR X (λ x y H Q=>∃z v,x=.ref a/\y=.str z/\kvs.lookup z=some v/\Q v H):=by
 intro l m k s σ H x y v u Q I i j h d;obtain ⟨z,r,rfl,rfl,e,q⟩:=h;cases i;obtain ⟨t,rfl⟩:=j;obtain ⟨f,c,g⟩:=D.mapOf I.kIn;have b:=g z;rw [e] at b;cases ef:f z with
 | none=>rw [ef] at b;exact b.elim
 | some u=>rw [ef] at b;exact tail_any c.typeIs slot_dict_getitem.lookup (wpAny_getItem_of (W8 X.prog X.w z t) c ef ⟨r,H,I.tok _,b,q⟩) d
structure KDictT (K:b0) (P:O0) (a:Addr) (kvs:List ((Str×Str)×V)):Prop where
 ex :∃es n,K.lookup a=some ⟨.type "dict",none,.dict es n,#[]⟩/\Z8 (λ (p:(Str×Str)×V) (e:DictEntry)=>(∃(b:Addr) (t t':Tok) (m:Nat),e.key=.ref b/\K.lookup b=some ⟨.type "tuple",none,.seq #[.str p.1.1 t,.str p.1.2 t'] m,#[]⟩)/\
  e.hash=C1 (j0 [d0 P p.1.1,d0 P p.1.2])/\RelV p.2 e.val) kvs es.toList
 nd:(kvs.map (·.1)).Nodup
 lo:(a == S3)=false
theorem zhp {prog:Program} {w:S0} {K:b0} {h:Heap} (k:K.In h) :∀{kvs:List ((Str×Str)×V)} {es:List DictEntry},
  Z8 (λ (p:(Str×Str)×V) (e:DictEntry)=>(∃(b:Addr) (t t':Tok) (m:Nat),e.key=.ref b/\K.lookup b=some ⟨.type "tuple",none,.seq #[.str p.1.1 t,.str p.1.2 t'] m,#[]⟩)/\
   e.hash=C1 (j0 [d0 w.params p.1.1,d0 w.params p.1.2])/\RelV p.2 e.val) kvs es->
  ∃xs:List (List Str×Addr×Value),es=xs.map (entryOfKey (J6 (strKind prog w)))/\(∀x∈xs,(J6 (strKind prog w)).is h x.1 x.2.1)/\xs.map (·.1)=kvs.map (λ p=>[p.1.1,p.1.2])/\
   ∀a b,RelO (kvs.lookup (a,b)) ((O8 xs [a,b]).map (·.2)):=by
 intro kvs es r;induction r with
 | nil=>exact ⟨[],rfl,λ x f=>absurd f o0,rfl,λ a b=>True.intro⟩
 | @cons p e kvs es hpe t ih=>
  obtain ⟨xs,n,v,s,y⟩:=ih;obtain ⟨⟨b,C,B,m,l,u⟩,i,q⟩:=hpe;refine ⟨([p.1.1,p.1.2],b,e.val) :: xs,?_,?_,?_,?_⟩
  ·rw [R0,<-n];congr 1;obtain ⟨o,A,D⟩:=e;have l:A=.ref b:=l;have i:o=_:=i;subst l i;rfl
  ·intro x f;rcases List.mem_cons.mp f with rfl|f
   ·exact ⟨_,_,m,k _ _ u,rfl,rfl,.cons (W8 prog w _ _) (.cons (W8 prog w _ _) .nil)⟩
   ·exact v x f
  ·rw [R0,R0,s]
  ·intro c d;have:=y c d;rw [d4];unfold O8 at this⊢;rw [G4];by_cases hcd:(c,d)=p.1
   ·have j:((c,d) == p.1)=true:=by rw [beq_iff_eq];exact hcd
    rw [j];have g:decide ([p.1.1,p.1.2]=[c,d])=true:=by rw [<-hcd];simp
    rw [g];exact q
   ·have j:((c,d) == p.1)=false:=by rw [beq_eq_false_iff_ne];exact hcd
    rw [j];have g:decide ([p.1.1,p.1.2]=[c,d])=false:=by rw [decide_eq_false_iff_not];intro z;injection z with z1 z;injection z with z2 _;exact hcd (j11 z1.symm z2.symm)
    rw [g];exact this
theorem z7x :∀{l:List (Str×Str)},l.Nodup->(l.map λ p=>[p.1,p.2]).Nodup
 | [],_=>B7
 | p :: r,h=>by obtain ⟨a,b⟩:=List.nodup_cons.mp h;rw [R0];refine List.nodup_cons.mpr ⟨λ m=>a ?_,z7x b⟩;obtain ⟨q,c,e⟩:=List.mem_map.mp m;injection e with e1 e;injection e with e2 _;have:q=p:=j11 e1 e2;exact this ▸ c
theorem KDictT.dict {a:Addr} {kvs:List ((Str×Str)×V)} (D:KDictT X.K X.w.params a kvs) {h:Heap} (k:X.K.In h) :∃xs,h.DictOfH (J6 (strKind X.prog X.w)) a xs/\∀c d,RelO (kvs.lookup (c,d)) ((O8 xs [c,d]).map (·.2)):=by obtain ⟨g,n,b,r⟩:=D.ex;obtain ⟨xs,e,f,j,i⟩:=zhp (prog:=X.prog) (w:=X.w) k r;refine ⟨xs,⟨_,g,n,k _ _ b,⟨rfl,rfl,rfl⟩,rfl,e,f,?_⟩,i⟩;rw [j];have:=z7x D.nd;rw [X2] at this;exact this
theorem zk1 {pins:List (Addr×Obj)} {σ:St} {H:Hp} {s:u0} {p:Addr} {c d:Str} (I:Inv X pins σ H s) (hp:H p=some (.tup [.str c,.str d])):(J6 (strKind X.prog X.w)).is s.heap [c,d] p:=by
 obtain ⟨_,i,a,⟨o,f,b,n,e⟩,_⟩:=(show ObjOk X.prog X.w H s.heap p (.tup [.str c,.str d]) from I.hok p _ hp)
 cases a with
 | cons r1 a=>
  cases a with
  | cons r2 a=>cases a;obtain ⟨g,rfl⟩:=r1;obtain ⟨h,rfl⟩:=r2;exact ⟨o,_,n,f,b,e,.cons (W8 X.prog X.w _ _) (.cons (W8 X.prog X.w _ _) .nil)⟩
theorem zaz {a:Addr} {kvs:List ((Str×Str)×V)} (hu:X.A.units + 1 < cLine) (D:KDictT X.K X.w.params a kvs) :
  OpR X (j2 .NotIn) (λ x y H Q=>∃p c d,x=.ref p/\H p=some (.tup [.str c,.str d])/\y=.ref a/\Q (.bl (!(kvs.lookup (c,d)).isSome)) H):=by
 intro l s σ H x y v u Q I e f h;obtain ⟨p,c,d,rfl,i,rfl,q⟩:=h;cases e;cases f;obtain ⟨j,g,b⟩:=D.dict I.kIn;refine wpAny_notIn_heap (k:=[c,d]) hu (zk1 I i) D.lo g ⟨.bl _,H,I.tok _,rfl,?_⟩;have:=RelO.isSome_eq (b c d);rw [L7] at this;rw [this] at q;exact q
theorem ix_kdt {a:Addr} {kvs:List ((Str×Str)×V)} (hu:X.A.units + 1 < cLine) (D:KDictT X.K X.w.params a kvs) :
  IxR X (λ x y H Q=>∃p c d v,x=.ref a/\y=.ref p/\H p=some (.tup [.str c,.str d])/\kvs.lookup (c,d)=some v/\Q v H):=by
 intro t B o s σ H x y v u Q I l m h g;obtain ⟨p,c,d,r,rfl,rfl,i,e,q⟩:=h;cases l;cases m;obtain ⟨n,f,j⟩:=D.dict I.kIn;have b:=j c d;rw [e] at b;cases ef:O8 n [c,d] with
 | none=>rw [ef] at b;exact b.elim
 | some z=>rw [ef] at b;exact tail_any f.typeIs slot_dict_getitem.lookup (wpAny_getItem_heap (k:=[c,d]) hu (zk1 I i) f ef ⟨r,H,I.tok _,b,q⟩) g
end
structure Cal (P:Program) (w:S0) (K:b0) (mg:Str->Option Value) (base:Heap) (x:Str) (ps:List Str) (k:Nat) (sp:Sp):Prop where
 ex :∃f fd,FnOk P w K mg base CX0 k f fd ps sp/\mg x=some (.ref f)/\E3 K (.ref f)=true/\Binds K fd ps []
section
variable {X:Cx} {x:Str} {ps:List Str} {k:Nat} {sp:Sp} {e:Expr} {es:List Expr} {t:TA} {p pos:Pos}
theorem pe_cal (c:Cal X.prog X.w X.K X.mg X.base x ps k sp) (hr:Room k X.A) (hg:Gl X x) (ha:PA X (e :: es) t) (hn:x≠"__name__":=by decide) (hdb:(x == ("__debug__" : Str))=false:=by decide)
  (he:A1 (e :: es) X.env=(false,d3 e X.env) :: A1 es X.env:=by rfl) (hpl:(E4 pos (A1 es X.env)).any (·.1)=false:=by rfl):PE X (.Call (.Name x p) (e :: es) [] pos) (tCall sp [] E0 t):=by
 obtain ⟨f,g,F,b,d,a⟩:=c.ex;exact zm3 F hr hg b d a .nil pass0 ha hdb he hpl
end
structure TX (K:b0) (mg:Str->Option Value):Prop where
 of :∀{n:Str} {v:Value},W6 K v3 n=some (some v)->mg n=some v
 no :∀{n:Str},W6 K v3 n=some none->mg n=none
theorem TX.mk' {K:b0} {mg:Str->Option Value} {h:Heap} (X:K.In h) (G:h.Ns v3 mg):TX K mg:=⟨λ e=>PySem.W.mg_of X G e,λ e=>PySem.W.mg_none_of X G e⟩
section
variable {X:Cx}
noncomputable def rAdd4 (K:b0):R2:=λ x y H Q=>(∃i j,x=.int i/\y=.int j/\Q (.int (i + j)) H)\/(∃i j,x=.str i/\y=.str j/\i.length + j.length<=sizeLine/\Q (.str (i++j)) H)\/rCat x y H Q\/rCatT K x y H Q
theorem opAdd:OpR X (P4 .Add) (rAdd4 X.K):=op_add.or (op_add_str.or (op_cat.or zcz))
theorem opEq:OpR X (j2 .Eq) rEq:=op_eq
theorem opNe:OpR X (j2 .NotEq) rNe:=op_ne
theorem z1j:CallR X (.builtin "len") (λ xs H Q=>(∃p ys,xs=[.ref p]/\(SqL X.K H p ys\/SqT X.K H p ys)/\Q (.int ys.length) H)\/∃z,xs=[.str z]/\z.length<=sizeLine/\Q (.int z.length) H):=call_len_seq.or zb7
end
noncomputable def z14 (x:V) (g:Int):Bool:=match x with
 | .int i=>decide (-g<=i) && decide (i<=g)
 | _=>false
noncomputable def tupOf (H:Hp) (x:V):Option (List V):=match x with
 | .ref a=>(match H a with|some (.tup xs)=>some xs|_=>none)
 | _=>none
theorem zfp {H H':Hp} {x:V} {T:String} (t:TagOf H x T) (e:Same H H'):tupOf H' x=tupOf H x:=by
 cases x with
 | ref a=>rcases t with ⟨⟨b,h⟩,_⟩|⟨⟨b,h⟩,_⟩|⟨⟨b,h⟩,_⟩<;>(unfold tupOf;dsimp only;rw [h,e a _ h])
 | _=>rfl
theorem TagOf.same {H H':Hp} {x:V} {T:String} (t:TagOf H x T) (e:Same H H'):TagOf H' x T:=by
 cases x with
 | ref a=>
  rcases t with ⟨⟨b,h⟩,z⟩|⟨⟨b,h⟩,z⟩|⟨⟨b,h⟩,z⟩
  ·exact .inl ⟨⟨b,e a _ h⟩,z⟩
  ·exact .inr (.inl ⟨⟨b,e a _ h⟩,z⟩)
  ·exact .inr (.inr ⟨⟨b,e a _ h⟩,z⟩)
 | _=>exact t
theorem TagOf.tuple {H:Hp} {x:V} (t:TagOf H x "tuple") :∃a xs,x=.ref a/\H a=some (.tup xs):=by
 cases x with
 | ref a=>
  rcases t with ⟨_,z⟩|⟨⟨xs,h⟩,_⟩|⟨_,z⟩
  ·exact absurd z (by decide)
  ·exact ⟨a,xs,rfl,h⟩
  ·exact absurd z (by decide)
 | non=>exact absurd (show "tuple" = "NoneType" from t) (by decide)
 | bl b=>exact absurd (show "tuple" = "bool" from t) (by decide)
 | int i=>exact absurd (show "tuple" = "int" from t) (by decide)
 | str z=>exact absurd (show "tuple" = "str" from t) (by decide)
 | _=>exact t.elim
theorem TagOf.int {H:Hp} {x:V} (t:TagOf H x "int") :∃i,x=.int i:=by
 cases x with
 | ref a=>rcases t with ⟨_,z⟩|⟨_,z⟩|⟨_,z⟩<;>exact absurd z (by decide)
 | non=>exact absurd (show "int" = "NoneType" from t) (by decide)
 | bl b=>exact absurd (show "int" = "bool" from t) (by decide)
 | int i=>exact ⟨i,rfl⟩
 | str z=>exact absurd (show "int" = "str" from t) (by decide)
 | _=>exact t.elim
theorem TagOf.str {H:Hp} {x:V} (t:TagOf H x "str") :∃z,x=.str z:=by
 cases x with
 | ref a=>rcases t with ⟨_,z⟩|⟨_,z⟩|⟨_,z⟩<;>exact absurd z (by decide)
 | non=>exact absurd (show "str" = "NoneType" from t) (by decide)
 | bl b=>exact absurd (show "str" = "bool" from t) (by decide)
 | int i=>exact absurd (show "str" = "int" from t) (by decide)
 | str z=>exact ⟨z,rfl⟩
 | _=>exact t.elim
theorem noInt {H:Hp} {x:V} {T:String} (t:TagOf H x T) (h:T≠"int") (g:Int):z14 x g=false:=by
 cases x with
 | int i=>exact absurd t h
 | _=>rfl
theorem noTup {H:Hp} {x:V} {T:String} (t:TagOf H x T) (h:T≠"tuple"):tupOf H x=none:=by
 cases x with
 | ref a=>
  rcases t with ⟨⟨b,e⟩,_⟩|⟨_,z⟩|⟨⟨b,e⟩,_⟩
  ·unfold tupOf;dsimp only;rw [e]
  ·exact absurd z h
  ·unfold tupOf;dsimp only;rw [e]
 | _=>rfl
theorem z8u {H:Hp} {x:V} {T:String} (t:TagOf H x T) {C:String} (h:C≠"int"):instB T C=decide (T=C):=by
 unfold instB;have:(C == "int")=false:=by simpa using h
 rw [this,C6,Bool.or_false,Bool.beq_eq_decide_eq]
def Flat (H:Hp) (x:V):Prop:=∀xs,tupOf H x=some xs->xs.length<=1000/\∀y∈xs,∃T,TagOf H y T
theorem zas {α β:Type} [BEq α] [LawfulBEq α] {l:List (α×β)} {a:α} {b:β} (h:l.lookup a=some b):(a,b)∈l:=by
 induction l with
 | nil=>cases h
 | cons p r ih=>
  obtain ⟨c,d⟩:=p;rw [d4] at h;cases hc:(a == c) with
  | true=>rw [hc] at h;cases h;rw [eq_of_beq hc];exact Q0
  | false=>rw [hc] at h;exact Y0 _ (ih h)
theorem zd7 {names:List (Str×c6)} {Q:Str×c6->Prop} (h:(names.all λ y=>y.2 != P1)=true) :∀y∈names,y.2=P1->Q y:=λ y a e=>by have:=List.all_eq_true.mp h y a;rw [e] at this;exact absurd this (by decide)
theorem Same.upd {H:Hp} {p:Addr} {o:HO} (h:H p=none):Same H (upd H p o):=λ b u e=>by rw [upd_ne (z0b e h)];exact e
theorem Same.seqT {K:b0} {H H':Hp} {a:Addr} {xs:List V} (e:Same H H') (h:SqT K H a xs):SqT K H' a xs:=by
 rcases h with (h|⟨o,h⟩)|h
 ·exact .inl (.inl (e _ _ h))
 ·exact .inl (.inr ⟨o,e _ _ h⟩)
 ·exact .inr h
theorem zez {H:Hp} {x:V} {xs:List V} (h:tupOf H x=some xs) :∃a,x=.ref a/\H a=some (.tup xs):=by
 unfold tupOf at h;cases x with
 | ref a=>
  dsimp only at h;split at h
  ·rename_i ys e;exact ⟨a,rfl,by rw [e,J1 h]⟩
  ·cases h
 | _=>cases h
end L2
namespace L2
open PySem PySem.Spec PyProof.Rows
open Builtin.Str (occurrences partsBetween strKind)
section
variable {X:Cx}
theorem zcm {vl:Value} {lo:Option Int} (p:c9 vl lo) :∃l:Option (Int×Tok),vl=partValue l/\l.map (·.1)=lo:=by
 cases p with
 | none=>exact ⟨none,rfl,rfl⟩
 | int i t=>exact ⟨some (i,t),rfl,rfl⟩
end
end L2
namespace L2
open PySem PySem.Spec PyProof.Rows
section
variable {X:Cx}
def rSlS:V->Option Int->Option Int->Hp->VK->Prop:=λ x lo hi H Q=>∃z,x=.str z/\z.length<=sizeLine/\Q (.str (Txt.slice z lo hi)) H
theorem sl_str:SlR X rSlS:=by
 intro o s σ H x v p r m j n Q I i a d e h;obtain ⟨z,rfl,b,q⟩:=h;obtain ⟨t,rfl⟩:=i;obtain ⟨l,rfl,g⟩:=zcm d;obtain ⟨u,rfl,f⟩:=zcm e;subst g f;refine ⟨"str",_,F.slot_str_getitem.lookup,typeIs_str _ _ _,wpAny_getItem_str_slice (l:=l) (u:=u) (st:=none) a rfl
  (post_val_or_str ⟨C0 (Txt.slice_le z _ _) b,λ c k=>⟨.str (Txt.slice z _ _),H,I.tok k,⟨c,rfl⟩,q⟩⟩)⟩
theorem slSeq:SlR X (λ x lo hi H Q=>rSlL X.K x lo hi H Q\/rSlT X.K x lo hi H Q\/rSlS x lo hi H Q):=sl_list.or (sl_tup.or sl_str)
theorem zi3:CallR X (.type "int") (λ xs H Q=>∃z n,xs=[.str z]/\PySem.intText? z=some n/\z.length<=640/\Q (.int n) H):=by intro d s σ H xs c Q I r h;obtain ⟨z,n,rfl,b,a,q⟩:=h;obtain ⟨u,rfl,t,rfl⟩:=vals1 r;exact PySem.W.KIN.call_text b a ⟨.int n,H,I.tok _,⟨_,rfl⟩,q⟩
theorem z84:CallR X (.type "int") (λ xs H Q=>((∃i,xs=[.int i]/\Q (.int i) H)\/∃k,xs=[.bl k]/\Q (.int (if k then 1 else 0)) H)\/∃z n,xs=[.str z]/\PySem.intText? z=some n/\z.length<=640/\Q (.int n) H):=call_int1.or zi3
end
def RowAt (H:Hp) (r:Addr):Prop:=∃a b c:Int,H r=some (.lst [.int a,.int b,.int c])/\0<=c/\c < 536870909
def Kept (r:Addr) (H H':Hp):Prop:=∀b o,b≠r->H b=some o->H' b=some o
theorem Kept.refl {r:Addr} {H:Hp}:Kept r H H:=λ _ _ _ h=>h
theorem Kept.trans {r:Addr} {H H1 H2:Hp} (a:Kept r H H1) (b:Kept r H1 H2):Kept r H H2:=λ c o n h=>b c o n (a c o n h)
theorem Same.kept {r:Addr} {H H':Hp} (s:Same H H'):Kept r H H':=λ b o _ h=>s b o h
theorem Kept.set {r:Addr} {H:Hp} {o:HO}:Kept r H (upd H r o):=λ b u n h=>by rw [upd_ne n];exact h
structure Rw (r:Addr) (H H':Hp):Prop where
 k:Kept r H H'
 r:RowAt H' r
theorem atI_of {α:Type} {xs:List α} {t:Int} (h0:0<=t) (h1:t < xs.length) :∃v,atI xs t=some v/\v∈xs:=by
 have a:t.toNat < xs.length:=by omega
 refine ⟨xs[t.toNat],?_,Q4 a⟩;have:=z05 (xs:=xs) (j:=t.toNat) (v:=xs[t.toNat]) (by simp [a]);rw [Int.toNat_of_nonneg h0] at this;exact this
section
variable {r:Addr} {σ:St} {H0:Hp} {K:b0}
theorem g_name {i:Nat} {v:V} {σ:St} {H:Hp} {Q:St->Hp->Prop} (h:Q (σ.set i (some v)) H):gName i v σ H Q:=h
theorem t_nx {nx ct bk:St->Hp->Prop} {rt:VK} {σ:St} {H:Hp} (h:nx σ H):Ends.nx { nx:=nx,rt:=rt,bk:=bk,ct:=ct } σ H:=h
theorem t_next {nx ct bk:St->Hp->Prop} {rt:VK} {σ:St} {H:Hp} (h:nx σ H):tNext { nx:=nx,rt:=rt,bk:=bk,ct:=ct } σ H:=h
end
end L2
namespace L2
open PySem
section
variable {prog:Program} {w:S0} {A:L1} {E:Value->u0->Prop} {s:u0}
theorem tupOn {it t:Addr} {i:Nat} {its:Array Value} {x:Value} {Q:Value->u0->Prop} (a:s.heap.IsTupleIter it t i) (b:s.heap.IsTuple t its) (c:its[i]? = some x)
  (q :∀h',h'.IsTupleIter it t (i + 1)->X4 it s.heap h'->Q x { s with heap:=h' }):L0 (X0 prog w) A (T4 (.ref it)) Q E s:=by
 obtain ⟨o,e,h,d⟩:=id a;obtain ⟨p,f,_,n,g⟩:=b;unfold T4;refine c0 (W2 (name:=Q1 "__next__") a.typeIs Z5 (T2 Z5 a.typeIs j24 (show L0 _ _ (field (.ref it) 0 >>= _) _ _ s from c0 (m7 e d (x:=.ref t) rfl ?_)) (j1c _)));show L0 _ _ (if (v1 t == K2)=true then _ else (field (.ref it) 1 >>= _)) _ _ s;rw [if_neg (by exact P0)];refine c0 (m7 e d (x:=.int i 0) rfl (show L0 _ _ (seqItems? (.ref t) >>= _) _ _ s from c0 (N6 f g ?_)));simp only [F5,c];refine c0 (Z4 e d (by simp) (x0 ⟨x,rfl,x0 (q _ ⟨_,P2 _ e (Obj.isFreed_of_fields (Obj.data_mapFields d _)),(Obj.cls_mapFields ..).trans h,?_⟩ (O2 ..))⟩));rw [Obj.data_mapFields d];simp [d5]
theorem tupOff {it t:Addr} {i:Nat} {its:Array Value} {Q:Value->u0->Prop} (hh:A.handled=none) (a:s.heap.IsTupleIter it t i) (b:s.heap.IsTuple t its) (c:its[i]? = none)
  (q :∀h' e,j41 it s.heap h'->(∃o,h'.get? e=some o/\o.cls=.type "StopIteration")->E (.ref e) { s with heap:=h' }):L0 (X0 prog w) A (T4 (.ref it)) Q E s:=by
 obtain ⟨o,d,j,f⟩:=id a;obtain ⟨p,g,_,n,h⟩:=b;unfold T4;refine c0 (W2 (name:=Q1 "__next__") a.typeIs Z5 (T2 Z5 a.typeIs j24 (show L0 _ _ (field (.ref it) 0 >>= _) _ _ s from c0 (m7 d f (x:=.ref t) rfl ?_)) (j1c _)));show L0 _ _ (if (v1 t == K2)=true then _ else (field (.ref it) 1 >>= _)) _ _ s;rw [if_neg (by exact P0)];refine c0 (m7 d f (x:=.int i 0) rfl (show L0 _ _ (seqItems? (.ref t) >>= _) _ _ s from c0 (N6 g h ?_)));simp only [F5,c];refine c0 (D6 (c0 (Z4 d f (by simp) (show L0 _ _ (newExc (.type "StopIteration") [] >>= _) _ _ _ from c0 ?_))));simp only [newExc,newTuple];refine c0 (C2 (c0 (m:=N9 _ _) (K9 (a:=K2) (by first|rfl|(simp only [N9];rfl)) (C2 ?_ (by size_fits)))) (by size_fits));simp only [raiseNew];refine c0 (wpAny_handled ?_);first|rw [show A.in1.handled=none from hh]|rw [hh]
 exact c0 (x0 (j1d (q _ _ (((O2 ..).extBut.push _).push _) ⟨_,M0 _ rfl,rfl⟩)))
structure ZApart (z T U i j a b:Addr):Prop where
 dis:[z,T,U,i,j].Nodup
 fa:a∉[z,T,U,i,j]
 fb:b∉[z,T,U,i,j]
structure ZAt (h:Heap) (z T U i j a b:Addr) (n:Nat) (f:Value):Prop where
 z:IsZip h z T U f
 t:IsPair h T (.ref i) (.ref j)
 u :∃p q,IsPair h U p q
 i:h.IsTupleIter i a n
 j:h.IsTupleIter j b n
end
end L2
namespace L2
open PySem PySem.Spec PyProof.Rows
inductive Dt where
 | non|bl (b:Bool)|int (i:Int)|str (z:Str)|tup (ds:List Dt)
mutual
noncomputable def IsDt (K:b0) (H:Hp):Dt->V->Prop
 | .non,v=>v=.non
 | .bl b,v=>v=.bl b
 | .int i,v=>v=.int i
 | .str z,v=>v=.str z
 | .tup ds,v=>∃a xs,v=.ref a/\SqT K H a xs/\IsDts K H ds xs
noncomputable def IsDts (K:b0) (H:Hp):List Dt->List V->Prop
 | [],xs=>xs=[]
 | d :: ds,xs=>∃x r,xs=x :: r/\IsDt K H d x/\IsDts K H ds r
end
mutual
theorem IsDt.same' {K:b0} {H H':Hp} (s:Same H H') :∀(d:Dt) (v:V),IsDt K H d v->IsDt K H' d v
 | .non,v,h=>h
 | .bl b,v,h=>h
 | .int i,v,h=>h
 | .str z,v,h=>h
 | .tup ds,v,h=>by obtain ⟨a,c,rfl,e,r⟩:=h;exact ⟨a,c,rfl,s.seqT e,IsDts.same' s ds c r⟩
theorem IsDts.same' {K:b0} {H H':Hp} (s:Same H H') :∀(d:List Dt) (v:List V),IsDts K H d v->IsDts K H' d v
 | [],xs,h=>h
 | d :: ds,xs,h=>by obtain ⟨x,r,rfl,a,b⟩:=h;exact ⟨x,r,rfl,IsDt.same' s d x a,IsDts.same' s ds r b⟩
end
theorem IsDt.same {K:b0} {H H':Hp} {d:Dt} {v:V} (h:IsDt K H d v) (s:Same H H'):IsDt K H' d v:=IsDt.same' s d v h
theorem IsDts.mk2 {K:b0} {H:Hp} {d e:Dt} {x y:V} (a:IsDt K H d x) (b:IsDt K H e y):IsDts K H [d,e] [x,y]:=⟨x,[y],rfl,a,y,[],rfl,b,rfl⟩
theorem IsDt.mkT {K:b0} {H:Hp} {p:Addr} {xs:List V} {ds:List Dt} (h:H p=some (.tup xs)) (r:IsDts K H ds xs):IsDt K H (.tup ds) (.ref p):=⟨p,xs,rfl,SqT.of h,r⟩
mutual
noncomputable def Dt.deep:Dt->Nat
 | .tup ds=>Dt.deeps ds + 1
 | _=>0
noncomputable def Dt.deeps:List Dt->Nat
 | []=>0
 | d :: ds=>max d.deep (Dt.deeps ds)
noncomputable def Dt.plain:Dt->Bool
 | .int _=>true
 | .str _=>true
 | .tup ds=>Dt.plains ds
 | _=>false
noncomputable def Dt.plains:List Dt->Bool
 | []=>true
 | d :: ds=>d.plain && Dt.plains ds
end
section
variable {X:Cx}
theorem zmh {i:Nat} {x:Str} {p pos:Pos} {e:Expr} {es:List Expr} {t:TA} (tb:Addr->Sp->Prop) (hN:X.N[i]? = some x) (hv:Vis X.env.scope x)
  (G :∀f sp,tb f sp->∃k fd ps,FnOk X.prog X.w X.K X.mg X.base CX0 k f fd ps sp/\Room k X.A/\E3 X.K (.ref f)=true/\Binds X.K fd ps [])
  (ha:PA X (e :: es) t) (hd:(x == ("__debug__" : Str))=false:=by decide) (hcd:(x == ("__classdict__" : Str))=false:=by decide)
  (he:A1 (e :: es) X.env=(false,d3 e X.env) :: A1 es X.env:=by rfl) (hpl:(E4 pos (A1 es X.env)).any (·.1)=false:=by rfl) :
  PE X (.Call (.Name x p) (e :: es) [] pos) (λ σ H Q=>∃f sp,σ[i]? = some (some (.ref f))/\tb f sp/\t σ H λ vs H1=>sp vs H1 Q E0):=by
 intro a s σ H Q I h;obtain ⟨f,sp,j,b,h⟩:=h;obtain ⟨k,fd,ps,F,g,l,d⟩:=G f sp b;refine D4 (thn (pe_var hN hv hd hcd a s σ H (λ v c=>v=.ref f/\c=H) I ⟨_,j,rfl,rfl⟩) λ u m ⟨v,H0,I0,r0,ev,eH⟩=>?_);subst ev eH;obtain rfl:u=v1 f:=r0;refine c7 (h₀:=X.base) I0.ok.mod.kin l (thn (ha pos a m σ _ _ I0 h) λ n o ⟨vs,H1,I1,r,q⟩=>⟨I1.kIn,?_⟩) he hpl;exact run_fn F g d .nil pass0 I1 r (by rw [Y1];exact q)
theorem Inv.turnedL {pins:List (Addr×Obj)} {σ:St} {H:Hp} {s:u0} {h':Heap} {t':Nat} {fp:List Addr} (I:Inv X pins σ H s) (k :∀b o,b∉fp->s.heap.get? b=some o->h'.get? b=some o) (hf :∀b∈fp,FpOk X pins H b) :
  Inv X pins σ H { s with heap:=h',toks:=t' }:=by
 have f :∀b u,H b=some u->b∉fp:=λ b u e z=>by have:=(hf b z).1;rw [this] at e;cases e
 refine I.step (g':=s.gens) (d':=s.drawn) (ch:=fp) (λ b d=>⟨(hf b d).2.2.2.1,(hf b d).2.1,(hf b d).2.2.2.2.1,(hf b d).2.2.2.2.2⟩) (λ b o _ _ a e _=>k b o a e) (λ b o _ _ a e _=>⟨o.slots,k b o a e⟩) (λ _ _ _ _ n=>n)
  (λ b o a e=>⟨o,k b o a e⟩) (λ _ _ e=>e) (λ _ _ _ e=>e) (λ b l e=>⟨#[],by rw [e];simp⟩) (λ m h=>?_) (λ b u e=>?_) I.bare
 ·obtain ⟨o,j,i,g,r⟩:=h;exact ⟨o,j,i,k _ o (λ z=>(hf _ z).2.1 rfl) g,r⟩
 ·refine (I.hok b u e).stay (λ c v a q=>k c v ?_ q) (λ _ q=>q) λ _ _ q=>q;rcases a with z|z
  ·rw [z];exact f b u e
  ·exact f c _ z
theorem Inv.turnedLaid {pins:List (Addr×Obj)} {σ:St} {H:Hp} {s:u0} {h':Heap} {t':Nat} {fp:List Addr} {a:Addr} {o:HO} (I:Inv X pins σ H s) (k :∀b o,b∉fp->s.heap.get? b=some o->h'.get? b=some o) (hf :∀b∈fp,FpOk X pins H b)
  (hp:s.heap.objs.size<=a) (new:ObjOk X.prog X.w (upd H a o) h' a o):Inv X pins σ (upd H a o) { s with heap:=h',toks:=t' }:=by
 have t:H a=none:=I.hok.fresh hp;have h :∀b u,H b=some u->b∉fp:=λ b u e z=>by have:=(hf b z).1;rw [this] at e;cases e
 have g :∀b u,H b=some u->upd H a o b=some u:=λ b u e=>by rw [upd_ne (z0b e t)];exact e
 refine I.step (g':=s.gens) (d':=s.drawn) (ch:=fp) (λ b f=>⟨(hf b f).2.2.2.1,(hf b f).2.1,(hf b f).2.2.2.2.1,(hf b f).2.2.2.2.2⟩) (λ b o _ _ d e _=>k b o d e) (λ b o _ _ d e _=>⟨o.slots,k b o d e⟩)
  (λ b u _ e n=>by rw [upd_ne (λ z=>by subst z;exact absurd (N0 e) (Nat.not_lt.mpr hp))];exact n)
  (λ b o d e=>⟨o,k b o d e⟩) (λ _ _ e=>g _ _ e) (λ _ _ _ e=>g _ _ e) (λ b y e=>⟨#[],by rw [g _ _ e];simp⟩) (λ m j=>?_) (λ b u e=>?_) I.bare
 ·obtain ⟨o,l,p,i,r⟩:=j;exact ⟨o,l,p,k _ o (λ z=>(hf _ z).2.1 rfl) i,r⟩
 ·by_cases f:b=a
  ·subst f;rw [upd_same] at e;cases e;exact new
  ·rw [upd_ne f] at e;refine (I.hok b u e).stay (λ c v d q=>k c v ?_ q) (λ c q=>g _ _ q) λ c x q=>g _ _ q;rcases d with z|z
   ·rw [z];exact h b u e
   ·exact h c _ z
theorem zku:OpR X (P4 .Add) (λ x y H Q=>∃a b ys,x=.ref a/\y=.ref b/\SqT X.K H a []/\SqT X.K H b ys/\Q (.ref b) H):=by intro E s σ H x y v u Q I r t h;obtain ⟨a,b,ys,rfl,rfl,o,w,q⟩:=h;cases r;cases t;obtain ⟨L,C,n,_⟩:=I.tuple o;obtain ⟨m,M,p,_⟩:=I.tuple w;cases C;obtain ⟨⟨G,A,F,k⟩,g,c,l,d⟩:=id n;obtain ⟨⟨J,z,D,B⟩,e,f,j,i⟩:=id p;simp only at c d f i;subst c d f i;exact j0c ⟨_,g,rfl⟩ ⟨_,e,rfl⟩ j15 seq_tuple_add a8 Q7 (J7 _ _) (tuple_addW0 a b ([]:List Value).toArray m.toArray l j A z k B (by simp)) ⟨g,e,⟨.ref b,H,I,rfl,q⟩⟩
noncomputable def rCatS (K:b0):R2:=λ x y H Q=>∃a b xs ys,x=.ref a/\y=.ref b/\SqT K H a xs/\SqT K H b ys/\ys≠[]/\xs.length + ys.length<=sizeLine/\∀p H',Same H H'->SqT K H' p (xs++ys)->Q (.ref p) H'
theorem op_catS:OpR X (P4 .Add) (rCatS X.K):=by
 intro e s σ H x y v u Q I i j h;obtain ⟨a,b,d,f,rfl,rfl,g,c,m,l,q⟩:=h;cases d with
 | nil=>exact zku e s σ H _ _ v u Q I i j ⟨a,b,f,rfl,rfl,g,c,q b H (Same.refl H) c⟩
 | cons x d=>exact zcz e s σ H _ _ v u Q I i j ⟨a,b,x :: d,f,rfl,rfl,g,c,by simp,l,λ z=>absurd z m,λ _ p k=>q p _ (Same.upd k) (SqT.of upd_same)⟩
theorem z18 {o e:Expr} {es:List Expr} {to:TE} {t:TA} {apos cpos:Pos} (ho:PE X o to) (ha:PA X (e :: es) t)
  (hbase:U3 o "append" X.env (d3 o X.env)=d3 o X.env:=by rfl)
  (hfew:((E4 cpos (A1 (e :: es) X.env)).all (λ x=>!x.1) && (N8 cpos (K6 [] X.env)).all (λ x=>x.1.isSome)
   && decide ((e :: es).length + ([]:List j6).length + (if ([]:List j6).isEmpty then 0 else 1) < 30))=true:=by rfl)
  (hline:(apos.endLine == cpos.line)=true:=by rfl) (hs:A1 (e :: es) X.env=(false,d3 e X.env) :: A1 es X.env:=by rfl) (hplain:(E4 cpos (A1 es X.env)).any (·.1)=false:=by rfl) :
  PE X (.Call (.Attribute o "append" apos) (e :: es) [] cpos) (tBM X.K "list" zjx to t):=pe_bm M4 PySem.F.slot_list_append PySem.F.type_list_append zj9 ho ha hbase hfew hline hs hplain
end
def KeptL (L:List Addr) (H H':Hp):Prop:=∀b o,b∉L->H b=some o->H' b=some o
theorem KeptL.refl {L:List Addr} {H:Hp}:KeptL L H H:=λ _ _ _ h=>h
theorem KeptL.trans {L:List Addr} {H H1 H2:Hp} (a:KeptL L H H1) (b:KeptL L H1 H2):KeptL L H H2:=λ c o n h=>b c o n (a c o n h)
theorem Same.keptL {L:List Addr} {H H':Hp} (s:Same H H'):KeptL L H H':=λ b o _ h=>s b o h
theorem KeptL.set {L:List Addr} {H:Hp} {l:Addr} {o:HO} (h:l∈L):KeptL L H (upd H l o):=λ b u n e=>by rw [upd_ne (λ z=>n (by rw [z];exact h))];exact e
mutual
theorem IsDt.mono' {K:b0} {H H':Hp} (s :∀a xs,SqT K H a xs->SqT K H' a xs) :∀(d:Dt) (v:V),IsDt K H d v->IsDt K H' d v
 | .non,v,h=>h
 | .bl b,v,h=>h
 | .int i,v,h=>h
 | .str z,v,h=>h
 | .tup ds,v,h=>by obtain ⟨a,xs,rfl,e,r⟩:=h;exact ⟨a,xs,rfl,s _ _ e,IsDts.mono' s ds xs r⟩
theorem IsDts.mono' {K:b0} {H H':Hp} (s :∀a xs,SqT K H a xs->SqT K H' a xs) :∀(d:List Dt) (v:List V),IsDts K H d v->IsDts K H' d v
 | [],xs,h=>h
 | d :: ds,xs,h=>by obtain ⟨x,r,rfl,a,b⟩:=h;exact ⟨x,r,rfl,IsDt.mono' s d x a,IsDts.mono' s ds r b⟩
end
theorem SqT.wrote {K:b0} {H:Hp} {l a:Addr} {o:HO} {zs xs:List V} (e:H l=some (.lst zs)) (h:SqT K H a xs):SqT K (upd H l o) a xs:=by
 rcases h with (h|⟨ob,h⟩)|h
 ·exact .inl (.inl (by rw [upd_ne (ne_of h e (by intro z;cases z))];exact h))
 ·exact .inl (.inr ⟨ob,by rw [upd_ne (ne_of h e (by intro z;cases z))];exact h⟩)
 ·exact .inr h
section
variable {prog:Program} {w:S0} {A:L1} {E:Value->u0->Prop} {s:u0}
theorem zf0 {v:Value} {Q:Value->u0->Prop} {ns:List Int} (hn:ns.length < 64)
  (hc :∀R:List Value->u0->Prop,(∀h' tk vs,(∀b o,s.heap.get? b=some o->h'.get? b=some o)->c3 vs ns->R vs { s with heap:=h',toks:=tk })->L0 (X0 prog w) A.in1 (collect v) R E s)
  (h :∀(h1 h':Heap) (tk:Nat) (out:Array Value) (ns':List Int) (e:Nat),(∀b o,s.heap.get? b=some o->h1.get? b=some o)->(∀b o,h1.get? b=some o->h'.get? b=some o)->h'.get? h1.objs.size=some { cls:=.type "list",data:=.seq out e }->c3 out.toList ns'->ns'.Perm ns->ns'.Pairwise (·<=·)->Q (.ref h1.objs.size) { s with heap:=h',toks:=tk }) :
  L0 (X0 prog w) A (call (.builtin "sorted") [v]) Q E s:=by
 refine j13 kind_sorted plain_sorted entry_sorted (args_sorted1 _) ?_;unfold A5.«sorted»;refine c0 (m:=checkCount "sorted" 1 1 _) (x0 (c0 (hc _ λ h1 tk vs i d=>?_)));have c:vs.length < 64:=by rw [d.length];exact hn
 refine c0 (wpAny_newList ?_ (C0 (R3 c) (by decide)));have a:(h1.push (seqObj "list" vs.toArray 0)).get? h1.objs.size=some (seqObj "list" vs.toArray 0):=M0 _ rfl;refine c0 (Z1 (T2 slot_list_sort ⟨_,a,rfl⟩ entry_list_sort (list_sort_tree a d c λ out ns' k j g=>⟨_,rfl,?_⟩) (args_list_sort _)));obtain ⟨e,l⟩:=sortedHeap_at (out:=out) a;refine x0 ⟨_,rfl,h h1 _ tk out ns' e i (λ b o f=>?_) l k j g⟩;have lt:=N0 f;refine (sortedHeap_old (V0 lt) ?_).trans (y0 _ f);rw [size_push'];exact F1 lt
end
theorem zk9 :∀{ns:List Int} {us:List Value},us.length=ns.length->(∀(j:Nat) (u:Value),us[j]? = some u->∃(i:Int) (t:Tok),ns[j]? = some i/\u=L6 i t)->c3 us ns
 | [],us,hl,_=>by have:us=[]:=List.eq_nil_of_length_eq_zero hl;subst this;exact .nil
 | n :: ns,us,hl,h=>by
  cases us with
  | nil=>cases hl
  | cons u us=>obtain ⟨i,t,e,rfl⟩:=h 0 u rfl;have e:n=i:=J1 e;subst e;exact .cons n t (zk9 (Nat.succ.inj hl) λ j v e=>h (j + 1) v (by simpa using e))
section
variable {X:Cx}
def srt (ns:List Int) (H:Hp) (Q:VK):Prop:=∀(l:Addr) (ns':List Int),H l=none->ns'.Perm ns->ns'.Pairwise (·<=·)->Q (.ref l) (upd H l (.lst (ns'.map V.int)))
theorem zgy {pins:List (Addr×Obj)} {σ:St} {H:Hp} {s:u0} {Q:VK} {ns:List Int} {h1 h':Heap} {tk:Nat} {out:Array Value} {ns':List Int} {e:Nat} (I:Inv X pins σ H s) (hn:ns.length < 64) (q:srt ns H Q)
  (k1 :∀b o,s.heap.get? b=some o->h1.get? b=some o) (k2 :∀b o,h1.get? b=some o->h'.get? b=some o) (g:h'.get? h1.objs.size=some { cls:=.type "list",data:=.seq out e }) (i:c3 out.toList ns') (p:ns'.Perm ns) (r:ns'.Pairwise (·<=·)) :
  EP X pins σ Q (.ref h1.objs.size) { s with heap:=h',toks:=tk }:=by
 have a:Inv X pins σ H { s with heap:=h1 }:=I.kept (t':=s.toks) k1;refine ⟨.ref h1.objs.size,_,a.laid (t':=tk) (o:=.lst (ns'.map V.int)) k2 (A0 _) ⟨?_,out.toList,e,z88 i,by simpa using g⟩,rfl,q _ ns' (a.hok.fresh (A0 _)) p r⟩;rw [D0,p.length_eq];exact C0 (R3 hn) (by decide)
theorem z6k:CallR X (.builtin "sorted") (λ xs H Q=>∃a ns,xs=[.ref a]/\(SqL X.K H a (ns.map V.int)\/SqT X.K H a (ns.map V.int))/\ns.length < 64/\srt ns H Q):=by
 intro C s σ H xs E Q I r h;obtain ⟨a,ns,rfl,c,w,q⟩:=h;obtain ⟨u,rfl,A⟩:=vals1 r;cases A;refine zf0 w (λ R v=>?_) λ B d G F D e x z g i p r=>zgy I w q x z g i p r;rcases c with c|c
 ·obtain ⟨y,b,m,l⟩:=I.list c;obtain ⟨o,f,t,n,j⟩:=m.isList;exact wpAny_collect_seq a (.inl rfl) f t j (λ d k=>v d s.toks _ k (by simpa using z6t b)) (by rw [J0,<-b.length];exact l)
 ·obtain ⟨y,b,m,l⟩:=I.tuple c;obtain ⟨o,f,t,n,j⟩:=m;exact wpAny_collect_seq a (.inr rfl) f t j (λ d k=>v d s.toks _ k (by simpa using z6t b)) (by rw [J0,<-b.length];exact l)
theorem zb2 (hcalm:X.calm=true):CallR X (.builtin "sorted") (λ xs H Q=>∃a kvs ns,xs=[.ref a]/\H a=some (.dK kvs)/\kvs.map (·.1)=ns.map Sum.inl/\ns.length < 64/\srt ns H Q):=by
 intro O s σ H xs U Q I r h;obtain ⟨a,kvs,ns,rfl,K,M,l,q⟩:=h;obtain ⟨u,rfl,L⟩:=vals1 r;cases L;obtain ⟨E,B,c,f,w⟩:=dk_of I.hok K;obtain ⟨T,C⟩:=w.dictAt;refine zf0 l (λ R G=>?_) λ N d m V S e v J g i p r=>zgy I l q v J g i p r;have keys:c.map (·.1)=ns.map Sum.inl:=f.keys.symm.trans M;have D:c.length=ns.length:=by have:=congrArg u6 keys;simpa using this
 refine PySem.W.kdu_collect (PySem.W.kdl_dict B) (show X.A.in1.handled=none from I.ok.hd hcalm) C (by rw [<-f.length];exact E) λ d m P k n=>G d m _ k (zk9 (by rw [v2,n.1,D]) λ j u e=>?_);obtain ⟨y,x,F,o⟩:=n.2 j u (by rw [<-N3];exact e);have b:(c.map (·.1))[j]? = some y:=by rw [K0,F];rfl
 rw [keys,K0] at b;cases en:ns[j]? with
 | none=>rw [en] at b;cases b
 | some i=>
  rw [en] at b;have b:Sum.inl i=y:=J1 b;subst b;rcases z0o (show keyIs (.inl i) u=true from o) with ⟨Y,t,z,rfl⟩|⟨_,_,z,_⟩
  ·cases z;exact ⟨i,t,rfl,rfl⟩
  ·cases z
end
theorem iteP {c A B:Prop} [Decidable c] (hc:c) (h:A):if c then A else B:=by rw [if_pos hc];exact h
theorem iteN {c A B:Prop} [Decidable c] (hc:¬ c) (h:B):if c then A else B:=by rw [if_neg hc];exact h
theorem z52 (i:Int) (ns:List Int):inV (.int i) (ns.map V.int)=decide (i∈ns):=by
 unfold inV;rw [j2g,Bool.eq_iff_iff,j8,decide_eq_true_eq];constructor
 ·rintro ⟨x,hx,e⟩;have e:(x == i)=true:=e;rw [beq_iff_eq] at e;exact e ▸ hx
 ·intro h;exact ⟨i,h,by show (i == i)=true;simp⟩
theorem z39 (ns:List Int):(ns.map V.int).all flatV=true:=by rw [U5];intro x a;obtain ⟨i,_,rfl⟩:=List.mem_map.mp a;rfl
theorem zl5 {names:List (Str×c6)} {n:Str} {Q:Str×c6->Prop} (h:(names.all λ y=>y.2 != P1 || y.1 == n)=true) (q :∀k,Q (n,k)) :∀y∈names,y.2=P1->Q y:=λ y c e=>by
 have:=List.all_eq_true.mp h y c;rw [e] at this;have:(y.1 == n)=true:=by simpa using this
 obtain ⟨a,b⟩:=y;rw [beq_iff_eq] at this;have:a=n:=this;subst this;exact q b
noncomputable def CXE (P:Program) (w:S0) (base:Heap):CXT:=λ outer H s E e s'=>∃(ea:Addr) (cls a0:Value) (B:Heap) (H':Hp),e=.ref ea/\s'.os=s.os/\A8 s'.gens/\Un (frs outer) [] H H' s.heap s'.heap/\HOk P w H' s'.heap/\H' ea=none/\
 base.StaysIn B/\Heap.FlyingW B outer ea cls a0 s'.heap/\(∀b o,s'.heap.get? b=some o->b∉frs outer->((∃u,H' b=some u)\/∃u,s.heap.get? b=some u)->B.get? b=some o)/\E cls none H'
theorem passN {X:Cx}:Passes (CXE X.prog X.w X.base) X E0:=λ _ _ _ _ _ _ _ ⟨_,_,_,_,_,_,_,_,_,_,_,_,_,_,z⟩=>z.elim
theorem PS.nox {X:Cx} {st:Stmt} {t:TS} (h:PS X.nox st t):PS X st t:=λ a s σ H D I hw=>M3 (h a s σ H D (I.wish _) hw) (λ _ _ q=>q.unwish) λ _ _ z=>W3 z
section
variable {P:Program} {w:S0} {K:b0} {mg:Str->Option Value} {base:Heap} {N:List Str} {qual:Str} {scope:Scope} {f:Addr} {cd:Value} {A:L1} {outer:List Env} {s:u0} {H:Hp} {E:XK}
theorem Fun.okE {x qual:Str} {st:Stmt} {f:Addr} {fd:FuncData} {N ps:List Str} {k:Nat} {sp:Sp} (F:Fun K x qual st f fd) (S:FnScope N ps (z06 st)) (len :∀vs H Q E,sp vs H Q E->vs.length=ps.length)
  (hbody :∀(cdv:Value) (A:L1) (outer:List Env) (s:u0) (H:Hp) (vs:List V) (Q:VK) (E:XK),Room k (A.deeper (X8 qual (z06 st) s.heap.objs.size f cdv))->sp vs H Q E->
   ∃t,PSs (cxOf (CXE P w base) P w K mg base N qual (z06 st) f cdv A outer s H E) (z6o st) t/\t { nx:=λ _ H'=>Q .non H',rt:=Q } (start N vs) H):FnOk P w K mg base (CXE P w base) (k + 1) f fd ps sp:=by
 obtain ⟨m,h,kV,e,g,i,cdv,l,j,rfl,c,d⟩:=F.ex;exact fn_of c d S len λ A outer s H vs Q E a b=>hbody cdv A outer s H vs Q E a b
end
structure CalE (P:Program) (w:S0) (K:b0) (mg:Str->Option Value) (base:Heap) (x:Str) (ps:List Str) (k:Nat) (sp:Sp):Prop where
 ex :∃f fd,FnOk P w K mg base (CXE P w base) k f fd ps sp/\mg x=some (.ref f)/\E3 K (.ref f)=true/\Binds K fd ps []
end L2
set_option maxHeartbeats 400000
namespace L2
open PySem PySem.Spec PyProof.Rows PySem.W PySem.Calls PySem.Builtin PySem.Builtin.ObjectAttr PySem.Builtin.Getset_descriptor
end L2
namespace L2
open PySem PySem.Spec PyProof.Rows PySem.W
end L2
namespace L2
open PySem PySem.Spec PyProof.Rows
end L2
set_option maxHeartbeats 4000000
namespace L2
open PySem PySem.Spec PyProof.Rows
noncomputable def cStG (σ:St) (fr:List (Nat×Str)) (us:List (Option V)):St:=us++fr.map λ p=>(σ[p.1]?).join
noncomputable def tCompG (wi:TI) (n:Nat) (fr:List (Nat×Str)) (g:TG) (tc:TT) (te:TE):TE:=λ σ H Q=>wi σ H λ J H1=>∃W:Nat->Nat->List V->Hp->Prop,(∃m,W 0 m [] H1)/\∀i m ys H,W i m ys H->
 (J.stop i H/\ys.length<=sizeLine/\∀p,H p=none->Q (.ref p) (upd H p (.lst ys)))\/
 (J.go i H/\ys.length<=sizeLine/\∀v H',J.yld i H v H'->g v (cStG σ fr (A2 n none)) H' λ σ6 H6=>∃us,us.length=n/\σ6=cStG σ fr us/\tc (cStG σ fr us) H6 λ b H2=>if b=true then te (cStG σ fr us) H2 λ y H3=>∃m',m' < m/\W (i + 1) m' (ys++[y]) H3 else∃m',m' < m/\W (i + 1) m' ys H2)
section
variable {X:Cx}
theorem zm0 {scope:Scope} {cl:List (Str×Addr)} {N:List Str} {C:Addr} {s₂:u0} {H₂:Hp} {fp:List Addr} {x:Str} {px:Pos} (i:Nat) (hN:N.Nodup) (hi:N[i]? = some x) (hx:scope.names.lookup x=some .local):PG (cxComp X scope cl N C s₂ H₂ fp) (.Name x px) (gName i):=
 z0f hN hi (.inl (lookup_relabel_local hx)) (.inr (lookup_relabel_local hx))
theorem zgd {xs:List Str} {tg:Expr} {g:TG} {pos:Pos} {elt iter:Expr} {ifs:List Expr} {scope:Scope} {fr:List (Nat×Str)} {wi:TI} {tc:TT} {te:TE} {use:Option (Value->Sem Unit)} {QQ:Value->u0->Prop} {pins:List (Addr×Obj)} {s:u0} {σ:St} {H:Hp} {Q:VK} {pp:Pos} (hcalm:X.calm=true) (hi:PI X tg iter wi)
  (hfr :∀p∈fr,X.N[p.1]? = some p.2/\(X.env.kindOf p.2=some .cell\/X.env.kindOf p.2=some .free))
  (hfree :∀y∈scope.names,y.2=P1->X.env.kindOf y.1=some .cell\/X.env.kindOf y.1=some .free)
  (hfs :∀p∈fr,(p.2,P1)∈scope.names/\((y8 scope X.env).names.lookup p.2=some .cell\/(y8 scope X.env).names.lookup p.2=some .free))
  (hcell :∀y∈scope.names,y.2≠NameKind.cell) (hkind:scope.kind=.function) (hnames :∀y∈scope.names,y.2=NameKind.local->scope.names.lookup y.1=some .local)
  (hg :∀cl C s₂ H₂ fp,PG (cxComp X scope cl (xs++fr.map (·.2)) C s₂ H₂ fp) tg g)
  (ht :∀cl C s₂ H₂ fp,PF (cxComp X scope cl (xs++fr.map (·.2)) C s₂ H₂ fp) ifs tc) (he :∀cl C s₂ H₂ fp,PE (cxComp X scope cl (xs++fr.map (·.2)) C s₂ H₂ fp) elt te)
  (hs :∀x,P5 iter X.env x=V2 x) (I:Inv X pins σ H s) (h:tCompG wi xs.length fr g tc te σ H Q)
  (hend :∀(D:Addr) (s4:u0) (H4:Hp),Inv X pins σ H4 s4->(∃m,s4.heap.Ns (D + 1) m)->H4 (D + 1)=none->D + 1≠X.env.locals->X.s₀.heap.objs.size<=D + 1->(D + 1∉X.fs/\(∀x c,X.env.cells.lookup x=some c->c≠D + 1)/\∀p∈X.pn++pins,p.1≠D + 1)->Q (.ref D) H4->compPost (X0 X.prog X.w) X.A X.xe use QQ (.ref D) (D + 1) (.ok .next) s4) :
  L0 (X0 X.prog X.w) X.A (comprehension (.ListComp elt [⟨tg,iter,ifs,0⟩] scope pos) scope X.env pp (newList []) false (firstIter [⟨tg,iter,ifs,0⟩] X.env) use) QQ X.xe s:=by
 obtain ⟨cl,d9,U,b8⟩:=zf5 (scope:=scope) (env:=X.env) λ y P hk=>I.ok.has y.1 (hfree y P hk);refine wpAny_comprehension_free (use:=use) rfl hs d9 hkind hnames (thn (hi pins s σ H _ I h) λ xv s₁ h₁=>thn h₁ λ g3 s₂ h₂=>?_);obtain ⟨it,fp,tn,J,O,e,f,T,b5,M,W,⟨m0,w0⟩,e4⟩:=h₂;subst e
 -- the list that is filled,the block's names
 refine C2 (wpAny_newFunctionEnv hcell (by intro y P;simp at P) (λ h₁ a5 a2=>?_) hkind);dsimp only at a5 a2⊢;generalize hD:s₂.heap.objs.size=D at a5 a2⊢;generalize hG:s₂.heap.push { cls:=.type "list",dict:=none,data:=.seq ([]:List Value).toArray }=G at a5 a2⊢;have hC:G.objs.size=D + 1:=by rw [<-hG,m3,hD]
 generalize hCC:G.objs.size=C at a5 a2 hC⊢;subst hC;have a8 :∀b∈fp,b < D:=λ b a=>by obtain ⟨o,e,_⟩:=T.obj _ _ b5 b a;rw [<-hD];exact N0 e
 have a1 :∀b o,s₂.heap.get? b=some o->h₁.get? b=some o:=λ b o e=>a2.extBut b o (V0 (F1 (by rw [<-hD];exact N0 e))) (y0 _ (hG ▸ y0 _ e));have f0:G.get? D=some { cls:=.type "list",dict:=none,data:=.seq ([]:List Value).toArray }:=by rw [<-hG,<-hD];exact M0 _ rfl
 have f4:h₁.PlainList D #[]:=⟨0,a2.extBut _ _ (V0 (V1 D)) (y0 _ f0)⟩
 have g0 :∀y c,cl.lookup y=some c->c < D:=λ y c e=>by obtain ⟨v,q⟩:=f.cell y c (U y c e);rw [<-hD];exact q.lt
 have e8 :∀b∈frs X.stack,b < D:=λ b a=>by
  rcases List.mem_cons.mp (f.stkSub b a) with e|a
  ·rw [e,<-hD];exact f.lt
  ·rw [<-hD];exact Nat.lt_of_not_le λ z=>f.nofs z a
 have c7 :∀b∈fp,b∉frs X.stack:=λ b a g2=>by
  rcases List.mem_cons.mp (f.stkSub b g2) with e|z
  ·exact (M b a).2.1 e
  ·exact (M b a).2.2.1 z
 generalize hX':cxComp X scope cl (xs++fr.map (·.2)) (D + 1) s₂ O fp=X';have e7:X'.Ok:=by
  subst hX';refine ⟨f.ok.mod,hkind,f.ok.glob,f.ok.blt,(by show s₂.heap.objs.size<=D + 1;omega),λ y z c S L=>f.ok.inj y z c (U _ _ S) (U _ _ L),λ y P=>?_,(λ _ _ z=>Bool.noConfusion z),f.ok.hd,f.ok.frames,.inl rfl,λ b a=>⟨?_,λ y c e=>?_⟩,λ b o e=>f.bs b o e,?_,λ b o e a=>?_,c7,f.env0.funs,f.stkFree⟩
  ·rcases P with P|P
   ·exact b8 y (z70 hcell P (.inl rfl))
   ·exact b8 y (z70 hcell P (.inr rfl))
  ·exact V0 (F1 (a8 b a))
  ·exact (M b a).2.2.2.2.1 y c (U y c e)
  ·exact C0 f.ok.bsz f.sz
  ·rcases (M b a).2.2.2.1 with z|z
   ·exact f.ok.noex b o e z
   ·exact absurd (E1 (N0 (f.ok.bs b o e).1) z) (J3 _)
 have a0:X'.env.locals=D + 1:=by subst hX';rfl
 have a4:X'.env.cells=cl:=by subst hX';rfl
 have b1:X'.fs=frs X.stack:=by subst hX';rfl
 have b2:X'.pn=[]:=by subst hX';rfl
 have a6:X'.s₀=s₂:=by subst hX';rfl
 have c5:X'.H₀=O:=by subst hX';rfl
 have b3:X'.ex=fp:=by subst hX';rfl
 have d3:X'.N=xs++fr.map (·.2):=by subst hX';rfl
 have c1:X'.A=X.A:=by subst hX';rfl
 have F:X'.prog=X.prog/\X'.w=X.w/\X'.K=X.K/\X'.calm=true:=by subst hX';exact ⟨rfl,rfl,rfl,hcalm⟩
 have b7:X'.xe=λ _ _=>False:=by subst hX';rfl
 have c9:X'.env=compEnvC scope cl (D + 1) X.env:=by subst hX';rfl
 have e0:PF X' ifs tc:=hX' ▸ ht cl (D + 1) s₂ O fp;have g1:PE X' elt te:=hX' ▸ he cl (D + 1) s₂ O fp;have f5:PG X' tg g:=hX' ▸ hg cl (D + 1) s₂ O fp;have fresh :∀b,D<=b->O b=none:=λ b a=>f.hok.fresh (by rw [hD];exact a);have start :∀t,Inv X' [] (cStG σ fr (A2 xs.length none)) O { s₂ with heap:=h₁,toks:=t }:=λ t=>by
  refine ⟨e7,by rw [a6],f.bare,?_,⟨_,by rw [a0];exact a5,λ i y v S L e3=>?_⟩,λ y c e=>?_,by rw [a0];exact fresh _ (B2 _),λ y c e=>?_,λ p B=>?_,?_,?_⟩
  ·rw [b1,b3,c5,a6];exact Un.kept a1
  ·rw [d3] at S;by_cases a3:i < xs.length
   ·exfalso;unfold cStG at L;rw [N2 (by rw [O3];exact a3),c8,if_pos a3] at L;cases L
   ·have a3:xs.length<=i:=R6 a3;rw [F2 a3,K0] at S;unfold cStG at L;rw [F2 (by rw [O3];exact a3),O3,K0] at L;generalize i - xs.length=i at S L;cases ej:fr[i]? with
    | none=>rw [ej] at S;cases S
    | some p=>
     rw [ej] at S;obtain rfl:p.2=y:=J1 S;have b0:(σ[p.1]?).join=some v:=by rw [ej] at L;exact J1 L
     have f3:σ[p.1]? = some (some v):=by
      cases q:σ[p.1]? with
      | none=>rw [q] at b0;cases b0
      | some z=>rw [q] at b0;exact congrArg some b0
     have B:=G0 ej;obtain ⟨m,hn,hl⟩:=f.loc;obtain ⟨u,r,l⟩:=hl p.1 p.2 v (hfr p B).1 f3 (by rcases (hfr p B).2 with z|z;exact .inr (.inl z);exact .inr (.inr z));refine ⟨u,r,.inr ⟨?_,?_⟩⟩
     ·rw [c9];exact (hfs p B).2
     ·rcases l with ⟨z,_⟩|⟨_,c,ec,q⟩
      ·exfalso;rcases (hfr p B).2 with z'|z'<;>(rw [z] at z';cases z')
      ·obtain ⟨c',d2⟩:=b8 p.2 (hfs p B).1;have:=U _ _ d2;rw [ec] at this;cases this;obtain ⟨o,ho,hd⟩:=q;exact ⟨c,by rw [a4];exact d2,o,a1 _ _ ho,hd⟩
  ·rw [a4] at e;obtain ⟨v,o,ho,hd⟩:=f.cell y c (U y c e);exact ⟨v,o,a1 _ _ ho,hd⟩
  ·rw [a4] at e;exact f.freeC y c (U y c e)
  ·rw [b2] at B;exact nomatch B
  ·rw [F.1,F.2.1];exact f.hok.kept a1
  ·rw [d3];unfold cStG;simp
 have FP :∀{pins':List (Addr×Obj)} {H':Hp},(∀b∈fp,H' b=none)->(∀p∈pins',p.1=D)->∀b∈fp,FpOk X' pins' H' b:=λ hn B b a=>by
  refine ⟨hn b a,?_,?_,.inl (by rw [b3];exact a),λ y c e=>?_,λ p d1=>?_⟩
  ·rw [a0];exact V0 (F1 (a8 b a))
  ·rw [b1];exact c7 b a
  ·rw [a4] at e;exact (M b a).2.2.2.2.1 y c (U y c e)
  ·rw [b2] at d1;rw [B p d1];exact y3 (a8 b a)
 -- the turns
 have loop :∀s₃:u0,s₃={ s₂ with heap:=h₁,toks:=s₂.toks + ([]:List (Str×Value)).length }->
   u5 (X0 X.prog X.w) X.A (.compLoop (.ListComp elt [⟨tg,iter,ifs,0⟩] scope pos) 0 (.ref it) (.ref D) (compEnvC scope cl (D + 1) X.env))
    (compPost (X0 X.prog X.w) X.A X.xe use QQ (.ref D) (D + 1)) s₃:=by
  rintro s₃ rfl;rw [<-c9,<-F.1,<-F.2.1,<-c1];refine zis (λ k s'=>∃i ys its H',Inv X' [] (cStG σ fr (A2 xs.length none)) H' s'/\tn i s'.heap/\(∀b∈fp,H' b=none)/\s'.heap.PlainList D its.toArray/\Vals ys its/\H' D=none/\W i k ys H') ?_ m0
   ⟨0,[],[],O,start _,T.keep _ _ _ b5 λ b a o e=>a1 b o e,λ b a=>(M b a).1,f4,.nil,fresh _ (A0 _),w0⟩
  rintro n s3 ⟨i,ys,its,H3,I3,st3,fr3,ac3,rv3,hD3,w3⟩;obtain ⟨na,d6⟩:=id ac3;have c6:Inv X' [(D,{ cls:=.type "list",data:=.seq its.toArray na })] (cStG σ fr (A2 xs.length none)) H3 s3:=I3.pins_of λ p B=>by rw [C7] at B;subst B;refine ⟨d6,hD3,by rw [a0];exact V0 (V1 D),by rw [b1];exact λ z=>J3 _ (e8 D z),λ v z=>nomatch z⟩
  have hT:=T;rw [<-F.1,<-F.2.1,<-F.2.2.1] at hT;rcases e4 i n ys H3 w3 with ⟨e5,b6,qn⟩|⟨go,b6,step⟩
  ·refine thn (hT.done X' rfl rfl rfl F.2.2.2 i _ s3 _ H3 _ c6 (FP fr3 (by intro p B;rw [List.mem_singleton.mp B])) st3 e5) λ r s4 ⟨hr,I4⟩=>?_;subst hr;obtain ⟨m4,f6,_⟩:=id I4.loc;obtain ⟨Y,c2⟩ :∃Y,Y=s4.heap:=⟨_,rfl⟩
   have c4:X4 (D + 1) s4.heap Y:=by rw [c2];exact ⟨rfl,λ _ _=>rfl⟩
   have f9:D≠D + 1:=V0 (V1 D);have f1:=(I4.pin (D,_) (D1 _ Q0))
   have f7:Y.get? D=some { cls:=.type "list",data:=.seq its.toArray na }:=(c4.2 D f9).trans f1.1;have un:Un (frs X.stack) fp O H3 s₂.heap s4.heap:=by have:=I4.base;rw [b1,b3,c5,a6] at this;exact this
   have kp :∀b o,b≠D + 1->s4.heap.get? b=some o->Y.get? b=some o:=λ b o a e=>(c4.2 b a).trans e;have a7 :∀b o,s₂.heap.get? b=some o->b≠D + 1/\b≠D:=λ b o e=>by have:=N0 e;rw [hD] at this;exact ⟨V0 (F1 this),V0 this⟩
   have d5:Un (frs X.stack) fp O (upd H3 D (.lst ys)) s₂.heap Y:=by
    refine ⟨λ b o e n a Z=>kp b o (a7 b o e).1 (un.keep b o e n a Z),λ b o e n a Z=>?_,λ b o e n Z=>by rw [upd_ne (a7 b o e).2];exact un.free b o e n Z,λ b o e Z=>?_,λ b xs e=>?_,λ b o u e=>?_,λ b ps e=>?_⟩
    ·obtain ⟨sl,z⟩:=un.slot b o e n a Z;exact ⟨sl,kp _ _ (a7 b o e).1 z⟩
    ·obtain ⟨o',z⟩:=un.there b o e Z;exact ⟨o',kp _ _ (a7 b o e).1 z⟩
    ·rw [upd_ne (z0b e (fresh D (A0 _)))];exact un.tups b xs e
    ·rw [upd_ne (z0b e (fresh D (A0 _)))];exact un.frzs b o u e
    ·rw [upd_ne (z0b e (fresh D (A0 _)))];exact un.tbls b ps e
   have c0:H3 (D + 1)=none:=by have:=I4.free;rw [a0] at this;exact this
   have f8:HOk X.prog X.w (upd H3 D (.lst ys)) Y:=λ b u e=>by
    by_cases a:b=D
    ·subst a;rw [upd_same] at e;cases e;exact ⟨b6,its,na,rv3,f7⟩
    ·rw [upd_ne a] at e;have z:=I4.hok b u e;rw [F.1,F.2.1] at z;refine z.stay (λ c v hc q=>kp c v ?_ q) (λ c q=>by rw [upd_ne (z0b q hD3)];exact q) λ c xs q=>by rw [upd_ne (z0b q hD3)];exact q
     rintro rfl;rcases hc with rfl|hc
     ·rw [c0] at e;cases e
     ·rw [c0] at hc;cases hc
   subst c2;have I5:Inv X pins σ (upd H3 D (.lst ys)) s4:=f.call' (s':=s4) (ch:=fp) (by have:=I4.os;rw [a6] at this;exact this) d5 f8 I4.bare (λ b a=>⟨(M b a).2.2.2.1,(M b a).2.1,(M b a).2.2.2.2.1,(M b a).2.2.2.2.2⟩);show compPost (X0 X'.prog X'.w) X'.A X.xe use QQ (.ref D) (D + 1) (.ok .next) s4;rw [F.1,F.2.1,c1];refine hend D s4 _ I5 ⟨m4,a0 ▸ f6⟩ ?_ ?_ ?_ ?_ (qn D hD3)
   ·rw [upd_ne (y3 (V1 D))];exact c0
   ·exact y3 (F1 (by rw [<-hD];exact f.lt))
   ·exact C0 f.sz (by rw [hD];exact B2 D)
   ·refine ⟨λ z=>f.nofs (by rw [hD];exact B2 D) z,λ y c e=>?_,λ p B=>?_⟩
    ·obtain ⟨v,q⟩:=f.cell y c e;exact V0 (F1 (by rw [<-hD];exact q.lt))
    ·exact V0 (F1 (by rw [<-hD];exact N0 (f.pin p B).1))
  ·refine thn (hT.item X' rfl rfl rfl F.2.2.2 i _ s3 _ H3 _ c6 (FP fr3 (by intro p B;rw [List.mem_singleton.mp B])) st3 go) λ r s4 ⟨u,hr,h4⟩=>?_;subst hr;refine thn h4 λ _ s5 ⟨v,H5,I5,r5,y5,st5,fr5⟩=>?_;have d7:=I5.pinned (FP fr5 (by intro p B;rw [List.mem_singleton.mp B])) (T.obj _ _ st5);have g5:=f5 _ s5 (cStG σ fr (A2 xs.length none)) H5 v u _ d7 r5 (step v H5 y5);rw [b7] at g5;refine thn g5 λ _ s6 ⟨σ6,H6,I6,us,hus,e6,q6⟩=>?_;subst e6;have t6:=e0 _ s6 _ H6 _ I6 q6;rw [b7] at t6;refine thn t6 λ ok s7 ⟨H7,I7,q7⟩=>?_;have c3 :∀{H8:Hp} {E:u0} {ys':List V} {its':List Value} {pl:List (Addr×Obj)},Inv X' (pl++pinsAt fp s5.heap) (cStG σ fr us) H8 E->E.heap.PlainList D its'.toArray->Vals ys' its'->H8 D=none->(∃m',m' < n/\W (i + 1) m' ys' H8)->
     ∃m,m < n/\∃i ys its H',Inv X' [] (cStG σ fr (A2 xs.length none)) H' E/\tn i E.heap/\(∀b∈fp,H' b=none)/\E.heap.PlainList D its.toArray/\Vals ys its/\H' D=none/\W i m ys H':=λ {H8 E ys' its' pl} R b9 rv8 a9 ⟨m',hm,w8⟩=>by
    refine ⟨m',hm,i + 1,ys',its',H8,(R.pins_of (pins':=[]) (λ p B=>absurd B o0)).weak (by unfold cStG;simp [hus]) ?_,T.keep _ _ _ st5 λ b a o e=>(R.pin (b,o) (D1 _ (D1 _ (z4b a e)))).1,λ b a=>?_,b9,rv8,a9,w8⟩
    ·intro j z e;unfold cStG at e⊢;by_cases hj:j < xs.length
     ·rw [N2 (by rw [O3];exact hj),c8,if_pos hj] at e;cases e
     ·have hj:xs.length<=j:=R6 hj;rw [F2 (by rw [O3];exact hj),O3] at e;rw [F2 (by rw [hus];exact hj),hus];exact e
    ·obtain ⟨o,e,d⟩:=T.obj _ _ st5 b a;exact (R.pin (b,o) (D1 _ (D1 _ (z4b a e)))).2.1
   have b4 :∀{H8:Hp} {E:u0} {σ8:St},Inv X' ([(D,{ cls:=.type "list",data:=.seq its.toArray na })]++pinsAt fp s5.heap) σ8 H8 E->E.heap.PlainList D its.toArray/\H8 D=none:=λ R=>
    have z:=R.pin (D,_) (D1 _ (U6 _ Q0))
    ⟨⟨na,z.1⟩,z.2.1⟩
   cases ok with
   | false=>rw [if_neg P0] at q7⊢;exact c3 I7 (b4 I7).1 rv3 (b4 I7).2 q7
   | true=>
    rw [if_pos rfl] at q7⊢;have t7:=g1 _ s7 _ H7 _ I7 q7;rw [b7] at t7;refine thn t7 λ y E ⟨vy,H8,R,r8,q8⟩=>?_;obtain ⟨b9,a9⟩:=b4 R;refine wpAny_list_append_plain (hsz:=by have:=rv3.length;rw [J0,<-this];exact b6) b9 λ h9 d0 d4=>?_;have I9:Inv X' ([]++pinsAt fp s5.heap) (cStG σ fr us) H8 E:=R.pins_of λ p B=>(R.pin p (D1 _ (D1 _ B)))
    have d8:Inv X' ([]++pinsAt fp s5.heap) (cStG σ fr us) H8 { E with heap:=h9 }:=by
     refine I9.turned (t':=E.toks) (it:=D) (λ b o a e=>(d4.2 b a).trans e) a9 (by rw [a0];exact V0 (V1 D)) (.inr (by rw [a6,hD];exact A0 _)) (λ y' c e=>?_) λ p B=>?_
     ·rw [a4] at e;exact V0 (g0 y' c e)
     ·rw [b2] at B;exact V0 (a8 _ (zdh B).1)
    have e9:its.toArray.push y=(its++[y]).toArray:=by simp
    rw [e9] at d0;exact c3 d8 d0 (rv3.snoc r8) a9 q8
 exact codeAny_compStart_list (loop _ rfl) (T.self _ 0 _ _ _ (T.keep _ _ _ b5 λ b a o e=>a1 b o e) (loop _ rfl))
theorem zh3 {xs:List Str} {tg:Expr} {g:TG} {pos:Pos} {elt iter:Expr} {ifs:List Expr} {scope:Scope} {fr:List (Nat×Str)} {wi:TI} {tc:TT} {te:TE} (hcalm:X.calm=true) (hi:PI X tg iter wi)
  (hfr :∀p∈fr,X.N[p.1]? = some p.2/\(X.env.kindOf p.2=some .cell\/X.env.kindOf p.2=some .free))
  (hfree :∀y∈scope.names,y.2=P1->X.env.kindOf y.1=some .cell\/X.env.kindOf y.1=some .free)
  (hfs :∀p∈fr,(p.2,P1)∈scope.names/\((y8 scope X.env).names.lookup p.2=some .cell\/(y8 scope X.env).names.lookup p.2=some .free))
  (hcell :∀y∈scope.names,y.2≠NameKind.cell) (hkind:scope.kind=.function) (hnames :∀y∈scope.names,y.2=NameKind.local->scope.names.lookup y.1=some .local)
  (hg :∀cl C s₂ H₂ fp,PG (cxComp X scope cl (xs++fr.map (·.2)) C s₂ H₂ fp) tg g)
  (ht :∀cl C s₂ H₂ fp,PF (cxComp X scope cl (xs++fr.map (·.2)) C s₂ H₂ fp) ifs tc) (he :∀cl C s₂ H₂ fp,PE (cxComp X scope cl (xs++fr.map (·.2)) C s₂ H₂ fp) elt te)
  (hs :∀x,P5 iter X.env x=V2 x:=by intro _;rfl):PE X (.ListComp elt [⟨tg,iter,ifs,0⟩] scope pos) (tCompG wi xs.length fr g tc te):=by
 intro t s σ H Q I h;rw [eval_ListComp];refine zgd hcalm hi hfr hfree hfs hcell hkind hnames hg ht he hs I h λ D d i f a l k j ⟨c,hc,hp⟩ q=>?_;obtain ⟨m,a⟩:=a;exact ⟨m,a,λ r n=>⟨.ref D,i,f.turned (t':=d.toks) (it:=D + 1) (λ b o c e=>(n.2 b c).trans e) l k (.inr j) hc hp,rfl,q⟩⟩
theorem zcd {xs:List Str} {tg:Expr} {g:TG} {pos:Pos} {elt iter:Expr} {ifs:List Expr} {scope:Scope} {fr:List (Nat×Str)} {wi:TI} {tc:TT} {te:TE} {i:Nat} {y:Str} {py spos:Pos} (hNy:X.N.Nodup) (hiy:X.N[i]? = some y) (hy:Loc X.env.scope y) (hcalm:X.calm=true) (hi:PI X tg iter wi)
  (hfr :∀p∈fr,X.N[p.1]? = some p.2/\(X.env.kindOf p.2=some .cell\/X.env.kindOf p.2=some .free))
  (hfree :∀y∈scope.names,y.2=P1->X.env.kindOf y.1=some .cell\/X.env.kindOf y.1=some .free)
  (hfs :∀p∈fr,(p.2,P1)∈scope.names/\((y8 scope X.env).names.lookup p.2=some .cell\/(y8 scope X.env).names.lookup p.2=some .free))
  (hcell :∀y∈scope.names,y.2≠NameKind.cell) (hkind:scope.kind=.function) (hnames :∀y∈scope.names,y.2=NameKind.local->scope.names.lookup y.1=some .local)
  (hg :∀cl C s₂ H₂ fp,PG (cxComp X scope cl (xs++fr.map (·.2)) C s₂ H₂ fp) tg g)
  (ht :∀cl C s₂ H₂ fp,PF (cxComp X scope cl (xs++fr.map (·.2)) C s₂ H₂ fp) ifs tc) (he :∀cl C s₂ H₂ fp,PE (cxComp X scope cl (xs++fr.map (·.2)) C s₂ H₂ fp) elt te)
  (hs :∀x,P5 iter X.env x=V2 x:=by intro _;rfl) (hw:b7 (.ListComp elt [⟨tg,iter,ifs,0⟩] scope pos) (some (.Name y py)) spos.line X.env=V2 true:=by rfl) (hf:X.fn y=true\/X.env.scope.names.lookup y=some .local:=by first|exact .inl rfl|exact .inr rfl|assumption) :
  PS X (.Assign [.Name y py] (.ListComp elt [⟨tg,iter,ifs,0⟩] scope pos) spos) (tAsg (tCompG wi xs.length fr g tc te) (gName i)):=by
 intro k s σ H D I h;rw [exec_Assign_Name_used y py _ spos hw];refine c0 (wpAny_standAt (c0 ?_));show L0 _ _ (do let _ <-comprehension (.ListComp elt [⟨tg,iter,ifs,0⟩] scope pos) scope X.env (firstIterPos [⟨tg,iter,ifs,0⟩] pos) (newList []) (firstAsync [⟨tg,iter,ifs,0⟩]) (firstIter [⟨tg,iter,ifs,0⟩] X.env) (some (assign (.Name y py) X.env));V2 ()) _ _ _;refine c0 (zgd hcalm hi hfr hfree hfs hcell hkind hnames hg ht he hs I h λ A f r j c G t O ⟨d,hc,hp⟩ q=>?_);obtain ⟨m,c⟩:=c;obtain ⟨o,F,K,w,n,M,E⟩:=c;have B:Inv X ((A + 1,o) :: k) σ r f:=j.pins_of λ p a=>by
  rcases List.mem_cons.mp a with rfl|a
  ·exact ⟨w,G,t,d,λ v z=>by rw [n] at z;cases z⟩
  ·exact j.pin p (D1 _ a)
 refine thn (z0f (pos:=py) hNy hiy hy hf _ f σ r (.ref A) (.ref A) D.nx B rfl q) λ _ l ⟨σ5,H5,I6,q6⟩=>?_;have u:=I6.pin (A + 1,o) (D1 _ Q0);have J:Inv X k σ5 H5 l:=I6.pins_of λ p a=>I6.pin p (D1 _ (Y0 _ a));refine ⟨m,⟨o,F,K,u.1,n,M,E⟩,λ P L=>?_⟩;exact x0 (x0 ⟨σ5,H5,J.turned (t':=l.toks) (it:=A + 1) (λ b o d e=>(L.2 b d).trans e) u.2.1 t (.inr O) hc hp,q6⟩)
end
end L2
set_option maxHeartbeats 400000
namespace L2
open PySem PySem.Spec PyProof.Rows
theorem z6p {t rest:TS} {D:Ends} {σ:St} {H:Hp} (R:St->Hp->Prop) (hr :∀σ1 H1,R σ1 H1->rest D σ1 H1) (h:(∀σ1 H1,R σ1 H1->rest D σ1 H1)->t { D with nx:=rest D } σ H):tSeq t rest D σ H:=h hr
theorem z0s {te:TE} {g:TG} {rest:TS} {D:Ends} {σ:St} {H:Hp} (h:te σ H λ x H1=>g x σ H1 (rest D)):tSeq (tAsg te g) rest D σ H:=h
structure Runs (J:It) (H1:Hp) (n:Nat) (Item:Nat->V->Hp->Prop):Prop where
 go :∀i,i < n->∀H,Same H1 H->J.go i H
 stop :∀H,Same H1 H->J.stop n H
 item :∀i,i < n->∀H v H',Same H1 H->J.yld i H v H'->Same H H'/\Item i v H'
theorem z2f (p:Nat->Bool) (n:Nat):(G1 (n + 1)).filter p=(G1 n).filter p++(if p n=true then [n] else []):=by rw [F8,E7,R4];cases p n<;>rfl
inductive All2 {α β:Type} (R:α->β->Prop):List α->List β->Prop
 | nil:All2 R [] []
 | cons {a:α} {b:β} {xs:List α} {ys:List β}:R a b->All2 R xs ys->All2 R (a :: xs) (b :: ys)
theorem z67 {α β:Type} {R:α->β->Prop} :∀{xs:List α} {ys:List β} {x:α} {y:β},All2 R xs ys->R x y->All2 R (xs++[x]) (ys++[y])
 | [],_,x,y,.nil,h=>.cons h .nil
 | _ :: _,_,x,y,.cons a r,h=>.cons a (z67 r h)
theorem z01 {α β:Type} {R S:α->β->Prop} (h :∀a b,R a b->S a b) :∀{xs:List α} {ys:List β},All2 R xs ys->All2 S xs ys
 | [],_,.nil=>.nil
 | _ :: _,_,.cons a r=>.cons (h _ _ a) (z01 h r)
theorem z03 {α β:Type} {R:α->β->Prop} :∀{xs:List α} {ys:List β},All2 R xs ys->ys.length=xs.length
 | [],_,.nil=>rfl
 | _ :: _,_,.cons _ r=>congrArg (· + 1) (z03 r)
theorem z7j {α β:Type} {f:α->β} :∀{xs:List α} {ys:List β},All2 (λ x y=>y=f x) xs ys->ys=xs.map f
 | [],_,.nil=>rfl
 | _ :: _,_,.cons a r=>by rw [R0,z7j r,a]
theorem z7v (ns:List Int) :∀j,j<=ns.length->preSum (λ i=>ns[i]?.getD 0) j=(ns.take j).sum
 | 0,_=>by rw [o4];rfl
 | j + 1,h=>by show preSum (λ i=>ns[i]?.getD 0) j + ns[j]?.getD 0=_;rw [z7v ns j (Nat.le_of_succ_le h),List.take_succ_eq_append_getElem h,List.sum_append,B0 h];simp
section
variable {X:Cx}
noncomputable def rSetD:TSet:=λ x y v H Q=>∃a H',x=.ref a/\DPut H a y v H'/\Q H'
theorem zc8 (hu:X.A.units + 1 < cLine):PSet X rSetD:=by intro l s σ H o i v e m u Q I b j d h;obtain ⟨a,f,rfl,g,q⟩:=h;obtain rfl:e=v1 a:=b;exact zce hu I g j d λ k c=>⟨f,c,q⟩
end
structure QE (X:Cx) (e:Expr) (t:TE):Prop where
 run:PE X e t
structure QA (X:Cx) (es:List Expr) (t:TA):Prop where
 run:PA X es t
structure QPs (X:Cx) (pos:Pos) (ks:List (Option Expr)) (vs:List Expr) (t:List (TE×TE)):Prop where
 run:PPs X pos ks vs t
structure QS (X:Cx) (st:Stmt) (t:TS):Prop where
 run:PS X st t
structure QSs (X:Cx) (sts:List Stmt) (t:TS):Prop where
 run:PSs X sts t
section
variable {X:Cx} {pos:Pos}
theorem q_of {sts:List Stmt} {t:TS} {G:TS->Prop} (q:QSs X sts t) (g:G t) :∃t,PSs X sts t/\G t:=⟨t,q.run,g⟩
theorem zdd {st:Stmt} {t:TS} (h:QS X st t):QSs X [st] t:=⟨z04 h.run⟩
theorem z0u {st:Stmt} {rest:List Stmt} {t u:TS} (h:QS X st t) (r:QSs X rest u):QSs X (st :: rest) (tSeq t u):=⟨z02 h.run r.run⟩
theorem qs_set {i:Nat} {x:Str} {e:Expr} {te:TE} {pos':Pos} (hN:X.N.Nodup) (hi:X.N[i]? = some x) (hx:Loc X.env.scope x) (he:QE X e te) (hs:b7 e (some (.Name x pos')) pos.line X.env=V2 false:=by rfl) (hf:X.fn x=true\/X.env.scope.names.lookup x=some .local:=by first|exact .inl rfl|exact .inr rfl|assumption) :
  QS X (.Assign [.Name x pos'] e pos) (tAsg te (gName i)):=⟨ps_set hN hi hx he.run hs hf⟩
theorem zjh {o i value:Expr} {td ty tv:TE} {pos':Pos} (hu:X.A.units + 1 < cLine) (ho:QE X o td) (hi:QE X i ty) (hv:QE X value tv) (hs:b7 value (some (.Subscript o i pos')) pos.line X.env=V2 false) :
  QS X (.Assign [.Subscript o i pos'] value pos) (sDPut td ty tv):=⟨z9z hu ho.run hi.run hv.run hs⟩
theorem qe_lst {es:List Expr} {t:TA} (h:QA X es t):QE X (.List es pos) (tLst t):=⟨pe_lst h.run⟩
theorem qa_nil:QA X [] tNil:=⟨pa_nil⟩
theorem z0l {e:Expr} {es:List Expr} {te:TE} {t:TA} (ha:QE X e te) (hr:QA X es t) (hs:A1 (e :: es) X.env=(false,d3 e X.env) :: A1 es X.env:=by rfl):QA X (e :: es) (tCons te t):=⟨z00 ha.run hr.run hs⟩
theorem zmg:QPs X pos [] [] []:=⟨zmr⟩
theorem zc6 {k v:Expr} {ks:List (Option Expr)} {vs:List Expr} {tk tv:TE} {trs:List (TE×TE)} (hk:QE X k tk) (hv:QE X v tv) (hr:QPs X pos ks vs trs):QPs X pos (some k :: ks) (v :: vs) ((tk,tv) :: trs):=⟨zl9 hk.run hv.run hr.run⟩
theorem zn4 {keys:List (Option Expr)} {values:List Expr} {trs:List (TE×TE)} (h:QPs X pos keys values trs) (hall:keys.all (·.isSome)=true) (hl:keys.length=values.length) (h0:keys≠[]) (h15:keys.length<=15):QE X (.Dict keys values pos) (tDisp trs):=⟨zmi h.run hall hl h0 h15⟩
theorem qe_ix {a b:Expr} {ta tb:TE} {r:R2} (hr:IxR X r) (ha:QE X a ta) (hb:QE X b tb) (hs:zjz b):QE X (.Subscript a b pos) (tOp r ta tb):=⟨pe_ix hr ha.run hb.run hs⟩
end
theorem z5x {X:Cx} {K:b0} (h:X.K=K):IxR X (rIx K):=h ▸ ix_seq
theorem zmw {f:List V->Hp->VK->Prop} {te:TE} {D:Ends} {σ:St} {H:Hp} (h:te σ H λ x H1=>f [x] H1 D.rt):tRet (tCB f (tCons te tNil)) D σ H:=h
theorem zcx {f:List V->Hp->VK->Prop} {te:TE} {g:TG} {rest:TS} {D:Ends} {σ:St} {H:Hp} (h:te σ H λ x H1=>f [x] H1 λ y H2=>g y σ H2 (rest D)):tSeq (tAsg (tCB f (tCons te tNil)) g) rest D σ H:=h
theorem z09 {α β:Type} {R:α->β->Prop} :∀{xs:List α} {ys:List β} {i:Nat} {y:β},All2 R xs ys->ys[i]? = some y->∃x,xs[i]? = some x/\R x y
 | _,_,i,y,.nil,e=>by simp at e
 | _,_,0,y,.cons a _,e=>by rw [C3] at e;cases e;exact ⟨_,C3,a⟩
 | _,_,i + 1,y,.cons _ r,e=>by rw [E2] at e;obtain ⟨x,b,c⟩:=z09 r e;exact ⟨x,by rw [E2];exact b,c⟩
end L2
set_option maxHeartbeats 4000000
namespace L2
open PySem PySem.Spec PyProof.Rows
section
variable {prog:Program} {w:S0} {A:L1} {E:Value->u0->Prop} {s:u0}
theorem z7h (hh:A.handled=none) (it t:Addr) (ne:t≠it) (items:Array Value):Draws prog w A it [it,t] items.size (λ i v=>items[i]? = some v) (λ i h=>h.IsTupleIter it t i/\h.IsTuple t items) where
 live:=λ i h a=>a.1.elim λ o z=>⟨o,z.1⟩
 frame:=λ i h b a k=>⟨a.1.elim λ o z=>⟨o,k it (by simp) o z.1,z.2⟩,a.2.elim λ o z=>⟨o,k t (by simp) o z.1,z.2⟩⟩
 item:=λ i s Q E c a q=>tupOn a.1 a.2 (B4 c) λ b f d=>q _ b s.toks (B4 c) ⟨f,a.2.elim λ o z=>⟨o,(d.2 t ne).trans z.1,z.2⟩⟩ d
 done:=λ s Q E a q=>tupOff hh a.1 a.2 (by simp) λ b e x y=>q b e x y
theorem zn1 (a:Addr) (xs:Array Value):Meets (A5.«enumerate.__new__» ⟨[.type "enumerate",.ref a],[]⟩) (λ _ R s=>s.heap.IsTuple a xs/\R (.ok (.ret (.ref (s.heap.objs.size + 1))))
  { s with heap:=(s.heap.push { cls:=.type "tuple_iterator",data:=.fields #[.ref a,.int 0 0] }).push { cls:=.type "enumerate",data:=.fields #[.none,.bool false,.ref s.heap.objs.size,d5 0,.none,.none] } }):=
 .of_wp λ j w A R s h=>by
  obtain ⟨f,g,d,i,k⟩:=s;obtain ⟨e,h⟩:=h;have l:=sub_enumerate;have b:Heap.IsTuple (Shared.heap ⟨f,g,d,i,k⟩) a xs:=e
  wp_walk using C4 b
  intro Γ p m;show L0 (X0 j w) A.in1 (V2 _) _ _ _;refine x0 ?_;generalize List.drop 1 ((Γ.code,p) :: Γ.below)=L;split
  ·rename_i c _ _ _ _;cases c == V3 "enumerate" with
   | true=>
    wp_walk using C4 b
    refine ⟨_,rfl,?_⟩;simpa [m3,Y4] using h
   | false=>
    wp_walk using C4 b
    refine ⟨_,rfl,?_⟩;simpa [m3,Y4] using h
  ·wp_walk using C4 b
   refine ⟨_,rfl,?_⟩;simpa [m3,Y4] using h
theorem zlc {a:Addr} {xs:Array Value} {Q:Value->u0->Prop} (ha:s.heap.IsTuple a xs)
  (q :∀h',IsEnum h' (s.heap.objs.size + 1) s.heap.objs.size 0 .none->h'.IsTupleIter s.heap.objs.size a 0->h'.objs.size=s.heap.objs.size + 2->(∀c o,s.heap.get? c=some o->h'.get? c=some o)->Q (.ref (s.heap.objs.size + 1)) { s with heap:=h' }) :
  L0 (X0 prog w) A (call (.type "enumerate") [.ref a]) Q E s:=by
 refine callType_new F.called_enumerate (by decide) (F.typeCall_enumerate_1 _) (F.newCall_enumerate_1 _) (λ d=>F.args_object_init_2 d _) F.entry_enumerate_new (zn1 a xs) ⟨ha,?_⟩;generalize hn:s.heap.objs.size=n at q⊢;generalize h0:s.heap.push { cls:=.type "tuple_iterator",data:=.fields #[.ref a,.int 0 0] }=k0;have z0:k0.objs.size=n + 1:=by rw [<-h0,m3,hn]
 have f:k0.get? n=some { cls:=.type "tuple_iterator",data:=.fields #[.ref a,.int 0 0] }:=by rw [<-h0,<-hn];exact M0 _ rfl
 have b:(k0.push { cls:=.type "enumerate",data:=.fields #[.none,.bool false,.ref n,d5 0,.none,.none] }).get? (n + 1)=some { cls:=.type "enumerate",data:=.fields #[.none,.bool false,.ref n,d5 0,.none,.none] }:=by rw [<-z0];exact M0 _ rfl
 exact ⟨⟨_,b,rfl⟩,q _ b ⟨_,y0 _ f,rfl,rfl⟩ (by rw [m3,z0]) λ c o e=>y0 _ (by rw [<-h0];exact y0 _ e)⟩
end
noncomputable def IteL (K:b0) (a:Addr):It:=
  ⟨λ i H=>∃xs x,SqL K H a xs/\xs[i]? = some x,
   λ i H v H'=>∃p,H p=none/\v=.ref p/\∀xs,SqL K H a xs->∃x,xs[i]? = some x/\H'=upd H p (.tup [.int i,x]),
   λ i H=>∃xs,SqL K H a xs/\xs.length=i⟩
theorem w_0:(0:Nat)<=sizeLine:=by decide
theorem w_1:(1:Nat)<=sizeLine:=by decide
theorem w_2:(2:Nat)<=sizeLine:=by decide
theorem w_3:(3:Nat)<=sizeLine:=by decide
theorem w_4:(4:Nat)<=sizeLine:=by decide
theorem w_5:(5:Nat)<=sizeLine:=by decide
theorem w_6:(6:Nat)<=sizeLine:=by decide
theorem w_7:(7:Nat)<=sizeLine:=by decide
theorem zhj {P:Program} {w:S0} {K:b0} {elts:List Expr} {x1:Nat} {pos:Pos} {e it a:Addr} (ne:e≠it) (nae:a≠e) (nai:a≠it):Turn P w K (.Tuple elts x1 pos) (IteL K a) [e,it] e (λ n h=>(∃old,IsEnum h e it (n:Nat) old)/\h.IsListIter it a n) where
 mem:=by simp
 obj:=λ n h f c g=>by
  simp only [W0,o0,or_false] at g;rcases g with rfl|rfl
  ·obtain ⟨⟨old,z⟩,_⟩:=f;exact ⟨_,z,λ v z=>by cases (show j43 _=Data.cell v from z)⟩
  ·obtain ⟨_,o,e,_,d⟩:=f;exact ⟨o,e,λ v z=>by rw [d] at z;cases z⟩
 keep:=λ n h M f k=>by obtain ⟨⟨old,z⟩,o,e1,Y⟩:=f;exact ⟨⟨old,k e (by simp) _ z⟩,o,k it (by simp) _ e1,Y⟩
 item:=by
  intro X C hw G g n a0 s σ H E I m f F;subst C hw G;obtain ⟨U,x,p,O⟩:=F;obtain ⟨i,J,j,_⟩:=I.list p;have j:s.heap.IsList a i.toArray:=j.isList;obtain ⟨u,T,ru⟩:=J.get O;have D:=Draws.list (prog:=X.prog) (w:=X.w) (A:=X.A.in1) (I.ok.hd g) it a nai i.toArray;have a1:n < i.toArray.size:=by have:=(List.getElem?_eq_some_iff.mp T).1;simpa using this
  obtain ⟨⟨old,R⟩,L⟩:=f;refine wpAny_pyNext_enum_itemD D R ⟨L,j⟩ a1 ne (by simp [ne,nae.symm]) λ y M t l a4 V tT hz B=>?_;have l:i[n]? = some y:=by simpa using l
  rw [T] at l;cases l;have Z:e < s.heap.objs.size:=N0 R;have a3:it < s.heap.objs.size:=by obtain ⟨o,z,_⟩:=L;exact N0 z
  have S:s.heap.objs.size≠e:=y3 Z;have nT:s.heap.objs.size∉[e,it]:=by simp only [W0,o0,or_false,not_or];exact ⟨S,y3 a3⟩
  refine ⟨_,rfl,j30 a4 λ Q a5 r=>?_⟩;have k2 :∀b o,b∉[e,it]->s.heap.get? b=some o->Q.get? b=some o:=λ b o q z=>by simp only [W0,o0,or_false,not_or] at q;exact (r.2 b q.1).trans (B b o q.1 q.2 z)
  have N:=(r.2 _ S).trans tT;have a6:=V.1.elim λ o z=>(⟨o,(r.2 it ne.symm).trans z.1,z.2⟩:Q.IsListIter it a (n + 1))
  have fr:H s.heap.objs.size=none:=I.hok.fresh (A0 _);refine ⟨.ref s.heap.objs.size,upd H s.heap.objs.size (.tup [.int n,x]),I.turnedLaid (t':=t + 1) k2 m (A0 _) ⟨w_2,[.int n t,u],.cons ⟨t,rfl⟩ (.cons ru .nil),⟨_,N,rfl,_,rfl⟩,_,N,rfl⟩,rfl,⟨_,fr,rfl,λ a7 a2=>⟨x,?_,rfl⟩⟩,⟨⟨_,a5⟩,a6⟩,λ c g=>?_⟩
  ·rw [I.list_inj a2 p];exact O
  ·rw [upd_ne (λ (z:c=s.heap.objs.size)=>nT (z ▸ g))];exact (m c g).1
 done:=by
  intro X C hw G g n a0 s σ H E I m f F;subst C hw G;obtain ⟨U,p,rfl⟩:=F;obtain ⟨i,J,j,_⟩:=I.list p;have j:s.heap.IsList a i.toArray:=j.isList;have D:=Draws.list (prog:=X.prog) (w:=X.w) (A:=X.A.in1) (I.ok.hd g) it a nai i.toArray;have W:=WalksT.enumerateD D e ne (by simp [ne,nae.symm]) (by simp);have la:i.toArray.size=U.length:=by simpa using J.length.symm
  exact W.done s _ E (by rw [la];exact ⟨f.1,f.2,j⟩) λ M tk B=>⟨rfl,I.turnedL (t':=tk) (λ c o g e=>B c o g e) m⟩
 self:=λ _ _ _ _ _ f h=>f.1.elim λ old z=>u8 z h
noncomputable def ieL (K:b0) (ta:TA):TI:=λ σ H R=>ta σ H λ vs H1=>∃a xs,vs=[.ref a]/\SqL K H1 a xs/\R (IteL K a) H1
theorem z3r {X:Cx} {elts:List Expr} {x1:Nat} {tpos:Pos} {e:Expr} {ta:TA} {p pos:Pos} (hg:Gl X "enumerate") (hm:X.mg "enumerate" = none) (ha:PA X [e] ta) (hs:A1 [e] X.env=[(false,d3 e X.env)]:=by rfl) :
  PI X (.Tuple elts x1 tpos) (.Call (.Name "enumerate" p) [e] [] pos) (ieL X.K ta):=by
 intro k s σ H R I h;refine Call_ (ld_blt I hg hm boot_enumerate (j3 (thn (ha pos k s σ H _ I h) λ x b ⟨vs,H1,I1,r1,q1⟩=>?_) (by rw [hs];rfl) rfl));obtain ⟨a,y,t,n,q⟩:=q1;subst t;obtain ⟨u,rfl,m⟩:=vals1 r1;cases (show u=v1 a from m);obtain ⟨r,z,d,_⟩:=I1.list n;have d:b.heap.IsList a r.toArray:=d.isList;have i:a < b.heap.objs.size:=by obtain ⟨o,e,_⟩:=id d;exact N0 e
 refine call_enumerate_list d λ w j v _ l=>?_;refine u8 j ?_;refine ⟨_,_,_,_,H1,rfl,I1.kept (t':=b.toks) l,zhj (y3 (V1 _)) (V0 (F1 i)) (V0 i),⟨⟨_,j⟩,v⟩,λ c g=>?_,q⟩;have f:b.heap.objs.size<=c:=by
  simp only [W0,o0,or_false] at g;rcases g with rfl|rfl
  ·exact o8 _ _
  ·exact A0 _
 exact I1.fpOk f (I1.hok.fresh f)
theorem z5o {K:b0} {a:Addr} {xs:List V} {g:TG} {tb:TS} {D:Ends} {σ:St} {H:Hp} (Pv:Nat->St->Hp->Prop) (h0:Pv 0 σ H) (hl :∀i σ H,Pv i σ H->SqL K H a xs)
  (hs :∀i x σ H p,xs[i]? = some x->Pv i σ H->H p=none->g (.ref p) σ (upd H p (.tup [.int i,x])) λ σ2 H2=>tb { D with nx:=Pv (i + 1),ct:=Pv (i + 1),bk:=D.nx } σ2 H2) (hd :∀σ H,Pv xs.length σ H->D.nx σ H) :
  ∃W:Nat->Nat->St->Hp->Prop,(∃m,W 0 m σ H)/\∀i m σ H,W i m σ H->
   ((IteL K a).stop i H/\D.nx σ H)\/((IteL K a).go i H/\∃N:St->Hp->Prop,(∀σ' H',N σ' H'->∃m',m' < m/\W (i + 1) m' σ' H')/\∀x H',(IteL K a).yld i H x H'->g x σ H' λ σ2 H2=>tb { D with nx:=N,ct:=N,bk:=D.nx } σ2 H2):=by
 refine ⟨λ i m σ H=>m=xs.length - i/\i<=xs.length/\Pv i σ H,⟨xs.length,by simp,X1 _,h0⟩,?_⟩;rintro i m σ H ⟨rfl,hi,p⟩;have b:=hl i σ H p;by_cases hlt:i < xs.length
 ·refine .inr ⟨⟨xs,xs[i],b,by simp [hlt]⟩,Pv (i + 1),λ σ' H' h=>⟨xs.length - (i + 1),by omega,rfl,hlt,h⟩,λ v H' y=>?_⟩;obtain ⟨t,d,rfl,c⟩:=y;obtain ⟨f,j,rfl⟩:=c xs b;exact hs i f σ H t j p d
 ·have e:i=xs.length:=by omega
  subst e;exact .inl ⟨⟨xs,b,rfl⟩,hd σ H p⟩
noncomputable def IteT (K:b0) (a:Addr):It:=
  ⟨λ i H=>∃xs x,SqT K H a xs/\xs[i]? = some x,
   λ i H v H'=>∃p,H p=none/\v=.ref p/\∀xs,SqT K H a xs->∃x,xs[i]? = some x/\H'=upd H p (.tup [.int i,x]),
   λ i H=>∃xs,SqT K H a xs/\xs.length=i⟩
theorem zgr {P:Program} {w:S0} {K:b0} {elts:List Expr} {x1:Nat} {pos:Pos} {e it a:Addr} (ne:e≠it) (nae:a≠e) (nai:a≠it):Turn P w K (.Tuple elts x1 pos) (IteT K a) [e,it] e (λ n h=>(∃old,IsEnum h e it (n:Nat) old)/\h.IsTupleIter it a n) where
 mem:=by simp
 obj:=λ n h f c g=>by
  simp only [W0,o0,or_false] at g;rcases g with rfl|rfl
  ·obtain ⟨⟨old,z⟩,_⟩:=f;exact ⟨_,z,λ v z=>by cases (show j43 _=Data.cell v from z)⟩
  ·obtain ⟨_,o,e,_,d⟩:=f;exact ⟨o,e,λ v z=>by rw [d] at z;cases z⟩
 keep:=λ n h M f k=>by obtain ⟨⟨old,z⟩,o,e1,Y⟩:=f;exact ⟨⟨old,k e (by simp) _ z⟩,o,k it (by simp) _ e1,Y⟩
 item:=by
  intro X C hw G g n a0 s σ H E I m f F;subst C hw G;obtain ⟨U,x,p,O⟩:=F;obtain ⟨i,J,j,_⟩:=I.tuple p;have j:s.heap.IsTuple a i.toArray:=j;obtain ⟨u,T,ru⟩:=J.get O;have D:=z7h (prog:=X.prog) (w:=X.w) (A:=X.A.in1) (I.ok.hd g) it a nai i.toArray;have a1:n < i.toArray.size:=by have:=(List.getElem?_eq_some_iff.mp T).1;simpa using this
  obtain ⟨⟨old,R⟩,L⟩:=f;refine wpAny_pyNext_enum_itemD D R ⟨L,j⟩ a1 ne (by simp [ne,nae.symm]) λ y M t l a4 V tT hz B=>?_;have l:i[n]? = some y:=by simpa using l
  rw [T] at l;cases l;have Z:e < s.heap.objs.size:=N0 R;have a3:it < s.heap.objs.size:=by obtain ⟨o,z,_⟩:=L;exact N0 z
  have S:s.heap.objs.size≠e:=y3 Z;have nT:s.heap.objs.size∉[e,it]:=by simp only [W0,o0,or_false,not_or];exact ⟨S,y3 a3⟩
  refine ⟨_,rfl,j30 a4 λ Q a5 r=>?_⟩;have k2 :∀b o,b∉[e,it]->s.heap.get? b=some o->Q.get? b=some o:=λ b o q z=>by simp only [W0,o0,or_false,not_or] at q;exact (r.2 b q.1).trans (B b o q.1 q.2 z)
  have N:=(r.2 _ S).trans tT;have a6:=V.1.elim λ o z=>(⟨o,(r.2 it ne.symm).trans z.1,z.2⟩:Q.IsTupleIter it a (n + 1))
  have fr:H s.heap.objs.size=none:=I.hok.fresh (A0 _);refine ⟨.ref s.heap.objs.size,upd H s.heap.objs.size (.tup [.int n,x]),I.turnedLaid (t':=t + 1) k2 m (A0 _) ⟨w_2,[.int n t,u],.cons ⟨t,rfl⟩ (.cons ru .nil),⟨_,N,rfl,_,rfl⟩,_,N,rfl⟩,rfl,⟨_,fr,rfl,λ a7 a2=>⟨x,?_,rfl⟩⟩,⟨⟨_,a5⟩,a6⟩,λ c g=>?_⟩
  ·rw [I.tuple_inj a2 p];exact O
  ·rw [upd_ne (λ (z:c=s.heap.objs.size)=>nT (z ▸ g))];exact (m c g).1
 done:=by
  intro X C hw G g n a0 s σ H E I m f F;subst C hw G;obtain ⟨U,p,rfl⟩:=F;obtain ⟨i,J,j,_⟩:=I.tuple p;have j:s.heap.IsTuple a i.toArray:=j;have D:=z7h (prog:=X.prog) (w:=X.w) (A:=X.A.in1) (I.ok.hd g) it a nai i.toArray;have W:=WalksT.enumerateD D e ne (by simp [ne,nae.symm]) (by simp);have la:i.toArray.size=U.length:=by simpa using J.length.symm
  exact W.done s _ E (by rw [la];exact ⟨f.1,f.2,j⟩) λ M tk B=>⟨rfl,I.turnedL (t':=tk) (λ c o g e=>B c o g e) m⟩
 self:=λ _ _ _ _ _ f h=>f.1.elim λ old z=>u8 z h
noncomputable def ieT (K:b0) (ta:TA):TI:=λ σ H R=>ta σ H λ vs H1=>∃a xs,vs=[.ref a]/\SqT K H1 a xs/\R (IteT K a) H1
theorem zkf {X:Cx} {elts:List Expr} {x1:Nat} {tpos:Pos} {e:Expr} {ta:TA} {p pos:Pos} (hg:Gl X "enumerate") (hm:X.mg "enumerate" = none) (ha:PA X [e] ta) (hs:A1 [e] X.env=[(false,d3 e X.env)]:=by rfl) :
  PI X (.Tuple elts x1 tpos) (.Call (.Name "enumerate" p) [e] [] pos) (ieT X.K ta):=by
 intro k s σ H R I h;refine Call_ (ld_blt I hg hm boot_enumerate (j3 (thn (ha pos k s σ H _ I h) λ x b ⟨vs,H1,I1,r1,q1⟩=>?_) (by rw [hs];rfl) rfl));obtain ⟨a,y,t,n,q⟩:=q1;subst t;obtain ⟨u,rfl,m⟩:=vals1 r1;cases (show u=v1 a from m);obtain ⟨r,z,d,_⟩:=I1.tuple n;have d:b.heap.IsTuple a r.toArray:=d;have i:a < b.heap.objs.size:=by obtain ⟨o,e,_⟩:=id d;exact N0 e
 refine zlc d λ w j v _ l=>?_;refine u8 j ?_;refine ⟨_,_,_,_,H1,rfl,I1.kept (t':=b.toks) l,zgr (y3 (V1 _)) (V0 (F1 i)) (V0 i),⟨⟨_,j⟩,v⟩,λ c g=>?_,q⟩;have f:b.heap.objs.size<=c:=by
  simp only [W0,o0,or_false] at g;rcases g with rfl|rfl
  ·exact o8 _ _
  ·exact A0 _
 exact I1.fpOk f (I1.hok.fresh f)
theorem zhu {K:b0} {a:Addr} {xs:List V} {g:TG} {tb:TS} {D:Ends} {σ:St} {H:Hp} (Pv:Nat->St->Hp->Prop) (h0:Pv 0 σ H) (hl :∀i σ H,Pv i σ H->SqT K H a xs)
  (hs :∀i x σ H p,xs[i]? = some x->Pv i σ H->H p=none->g (.ref p) σ (upd H p (.tup [.int i,x])) λ σ2 H2=>tb { D with nx:=Pv (i + 1),ct:=Pv (i + 1),bk:=D.nx } σ2 H2) (hd :∀σ H,Pv xs.length σ H->D.nx σ H) :
  ∃W:Nat->Nat->St->Hp->Prop,(∃m,W 0 m σ H)/\∀i m σ H,W i m σ H->
   ((IteT K a).stop i H/\D.nx σ H)\/((IteT K a).go i H/\∃N:St->Hp->Prop,(∀σ' H',N σ' H'->∃m',m' < m/\W (i + 1) m' σ' H')/\∀x H',(IteT K a).yld i H x H'->g x σ H' λ σ2 H2=>tb { D with nx:=N,ct:=N,bk:=D.nx } σ2 H2):=by
 refine ⟨λ i m σ H=>m=xs.length - i/\i<=xs.length/\Pv i σ H,⟨xs.length,by simp,X1 _,h0⟩,?_⟩;rintro i m σ H ⟨rfl,hi,p⟩;have b:=hl i σ H p;by_cases hlt:i < xs.length
 ·refine .inr ⟨⟨xs,xs[i],b,by simp [hlt]⟩,Pv (i + 1),λ σ' H' h=>⟨xs.length - (i + 1),by omega,rfl,hlt,h⟩,λ v H' y=>?_⟩;obtain ⟨t,d,rfl,c⟩:=y;obtain ⟨f,j,rfl⟩:=c xs b;exact hs i f σ H t j p d
 ·have e:i=xs.length:=by omega
  subst e;exact .inl ⟨⟨xs,b,rfl⟩,hd σ H p⟩
end L2
set_option maxHeartbeats 400000
namespace L2
open PySem PySem.Spec PyProof.Rows
section
variable {X:Cx}
theorem zhx (hc:X.calm=true):CallR X (.builtin "sum") (λ xs H Q=>∃(p:Addr) (ns:List Int),xs=[.ref p]/\SqL X.K H p (ns.map V.int)/\Q (.int ns.sum) H):=by
 intro E s σ H xs G Q I r h;obtain ⟨p,ns,rfl,B,q⟩:=h;obtain ⟨u,rfl,C⟩:=vals1 r;cases C;obtain ⟨d,j,c,F⟩:=I.list B;have D:p≠s.heap.objs.size:=by obtain ⟨o,e,_⟩:=c.isList;exact V0 (N0 e)
 have k:d.length=ns.length:=by have:=j.length;rw [D0] at this;exact this.symm
 refine call_sum_walkAnyS (t8 c.isList ?_);refine ⟨s.heap.objs.size,_,_,_,_,_,_,λ i=>ns[i]?.getD 0,rfl,(Walks.list (show X.A.in1.handled=none from I.ok.hd hc) s.heap.objs.size p D d.toArray).toS,⟨⟨_,M0 _ rfl,rfl,rfl⟩,c.isList.at λ o e=>y0 _ e⟩,?_,?_,?_⟩
 ·intro b f;simp only [W0,o0,or_false] at f;rcases f with rfl|rfl
  ·rw [m3];exact V1 _
  ·obtain ⟨o,e,_⟩:=c.isList;exact N0 (y0 _ e)
 ·intro i v a;have a:d[i]? = some v:=by simpa using a
  obtain ⟨w,e⟩:=List.getElem?_eq_some_iff.mp a;have n:i < ns.length:=by rw [<-k];exact w
  obtain ⟨u,l,g⟩:=j.get (i:=i) (x:=.int ns[i]) (by simp [n]);rw [a] at l;cases l;obtain ⟨t,g⟩:=g;exact ⟨t,by show v=L6 (ns[i]?.getD 0) t;rw [B0 n];exact g⟩
 ·intro y t' m;have e:preSum (λ i=>ns[i]?.getD 0) d.toArray.size=ns.sum:=by rw [J0,k,z7v ns _ (A0 _),Q5]
  rw [e,m.eq_with];refine ⟨.int _,H,I.kept (t':=y.toks) λ b o z=>m.heap b o ?_ (y0 _ z),⟨_,rfl⟩,q⟩;intro f;rw [List.mem_singleton.mp f] at z;exact absurd (N0 z) (J3 _)
theorem zm7 {o e:Expr} {es:List Expr} {to:TE} {t:TA} {apos cpos:Pos} (ho:PE X o to) (ha:PA X (e :: es) t)
  (hbase:U3 o "pop" X.env (d3 o X.env)=d3 o X.env:=by rfl)
  (hfew:((E4 cpos (A1 (e :: es) X.env)).all (λ x=>!x.1) && (N8 cpos (K6 [] X.env)).all (λ x=>x.1.isSome)
   && decide ((e :: es).length + ([]:List j6).length + (if ([]:List j6).isEmpty then 0 else 1) < 30))=true:=by rfl)
  (hline:(apos.endLine == cpos.line)=true:=by rfl) (hs:A1 (e :: es) X.env=(false,d3 e X.env) :: A1 es X.env:=by rfl) (hplain:(E4 cpos (A1 es X.env)).any (·.1)=false:=by rfl) :
  PE X (.Call (.Attribute o "pop" apos) (e :: es) [] cpos) (tBM X.K "list" rPopAt to t):=pe_bm M4 j21 j20 zkm ho ha hbase hfew hline hs hplain
end
mutual
noncomputable def IsPd (K:b0) (H:Hp):PyData->V->Prop
 | .none,v=>v=.non
 | .bool b,v=>v=.bl b
 | .int i,v=>v=.int i
 | .str z,v=>v=.str z
 | .list ds,v=>∃a xs,v=.ref a/\SqL K H a xs/\IsPds K H ds xs
 | .tuple ds,v=>∃a xs,v=.ref a/\SqT K H a xs/\IsPds K H ds xs
 | .dict _,_=>False
noncomputable def IsPds (K:b0) (H:Hp):List PyData->List V->Prop
 | [],xs=>xs=[]
 | d :: ds,xs=>∃x r,xs=x :: r/\IsPd K H d x/\IsPds K H ds r
end
section
variable {X:Cx} {pins:List (Addr×Obj)} {σ:St} {H:Hp} {s:u0}
mutual
theorem z3s (I:Inv X pins σ H s) :∀(d:PyData) (v:V) (u:Value),IsPd X.K H d v->RelV v u->∃as,Reads s.heap u d as
 | .none,v,u,h,r=>by cases (show v=.non from h);cases (show u=.none from r);exact ⟨_,.none⟩
 | .bool b,v,u,h,r=>by cases (show v=.bl b from h);cases (show u=.bool b from r);exact ⟨_,.bool b⟩
 | .int i,v,u,h,r=>by cases (show v=.int i from h);obtain ⟨t,rfl⟩:=r;exact ⟨_,.int i t⟩
 | .str z,v,u,h,r=>by cases (show v=.str z from h);obtain ⟨t,rfl⟩:=r;exact ⟨_,.str z t⟩
 | .list ds,v,u,h,r=>by obtain ⟨a,l,rfl,e,j⟩:=h;cases (show u=.ref a from r);obtain ⟨q,m,g,_⟩:=I.list e;obtain ⟨o,k,c,n,f⟩:=g.isList;obtain ⟨as,p⟩:=z8q I ds l q j m;exact ⟨_,.list k c f p⟩
 | .tuple ds,v,u,h,r=>by obtain ⟨a,l,rfl,e,j⟩:=h;cases (show u=.ref a from r);obtain ⟨q,m,g,_⟩:=I.tuple e;obtain ⟨o,k,c,n,f⟩:=g;obtain ⟨as,p⟩:=z8q I ds l q j m;exact ⟨_,.tuple k c f p⟩
 | .dict _,v,u,h,r=>h.elim
theorem z8q (I:Inv X pins σ H s) :∀(ds:List PyData) (xs:List V) (us:List Value),IsPds X.K H ds xs->Vals xs us->∃as,j3a s.heap us ds as
 | [],xs,us,h,r=>by cases (show xs=[] from h);cases r;exact ⟨_,.nil⟩
 | d :: ds,xs,us,h,r=>by
  obtain ⟨x,t,rfl,a,b⟩:=h;cases r with
  | cons r1 r2=>obtain ⟨as,e⟩:=z3s I d x _ a r1;obtain ⟨bs,c⟩:=z8q I ds t _ b r2;exact ⟨_,.cons e c⟩
end
end
mutual
noncomputable def plainP:PyData->Bool
 | .none=>true
 | .bool _=>false
 | .int _=>true
 | .str z=>(j3i z).canLay0
 | .list ds=>z10 ds
 | .tuple ds=>z10 ds
 | .dict _=>false
noncomputable def z10:List PyData->Bool
 | []=>true
 | d :: ds=>plainP d && z10 ds
end
mutual
theorem z4a :∀d:PyData,plainP d=true->d.canLay0=true
 | .none,_=>rfl
 | .bool _,h=>by cases h
 | .int _,_=>rfl
 | .str _,h=>h
 | .list ds,h=>z2q ds h
 | .tuple ds,h=>z2q ds h
 | .dict _,h=>by cases h
theorem z2q :∀ds:List PyData,z10 ds=true->K7 ds=true
 | [],_=>rfl
 | d :: ds,h=>by have h:(plainP d && z10 ds)=true:=h;rw [D3] at h;show (d.canLay0 && K7 ds)=true;rw [z4a d h.1,z2q ds h.2];rfl
end
mutual
theorem zhe :∀d e:PyData,plainP d=true->plainP e=true->(d.eqv e=true↔d=e)
 | .none,e,_,he=>by
  cases e with
  | none=>exact ⟨λ _=>rfl,λ _=>rfl⟩
  | bool b=>cases he
  | dict _=>cases he
  | _=>exact ⟨λ z=>(by cases z),λ z=>(by cases z)⟩
 | .bool _,e,hd,_=>by cases hd
 | .int i,e,_,he=>by
  cases e with
  | int j=>exact ⟨λ z=>congrArg _ (eq_of_beq (show (i == j)=true from z)),λ z=>by cases z;exact beq_self_eq_true i⟩
  | bool b=>cases he
  | dict _=>cases he
  | _=>exact ⟨λ z=>(by cases z),λ z=>(by cases z)⟩
 | .str i,e,_,he=>by
  cases e with
  | str j=>exact ⟨λ z=>congrArg _ (eq_of_beq (show (i == j)=true from z)),λ z=>by cases z;exact beq_self_eq_true i⟩
  | bool b=>cases he
  | dict _=>cases he
  | _=>exact ⟨λ z=>(by cases z),λ z=>(by cases z)⟩
 | .list ds,e,hd,he=>by
  cases e with
  | list es=>exact ⟨λ z=>congrArg _ ((z66 ds es hd he).mp z),λ z=>(z66 ds es hd he).mpr (by cases z;rfl)⟩
  | bool b=>cases he
  | dict _=>cases he
  | _=>exact ⟨λ z=>(by cases z),λ z=>(by cases z)⟩
 | .tuple ds,e,hd,he=>by
  cases e with
  | tuple es=>exact ⟨λ z=>congrArg _ ((z66 ds es hd he).mp z),λ z=>(z66 ds es hd he).mpr (by cases z;rfl)⟩
  | bool b=>cases he
  | dict _=>cases he
  | _=>exact ⟨λ z=>(by cases z),λ z=>(by cases z)⟩
 | .dict _,e,hd,_=>by cases hd
theorem z66 :∀ds es:List PyData,z10 ds=true->z10 es=true->(PyData.eqvAll ds es=true↔ds=es)
 | [],[],_,_=>⟨λ _=>rfl,λ _=>rfl⟩
 | [],e :: es,_,_=>⟨λ z=>(by cases z),λ z=>(by cases z)⟩
 | d :: ds,[],_,_=>⟨λ z=>(by cases z),λ z=>(by cases z)⟩
 | d :: ds,e :: es,b,a=>by have b:(plainP d && z10 ds)=true:=b;have a:(plainP e && z10 es)=true:=a;rw [D3] at b a;show (d.eqv e && PyData.eqvAll ds es)=true↔_;rw [D3,zhe d e b.1 a.1,z66 ds es b.2 a.2];exact ⟨λ z=>by rw [z.1,z.2],λ z=>by cases z;exact ⟨rfl,rfl⟩⟩
end
theorem zn6 {d e:PyData} (hd:plainP d=true) (he:plainP e=true) {p:Prop} [Decidable p] (h:d=e↔p):d.eqv e=decide p:=by rw [Bool.eq_iff_iff,decide_eq_true_eq,zhe d e hd he,h]
section
variable {X:Cx}
noncomputable def rNeP (K:b0):R2:=λ x y H Q=>∃d e,IsPd K H d x/\IsPd K H e y/\plainP d=true/\plainP e=true/\d.depth<=60/\Q (.bl (!d.eqv e)) H
theorem room60 {A:L1} {k m n:Nat} (hr:Room k A) (h:m<=60):A.units + min m n < cLine:=B1 (Nat.add_le_add_left (C0 (Nat.min_le_left _ _) (C0 h (by decide:60<=64))) _) hr.units
theorem room61 {A:L1} {k m n:Nat} (hr:Room k A) (h:n<=60):A.units + 1 + min m n < cLine:=by have a:=hr.units;have b:=Nat.min_le_right m n;omega
theorem op_neP {k:Nat} (hr:Room k X.A):OpR X (j2 .NotEq) (rNeP X.K):=by intro o s σ H x y v u Q I i j h;obtain ⟨d,e,f,b,a,g,c,q⟩:=h;obtain ⟨n,m⟩:=z3s I d x v f i;obtain ⟨bs,l⟩:=z3s I e y u b j;exact SeqAt.compareNe_reads m l (z4a _ a) (z4a _ g) (room60 hr c) ⟨.bl _,H,I,rfl,q⟩
noncomputable def rInP (K:b0) (neg:Bool):R2:=λ x y H Q=>∃d ds,IsPd K H d x/\(IsPd K H (.list ds) y\/IsPd K H (.tuple ds) y)/\plainP d=true/\z10 ds=true/\d.depth<=60/\Q (.bl (if neg then !(ds.any λ e=>e.eqv d) else ds.any λ e=>e.eqv d)) H
theorem zj5 {k:Nat} (hr:Room k X.A):OpR X (j2 .NotIn) (rInP X.K true):=by
 intro o s σ H x y v u Q I l g h;obtain ⟨d,m,j,a,e,c,f,q⟩:=h;obtain ⟨n,i⟩:=z3s I d x v j l;rcases a with a|a
 ·obtain ⟨bs,b⟩:=z3s I _ y u a g;exact SeqAt.notIn_list_reads b i (z2q _ c) (z4a _ e) (room61 hr f) ⟨.bl _,H,I,rfl,q⟩
 ·obtain ⟨bs,b⟩:=z3s I _ y u a g;exact SeqAt.notIn_tuple_reads b i (z2q _ c) (z4a _ e) (room61 hr f) ⟨.bl _,H,I,rfl,q⟩
end
end L2
set_option maxHeartbeats 1000000
namespace L2
open PySem PySem.Spec PyProof.Rows
section
variable {prog:Program} {w:S0} {A:L1} {E:Value->u0->Prop} {s:u0}
theorem z5m:entryFor table "dict.update.loop" = some A5.«dict.update.loop»:=by kernel_rfl
theorem ziz {l:Addr} {items:Array Value} {n:Nat} {sl:Array (Option Value)} {Q:Option Value->u0->Prop} (h:s.heap.get? l=some { cls:=.type "list",data:=.seq items n,slots:=sl }) (hh:A.handled=none)
  (q :∀h' tk,(∀b o,s.heap.get? b=some o->h'.get? b=some o)->Q none { s with heap:=h',toks:=tk }):L0 (X0 prog w) A (j09 (.ref l) (Q1 "keys")) Q E s:=by
 unfold j09;refine c0 (wpAny_mkText ?_);unfold getAttrBy? getAttrBy;have c:M6 { s with toks:=s.toks + 1 } (.ref l) "list":=⟨_,h,rfl⟩
 refine c0 (J5 (Z1 (c0 (O4 c ?_))));rw [show j31 (V3 "list") (Q1 "__getattribute__")=V2 (some (.builtin "list.__getattribute__")) from rfl];refine c0 (x0 ?_);show L0 _ _ (i9 (.ref l) (.str (Q1 "keys") s.toks) (.type "list") (.builtin "list.__getattribute__") false false) _ _ _;unfold i9;refine c0 (show L0 _ _ (V2 none) _ _ _ from x0 ?_);refine c0 (J5 (Z1 ?_));show L0 _ _ (O9 (.builtin "list.__getattribute__") (.ref l) (.str (Q1 "keys") s.toks)) _ _ _;unfold O9;rw [show bindSpecial (.builtin "list.__getattribute__") (.ref l)=V2 (Value.builtin "list.__getattribute__",[v1 l]) from rfl];refine c0 (x0 ?_);show L0 _ _ (call (.builtin "list.__getattribute__") [.ref l,.str (Q1 "keys") s.toks]) _ _ _;refine Z7 F.slot_list_getattribute c am_entry_list_getattribute (F.args_list_getattribute_2 _ _) (meets_getattribute_miss_list l items n sl (Q1 "keys") s.toks rfl (by decide +kernel) (by decide +kernel)) ⟨h,hh,λ h' tk e d=>?_⟩;obtain ⟨t,u,f⟩:=d.there;have a:M6 { s with heap:=h',toks:=tk } (.ref e) "AttributeError":=⟨_,f,rfl⟩
 show L0 _ _ (Y7 (.ref l) _ (.type "list") (.ref e) none false false) _ _ _;unfold Y7;refine c0 (c5 a rfl ?_);show L0 _ _ (j34 (.type "list") none >>= _) _ _ _;rw [show j34 (.type "list") none=V2 none from rfl];refine c0 (x0 ?_);show L0 _ _ (throw (v1 e) >>= _) _ _ _;refine c0 (j1d ?_);show L0 _ _ (isInstance (.ref e) (.type "AttributeError") >>= _) _ _ _;refine c0 (c5 a rfl ?_);exact x0 (q h' tk d.keeps)
theorem zg7 {l:Addr} {items:Array Value} {n:Nat} {sl:Array (Option Value)} {Q:Option Value->u0->Prop} (h:s.heap.get? l=some { cls:=.type "tuple",data:=.seq items n,slots:=sl }) (hh:A.handled=none)
  (q :∀h' tk,(∀b o,s.heap.get? b=some o->h'.get? b=some o)->Q none { s with heap:=h',toks:=tk }):L0 (X0 prog w) A (j09 (.ref l) (Q1 "keys")) Q E s:=by
 unfold j09;refine c0 (wpAny_mkText ?_);unfold getAttrBy? getAttrBy;have c:M6 { s with toks:=s.toks + 1 } (.ref l) "tuple":=⟨_,h,rfl⟩
 refine c0 (J5 (Z1 (c0 (O4 c ?_))));rw [show j31 (V3 "tuple") (Q1 "__getattribute__")=V2 (some (.builtin "tuple.__getattribute__")) from rfl];refine c0 (x0 ?_);show L0 _ _ (i9 (.ref l) (.str (Q1 "keys") s.toks) (.type "tuple") (.builtin "tuple.__getattribute__") false false) _ _ _;unfold i9;refine c0 (show L0 _ _ (V2 none) _ _ _ from x0 ?_);refine c0 (J5 (Z1 ?_));show L0 _ _ (O9 (.builtin "tuple.__getattribute__") (.ref l) (.str (Q1 "keys") s.toks)) _ _ _;unfold O9;rw [show bindSpecial (.builtin "tuple.__getattribute__") (.ref l)=V2 (Value.builtin "tuple.__getattribute__",[v1 l]) from rfl];refine c0 (x0 ?_);show L0 _ _ (call (.builtin "tuple.__getattribute__") [.ref l,.str (Q1 "keys") s.toks]) _ _ _;refine Z7 F.slot_tuple_getattribute c am_entry_tuple_getattribute (F.args_tuple_getattribute_2 _ _) (meets_getattribute_miss_tuple l items n sl (Q1 "keys") s.toks rfl (by decide +kernel) (by decide +kernel)) ⟨h,hh,λ h' tk e d=>?_⟩;obtain ⟨t,u,f⟩:=d.there;have a:M6 { s with heap:=h',toks:=tk } (.ref e) "AttributeError":=⟨_,f,rfl⟩
 show L0 _ _ (Y7 (.ref l) _ (.type "tuple") (.ref e) none false false) _ _ _;unfold Y7;refine c0 (c5 a rfl ?_);show L0 _ _ (j34 (.type "tuple") none >>= _) _ _ _;rw [show j34 (.type "tuple") none=V2 none from rfl];refine c0 (x0 ?_);show L0 _ _ (throw (v1 e) >>= _) _ _ _;refine c0 (j1d ?_);show L0 _ _ (isInstance (.ref e) (.type "AttributeError") >>= _) _ _ _;refine c0 (c5 a rfl ?_);exact x0 (q h' tk d.keeps)
theorem z5q (a:Args):(i7 "dict.update.loop" a).quiet=true:=j03 (by decide +kernel) _
def PairOf (prog:Program) (w:S0) (h:Heap) (p:Key×Value) (u:Value):Prop:=∃a kv,u=.ref a/\h.IsTuple a #[kv,p.2]/\(z0h prog w).is p.1 kv=true
theorem PairOf.kept {h h':Heap} {p:Key×Value} {u:Value} {L:List Addr} (k :∀b o,b∉L->h.get? b=some o->h'.get? b=some o) (nt :∀b∈L,∀o,h.get? b=some o->o.cls≠.type "tuple") (x:PairOf prog w h p u):PairOf prog w h' p u:=by obtain ⟨a,g,e,⟨o,c,d,n,f⟩,i⟩:=x;exact ⟨a,g,e,⟨o,k a o (λ z=>nt a z o c d) c,d,n,f⟩,i⟩
theorem z9x {a:Addr} {items:Array Value} {Q:List Value->u0->Prop} (h:s.heap.IsTuple a items) (q:Q items.toList s):L0 (X0 prog w) A (j04 (.ref a)) Q E s:=by obtain ⟨o,b,c,n,d⟩:=h;unfold j04;refine c0 (O4 (T:="tuple") ⟨o,b,c⟩ ?_);show L0 _ _ (seqItems? (.ref a) >>= _) _ _ _;exact c0 (N6 b d (x0 q))
theorem zf3 {d it l:Addr} {items:Array Value} (ndi:d≠it) (ndl:d≠l) (nil':it≠l) :∀(ps:List (Key×Value)) (i:Nat) (kvs:List (Key×Value)) (A:L1) (R:j16->u0->Prop) (s:u0),A.handled=none->s.heap.IsListIter it l i->s.heap.IsList l items->
  All2 (PairOf prog w s.heap) ps (items.toList.drop i)->L3 (z0h prog w) s.heap d kvs->kvs.length + ps.length<=sizeLine->
  (∀h' tk,L3 (z0h prog w) h' d (ps.foldl (λ acc p=>stored acc p.1 p.2) kvs)->(∀b o,b≠d->b≠it->s.heap.get? b=some o->h'.get? b=some o)->R (.ok (.ret .none)) { s with heap:=h',toks:=tk })->
  u5 (X0 prog w) A (i7 "dict.update.loop" { pos:=[.ref d,.ref it,.int (i:Nat) 0,.none],kw:=[] }) R s
 | [],i,kvs,A,R,s,hh,si,sl,al,n,hz,q=>by
  have Z:items[i]? = none:=by
   cases hd:items.toList.drop i with
   | nil=>have:=List.drop_eq_nil_iff.mp hd;rw [v2] at this;exact G3 this
   | cons u us=>rw [hd] at al;cases al
  refine Z3 z5m ?_;show L0 _ _ (E6 (.ref it) >>= _) _ _ s;refine c0 (wpAny_pyNext_list_end (show (A.under _).handled=none from hh) si sl Z λ h' L=>?_);show L0 _ _ ((do Y9 d [];ret .none):Sem j00) _ _ _;refine c0 (show L0 _ _ (V2 ()) _ _ _ from x0 ?_);have D:L3 (z0h prog w) h' d kvs:=by obtain ⟨o,t,v,g,m⟩:=n;exact ⟨o,t,v,L d o ndi g,m⟩
  exact x0 (q h' s.toks D λ b o _ k e=>L b o k e)
 | p :: ps,i,kvs,A,R,s,hh,si,sl,al,n,hz,q=>by
  cases hd:items.toList.drop i with
  | nil=>rw [hd] at al;cases al
  | cons u us=>
   rw [hd] at al;cases al with
   | cons pu al=>
    have M:items.toList[i]? = some u:=by have:=congrArg (λ l=>l[0]?) hd;simpa using this
    have hu:items[i]? = some u:=by simpa using M
    have Y:items.toList.drop (i + 1)=us:=by have:=congrArg List.tail hd;simpa using this
    obtain ⟨a,F,rfl,Q,W⟩:=pu;refine Z3 z5m ?_;show L0 _ _ (E6 (.ref it) >>= _) _ _ s;refine c0 (wpAny_pyNext_list_item si sl hu λ g X C=>?_);have H :∀o,s.heap.get? it=some o->o.cls≠.type "tuple":=λ o e z=>by obtain ⟨O,r,c,_⟩:=si;rw [e] at r;cases r;rw [z] at c;exact absurd c (by decide)
    have U :∀(h:Heap) (kvs:List (Key×Value)),L3 (z0h prog w) h d kvs->∀o,h.get? d=some o->o.cls≠.type "tuple":=λ h kvs n o e z=>by obtain ⟨O,t,v,r,c,_⟩:=n;rw [e] at r;cases r;have:=c.1;rw [z] at this;exact absurd this (by decide)
    have B :∀b o,b∉[it]->s.heap.get? b=some o->g.get? b=some o:=λ b o k e=>(C.2 b (λ z=>k (by rw [z];exact List.mem_singleton.mpr rfl))).trans e;have a1:g.IsTuple a #[F,p.2]:=by obtain ⟨o,j,f,N⟩:=Q;exact ⟨o,B a o (λ z=>H o (List.mem_singleton.mp z ▸ j) f) j,f,N⟩
    have P:All2 (PairOf prog w g) ps us:=z01 (λ x y z=>PairOf.kept B (λ b k o e=>H o (List.mem_singleton.mp k ▸ e)) z) al;have G:L3 (z0h prog w) g d kvs:=by obtain ⟨o,t,v,j,f⟩:=n;exact ⟨o,t,v,(C.2 d ndi).trans j,f⟩
    have a3:g.IsList l items:=by obtain ⟨o,j,f⟩:=sl;exact ⟨o,(C.2 l (J2 nil')).trans j,f⟩
    refine c0 (Z1 (c0 (wpAny_tryCatch (z9x (s:={ s with heap:=g }) a1 ?_))));show L0 _ _ (U9 [F,p.2] (j2d d F p.2)) _ _ _;refine Z1 (wpAny_dictSet_pairs W G (λ m a4 E=>?_) (C0 (o8 _ _) hz));refine x0 ⟨z5q _,?_⟩;have K :∀b o,b∉[d]->g.get? b=some o->m.get? b=some o:=λ b o k e=>(E.2 b (λ z=>k (by rw [z];exact List.mem_singleton.mpr rfl))).trans e;have a0:All2 (PairOf prog w m) ps us:=z01 (λ x y z=>PairOf.kept K (λ b k o e=>U g kvs G o (List.mem_singleton.mp k ▸ e)) z) P;have V:m.IsListIter it l (i + 1):=by obtain ⟨o,j,f⟩:=X;exact ⟨o,(E.2 it (J2 ndi)).trans j,f⟩
    have a2:m.IsList l items:=by obtain ⟨o,j,f⟩:=a3;exact ⟨o,(E.2 l (J2 ndl)).trans j,f⟩
    have T:(stored kvs p.1 p.2).length + ps.length<=sizeLine:=by
     have:(stored kvs p.1 p.2).length<=kvs.length + 1:=by
      unfold stored;split
      ·rw [D0];exact B2 _
      ·rw [F0];exact A0 _
     rw [Z0] at hz;omega
    exact zf3 ndi ndl nil' ps (i + 1) (stored kvs p.1 p.2) A R { s with heap:=m,toks:=s.toks + 1 } hh V a2 (by rw [Y];exact a0) a4 T λ h' tk D S=>q h' tk D λ b o J I e=>S b o J I (K b o (λ z=>J (List.mem_singleton.mp z)) (B b o (λ z=>I (List.mem_singleton.mp z)) e))
theorem zcu {d it l:Addr} {items:Array Value} (ndi:d≠it) (ndl:d≠l) (nil':it≠l) :∀(ps:List (Key×Value)) (i:Nat) (kvs:List (Key×Value)) (A:L1) (R:j16->u0->Prop) (s:u0),A.handled=none->s.heap.IsTupleIter it l i->s.heap.IsTuple l items->
  All2 (PairOf prog w s.heap) ps (items.toList.drop i)->L3 (z0h prog w) s.heap d kvs->kvs.length + ps.length<=sizeLine->
  (∀h' tk,L3 (z0h prog w) h' d (ps.foldl (λ acc p=>stored acc p.1 p.2) kvs)->(∀b o,b≠d->b≠it->s.heap.get? b=some o->h'.get? b=some o)->R (.ok (.ret .none)) { s with heap:=h',toks:=tk })->
  u5 (X0 prog w) A (i7 "dict.update.loop" { pos:=[.ref d,.ref it,.int (i:Nat) 0,.none],kw:=[] }) R s
 | [],i,kvs,A,R,s,hh,si,sl,al,n,hz,q=>by
  have Z:items[i]? = none:=by
   cases hd:items.toList.drop i with
   | nil=>have:=List.drop_eq_nil_iff.mp hd;rw [v2] at this;exact G3 this
   | cons u us=>rw [hd] at al;cases al
  refine Z3 z5m ?_;show L0 _ _ (E6 (.ref it) >>= _) _ _ s;refine c0 (V8 (show (A.under _).handled=none from hh) si sl Z λ h' L=>?_);show L0 _ _ ((do Y9 d [];ret .none):Sem j00) _ _ _;refine c0 (show L0 _ _ (V2 ()) _ _ _ from x0 ?_);have D:L3 (z0h prog w) h' d kvs:=by obtain ⟨o,t,v,g,m⟩:=n;exact ⟨o,t,v,L d o ndi g,m⟩
  exact x0 (q h' s.toks D λ b o _ k e=>L b o k e)
 | p :: ps,i,kvs,A,R,s,hh,si,sl,al,n,hz,q=>by
  cases hd:items.toList.drop i with
  | nil=>rw [hd] at al;cases al
  | cons u us=>
   rw [hd] at al;cases al with
   | cons pu al=>
    have M:items.toList[i]? = some u:=by have:=congrArg (λ l=>l[0]?) hd;simpa using this
    have hu:items[i]? = some u:=by simpa using M
    have Y:items.toList.drop (i + 1)=us:=by have:=congrArg List.tail hd;simpa using this
    obtain ⟨a,F,rfl,Q,W⟩:=pu;refine Z3 z5m ?_;show L0 _ _ (E6 (.ref it) >>= _) _ _ s;refine c0 (M8 si sl hu λ g X C=>?_);have H :∀o,s.heap.get? it=some o->o.cls≠.type "tuple":=λ o e z=>by obtain ⟨O,r,c,_⟩:=si;rw [e] at r;cases r;rw [z] at c;exact absurd c (by decide)
    have U :∀(h:Heap) (kvs:List (Key×Value)),L3 (z0h prog w) h d kvs->∀o,h.get? d=some o->o.cls≠.type "tuple":=λ h kvs n o e z=>by obtain ⟨O,t,v,r,c,_⟩:=n;rw [e] at r;cases r;have:=c.1;rw [z] at this;exact absurd this (by decide)
    have B :∀b o,b∉[it]->s.heap.get? b=some o->g.get? b=some o:=λ b o k e=>(C.2 b (λ z=>k (by rw [z];exact List.mem_singleton.mpr rfl))).trans e;have a1:g.IsTuple a #[F,p.2]:=by obtain ⟨o,j,f,N⟩:=Q;exact ⟨o,B a o (λ z=>H o (List.mem_singleton.mp z ▸ j) f) j,f,N⟩
    have P:All2 (PairOf prog w g) ps us:=z01 (λ x y z=>PairOf.kept B (λ b k o e=>H o (List.mem_singleton.mp k ▸ e)) z) al;have G:L3 (z0h prog w) g d kvs:=by obtain ⟨o,t,v,j,f⟩:=n;exact ⟨o,t,v,(C.2 d ndi).trans j,f⟩
    have a3:g.IsTuple l items:=by obtain ⟨o,j,f⟩:=sl;exact ⟨o,(C.2 l (J2 nil')).trans j,f⟩
    refine c0 (Z1 (c0 (wpAny_tryCatch (z9x (s:={ s with heap:=g }) a1 ?_))));show L0 _ _ (U9 [F,p.2] (j2d d F p.2)) _ _ _;refine Z1 (wpAny_dictSet_pairs W G (λ m a4 E=>?_) (C0 (o8 _ _) hz));refine x0 ⟨z5q _,?_⟩;have K :∀b o,b∉[d]->g.get? b=some o->m.get? b=some o:=λ b o k e=>(E.2 b (λ z=>k (by rw [z];exact List.mem_singleton.mpr rfl))).trans e;have a0:All2 (PairOf prog w m) ps us:=z01 (λ x y z=>PairOf.kept K (λ b k o e=>U g kvs G o (List.mem_singleton.mp k ▸ e)) z) P;have V:m.IsTupleIter it l (i + 1):=by obtain ⟨o,j,f⟩:=X;exact ⟨o,(E.2 it (J2 ndi)).trans j,f⟩
    have a2:m.IsTuple l items:=by obtain ⟨o,j,f⟩:=a3;exact ⟨o,(E.2 l (J2 ndl)).trans j,f⟩
    have T:(stored kvs p.1 p.2).length + ps.length<=sizeLine:=by
     have:(stored kvs p.1 p.2).length<=kvs.length + 1:=by
      unfold stored;split
      ·rw [D0];exact B2 _
      ·rw [F0];exact A0 _
     rw [Z0] at hz;omega
    exact zcu ndi ndl nil' ps (i + 1) (stored kvs p.1 p.2) A R { s with heap:=m,toks:=s.toks + 1 } hh V a2 (by rw [Y];exact a0) a4 T λ h' tk D S=>q h' tk D λ b o J I e=>S b o J I (K b o (λ z=>J (List.mem_singleton.mp z)) (B b o (λ z=>I (List.mem_singleton.mp z)) e))
theorem z74 {h:Heap} {D:Addr} (e:h.get? D=some { cls:=.type "dict",data:=.dict #[] }):L3 (z0h prog w) h D []:=by obtain ⟨o,b,c,a,r⟩:=j2i (knd:=z0h prog w) h;rw [M0 _ rfl] at a;cases a;exact ⟨_,b,c,e,r⟩
theorem z8i {D l:Addr} {items:Array Value} {n:Nat} {sl:Array (Option Value)} {ps:List (Key×Value)} {Q:u0->Prop} {A':L1} (hd:s.heap.get? D=some { cls:=.type "dict",data:=.dict #[] }) (hl:s.heap.get? l=some { cls:=.type "list",data:=.seq items n,slots:=sl }) (hh:A.handled=none) (hh':A'.handled=none)
  (al:All2 (PairOf prog w s.heap) ps items.toList) (hz:ps.length<=sizeLine)
  (q :∀h' tk,L3 (z0h prog w) h' D (merged [] ps)->(∀b o,b≠D->s.heap.get? b=some o->h'.get? b=some o)->Q { s with heap:=h',toks:=tk }) :
  L0 (X0 prog w) A (A5.«dict.__init__» { pos:=[.ref D,.ref l] }) (λ fin s'=>match fin with
   | .done f=>wants (λ r s₂=>r=K2/\Q s₂) E (.ok f) s'
   | .again c'=>c'.quiet=true/\u5 (X0 prog w) A' c' (wants (λ r s₂=>r=K2/\Q s₂) E) s') (λ e s'=>wants (λ r s₂=>r=K2/\Q s₂) E (.error e) s') s:=by
 have j:D≠l:=λ z=>by rw [z,hl] at hd;exact absurd (show V3 "list" = V3 "dict" from congrArg Obj.cls (J1 hd)) (by decide)
 unfold A5.«dict.__init__» X9;refine c0 (c0 (wpAny_notOrdered_dict ⟨_,hd,rfl⟩ ?_));refine c0 (show L0 _ _ (V2 D) _ _ _ from x0 (x0 ?_));show L0 _ _ (M5 "dict.__init__" D (.ref l) [] .none) _ _ _;unfold M5;refine c0 (O4 (T:="list") ⟨_,hl,rfl⟩ ?_);show L0 _ _ (j09 (.ref l) (Q1 "keys") >>= _) _ _ _;refine c0 (ziz hl hh λ h tk a=>?_);show L0 _ _ (rule _ >>= _) _ _ _;refine c0 (D6 (c0 (t8 (items:=items) ⟨_,a _ _ hl,rfl,_,rfl⟩ ?_)));refine x0 ⟨z5q _,?_⟩;have ltD:=N0 (a _ _ hd);have i:=N0 (a _ _ hl);have c :∀b o,s.heap.get? b=some o->(h.push { cls:=.type "list_iterator",data:=.fields #[.ref l,.int 0 0] }).get? b=some o:=λ b o e=>y0 _ (a b o e);refine zf3 (d:=D) (it:=h.objs.size) (l:=l) (items:=items) (V0 ltD) j (y3 i) ps 0 [] A' _ _ hh' ⟨_,M0 _ rfl,rfl,rfl⟩ ⟨_,c _ _ hl,rfl,_,rfl⟩ ?_ ?_ (by simpa using hz) λ h' p m k=>⟨rfl,q h' p m λ b o g e=>k b o g (λ z=>?_) (c b o e)⟩
 ·rw [u4];exact z01 (λ x y z=>PairOf.kept (L:=[]) (λ b o _ e=>c b o e) (λ b g=>absurd g o0) z) al
 ·exact z74 (c _ _ hd)
 ·rw [z] at e;exact absurd (N0 (a _ _ e)) (J3 _)
theorem z76 {D l:Addr} {items:Array Value} {n:Nat} {sl:Array (Option Value)} {ps:List (Key×Value)} {Q:u0->Prop} {A':L1} (hd:s.heap.get? D=some { cls:=.type "dict",data:=.dict #[] }) (hl:s.heap.get? l=some { cls:=.type "tuple",data:=.seq items n,slots:=sl }) (hh:A.handled=none) (hh':A'.handled=none)
  (al:All2 (PairOf prog w s.heap) ps items.toList) (hz:ps.length<=sizeLine)
  (q :∀h' tk,L3 (z0h prog w) h' D (merged [] ps)->(∀b o,b≠D->s.heap.get? b=some o->h'.get? b=some o)->Q { s with heap:=h',toks:=tk }) :
  L0 (X0 prog w) A (A5.«dict.__init__» { pos:=[.ref D,.ref l] }) (λ fin s'=>match fin with
   | .done f=>wants (λ r s₂=>r=K2/\Q s₂) E (.ok f) s'
   | .again c'=>c'.quiet=true/\u5 (X0 prog w) A' c' (wants (λ r s₂=>r=K2/\Q s₂) E) s') (λ e s'=>wants (λ r s₂=>r=K2/\Q s₂) E (.error e) s') s:=by
 have j:D≠l:=λ z=>by rw [z,hl] at hd;exact absurd (show V3 "tuple" = V3 "dict" from congrArg Obj.cls (J1 hd)) (by decide)
 unfold A5.«dict.__init__» X9;refine c0 (c0 (wpAny_notOrdered_dict ⟨_,hd,rfl⟩ ?_));refine c0 (show L0 _ _ (V2 D) _ _ _ from x0 (x0 ?_));show L0 _ _ (M5 "dict.__init__" D (.ref l) [] .none) _ _ _;unfold M5;refine c0 (O4 (T:="tuple") ⟨_,hl,rfl⟩ ?_);show L0 _ _ (j09 (.ref l) (Q1 "keys") >>= _) _ _ _;refine c0 (zg7 hl hh λ h tk a=>?_);show L0 _ _ (rule _ >>= _) _ _ _;refine c0 (D6 (c0 (C4 (items:=items) ⟨_,a _ _ hl,rfl,_,rfl⟩ ?_)));refine x0 ⟨z5q _,?_⟩;have ltD:=N0 (a _ _ hd);have i:=N0 (a _ _ hl);have c :∀b o,s.heap.get? b=some o->(h.push { cls:=.type "tuple_iterator",data:=.fields #[.ref l,.int 0 0] }).get? b=some o:=λ b o e=>y0 _ (a b o e);refine zcu (d:=D) (it:=h.objs.size) (l:=l) (items:=items) (V0 ltD) j (y3 i) ps 0 [] A' _ _ hh' ⟨_,M0 _ rfl,rfl,rfl⟩ ⟨_,c _ _ hl,rfl,_,rfl⟩ ?_ ?_ (by simpa using hz) λ h' p m k=>⟨rfl,q h' p m λ b o g e=>k b o g (λ z=>?_) (c b o e)⟩
 ·rw [u4];exact z01 (λ x y z=>PairOf.kept (L:=[]) (λ b o _ e=>c b o e) (λ b g=>absurd g o0) z) al
 ·exact z74 (c _ _ hd)
 ·rw [z] at e;exact absurd (N0 (a _ _ e)) (J3 _)
end
section
variable {X:Cx}
def zn5 (K:b0):List V->Hp->VK->Prop:=λ xs H Q=>∃a ys kvs,xs=[.ref a]/\(H a=some (.lst ys)\/H a=some (.tup ys))/\All2 (λ (p:Key×V) y=>∃b,y=.ref b/\SqT K H b [kV p.1,p.2]) kvs ys/\∀p,H p=none->Q (.ref p) (upd H p (.dK (mergeK [] kvs)))
theorem zbz {pins:List (Addr×Obj)} {σ:St} {H:Hp} {s:u0} (I:Inv X pins σ H s) :∀{kvs:List (Key×V)} {ys:List V} {its:List Value},All2 (λ (p:Key×V) y=>∃b,y=.ref b/\SqT X.K H b [kV p.1,p.2]) kvs ys->Vals ys its->
  ∃ps,KV kvs ps/\All2 (PairOf X.prog X.w s.heap) ps its
 | [],_,_,.nil,r=>by cases r;exact ⟨[],.nil,.nil⟩
 | p :: kvs,_,_,.cons ⟨b,e,sb⟩ al,r=>by
  cases r with
  | cons r1 r2=>
   subst e;obtain ⟨ps,c,f⟩:=zbz I al r2;obtain ⟨its,a,d,_⟩:=I.tuple sb;cases a with
   | cons ra a=>
    cases a with
    | cons rb a=>cases a;rename_i u1 u2;exact ⟨(p.1,u2) :: ps,.cons ⟨rfl,rb⟩ c,.cons ⟨b,u1,r1,d,kV_is ra⟩ f⟩
theorem z20 (kvs:List (Key×V)) :∀more:List (Key×V),(mergeK kvs more).length<=kvs.length + more.length
 | []=>A0 _
 | p :: more=>by have a:=z20 (putK kvs p.1 p.2) more;have b:=z3a kvs p.1 p.2;show (mergeK (putK kvs p.1 p.2) more).length<=_;rw [Z0];omega
theorem z11 (hc:X.calm=true):CallR X (.type "dict") (zn5 X.K):=by
 intro P s σ H xs us Q I r h;obtain ⟨a,U,g,rfl,m,v,q⟩:=h;obtain ⟨u,rfl,R⟩:=vals1 r;cases (show u=v1 a from R);have p:X.A.handled=none:=I.ok.hd hc;have S:H s.heap.objs.size=none:=I.hok.fresh (A0 _);have big:=I.big;have O :∀(d:List (Key×Value)) (h':Heap) (c:Nat),KV g d->g.length<=sizeLine->L3 (z0h X.prog X.w) h' s.heap.objs.size (merged [] d)->(∀b o,b≠s.heap.objs.size->(s.heap.push { cls:=.type "dict",data:=.dict #[] }).get? b=some o->h'.get? b=some o)->
   EP X P σ Q (.ref s.heap.objs.size) { s with heap:=h',toks:=c }:=λ d h' c f T i j=>by
  refine ⟨.ref s.heap.objs.size,_,I.laid (a:=s.heap.objs.size) (o:=.dK (mergeK [] g)) (h':=h') (t':=c) (λ b o e=>j b o (V0 (N0 e)) (y0 _ e)) (A0 _) ?_,rfl,q _ S⟩;exact dk_new (C0 (z20 [] g) (by simpa using T)) (beq_eq_false_iff_ne.mpr (J2 (V0 big))) (KV.merge f .nil) i
 have t:U.length=g.length:=z03 v;rcases m with m|m
 ·obtain ⟨z,V,n,B,hl,e⟩:=I.lstM m;obtain ⟨d,f,C⟩:=zbz I v B;refine callType_codes F.kt_called_dict (F.kt_typeCall_dict_1 _) F.entry_dict_init (kt_code_dict_new _ (Q₁:=λ k l=>k=.ref s.heap.objs.size/\l={ s with heap:=s.heap.push { cls:=.type "dict",data:=.dict #[] } }) ⟨rfl,rfl⟩) ?_;rintro k l ⟨rfl,rfl⟩;refine ⟨⟨_,M0 _ rfl,rfl⟩,F.args_dict_init_2 _ _,?_⟩;refine z8i (s:={ s with heap:=s.heap.push { cls:=.type "dict",data:=.dict #[] } }) (M0 _ rfl) (y0 _ e) p p (by simpa using z01 (λ x y z=>PairOf.kept (L:=[]) (λ b o _ e=>y0 _ e) (λ b D=>absurd D o0) z) C) (by rw [<-N7 f,<-t];exact z) λ h' c i j=>O d h' c f (by rw [<-t];exact z) i j
 ·obtain ⟨z,V,B,⟨o,M,E,n,G⟩,Y,N,J⟩:=I.hok a _ m;rw [M] at N;cases N;obtain ⟨d,f,C⟩:=zbz I v B;obtain ⟨oc,Z,a0,W⟩:=o;dsimp only at E G J;subst E G J;refine callType_codes F.kt_called_dict (F.kt_typeCall_dict_1 _) F.entry_dict_init (kt_code_dict_new _ (Q₁:=λ k l=>k=.ref s.heap.objs.size/\l={ s with heap:=s.heap.push { cls:=.type "dict",data:=.dict #[] } }) ⟨rfl,rfl⟩) ?_;rintro k l ⟨rfl,rfl⟩;refine ⟨⟨_,M0 _ rfl,rfl⟩,F.args_dict_init_2 _ _,?_⟩;refine z76 (s:={ s with heap:=s.heap.push { cls:=.type "dict",data:=.dict #[] } }) (M0 _ rfl) (y0 _ M) p p (by simpa using z01 (λ x y z=>PairOf.kept (L:=[]) (λ b o _ e=>y0 _ e) (λ b D=>absurd D o0) z) C) (by rw [<-N7 f,<-t];exact z) λ h' c i j=>O d h' c f (by rw [<-t];exact z) i j
noncomputable def rNeD0:R2:=λ x y H Q=>∃a b kvs,x=.ref a/\y=.ref b/\H a=some (.dK kvs)/\H b=some (.dK [])/\Q (.bl (decide (kvs≠[]))) H
theorem znl (hu:X.A.units + 1 < cLine):OpR X (j2 .NotEq) rNeD0:=by
 intro C s σ H x y v u Q I o t h;obtain ⟨a,b,d,rfl,rfl,l,w,q⟩:=h;cases o;cases t;obtain ⟨_,n,c,j,i⟩:=dk_of I.hok l;obtain ⟨_,z,m,g,B⟩:=dk_of I.hok w;have k:m=[]:=by have:=g.length;exact List.length_eq_zero_iff.mp (by simpa using this.symm)
 subst k;refine PySem.W.keq_ne (r:=true) n z i B (j01 hu) (λ e=>?_) ⟨.bl _,H,I,?_,q⟩
 ·have:c=[]:=List.length_eq_zero_iff.mp e;rw [this];exact .nil
 ·show j4 _=j4 _;congr 1;have f:d.length=c.length:=j.length;cases d with
  | nil=>have:c=[]:=List.length_eq_zero_iff.mp f.symm;rw [this];rfl
  | cons p r=>
   cases c with
   | nil=>cases f
   | cons p r=>rfl
end
end L2
set_option maxHeartbeats 400000
namespace L2
open PySem PySem.Spec PyProof.Rows
structure RunsR (S:Hp->Hp->Prop) (J:It) (H1:Hp) (n:Nat) (Item:Nat->V->Hp->Prop):Prop where
 go :∀i,i < n->∀H,S H1 H->J.go i H
 stop :∀H,S H1 H->J.stop n H
 item :∀i,i < n->∀H v H',S H1 H->J.yld i H v H'->S H H'/\Item i v H'
theorem z2c {S:Hp->Hp->Prop} {J:It} {H1:Hp} {n m:Nat} {Item:Nat->V->Hp->Prop} {fr:List (Nat×Str)} {g:TG} {tc:TT} {te:TE} {σ:St} {Q:VK} (s0:S H1 H1) (st :∀a b c,S a b->S b c->S a c) (p:Nat->Bool) (R:Nat->V->Hp->Prop) (hR :∀i y H H',S H H'->R i y H->R i y H') (r:RunsR S J H1 n Item) (hn:n<=sizeLine)
  (body :∀i,i < n->∀v H,S H1 H->Item i v H->∀(KT:VK) (KF:Hp->Prop),(p i=true->∀y H',S H H'->R i y H'->KT y H')->(p i=false->∀H',S H H'->KF H')->
   g v (cStG σ fr (A2 m none)) H λ σ6 H6=>∃us,us.length=m/\σ6=cStG σ fr us/\tc (cStG σ fr us) H6 λ b H2=>if b=true then te (cStG σ fr us) H2 KT else KF H2)
  (hQ :∀l H' ys,S H1 H'->H' l=none->All2 (λ i y=>R i y H') ((G1 n).filter p) ys->Q (.ref l) (upd H' l (.lst ys))) :
  ∃W:Nat->Nat->List V->Hp->Prop,(∃m,W 0 m [] H1)/\∀i k ys H,W i k ys H->
   (J.stop i H/\ys.length<=sizeLine/\∀p,H p=none->Q (.ref p) (upd H p (.lst ys)))\/
   (J.go i H/\ys.length<=sizeLine/\∀v H',J.yld i H v H'->g v (cStG σ fr (A2 m none)) H' λ σ6 H6=>∃us,us.length=m/\σ6=cStG σ fr us/\tc (cStG σ fr us) H6 λ b H2=>if b=true then te (cStG σ fr us) H2 λ y H3=>∃m',m' < k/\W (i + 1) m' (ys++[y]) H3 else∃m',m' < k/\W (i + 1) m' ys H2):=by
 refine ⟨λ i k ys H'=>k=n - i/\i<=n/\S H1 H'/\All2 (λ i y=>R i y H') ((G1 i).filter p) ys,⟨n,by simp,X1 _,s0,.nil⟩,?_⟩;rintro i k ys H' ⟨rfl,hi,sm,fa⟩;have j:ys.length<=sizeLine:=by rw [z03 fa];have:=D2 p (G1 i);rw [O1] at this;omega
 by_cases hlt:i < n
 ·refine .inr ⟨r.go i hlt H' sm,j,λ v H2 y=>?_⟩;obtain ⟨d,s⟩:=r.item i hlt H' v H2 sm y;refine body i hlt v H2 (st _ _ _ sm d) s _ _ (λ h y H3 f q=>⟨n - (i + 1),by omega,rfl,hlt,st _ _ _ (st _ _ _ sm d) f,?_⟩) (λ h H3 f=>⟨n - (i + 1),by omega,rfl,hlt,st _ _ _ (st _ _ _ sm d) f,?_⟩)
  ·rw [z2f,if_pos h];exact z67 (z01 (λ a b z=>hR a b _ _ (st _ _ _ d f) z) fa) q
  ·rw [z2f,if_neg (by rw [h];decide),Y1];exact z01 (λ a b z=>hR a b _ _ (st _ _ _ d f) z) fa
 ·have e:i=n:=by omega
  subst e;exact .inl ⟨r.stop H' sm,j,λ l o=>hQ l H' ys sm o fa⟩
theorem z6i {S:Hp->Hp->Prop} {K:b0} {a:Addr} {xs:List V} {H1:Hp} (hs :∀H,S H1 H->S H H) (hq :∀H,S H1 H->SqL K H a xs):RunsR S (Itl K a) H1 xs.length (λ i v _=>xs[i]? = some v):=
 ⟨λ i b H s=>⟨xs,xs[i],hq H s,by simp [b]⟩,λ H s=>⟨xs,hq H s,A0 _⟩,λ i b H v c s y=>by obtain ⟨e,y⟩:=y;subst e;exact ⟨hs _ s,y xs (hq _ s)⟩⟩
theorem zd5 {S:Hp->Hp->Prop} {K:b0} {a:Addr} {xs:List V} {H1:Hp} (hs :∀H,S H1 H->S H H) (hq :∀H,S H1 H->SqT K H a xs):RunsR S (Itt K a) H1 xs.length (λ i v _=>xs[i]? = some v):=
 ⟨λ i b H s=>⟨xs,xs[i],hq H s,by simp [b]⟩,λ H s=>⟨xs,hq H s,A0 _⟩,λ i b H v c s y=>by obtain ⟨e,y⟩:=y;subst e;exact ⟨hs _ s,y xs (hq _ s)⟩⟩
theorem zea {S:Hp->Hp->Prop} {K:b0} {a:Addr} {xs:List V} {tl te:TE} {tc:TT} {g:TG} {m:Nat} {fr:List (Nat×Str)} {σ:St} {H H1:Hp} {Q:VK} (R:V->V->Hp->Prop) (s0:S H1 H1) (st :∀a b c,S a b->S b c->S a c) (hs :∀H,S H1 H->S H H) (hR :∀x y H H',S H H'->R x y H->R x y H')
  (htl :∀R:VK,R (.ref a) H1->tl σ H R) (hq :∀H,S H1 H->SqL K H a xs) (hn:xs.length<=sizeLine)
  (body :∀v∈xs,∀H,S H1 H->∀KT:VK,(∀y H',S H H'->R v y H'->KT y H')->∀KF:Hp->Prop,
   g v (cStG σ fr (A2 m none)) H λ σ6 H6=>∃us,us.length=m/\σ6=cStG σ fr us/\tc (cStG σ fr us) H6 λ b H2=>if b=true then te (cStG σ fr us) H2 KT else KF H2)
  (hQ :∀l H' ys,S H1 H'->H' l=none->All2 (λ x y=>R x y H') xs ys->Q (.ref l) (upd H' l (.lst ys))):tCompG (iList K tl) m fr g tc te σ H Q:=by
 refine htl _ ⟨a,rfl,⟨xs,hq _ s0⟩,z2c s0 st (λ _=>true) (λ i y H=>R (xs[i]?.getD .non) y H) (λ i y H H' s z=>hR _ _ _ _ s z) (z6i hs hq) hn (λ i u v H s n KT KF f j=>?_) λ l H' ys s o k=>hQ l H' ys s o ?_⟩
 ·refine body v (G0 n) H s KT (λ y H' t q=>f rfl y H' t ?_) KF;rw [n];exact q
 ·rw [List.filter_eq_self.mpr (λ _ _=>rfl)] at k;have p :∀(d:List Nat) (ys:List V),All2 (λ i y=>R (xs[i]?.getD .non) y H') d ys->All2 (λ x y=>R x y H') (d.map λ i=>xs[i]?.getD .non) ys:=by
   intro d;induction d with
   | nil=>intro ys h;cases h;exact .nil
   | cons i d ih=>intro ys h;cases h with|cons a r=>exact .cons a (ih _ r)
  have h:=p _ _ k;have e:(G1 xs.length).map (λ i=>xs[i]?.getD V.non)=xs:=by
   apply i8
   ·simp
   ·intro i f j;simp only [List.getElem_map,List.getElem_range,B0 j,Option.getD_some]
  rwa [e] at h
theorem zig {S:Hp->Hp->Prop} {n:Nat} {H1:Hp} (hs :∀H,S H1 H->S H H):RunsR S (Itr 0 n) H1 n (λ i v _=>v=.int (i:Nat)):=
 ⟨λ i a H s=>a,λ H s=>A0 _,λ i a H v b s y=>by obtain ⟨e,y⟩:=y;subst e;exact ⟨hs _ s,by rw [y,K8]⟩⟩
theorem zfq {R:V->V->Prop} {xs ys:List V} (fa:All2 (λ (i:Nat) y=>R (xs[i]?.getD .non) y) (G1 xs.length) ys):All2 R xs ys:=by
 have d :∀(b:List Nat) (ys:List V),All2 (λ i y=>R (xs[i]?.getD .non) y) b ys->All2 R (b.map λ i=>xs[i]?.getD .non) ys:=by
  intro b;induction b with
  | nil=>intro ys h;cases h;exact .nil
  | cons i b ih=>intro ys h;cases h with|cons a r=>exact .cons a (ih _ r)
 have h:=d _ _ fa;have e:(G1 xs.length).map (λ i=>xs[i]?.getD V.non)=xs:=by
  apply i8
  ·simp
  ·intro i f c;simp only [List.getElem_map,List.getElem_range,B0 c,Option.getD_some]
 rwa [e] at h
theorem zg5 {S:Hp->Hp->Prop} {K:b0} {a:Addr} {xs:List V} {tl te:TE} {tc:TT} {g:TG} {m:Nat} {fr:List (Nat×Str)} {σ:St} {H H1:Hp} {Q:VK} (R:V->V->Hp->Prop) (s0:S H1 H1) (st :∀a b c,S a b->S b c->S a c) (hs :∀H,S H1 H->S H H) (hR :∀x y H H',S H H'->R x y H->R x y H')
  (htl :∀R:VK,R (.ref a) H1->tl σ H R) (hq :∀H,S H1 H->SqT K H a xs) (hn:xs.length<=sizeLine)
  (body :∀v∈xs,∀H,S H1 H->∀KT:VK,(∀y H',S H H'->R v y H'->KT y H')->∀KF:Hp->Prop,
   g v (cStG σ fr (A2 m none)) H λ σ6 H6=>∃us,us.length=m/\σ6=cStG σ fr us/\tc (cStG σ fr us) H6 λ b H2=>if b=true then te (cStG σ fr us) H2 KT else KF H2)
  (hQ :∀l H' ys,S H1 H'->H' l=none->All2 (λ x y=>R x y H') xs ys->Q (.ref l) (upd H' l (.lst ys))):tCompG (iTup K tl) m fr g tc te σ H Q:=by
 refine htl _ ⟨a,rfl,⟨xs,hq _ s0⟩,z2c s0 st (λ _=>true) (λ i y H=>R (xs[i]?.getD .non) y H) (λ i y H H' s z=>hR _ _ _ _ s z) (zd5 hs hq) hn (λ i o v H s e KT KF f n=>?_) λ l H' ys s h d=>hQ l H' ys s h ?_⟩
 ·refine body v (G0 e) H s KT (λ y H' k j=>f rfl y H' k ?_) KF;rw [e];exact j
 ·rw [List.filter_eq_self.mpr (λ _ _=>rfl)] at d;exact zfq (R:=λ x y=>R x y H') d
def Ris (xs:Array Nat):Prop:=xs.toList.Pairwise (· < ·)
theorem Ris.lt {xs:Array Nat} (r:Ris xs) {i k:Nat} (h:i < k) (hk:k < xs.size):xs[i]'(E8 h hk) < xs[k]:=by have:=(List.pairwise_iff_getElem.mp r) i k (by simpa using E8 h hk) (by simpa using hk) h;simpa using this
theorem zev {xs:Array Nat} {i d:Nat} (h:i < xs.size):xs.getD i d=xs[i]:=by simp [Array.getD,h]
theorem zc3 {xs:Array Nat} {j:Nat} (r:Ris xs) :∀(f lo hi:Nat),lo<=hi->hi<=xs.size->hi - lo<=f->(∀i (h:i < xs.size),i < lo->xs[i] < j)->(∀i (h:i < xs.size),hi<=i->j<=xs[i])->
  Q6 xs j f lo hi<=xs.size/\(∀i (h:i < xs.size),i < Q6 xs j f lo hi->xs[i] < j)/\(∀i (h:i < xs.size),Q6 xs j f lo hi<=i->j<=xs[i])
 | 0,lo,hi,h1,h2,h3,ha,hb=>by
  have:lo=hi:=by omega
  subst this;exact ⟨h2,ha,hb⟩
 | f + 1,lo,hi,h1,h2,h3,ha,hb=>by
  unfold Q6;by_cases z:lo < hi
  ·rw [if_pos z];have a:(lo + hi) / 2 < xs.size:=by omega
   dsimp only;rw [zev a];by_cases y:xs[(lo + hi) / 2] < j
   ·rw [if_pos y];refine zc3 r f _ _ (by omega) h2 (by omega) (λ i h b=>?_) hb;by_cases e:i=(lo + hi) / 2
    ·subst e;exact y
    ·exact E8 (r.lt (by omega) a) y
   ·rw [if_neg y];refine zc3 r f _ _ (by omega) (by omega) (by omega) ha λ i h b=>?_;by_cases e:i=(lo + hi) / 2
    ·subst e;omega
    ·exact C0 (Nat.not_lt.mp y) (R3 (r.lt (by omega) h))
  ·rw [if_neg z];have:lo=hi:=by omega
   subst this;exact ⟨h2,ha,hb⟩
theorem z6m {xs:Array Nat} (r:Ris xs) (j:Nat):N1 xs j<=xs.size/\(∀i (h:i < xs.size),i < N1 xs j->xs[i] < j)/\(∀i (h:i < xs.size),N1 xs j<=i->j<=xs[i]):=
 zc3 r _ _ _ (X1 _) (A0 _) (A0 _) (λ i h z=>absurd z (Y3 _)) (λ i h z=>absurd h (Nat.not_lt.mpr z))
theorem z7c {α:Type} (xs:Array α) (p:Nat) (x:α) (hp:p<=xs.size):(j9 xs p x).toList=xs.toList.take p++x :: xs.toList.drop p:=by unfold j9;simp [V4]
theorem Ris.insert {xs:Array Nat} (r:Ris xs) {j:Nat} (h:¬ xs[N1 xs j]? = some j):Ris (j9 xs (N1 xs j) j):=by
 obtain ⟨m,q,g⟩:=z6m r j;unfold Ris;rw [z7c _ _ _ m];refine List.pairwise_append.mpr ⟨r.sublist (List.take_sublist _ _),List.pairwise_cons.mpr ⟨λ y p=>?_,r.sublist (List.drop_sublist _ _)⟩,λ a v b f=>?_⟩
 ·obtain ⟨i,d,e⟩:=List.mem_drop_iff_getElem.mp p;have l:N1 xs j + i < xs.size:=by simpa [Nat.add_comm] using d
  have c:xs[N1 xs j + i]=y:=by simpa using e
  have le:=g _ l (by omega);rw [c] at le;rcases Nat.lt_or_eq_of_le le with z|z
  ·exact z
  ·exfalso;have f:N1 xs j < xs.size:=by omega
   have x:=g _ f (A0 _);have:xs[N1 xs j]=j:=by
    by_cases i0:i=0
    ·subst i0;exact c.trans z.symm
    ·have:=r.lt (show N1 xs j < N1 xs j + i by omega) l;rw [c] at this;omega
   exact h (by rw [B4 f,this])
 ·obtain ⟨i,d,e⟩:=List.mem_take_iff_getElem.mp v;have u:i < xs.size:=by have:=d;simp at this;omega
  have t:i < N1 xs j:=by have:=d;simp at this;omega
  have lt:=q i u t;have c:xs[i]=a:=by simpa using e
  rw [c] at lt;rcases List.mem_cons.mp f with z|z
  ·rw [z];exact lt
  ·obtain ⟨k,w,n⟩:=List.mem_drop_iff_getElem.mp z;have o:N1 xs j + k < xs.size:=by simpa [Nat.add_comm] using w
   have s:xs[N1 xs j + k]=b:=by simpa using n
   have:=g _ o (by omega);rw [s] at this;omega
theorem zi0 (n:Nat):Ris (Array.range n):=by unfold Ris;rw [Array.toList_range];exact j2e
def z9s (t:B3) (j:Nat):Prop:=¬ t.place[N1 t.place j]? = some j
theorem za0 {t:B3} {j:Nat} (h :∀i,t.slot j≠.live i):z9s t j:=λ e=>by refine h (N1 t.place j) ?_;unfold SetTable.slot;dsimp only;rw [if_pos (by rw [e];exact beq_self_eq_true _)]
theorem z6a {t:B3} {hs:Nat->Int} {h:Int} :∀(f:Nat) (p:SetTable.Probe) (j:Nat) (d:Option Nat),(∀k,p.dummy=some k->z9s t k)->j0f t hs h f p=some (.empty j d)->z9s t j/\∀k,d=some k->z9s t k
 | 0,p,j,d,hd,e=>by cases e
 | f + 1,p,j,d,hd,e=>by
  unfold j0f at e;cases q:t.slot p.j with
  | empty=>rw [q] at e;cases e;exact ⟨za0 (λ i z=>by rw [q] at z;cases z),hd⟩
  | dummy=>rw [q] at e;refine z6a f _ j d (λ k z=>?_) e;unfold j3d at z;dsimp only at z;split at z<;>(cases z;exact za0 λ i z=>by rw [q] at z;cases z)
  | live i=>
   rw [q] at e;dsimp only at e;split at e
   ·cases e
   ·refine z6a f _ j d (λ k z=>?_) e;unfold j3d at z;dsimp only at z;split at z<;>exact hd k z
theorem zdz {t:B3} {h:Int} {s:Nat} {b:Bool} (e:t.freeSlot h=some (s,b)):z9s t s:=by
 unfold SetTable.freeSlot at e;cases q:t.probe (λ _=>h + 1) h (t.probeStart h) with
 | none=>rw [q] at e;cases e
 | some m=>
  rw [q] at e;cases m with
  | candidate a b c=>cases e
  | empty j d=>
   have:=z6a _ _ j d (λ k z=>by cases z) q;cases e;cases d with
   | none=>exact this.1
   | some k=>exact this.2 k rfl
def Tidy (l:Bool) (t:B3):Prop:=t.led=l/\Ris t.place
theorem Tidy.standIn {l:Bool} {t:B3} (h:Tidy l t) (n:Nat):Tidy l (t.standIn n):=⟨h.1,zi0 n⟩
theorem Tidy.layNew {l:Bool} {t:B3} (h:Tidy l t) (es:Array (Int×Value)) (k:Int) (x:Value):Tidy l (layNew t es k x).2.1:=by
 unfold PySem.layNew;cases q:t.freeSlot k with
 | none=>exact h.standIn _
 | some s=>
  obtain ⟨s,b⟩:=s;dsimp only;have a:Tidy l (t.put s).1:=⟨h.1,Ris.insert h.2 (zdz q)⟩
  unfold SetTable.orStandIn;split
  ·exact a
  ·exact a.standIn _
theorem Tidy.relayAll {l:Bool} {t:B3} (h:Tidy l t) (es:Array (Int×Value)) (n:Nat):Tidy l (j32 t es n).2.1:=by
 unfold PySem.relayAll;cases q:t.relaid (es.map (·.1)) n with
 | none=>exact h.standIn _
 | some p=>
  obtain ⟨k,o⟩:=p;dsimp only;split
  ·unfold SetTable.relaid SetTable.laid at q;cases q2:SetTable.layClean (SetTable.sizeAbove n - 1) (es.map (·.1)) with
   | none=>rw [q2] at q;cases q
   | some ow=>rw [q2] at q;cases q;refine ⟨h.1,?_⟩;show (List.map _ _).Pairwise _;rw [V9];refine List.Pairwise.filterMap _ (λ a b e c g d i=>?_) (j2e);obtain ⟨r,_,j⟩:=Option.map_eq_some_iff.mp g;obtain ⟨m,_,f⟩:=Option.map_eq_some_iff.mp i;rw [<-j,<-f];exact e
  ·exact h.standIn _
theorem Ris.next {xs:Array Nat} (r:Ris xs) {i:Nat} (h:i < xs.size):N1 xs (xs[i] + 1)=i + 1:=by
 obtain ⟨d,b,c⟩:=z6m r (xs[i] + 1);apply Nat.le_antisymm
 ·apply R6;intro z;have a:i + 1 < xs.size:=by omega
  have:=b (i + 1) a z;have:=r.lt (show i < i + 1 by omega) a;omega
 ·apply R6;intro z;have:=c i h (by omega);omega
theorem Ris.first {xs:Array Nat} (r:Ris xs):N1 xs 0=0:=by obtain ⟨b,a,c⟩:=z6m r 0;apply Nat.eq_zero_of_not_pos;intro z;exact absurd (a 0 (by omega) z) (Y3 _)
end L2
set_option maxHeartbeats 1000000
namespace L2
open PySem PySem.Spec PyProof.Rows
noncomputable def intOf:Value->Int
 | .int i _=>i
 | _=>0
theorem z8a {vs:List Value} {ns:List Int} (h:c3 vs ns):ns=vs.map intOf/\∀v∈vs,∃i t,v=.int i t:=by
 induction h with
 | nil=>exact ⟨rfl,λ v a=>by cases a⟩
 | cons n t r ih=>
  refine ⟨by rw [ih.1];rfl,λ v a=>?_⟩;rcases List.mem_cons.mp a with e|a
  ·exact ⟨n,t,e⟩
  ·exact ih.2 v a
theorem zfu :∀vs:List Value,(∀v∈vs,∃i t,v=.int i t)->c3 vs (vs.map intOf)
 | [],_=>.nil
 | v :: vs,h=>by obtain ⟨i,t,e⟩:=h v (.head _);subst e;exact .cons i t (zfu vs λ v a=>h v (.tail _ a))
theorem z5p {vs vs':List Value} {ns:List Int} (h:c3 vs ns) (p:vs'.Perm vs) :∃ns',c3 vs' ns'/\ns'.Perm ns:=by obtain ⟨e,k⟩:=z8a h;refine ⟨vs'.map intOf,zfu vs' λ v a=>k v (p.mem_iff.mp a),?_⟩;rw [e];exact p.map _
theorem zgl {vs:List Value} {ns:List Int} (h:c3 vs ns):ns.length=vs.length:=by rw [(z8a h).1,D0]
theorem zjf {vs:List Value} {ns:List Int} (h:c3 vs ns) (n:Int) (t:Tok):c3 (vs++[.int n t]) (ns++[n]):=by
 induction h with
 | nil=>exact .cons n t .nil
 | cons m u r ih=>exact .cons m u ih
section
variable {prog:Program} {w:S0} {A:L1} {E:Value->u0->Prop} {s:u0}
def SetAt (prog:Program) (w:S0) (l:Bool) (h:Heap) (a:Addr) (ns:List Int):Prop:=
 ∃es ep t,h.get? a=some { cls:=.type "set",dict:=none,data:=.set es ep t,slots:=#[] }/\ElemsOf (O5 prog w) es.toList/\c3 (es.toList.map (·.2)) ns/\ns.Nodup/\es.size < scanBound/\t.fits es.size=true/\Tidy l t
theorem zcl {l:Bool} {h:Heap} {a:Addr} {es0 es:Array (Int×Value)} {ep:Nat} {t0 t:B3} {ns:List Int} (ho:h.get? a=some { cls:=.type "set",dict:=none,data:=.set es0 ep t0,slots:=#[] })
  (hel:ElemsOf (O5 prog w) es.toList) (hi:c3 (es.toList.map (·.2)) ns) (nd:ns.Nodup) (hb:es.size < scanBound) (hf:t.fits es.size=true) (ht:Tidy l t) :
  (h.update a (P9 es t)).get? a=some { cls:=.type "set",dict:=none,data:=.set es (ep + 1) t,slots:=#[] }/\SetAt prog w l (h.update a (P9 es t)) a ns:=by
 have g:(h.update a (P9 es t)).get? a=some { cls:=.type "set",dict:=none,data:=.set es (ep + 1) t,slots:=#[] }:=P2 (P9 es t) ho rfl;exact ⟨g,es,ep + 1,t,g,hel,hi,nd,hb,hf,ht⟩
theorem zkn {es:List (Int×Value)} {ns:List Int} {v:Int} (hi:c3 (es.map (·.2)) ns) (h:es.findIdx? (λ e=>(O5 prog w).is v e.2)=none):¬ v∈ns:=λ a=>by
 obtain ⟨e,k⟩:=z8a hi;rw [e] at a;obtain ⟨y,b,d⟩:=List.mem_map.mp a;obtain ⟨p,j,f⟩:=List.mem_map.mp b;obtain ⟨i,t,c⟩:=k y b;have:=List.findIdx?_eq_none_iff.mp h p j;have g:v=i:=by rw [<-d,c];rfl
 have:(O5 prog w).is v p.2=false:=by simpa using this
 rw [f,c,g,intKind_is] at this;cases this
theorem znj {es:List (Int×Value)} {ns:List Int} {v:Int} {j:Nat} (hi:c3 (es.map (·.2)) ns) (h:es.findIdx? (λ e=>(O5 prog w).is v e.2)=some j):v∈ns:=by obtain ⟨b,a,_⟩:=List.findIdx?_eq_some_iff_getElem.mp h;obtain ⟨t,e⟩:=Value.isInt_shape (show j37 v es[j].2=true from a);rw [(z8a hi).1];exact List.mem_map.mpr ⟨es[j].2,List.mem_map.mpr ⟨es[j],Q4 b,rfl⟩,by rw [e];rfl⟩
theorem zek {ns:List Int} {v:Int} (h:ns.Nodup) (n:¬ v∈ns):(ns++[v]).Nodup:=by refine List.nodup_append.mpr ⟨h,by simp,λ a c b d e=>?_⟩;rw [List.mem_singleton.mp d] at e;exact n (e ▸ c)
noncomputable def addI (ns:List Int) (v:Int):List Int:=if v∈ns then ns else ns++[v]
theorem zni {l:Bool} {a:Addr} {v:Int} {tk:Tok} {ns:List Int} {Q:Bool->u0->Prop} (hS:SetAt prog w l s.heap a ns) (hroom:ns.length + 1 < scanBound)
  (h :∀b h' ns',X4 a s.heap h'->SetAt prog w l h' a ns'->ns'.Perm (addI ns v)->Q b { s with heap:=h' }):L0 (X0 prog w) A (setAddHashed a (.int v tk) ((O5 prog w).hash v)) Q E s:=by
 obtain ⟨f,ep,t,m,p,k,P,V,F,X⟩:=hS;have a1:f.size=ns.length:=by rw [zgl k,D0,v2]
 have Y:(O5 prog w).is v (.int v tk)=true:=intKind_is prog w v tk;unfold setAddHashed setAddHashedIn;refine Z1 (c0 (N5 m rfl F ?_));dsimp only;rw [byScan_of rfl V p];simp only [↓reduceIte];unfold setAddByScan;refine c0 (c0 (D6 (c0 (wpAny_setScan_of Y m rfl F p ?_))));cases hr:List.findIdx? (λ e=>(O5 prog w).is v e.2) f.toList with
 | some j=>refine x0 (x0 ?_);have:=h false s.heap ns (Heap.SameBut.refl a s.heap) ⟨f,ep,t,m,p,k,P,V,F,X⟩ (by unfold addI;rw [if_pos (znj k hr)]);exact this
 | none=>
  dsimp only;have g:=layNew_perm t f ((O5 prog w).hash v) (.int v tk);have D:=layNew_fits t f ((O5 prog w).hash v) (.int v tk);have u:=X.layNew f ((O5 prog w).hash v) (.int v tk);generalize layNew t f ((O5 prog w).hash v) (.int v tk)=L at g D u⊢;obtain ⟨c,d,wd,Z⟩:=L;dsimp only at g D u⊢;rw [Array.toList_push] at g;have K:ElemsOf (O5 prog w) c.toList:=(p.push Y rfl).perm g;have y :∃i,c3 (c.toList.map (·.2)) i/\i.Perm (ns++[v]):=z5p (zjf k v tk) (by have:=g.map (λ e:Int×Value=>e.2);rwa [j1] at this);obtain ⟨i,y,B⟩:=y;have M:=zkn k hr;have O:i.Nodup:=B.nodup_iff.mpr (zek P M);have U:addI ns v=ns++[v]:=if_neg M;have H:c.size < scanBound:=by rw [<-v2,g.length_eq,F0,v2,a1];exact hroom
  have J :∀(b:Bool) {I:u0} {Q':Unit->u0->Prop},Q' () I->L0 (X0 prog w) A (match b with|true=>rule "set.scan.the-table-gave-way" | false=>V2 ()) Q' E I:=λ b I Q' q=>by cases b with|false=>exact x0 q|true=>exact D6 q
  have a2:L0 (X0 prog w) A (do
    storeSet a c d
    if (!wd && d.tooFull)=true then do
      (match (j32 d c (n5 c.size)).2.2 with|true=>rule "set.scan.the-table-gave-way" | false=>V2 ())
      storeSet a (j32 d c (n5 c.size)).1 (j32 d c (n5 c.size)).2.1
      V2 (some true)
     else V2 (some true)) (λ r o=>∃b,r=some b/\Q b o) E s:=by
   obtain ⟨S,S1⟩:=zcl (prog:=prog) (w:=w) m K y O H D u;have N:=O2 s.heap a (P9 c d);refine c0 (wpAny_storeSet_of m rfl ?_ (j0b H));split
   ·have n:=relayAll_perm d c (n5 c.size);have C:=relayAll_fits d c (n5 c.size);have G:=u.relayAll c (n5 c.size);generalize j32 d c (n5 c.size)=L2 at n C G⊢;obtain ⟨a0,t2,g2⟩:=L2;dsimp only at n C G⊢;obtain ⟨a3,a4,R⟩:=z5p y (n.map (λ e:Int×Value=>e.2));have T:a0.size < scanBound:=by rw [<-v2,n.length_eq,v2];exact H
    refine c0 (J g2 (c0 (wpAny_storeSet_of S rfl ?_ (j0b T))));obtain ⟨_,S2⟩:=zcl (prog:=prog) (w:=w) S (K.perm n) a4 (R.nodup_iff.mpr O) T C G;exact x0 ⟨true,rfl,h true _ a3 (N.trans (O2 _ a _)) S2 (by rw [U];exact R.trans B)⟩
   ·exact x0 ⟨true,rfl,h true _ i N S1 (by rw [U];exact B)⟩
  refine c0 (J Z ?_);have W:=M3 a2 (Q':=λ r o=>L0 (X0 prog w) A (match r with|some added=>V2 added|none=>setAddHashedIn a (.int v tk) ((O5 prog w).hash v) 99999) Q E o) (E':=E) (λ r o x=>by obtain ⟨b,e,q⟩:=x;subst e;exact x0 q) (λ e o x=>x);by_cases z:d.plain=true
  ·rw [if_pos z];exact c0 (K9 (show hashByValue 8 (L6 v tk)=V2 true from rfl) W)
  ·rw [if_neg z];exact c0 (x0 W)
end
theorem zil {ns ms:List Int} (p:ns.Perm ms) (v:Int):(addI ns v).Perm (addI ms v):=by
 unfold addI;by_cases z:v∈ns
 ·rw [if_pos z,if_pos (p.mem_iff.mp z)];exact p
 ·rw [if_neg z,if_neg (λ y=>z (p.mem_iff.mpr y))];exact p.append_right [v]
theorem z4f :∀(vs:List Int) {ns ms:List Int},ns.Perm ms->(vs.foldl addI ns).Perm (vs.foldl addI ms)
 | [],_,_,p=>p
 | v :: vs,_,_,p=>z4f vs (zil p v)
theorem zft (ns:List Int) (v:Int):(addI ns v).length<=ns.length + 1:=by
 unfold addI;split
 ·exact B2 _
 ·rw [F0];exact A0 _
section
variable {prog:Program} {w:S0} {A:L1} {E:Value->u0->Prop} {s:u0}
theorem SetAt.at' {l:Bool} {h h':Heap} {a:Addr} {ns:List Int} (k :∀o,h.get? a=some o->h'.get? a=some o) (x:SetAt prog w l h a ns):SetAt prog w l h' a ns:=by obtain ⟨c,b,t,e,r⟩:=x;exact ⟨c,b,t,k _ e,r⟩
theorem zia (a:Args):(i7 "set.update.loop" a).quiet=true:=j03 (by decide +kernel) _
theorem zd3 {b:Bool} {S it l:Addr} {items:Array Value} (nsi:S≠it) (nsl:S≠l) (nil':it≠l) :∀(ms:List Int) (i:Nat) (ns:List Int) (A:L1) (R:j16->u0->Prop) (s:u0),A.handled=none->s.heap.IsTupleIter it l i->s.heap.IsTuple l items->
  c3 (items.toList.drop i) ms->SetAt prog w b s.heap S ns->ns.length + ms.length < scanBound->
  (∀h' tk ns',SetAt prog w b h' S ns'->ns'.Perm (ms.foldl addI ns)->(∀c o,c≠S->c≠it->s.heap.get? c=some o->h'.get? c=some o)->R (.ok (.ret .none)) { s with heap:=h',toks:=tk })->
  u5 (X0 prog w) A (i7 "set.update.loop" { pos:=[.ref S,.ref it],kw:=[] }) R s
 | [],i,ns,A,R,s,hh,si,sl,al,dd,hz,q=>by
  have H:items[i]? = none:=by
   cases hd:items.toList.drop i with
   | nil=>have:=List.drop_eq_nil_iff.mp hd;rw [v2] at this;exact G3 this
   | cons u us=>rw [hd] at al;cases al
  refine Z3 j42 ?_;show L0 _ _ (E6 (.ref it) >>= _) _ _ s;refine c0 (V8 (show (A.under _).handled=none from hh) si sl H λ h' v=>?_);exact x0 (q h' s.toks ns (dd.at' λ o e=>v S o nsi e) (m5 _) λ c o _ J e=>v c o J e)
 | m :: ms,i,ns,A,R,s,hh,si,sl,al,dd,hz,q=>by
  cases hd:items.toList.drop i with
  | nil=>rw [hd] at al;cases al
  | cons u us=>
   rw [hd] at al;cases al with
   | cons _ tk al=>
    have x:items.toList[i]? = some (.int m tk):=by have:=congrArg (λ l=>l[0]?) hd;simpa using this
    have I:items[i]? = some (.int m tk):=by simpa using x
    have F:items.toList.drop (i + 1)=us:=by have:=congrArg List.tail hd;simpa using this
    refine Z3 j42 ?_;show L0 _ _ (E6 (.ref it) >>= _) _ _ s;refine c0 (M8 si sl I λ f E g=>?_);have y:f.IsTuple l items:=by obtain ⟨o,d,a⟩:=sl;exact ⟨o,(g.2 l (J2 nil')).trans d,a⟩
    have z:SetAt prog w b f S ns:=dd.at' λ o e=>(g.2 S nsi).trans e;rw [Z0] at hz;refine c0 (Z1 (show L0 _ _ (setAdd S (.int m tk)) _ _ _ from ?_));unfold setAdd;refine Z1 (c0 ((O5 prog w).pyHash (k:=m) (intKind_is prog w m tk) ?_));refine zni (s:={ s with heap:=f,toks:=s.toks + 1 }) z (B1 (by omega) hz) λ c h r j M p=>?_;refine x0 ⟨zia _,?_⟩;have D:h.IsTupleIter it l (i + 1):=by obtain ⟨o,d,a⟩:=E;exact ⟨o,(j.2 it (J2 nsi)).trans d,a⟩
    have K:h.IsTuple l items:=by obtain ⟨o,d,a⟩:=y;exact ⟨o,(j.2 l (J2 nsl)).trans d,a⟩
    have N:r.length<=ns.length + 1:=by rw [p.length_eq];exact zft ns m
    refine zd3 nsi nsl nil' ms (i + 1) r A R { s with heap:=h,toks:=s.toks + 1 } hh D K (by rw [F];exact al) M (by omega) λ h' L ns' C G B=>q h' L ns' C (G.trans (z4f ms p)) λ c o n t e=>B c o n t ((j.2 c n).trans ((g.2 c t).trans e))
noncomputable def set0 (w:S0):Obj:={ cls:=.type "set",dict:=none,data:=.set #[] 0 (.fresh 0 0 (!w.params.followText "set-order")) }
theorem zma (a:Value) {Q₁:Value->u0->Prop} (h:Q₁ (.ref s.heap.objs.size) { s with heap:=s.heap.push (set0 w) }):u5 (X0 prog w) A (.call (.builtin "set.__new__") ⟨[.type "set",a],[]⟩) (wants Q₁ E) s:=by refine codeAny_call_builtin F.plain_set_new F.entry_set_new (K9 (F.newCall_set_1 a) ?_);show L0 _ _ (Builtin.Frozenset.newClass "set" ⟨[.type "set",a],[]⟩ >>= _) _ _ _;refine c0 (c0 (show L0 _ _ (V2 true) _ _ _ from x0 ?_));show L0 _ _ (isSubtype (.type "set") (.type "set") >>= _) _ _ _;refine c0 (K9 sub_set_self ?_);refine x0 ?_;show L0 _ _ (newSet (.type "set") >>= _) _ _ _;unfold newSet setsByText;refine c0 (c0 (c0 (j14 (x0 ?_))));exact c0 (wpAny_alloc (x0 (x0 h)))
theorem zmk {h:Heap} {a:Addr} (e:h.get? a=some (set0 w)):SetAt prog w (!w.params.followText "set-order") h a []:=
 ⟨#[],0,_,e,λ x b=>by simp at b,.nil,B7,by decide,by rfl,rfl,J8⟩
theorem zgi:isSubtype (.type "tuple") (.type "set")=V2 false:=by rw [M9];kernel_rfl
theorem zeg:isSubtype (.type "tuple") (.type "frozenset")=V2 false:=by rw [M9];kernel_rfl
theorem zdp {l:Addr} {items:Array Value} {ns:List Int} {Q:Value->u0->Prop} (hh:A.handled=none) (ht:s.heap.IsTuple l items) (hi:c3 items.toList ns) (hb:ns.length < scanBound)
  (h :∀h' tk ns',SetAt prog w (!w.params.followText "set-order") h' s.heap.objs.size ns'->ns'.Perm (ns.foldl addI [])->(∀b o,s.heap.get? b=some o->h'.get? b=some o)->Q (.ref s.heap.objs.size) { s with heap:=h',toks:=tk }) :
  L0 (X0 prog w) A (call (.type "set") [.ref l]) Q E s:=by
 obtain ⟨c,P,U⟩:=F.called_set.mro;have N:=F.called_set.made;have a0:=F.called_set.sub;refine wpAny_call (codeAny_of_tree (show L0 _ _ (callAny (.type "set") _) _ _ _ from x0 ⟨Code.quiet_builtin _ (by decide +kernel),Z3 F.entry_type_call ?_⟩));rw [Around.under_plain (weight_type_call_type "set" [.ref l] []) rfl];have K:=F.called_set.notType;have X:=F.called_set.canCreate;have M:=F.typeCall_set_1 (.ref l)
 (repeat (any_goals (first|assumption|wp_step)));refine P6 (zma (.ref l) (E:=E) (Q₁:=λ m q=>m=.ref s.heap.objs.size/\q={ s with heap:=s.heap.push (set0 w) }) ⟨rfl,rfl⟩) λ r q d=>?_
 cases r with
 | error e=>exact d
 | ok fl=>
  cases fl with
  | next=>exact d.elim
  | brk=>exact d.elim
  | cont=>exact d.elim
  | ret m=>
   obtain ⟨rfl,rfl⟩:=d;have i:(s.heap.push (set0 w)).get? s.heap.objs.size=some (set0 w):=M0 _ rfl;have C:M6 { s with heap:=s.heap.push (set0 w) } (.ref s.heap.objs.size) "set":=⟨_,i,rfl⟩
   have R:=F.called_set.init.lookup;have O:=F.called_set.init.bind (.ref s.heap.objs.size)
   (repeat (any_goals (first|assumption|wp_step)))
   have I:u5 (X0 prog w) A.in1 (.call (.builtin "set.__init__") ⟨[.ref s.heap.objs.size,.ref l],[]⟩) (wants (λ r p=>r=.none/\Q (.ref s.heap.objs.size) p) E) { s with heap:=s.heap.push (set0 w) }:=by
    refine codeAny_call_builtin F.called_set.init.plain F.entry_set_init (check_set_init_1 C ?_);obtain ⟨o,f,u,n,j⟩:=ht;obtain ⟨W,z,V,v⟩:=o;dsimp only at u j;subst u j;have J:(s.heap.push (set0 w)).get? l=some { cls:=.type "tuple",dict:=z,data:=.seq items n,slots:=v }:=y0 _ f;have T:=zgi;have L:=zeg;have Z:(V3 "tuple" == V3 "dict")=false:=by decide
    have Y:(s.heap.push (set0 w)).get? s.heap.objs.size=some { cls:=.type "set",dict:=none,data:=.set #[] 0 (.fresh 0 0 (!w.params.followText "set-order")),slots:=#[] }:=i;have D:(s.heap.push (set0 w)).IsTuple l items:=⟨_,J,rfl,n,rfl⟩
    have k:l < s.heap.objs.size:=N0 f;unfold A5.«set.__init__» noKeywords Builtin.Frozenset.updateFrom;generalize hPI:j33=PI
    wp_walk
    subst hPI;refine C4 D (c0 (wpAny_runValue ?_));have t :∀b o,s.heap.get? b=some o->((s.heap.push (set0 w)).push { cls:=.type "tuple_iterator",data:=.fields #[.ref l,.int 0 0] }).get? b=some o:=λ b o e=>y0 _ (y0 _ e);have g:(s.heap.push (set0 w)).objs.size=s.heap.objs.size + 1:=m3 _ _;refine zd3 (S:=s.heap.objs.size) (it:=(s.heap.push (set0 w)).objs.size) (l:=l) (items:=items) (by rw [g];exact V0 (V1 _)) (y3 k) (by rw [g];exact y3 (F1 k)) ns 0 [] _ _ _ (by simp [hh]) ⟨_,M0 _ rfl,rfl,rfl⟩ ⟨_,t _ _ f,rfl,n,rfl⟩ (by rw [u4];exact hi) (zmk (y0 _ i)) (by simpa using hb) λ h' tk ns' x G y=>?_;refine x0 (x0 ⟨rfl,h h' tk ns' x G λ b o e=>y b o (V0 (N0 e)) (by rw [g];exact V0 (F1 (N0 e))) (t b o e)⟩)
   refine P6 I λ B p a=>?_;cases B with
   | error e=>exact a
   | ok f2=>
    cases f2 with
    | next=>exact a.elim
    | brk=>exact a.elim
    | cont=>exact a.elim
    | ret r=>obtain ⟨rfl,H⟩:=a;exact x0 (x0 H)
end
theorem si_next:Slot "set_iterator" "__next__" "set_iterator.__next__":=.of (owner:="set_iterator") (n:="__next__") (by rw [typeLookup_type,builtinLookup_eq_fast];kernel_rfl) (by decide +kernel) (by decide +kernel) (by decide +kernel) (by first|exact .inl (by decide +kernel)|exact .inr (by decide +kernel)) (by rw [M9];kernel_rfl)
theorem zjp:Slot "set_iterator" "__iter__" "set_iterator.__iter__":=.of (owner:="set_iterator") (n:="__iter__") (by rw [typeLookup_type,builtinLookup_eq_fast];kernel_rfl) (by decide +kernel) (by decide +kernel) (by decide +kernel) (by first|exact .inl (by decide +kernel)|exact .inr (by decide +kernel)) (by rw [M9];kernel_rfl)
theorem z1p:entryFor table "set_iterator.__next__" = some A5.«set_iterator.__next__»:=entryFor_of_tree (by kernel_rfl)
theorem zag:entryFor table "set_iterator.__iter__" = some A5.«dict_keyiterator.__iter__»:=entryFor_alias (id':="dict_keyiterator.__iter__") (by kernel_rfl) rfl (by decide +kernel) (by kernel_rfl)
theorem z8b:entryFor table "set.__iter__" = some A5.«frozenset.__iter__»:=entryFor_alias (id':="frozenset.__iter__") (by kernel_rfl) rfl (by decide +kernel) (by kernel_rfl)
theorem zfn:Manifest.owners.lookup (String.ofList ['r','o','t','a','r','e','t','i','_','t','e','s'].reverse)=some Manifest.sig_set_iterator:=by kernel_rfl
theorem z28 (a:Value):argsOk "set_iterator.__next__" ⟨[a],[]⟩:=by unfold argsOk;rw [signature?_of (id:="set_iterator.__next__") (n:=['_','_','t','x','e','n','_','_']) (o:=['r','o','t','a','r','e','t','i','_','t','e','s']) (by kernel_rfl) zfn];kernel_rfl
theorem zba (a:Value):argsOk "set_iterator.__iter__" ⟨[a],[]⟩:=by unfold argsOk;rw [signature?_of (id:="set_iterator.__iter__") (n:=['_','_','r','e','t','i','_','_']) (o:=['r','o','t','a','r','e','t','i','_','t','e','s']) (by kernel_rfl) zfn];kernel_rfl
theorem z71 {α:Type} :∀(xs:List α) (i:Nat) (h:i < xs.length),(xs[i] :: xs.eraseIdx i).Perm xs
 | x :: xs,0,_=>m5 _
 | x :: xs,i + 1,h=>(List.Perm.swap x _ _).trans ((z71 xs i (by simpa using h)).cons x)
theorem zcj {α:Type} (nx:Nat->Nat) :∀(f k:Nat) (xs:List α) (out:Array α),xs.length<=f->(pickOrder.go nx f k xs out).toList.Perm (out.toList++xs)
 | 0,k,xs,out,h=>by have:xs=[]:=List.length_eq_zero_iff.mp (Nat.le_zero.mp h);subst this;rw [Y1];exact m5 _
 | f + 1,k,xs,out,h=>by
  unfold pickOrder.go;cases xs with
  | nil=>rw [Y1];exact m5 _
  | cons x xs=>have lt:nx k % (x :: xs).length < (x :: xs).length:=Nat.mod_lt _ (by simp);rw [B0 lt];dsimp only;have:=zcj nx f (k + 1) ((x :: xs).eraseIdx (nx k % (x :: xs).length)) (out.push (x :: xs)[nx k % (x :: xs).length]) (by rw [j12 lt];simp at h⊢;omega);refine this.trans ?_;rw [Array.toList_push,K3];refine List.Perm.append_left _ ?_;exact z71 _ _ lt
theorem z8k {α:Type} (nx:Nat->Nat) (xs:Array α):(pickOrder nx xs).toList.Perm xs.toList:=by have:=zcj nx xs.size 0 xs.toList #[] (by simp);simpa [pickOrder] using this
section
variable {prog:Program} {w:S0} {A:L1} {E:Value->u0->Prop} {s:u0}
noncomputable abbrev setO (es:Array (Int×Value)) (ep:Nat) (t:B3):Obj:={ cls:=.type "set",dict:=none,data:=.set es ep t,slots:=#[] }
theorem zch {Q:Bool->u0->Prop} (q:Q (w.params.followText "set-order") s):L0 (X0 prog w) A setsByText Q E s:=by unfold setsByText;exact c0 (j14 (x0 q))
theorem z68 {S:Addr} {es:Array (Int×Value)} {ep:Nat} {t:B3} {slot i:Nat} {Q:Option (Value×Nat)->u0->Prop} (hx:w.params.followText "set-order" = true) (ho:s.heap.get? S=some (setO es ep t)) (hf:t.fits es.size=true)
  (q:Q (((pickOrder (w.params.setOrder S ep) es)[i]?).map λ e=>(e.2,slot)) s):L0 (X0 prog w) A (S9 S slot i ep) Q E s:=by
 unfold S9;refine c0 (N5 ho rfl hf (c0 (zch ?_)));rw [hx];dsimp only;rw [if_pos rfl,if_neg (by simp)];refine c0 ?_;unfold setWalk;refine c0 (N5 ho rfl hf (c0 (zch ?_)));rw [hx];refine c0 (j14 ?_);exact x0 (x0 q)
theorem z5a {S:Addr} {es:Array (Int×Value)} {ep:Nat} {t:B3} {slot i k:Nat} {Q:Option (Value×Nat)->u0->Prop} (hx:w.params.followText "set-order" = false) (ho:s.heap.get? S=some (setO es ep t)) (hf:t.fits es.size=true) (hl:t.led=true)
  (hd:(!t.plain && decide (es.size > 1))=false) (hk:N1 t.place slot=k)
  (q:Q (match es[k]?,t.place[k]? with|some (_,x),some j=>some (x,j + 1)|_,_=>none) s):L0 (X0 prog w) A (S9 S slot i ep) Q E s:=by
 unfold S9;refine c0 (N5 ho rfl hf (c0 (zch ?_)));rw [hx];dsimp only;rw [if_neg (by decide)];show L0 _ _ (if (!t.plain && decide (es.size > 1))=true then _ else _) _ _ _;rw [hd,if_neg (by decide)];show L0 _ _ ((if (!t.led && !es.isEmpty)=true then _ else _) >>= _) _ _ _;rw [hl,if_neg (by simp),hk];exact c0 (x0 (x0 q))
theorem stops {h1:Heap} {Q:Option Value->u0->Prop} (hh:A.handled=none) (q :∀h',(∀b o,h1.get? b=some o->h'.get? b=some o)->Q none { s with heap:=h' }) :
  L0 (X0 prog w) A.in1 (do raiseNew (<-newExc (.type "StopIteration") [])) (λ (fin:j00) s'=>∃v,fin=.done (.ret v)/\L0 (X0 prog w) A (V2 (some v)) Q E s')
   (λ e s'=>L0 (X0 prog w) A (do if <-isInstance e (.type "StopIteration") then V2 none else throw e) Q E s') { s with heap:=h1 }:=by
 refine c0 ?_;simp only [newExc,newTuple];refine c0 (C2 (c0 (m:=N9 _ _) (K9 (a:=K2) (by first|rfl|(simp only [N9];rfl)) (C2 ?_ (by size_fits)))) (by size_fits));simp only [raiseNew];refine c0 (wpAny_handled ?_);rw [show A.in1.handled=none from hh];refine c0 (x0 (j1d ?_));refine c0 (c5 (T:="StopIteration") (b:=true) ⟨_,M0 _ rfl,rfl⟩ isSubtype_stop ?_);exact x0 (q _ λ b o e=>y0 _ (y0 _ e))
noncomputable abbrev setItO (first:Value) (i:Nat) (S:Addr) (n ep:Nat):Obj:={ cls:=.type "set_iterator",data:=.fields #[first,.int i 0,.ref S,.int n 0,.int ep 0] }
theorem zmv {it S:Addr} {es:Array (Int×Value)} {ep i slot slot':Nat} {t:B3} {x:Value} {Q:Option Value->u0->Prop} (hi:s.heap.get? it=some (setItO (.int slot 0) i S es.size ep)) (ho:s.heap.get? S=some (setO es ep t)) (hf:t.fits es.size=true)
  (hn :∀(A:L1) (E:Value->u0->Prop) (Q:Option (Value×Nat)->u0->Prop),Q (some (x,slot')) s->L0 (X0 prog w) A (S9 S slot i ep) Q E s)
  (q :∀h',X4 it s.heap h'->h'.get? it=some (setItO (.int slot' 0) (i + 1) S es.size ep)->Q (some x) { s with heap:=h' }):L0 (X0 prog w) A (E6 (.ref it)) Q E s:=by
 have b:s.TypeIs (.ref it) "set_iterator":=⟨_,hi,rfl⟩
 unfold E6;refine c0 (J5 (W2 (name:=Q1 "__next__") b si_next (T2 si_next b z1p ?_ (z28 _))));unfold A5.«set_iterator.__next__»;refine c0 (show L0 _ _ (V2 (v1 it,[])) _ _ _ from x0 ?_);refine c0 (L9 hi rfl ?_);dsimp only;refine c0 (o6 ho rfl hf ?_);rw [if_neg (by simp)];refine c0 (hn _ _ _ ?_);dsimp only;refine c0 (Z4 hi rfl (by simp) ?_);have a:(s.heap.update it (G2 (·.setIfInBounds 0 (d5 slot')))).get? it=some (setItO (.int slot' 0) i S es.size ep):=P2 _ hi rfl;refine c0 (Z4 (s:={ s with heap:=s.heap.update it (G2 (·.setIfInBounds 0 (d5 slot'))) }) a rfl (by simp) ?_);have c:((s.heap.update it (G2 (·.setIfInBounds 0 (d5 slot')))).update it (G2 (·.setIfInBounds 1 (d5 ((i:Int) + 1))))).get? it=some (setItO (.int slot' 0) (i + 1) S es.size ep):=P2 _ a rfl;exact x0 ⟨x,rfl,x0 (q _ ((O2 ..).trans (O2 ..)) c)⟩
theorem si_end {it S:Addr} {es:Array (Int×Value)} {ep i slot:Nat} {t:B3} {Q:Option Value->u0->Prop} (hh:A.handled=none) (hi:s.heap.get? it=some (setItO (.int slot 0) i S es.size ep)) (ho:s.heap.get? S=some (setO es ep t)) (hf:t.fits es.size=true)
  (hn :∀(A:L1) (E:Value->u0->Prop) (Q:Option (Value×Nat)->u0->Prop),Q none s->L0 (X0 prog w) A (S9 S slot i ep) Q E s)
  (q :∀h',j41 it s.heap h'->Q none { s with heap:=h' }):L0 (X0 prog w) A (E6 (.ref it)) Q E s:=by
 have c:s.TypeIs (.ref it) "set_iterator":=⟨_,hi,rfl⟩
 unfold E6;refine c0 (J5 (W2 (name:=Q1 "__next__") c si_next (T2 si_next c z1p ?_ (z28 _))));unfold A5.«set_iterator.__next__»;refine c0 (show L0 _ _ (V2 (v1 it,[])) _ _ _ from x0 ?_);refine c0 (L9 hi rfl ?_);dsimp only;refine c0 (o6 ho rfl hf ?_);rw [if_neg (by simp)];refine c0 (hn _ _ _ ?_);dsimp only;refine c0 (Z4 hi rfl (by simp) ?_);have d :∀b o,b≠it->s.heap.get? b=some o->(s.heap.update it (G2 (·.setIfInBounds 2 K2))).get? b=some o:=λ b o a e=>((O2 s.heap it (G2 (·.setIfInBounds 2 K2))).2 b a).trans e;generalize s.heap.update it (G2 (·.setIfInBounds 2 K2))=h1 at d⊢;exact stops hh λ h' k=>q h' λ b o a e=>k b o (d b o a e)
theorem zly {it S tp:Addr} {es:Array (Int×Value)} {ep i k m:Nat} {t:B3} {hx:Int} {x:Value} {ps:Array Value} {o:Obj} {Q:Option Value->u0->Prop} (hi:s.heap.get? it=some (setItO (.ref tp) i S es.size ep)) (ho:s.heap.get? S=some (setO es ep t)) (hf:t.fits es.size=true)
  (ht:s.heap.get? tp=some o) (hd:o.data=.seq ps m) (hp:ps[i]? = some (.int k 0)) (hk:es[k]? = some (hx,x))
  (q :∀h',X4 it s.heap h'->h'.get? it=some (setItO (.ref tp) (i + 1) S es.size ep)->Q (some x) { s with heap:=h' }):L0 (X0 prog w) A (E6 (.ref it)) Q E s:=by
 have a:s.TypeIs (.ref it) "set_iterator":=⟨_,hi,rfl⟩
 unfold E6;refine c0 (J5 (W2 (name:=Q1 "__next__") a si_next (T2 si_next a z1p ?_ (z28 _))));unfold A5.«set_iterator.__next__»;refine c0 (show L0 _ _ (V2 (v1 it,[])) _ _ _ from x0 ?_);refine c0 (L9 hi rfl ?_);dsimp only;refine c0 (o6 ho rfl hf ?_);rw [if_neg (by simp)];refine c0 (N6 ht hd ?_);dsimp only;rw [show (Int.toNat (i:Int))=i from F5 i,hp];dsimp only;refine c0 ?_;unfold setNextDrawn;refine c0 (N5 ho rfl hf ?_);dsimp only;rw [if_neg (by simp),show (Int.toNat (k:Int))=k from F5 k,hk];refine c0 (x0 (x0 ?_));refine c0 (Z4 hi rfl (by simp) ?_);have b:(s.heap.update it (G2 (·.setIfInBounds 1 (d5 ((i:Int) + 1))))).get? it=some (setItO (.ref tp) (i + 1) S es.size ep):=P2 _ hi rfl;exact x0 ⟨x,rfl,x0 (q _ (O2 ..) b)⟩
theorem zc4 {it S tp:Addr} {es:Array (Int×Value)} {ep i m:Nat} {t:B3} {ps:Array Value} {o:Obj} {Q:Option Value->u0->Prop} (hh:A.handled=none) (hi:s.heap.get? it=some (setItO (.ref tp) i S es.size ep)) (ho:s.heap.get? S=some (setO es ep t)) (hf:t.fits es.size=true)
  (ht:s.heap.get? tp=some o) (hd:o.data=.seq ps m) (hp:ps[i]? = none)
  (q :∀h',j41 it s.heap h'->Q none { s with heap:=h' }):L0 (X0 prog w) A (E6 (.ref it)) Q E s:=by
 have c:s.TypeIs (.ref it) "set_iterator":=⟨_,hi,rfl⟩
 unfold E6;refine c0 (J5 (W2 (name:=Q1 "__next__") c si_next (T2 si_next c z1p ?_ (z28 _))));unfold A5.«set_iterator.__next__»;refine c0 (show L0 _ _ (V2 (v1 it,[])) _ _ _ from x0 ?_);refine c0 (L9 hi rfl ?_);dsimp only;refine c0 (o6 ho rfl hf ?_);rw [if_neg (by simp)];refine c0 (N6 ht hd ?_);dsimp only;rw [show (Int.toNat (i:Int))=i from F5 i,hp];dsimp only;refine c0 (Z4 hi rfl (by simp) ?_);have f:(s.heap.update it (G2 (·.setIfInBounds 0 (d5 0)))).get? it=some (setItO (.int 0 0) i S es.size ep):=P2 _ hi rfl;refine c0 (Z4 (s:={ s with heap:=s.heap.update it (G2 (·.setIfInBounds 0 (d5 0))) }) f rfl (by simp) ?_);have d :∀b o,b≠it->s.heap.get? b=some o->((s.heap.update it (G2 (·.setIfInBounds 0 (d5 0)))).update it (G2 (·.setIfInBounds 2 K2))).get? b=some o:=λ b o a e=>(((O2 s.heap it (G2 (·.setIfInBounds 0 (d5 0)))).trans (O2 _ it (G2 (·.setIfInBounds 2 K2)))).2 b a).trans e;generalize (s.heap.update it (G2 (·.setIfInBounds 0 (d5 0)))).update it (G2 (·.setIfInBounds 2 K2))=h1 at d⊢;exact stops hh λ h' k=>q h' λ b o a e=>k b o (d b o a e)
theorem zji {it:Addr} {first:Value} {i n ep:Nat} {S:Addr} {Q:Value->u0->Prop} (hi:s.heap.get? it=some (setItO first i S n ep)) (q:Q (.ref it) s):L0 (X0 prog w) A (j33 (.ref it)) Q E s:=by
 have a:s.TypeIs (.ref it) "set_iterator":=⟨_,hi,rfl⟩
 refine wpAny_pyIter_slot a zjp (T2 zjp a zag (show L0 _ _ (ret (.ref it)) _ _ s from ?_) (zba _));exact x0 ⟨_,rfl,"set_iterator",_,a,si_next.lookup,q⟩
end
section
variable {prog:Program} {w:S0} {A:L1} {E:Value->u0->Prop}
theorem chosen {s:u0} {src:Source} {n:Nat} {Q:Nat->u0->Prop} (hn:n≠0) (q :∀i d,i < n->Q i { s with drawn:=d }):L0 (X0 prog w) A (choose src n) Q E s:=λ Γ p a=>⟨hn,q _ _ (Nat.mod_lt _ (Nat.pos_of_ne_zero hn))⟩
theorem z4i {α:Type} :∀(n:Nat) (xs:List α) (s:u0) (Q:List α->u0->Prop),xs.length<=n->(∀ys d,ys.Perm xs->Q ys { s with drawn:=d })->L0 (X0 prog w) A (drawOrder n xs) Q E s
 | 0,xs,s,Q,h,q=>by have:xs=[]:=List.length_eq_zero_iff.mp (Nat.le_zero.mp h);subst this;exact x0 (q [] s.drawn (m5 _))
 | n + 1,[],s,Q,h,q=>x0 (q [] s.drawn (m5 _))
 | n + 1,x :: xs,s,Q,h,q=>by unfold drawOrder;refine c0 (chosen (by simp) λ i d a=>?_);rw [B0 a];dsimp only;refine c0 (z4i n _ _ _ (by rw [j12 a];simp at h⊢;omega) λ ys b p=>?_);exact x0 (q _ b ((p.cons _).trans (z71 _ _ a)))
theorem ze1 {s:u0} {S:Addr} {es:Array (Int×Value)} {ep:Nat} {t:B3} {Q:Bool->u0->Prop} (ho:s.heap.get? S=some (setO es ep t)) (hf:t.fits es.size=true) (q:Q (!w.params.followText "set-order" && (!t.plain && decide (es.size > 1))) s):L0 (X0 prog w) A (setDrawn S) Q E s:=by unfold setDrawn;exact c0 (N5 ho rfl hf (c0 (zch (x0 q))))
theorem zlp {s:u0} {S:Addr} {es:Array (Int×Value)} {ep:Nat} {t:B3} {Q:Value->u0->Prop} (ho:s.heap.get? S=some (setO es ep t)) (hf:t.fits es.size=true) (hz:es.size < scanBound)
  (q1:(!w.params.followText "set-order" && (!t.plain && decide (es.size > 1)))=false->Q (.ref s.heap.objs.size) { s with heap:=s.heap.push (setItO (.int 0 0) 0 S es.size ep) })
  (q2 :∀(ps:List Nat) d,ps.Perm (G1 es.size)->Q (.ref (s.heap.objs.size + 1)) { s with heap:=(s.heap.push { cls:=.type "tuple",data:=.seq (ps.map λ i:Nat=>d5 i).toArray }).push (setItO (.ref s.heap.objs.size) 0 S es.size ep),drawn:=d }) :
  L0 (X0 prog w) A (j33 (.ref S)) Q E s:=by
 have a:s.TypeIs (.ref S) "set":=⟨_,ho,rfl⟩
 refine wpAny_pyIter_slot a F.slot_set_iter (T2 F.slot_set_iter a z8b ?_ (F.args_set_iter_1 _));unfold A5.«frozenset.__iter__»;refine c0 (show L0 _ _ (V2 S) _ _ _ from x0 ?_);unfold Builtin.Frozenset.sizeOf;refine c0 (c0 (o6 ho rfl hf (x0 ?_)));refine c0 (ze1 ho hf ?_);by_cases z:(!w.params.followText "set-order" && (!t.plain && decide (es.size > 1)))=true
 ·rw [if_pos z];refine c0 (z4i _ _ _ _ (by simp) λ ps d p=>?_);have b:ps.length=es.size:=by rw [p.length_eq,O1]
  unfold newTuple;refine c0 (C2 ?_ (show (ps.map λ i:Nat=>d5 i).toArray.size<=sizeLine by rw [J0,D0,b];exact j0b hz));refine c0 (wpAny_setEpoch_of (s:={ s with heap:=s.heap.push { cls:=.type "tuple",data:=.seq (ps.map λ i:Nat=>d5 i).toArray },drawn:=d }) (y0 _ ho) rfl hf ?_);have c:(s.heap.push { cls:=.type "tuple",data:=.seq (ps.map λ i:Nat=>d5 i).toArray }).objs.size=s.heap.objs.size + 1:=m3 _ _;refine c0 (C2 (x0 ⟨_,rfl,"set_iterator",_,⟨_,M0 _ rfl,rfl⟩,si_next.lookup,?_⟩));have:=q2 ps d p;rw [<-c] at this;exact this
 ·rw [if_neg z];refine c0 (x0 ?_);refine c0 (wpAny_setEpoch_of ho rfl hf ?_);exact c0 (C2 (x0 ⟨_,rfl,"set_iterator",_,⟨_,M0 _ rfl,rfl⟩,si_next.lookup,q1 (Bool.eq_false_iff.mpr z)⟩))
theorem zco {I S:Addr} {es:Array (Int×Value)} {ep:Nat} {t:B3} (hh:A.handled=none) (hne:S≠I) (hf:t.fits es.size=true) (vs:List Value) (sl:Nat->Nat)
  (hN :∀(i:Nat) (x:Value),vs[i]? = some x->∀(s:u0) (A:L1) (E:Value->u0->Prop) (Q:Option (Value×Nat)->u0->Prop),s.heap.get? S=some (setO es ep t)->Q (some (x,sl (i + 1))) s->L0 (X0 prog w) A (S9 S (sl i) i ep) Q E s)
  (hE :∀(s:u0) (A:L1) (E:Value->u0->Prop) (Q:Option (Value×Nat)->u0->Prop),s.heap.get? S=some (setO es ep t)->Q none s->L0 (X0 prog w) A (S9 S (sl vs.length) vs.length ep) Q E s) :
  Walks prog w A I [I,S] [I] vs.length (λ i v=>vs[i]? = some v) (λ i h=>h.get? I=some (setItO (.int (sl i) 0) i S es.size ep)/\h.get? S=some (setO es ep t)) where
 sub:=λ b c=>List.mem_cons.mpr (.inl (List.mem_singleton.mp c))
 frame:=λ i h d a k=>⟨k I (by simp) _ a.1,k S (by simp) _ a.2⟩
 item:=λ i s Q E f a q=>by refine zmv a.1 a.2 hf (λ A E Q z=>hN i vs[i] (B0 f) s A E Q a.2 z) λ d j g=>?_;exact q _ d s.toks (B0 f) ⟨g,(j.2 S hne).trans a.2⟩ λ b o c e=>(j.2 b (λ z=>c (by simp [z]))).trans e
 done:=λ s Q E a q=>si_end hh a.1 a.2 hf (λ A E Q z=>hE s A E Q a.2 z) λ d l=>q d s.toks λ b o c e=>l b o (λ z=>c (by simp [z])) e
 self:=λ i s Q E a q=>zji a.1 q
theorem zgv {I S tp:Addr} {es:Array (Int×Value)} {ep:Nat} {t:B3} (hh:A.handled=none) (hne:S≠I) (hnt:tp≠I) (hf:t.fits es.size=true) (vs:List Value) (ps:List Nat) (hl:ps.length=vs.length)
  (hN :∀(i:Nat) (x:Value),vs[i]? = some x->∃k hx,ps[i]? = some k/\es[k]? = some (hx,x)) :
  Walks prog w A I [I,S,tp] [I] vs.length (λ i v=>vs[i]? = some v) (λ i h=>h.get? I=some (setItO (.ref tp) i S es.size ep)/\h.get? S=some (setO es ep t)/\h.get? tp=some { cls:=.type "tuple",data:=.seq (ps.map λ i:Nat=>d5 i).toArray }) where
 sub:=λ b c=>List.mem_cons.mpr (.inl (List.mem_singleton.mp c))
 frame:=λ i h d a k=>⟨k I (by simp) _ a.1,k S (by simp) _ a.2.1,k tp (by simp) _ a.2.2⟩
 item:=λ i s Q E j a q=>by obtain ⟨k,hx,m,l⟩:=hN i vs[i] (B0 j);refine zly a.1 a.2.1 hf a.2.2 rfl (by rw [j3c,K0,m];rfl) l λ d f g=>?_;exact q _ d s.toks (B0 j) ⟨g,(f.2 S hne).trans a.2.1,(f.2 tp hnt).trans a.2.2⟩ λ b o c e=>(f.2 b (λ z=>c (by simp [z]))).trans e
 done:=λ s Q E a q=>zc4 hh a.1 a.2.1 hf a.2.2 rfl (by rw [j3c,y4];simp [hl]) λ d n=>q d s.toks λ b o c e=>n b o (λ z=>c (by simp [z])) e
 self:=λ i s Q E a q=>zji a.1 q
noncomputable def slotAt (t:B3):Nat->Nat
 | 0=>0
 | i + 1=>t.place.getD i 0 + 1
theorem z6l {t:B3} (r:Ris t.place) :∀{i:Nat},i<=t.place.size->N1 t.place (slotAt t i)=i
 | 0,_=>r.first
 | i + 1,h=>by show N1 t.place (t.place.getD i 0 + 1)=i + 1;rw [zev h];exact r.next h
theorem zi6 {t:B3} {n:Nat} (h:t.fits n=true):t.place.size=n:=by unfold SetTable.fits at h;exact beq_iff_eq.mp (Bool.and_eq_true_iff.mp h).1
noncomputable def atV (es:Array (Int×Value)) (k:Nat):Value:=((es[k]?).map (·.2)).getD .none
theorem zid (es:Array (Int×Value)):(G1 es.size).map (atV es)=es.toList.map (·.2):=by
 apply i8
 ·simp
 ·intro i a c;have b:i < es.size:=by simpa using a
  simp [atV,b]
theorem zls {s:u0} {S:Addr} {ns:List Int} {Q:Value->u0->Prop} (hh:A.handled=none) (hS:SetAt prog w (!w.params.followText "set-order") s.heap S ns)
  (q :∀(I:Addr) (fp:List Addr) (h':Heap) (d:Drawn) (vs:List Value) (ms:List Int) (St:Nat->Heap->Prop),s.heap.objs.size<=I->(∀b∈fp,b=S\/s.heap.objs.size<=b)->(∀b o,s.heap.get? b=some o->h'.get? b=some o)->
   (∀A':L1,A'.handled=none->Walks prog w A' I fp [I] vs.length (λ i v=>vs[i]? = some v) St)->St 0 h'->c3 vs ms->ms.Perm ns->Q (.ref I) { s with heap:=h',drawn:=d }) :
  L0 (X0 prog w) A (j33 (.ref S)) Q E s:=by
 obtain ⟨a,B,t,c,O,D,P,j,g,r⟩:=hS;have G:=N0 c;refine zlp c g j (λ z=>?_) λ u d p=>?_
 ·have l :∀b o,s.heap.get? b=some o->(s.heap.push (setItO (.int 0 0) 0 S a.size B)).get? b=some o:=λ b o e=>y0 _ e;have K :∀b∈[s.heap.objs.size,S],b=S\/s.heap.objs.size<=b:=λ b j=>by
   rcases List.mem_cons.mp j with e|e
   ·exact .inr (A7 e.symm)
   ·exact .inl (List.mem_singleton.mp e)
  cases hx:w.params.followText "set-order" with
  | true=>
   have H:=(z8k (w.params.setOrder S B) a).map (λ e:Int×Value=>e.2);obtain ⟨ms,F,J⟩:=z5p D H;refine q s.heap.objs.size [s.heap.objs.size,S] _ s.drawn _ ms _ (A0 _) K l (λ A' n=>zco n (V0 G) g ((pickOrder (w.params.setOrder S B) a).toList.map (·.2)) (λ _=>0) (λ i x e s A E Q c q=>z68 hx c g ?_) (λ s A E Q c q=>z68 hx c g ?_)) ⟨M0 _ rfl,l _ _ c⟩ F J
   ·rw [K0,N3] at e;obtain ⟨y,f,m⟩:=Option.map_eq_some_iff.mp e;rw [f,T6,m];exact q
   ·rw [G3 (by simp)];exact q
  | false=>
   rw [hx] at z r;have L:(!t.plain && decide (a.size > 1))=false:=by simpa using z
   have sz:=zi6 g;refine q s.heap.objs.size [s.heap.objs.size,S] _ s.drawn _ ns _ (A0 _) K l (λ A' n=>zco n (V0 G) g (a.toList.map (·.2)) (slotAt t) (λ i x e s A E Q c q=>?_) (λ s A E Q c q=>?_)) ⟨M0 _ rfl,l _ _ c⟩ D (m5 _)
   ·rw [K0,N3] at e;obtain ⟨y,f,m⟩:=Option.map_eq_some_iff.mp e;have M:i < a.size:=by
     cases Nat.lt_or_ge i a.size with
     | inl h=>exact h
     | inr h=>rw [G3 h] at f;cases f
    have C:i < t.place.size:=by rw [sz];exact M
    refine z5a (k:=i) hx c g r.1 L (z6l r.2 (R3 C)) ?_;rw [f,B4 C];have:slotAt t (i + 1)=t.place[i] + 1:=by show t.place.getD i 0 + 1=_;rw [zev C]
    rw [this,<-m] at q;exact q
   ·refine z5a (k:=(a.toList.map (·.2)).length) hx c g r.1 L (z6l r.2 (by simp [sz])) ?_;rw [G3 (by simp)];exact q
 ·have l :∀b o,s.heap.get? b=some o->((s.heap.push { cls:=.type "tuple",data:=.seq (u.map λ i:Nat=>d5 i).toArray }).push (setItO (.ref s.heap.objs.size) 0 S a.size B)).get? b=some o:=λ b o e=>y0 _ (y0 _ e);have f:(s.heap.push { cls:=.type "tuple",data:=.seq (u.map λ i:Nat=>d5 i).toArray }).objs.size=s.heap.objs.size + 1:=m3 _ _;have H:(u.map (atV a)).Perm (a.toList.map (·.2)):=by rw [<-zid];exact p.map _
  obtain ⟨ms,F,J⟩:=z5p D H;refine q (s.heap.objs.size + 1) [s.heap.objs.size + 1,S,s.heap.objs.size] _ d _ ms _ (B2 _) (λ b j=>?_) l (λ A' n=>zgv (tp:=s.heap.objs.size) n (V0 (F1 G)) (V0 (V1 _)) g (u.map (atV a)) u (by simp) (λ i x e=>?_)) ⟨?_,l _ _ c,y0 _ (M0 _ rfl)⟩ F J
  ·rcases List.mem_cons.mp j with e|j
   ·exact .inr (by rw [e];exact B2 _)
   ·rcases List.mem_cons.mp j with e|j
    ·exact .inl e
    ·exact .inr (A7 (List.mem_singleton.mp j).symm)
  ·rw [K0] at e;obtain ⟨k,f,m⟩:=Option.map_eq_some_iff.mp e;have N:k < a.size:=List.mem_range.mp (p.mem_iff.mp (G0 f));refine ⟨k,a[k].1,f,?_⟩;rw [<-m];simp [atV,N]
  ·show Heap.get? _ (s.heap.objs.size + 1)=_;rw [<-f];exact M0 _ rfl
end
section
variable {prog:Program} {w:S0} {A:L1} {E:Value->u0->Prop} {s:u0}
theorem zkt {r:Addr} {Q:Bool->u0->Prop} (hT:s.TypeIs (.ref r) "set") (h:Q false s):L0 (X0 prog w) A (C9 (.ref r)) Q E s:=by unfold C9;refine c0 (j26 hT PySem.F.slot_set_len.lookup ?_);generalize hid:("set.__len__" : String)=id0;wp_delta;rw [show splitId id0=some ("set","__len__") from by subst hid;decide +kernel];subst hid;refine c0 (c5 (T:="set") (b:=true) hT sub_set_self ?_);refine j27 (λ a=>absurd a (by decide)) (λ _=>j27 (λ _=>?_) (λ a=>absurd (by decide +kernel) a));exact c0 (O4 hT (x0 h))
theorem zm8 {S D:Addr} {ns:List Int} {R:j16->u0->Prop} (hh:A.handled=none) (hS:SetAt prog w (!w.params.followText "set-order") s.heap S ns) (hD:s.heap.get? D=some { cls:=.type "list",data:=.seq #[] }) (hn:ns.length<=sizeLine)
  (hR :∀h' tk d acc c ms,(∀b o,b≠D->s.heap.get? b=some o->h'.get? b=some o)->h'.get? D=some { cls:=.type "list",dict:=none,data:=.seq acc c,slots:=#[] }->c3 acc.toList ms->ms.Perm ns->R (.ok (.ret (.ref D))) { s with heap:=h',toks:=tk,drawn:=d }) :
  L0 (X0 prog w) A.in1 (D9 (.ref D) (.ref S) (.ref D))
   (λ fin s'=>match fin with | .done f=>R (.ok f) s' | .again c'=>c'.quiet=true/\u5 (X0 prog w) A c' R s') (λ e s'=>R (.error e) s') s:=by
 have O:s.TypeIs (.ref S) "set":=by obtain ⟨v,G,t,h,_⟩:=hS;exact ⟨_,h,rfl⟩
 have u:D≠S:=λ z=>by obtain ⟨v,G,t,h,_⟩:=hS;rw [<-z,hD] at h;exact absurd (show V3 "list" = V3 "set" from congrArg Obj.cls (J1 h)) (by decide)
 unfold D9;refine c0 (O4 (T:="set") O ?_);rw [if_neg (by simp [Builtin.List.listSameRef,u])];refine c0 (zls (A:=A.in1) hh hS λ I Y h' d l ms St K M k W X q H=>?_);have V:M6 { s with heap:=h',drawn:=d } (.ref S) "set":=by obtain ⟨v,G,t,h,_⟩:=hS;exact ⟨_,k _ _ h,rfl⟩
 refine c0 (Z1 (zkt V ?_));have p:D∉Y:=λ z=>by
  rcases M D z with e|e
  ·exact u e
  ·exact absurd (N0 hD) (Nat.not_lt.mpr e)
 have N:l.length<=sizeLine:=by rw [<-zgl q,H.length_eq];exact hn
 have C :∀(j:Heap) (m:Nat),(∀b o,b≠D->h'.get? b=some o->j.get? b=some o)->j.get? D=some { cls:=.type "list",data:=.seq #[] m }->u5 (X0 prog w) A (.builtin "list.extend.loop" ⟨[.ref D,.ref I,.ref D],[]⟩) R { s with heap:=j,drawn:=d }:=by
  intro j m J P;refine codeAny_extend_loopS (s:={ s with heap:=j,drawn:=d }) (W A.in1 hh).toS N D p (.ref D) l.length 0 #[] m rfl (X1 _) ((W A.in1 hh).frame 0 h' j X λ b g o e=>J b o (λ z=>p (z ▸ g)) e) P (ItemsOf.nil _) λ s' acc c n L r=>?_;rw [Moved.eq_with n];refine hR s'.heap s'.toks d acc c ms (λ b o g e=>n.heap b o (λ z=>?_) (J b o g (k b o e))) L ?_ H
  ·rcases List.mem_cons.mp z with y|y
   ·exact g y
   ·exact absurd (N0 e) (by rw [List.mem_singleton.mp y];exact Nat.not_lt.mpr K)
  ·have:acc.toList=l:=by
    apply L4;intro i;by_cases z:i < acc.size
    ·have E:acc[i]? = some acc[i]:=B4 z;rw [N3,E];exact (r.2 i _ E).symm
    ·have U:l.length<=i:=by have:=r.1;omega
     rw [N3,G3 (Nat.not_lt.mp z),y4 U]
   rw [this];exact q
 have x :∀a:Args,(i7 "list.extend.loop" a).quiet=true:=λ a=>j03 PySem.F.plain_extend_loop _;refine j27 (λ _=>?_) (λ _=>x0 ⟨x _,C h' 0 (λ b o _ e=>e) (k _ _ hD)⟩);refine c0 (D6 (c0 (show L0 _ _ (updateSeq D (·.push .none) >>= λ _=>updateSeq D (·.pop)) _ _ _ from c0 (wpAny_updateSeq (k _ _ hD) rfl ?_))));have B:=P2 (M7 (·.push K2)) (k _ _ hD) rfl;refine wpAny_updateSeq (hz:=by seq_fits) B rfl (x0 ⟨x _,?_⟩);have Q:=P2 (M7 (·.pop)) B rfl;exact C _ _ (λ b o g e=>(B6 _ _ (J2 g)).trans ((B6 _ _ (J2 g)).trans e)) Q
theorem zei {S:Addr} {ns:List Int} {R:List Value->u0->Prop} (hh:A.handled=none) (hS:SetAt prog w (!w.params.followText "set-order") s.heap S ns) (hn:ns.length<=sizeLine)
  (h :∀h' tk d vs ms,(∀b o,s.heap.get? b=some o->h'.get? b=some o)->c3 vs ms->ms.Perm ns->R vs { s with heap:=h',toks:=tk,drawn:=d }):L0 (X0 prog w) A (collect (.ref S)) R E s:=by
 unfold collect;refine c0 (wpAny_runValue (Z3 entry_proto_collect' ?_));rw [j2j PySem.F.plain_proto_collect _];refine (show L0 _ A.in1 (newList [] >>= λ l=>again (.builtin "list.__iadd__" ⟨[l,.ref S],[]⟩)) _ _ s from c0 (C2 (x0 ⟨j03 j0i _,Z3 entry_list_iadd' ?_⟩)));rw [j2j j0i _];have p:(s.heap.push { cls:=.type "list",data:=.seq ([]:List Value).toArray }).get? s.heap.objs.size=some { cls:=.type "list",data:=.seq #[] }:=M0 _ rfl;have r:=zm8 (A:=A) (s:={ s with heap:=s.heap.push { cls:=.type "list",data:=.seq ([]:List Value).toArray } }) (S:=S) (D:=s.heap.objs.size) (ns:=ns)
  (R:=λ (q:j16) (m:u0)=>∃(h':Heap) (tk:Nat) (d:Drawn) (a:Array Value) (c:Nat) (ms:List Int),q=.ok (.ret (.ref s.heap.objs.size))/\m={ s with heap:=h',toks:=tk,drawn:=d }/\(∀b o,s.heap.get? b=some o->h'.get? b=some o)/\h'.get? s.heap.objs.size=some { cls:=.type "list",dict:=none,data:=.seq a c,slots:=#[] }/\c3 a.toList ms/\ms.Perm ns)
  hh (hS.at' λ o e=>y0 _ e) p hn λ h' tk d a c ms j g k i=>⟨h',tk,d,a,c,ms,rfl,rfl,λ b o e=>j b o (V0 (N0 e)) (y0 _ e),g,k,i⟩
 refine M3 r (λ f m x=>?_) λ e m x=>?_
 ·cases f with
  | done f=>obtain ⟨h',tk,d,a,c,ms,e,rfl,j,g,k,i⟩:=x;cases e;refine (show L0 _ A (load s.heap.objs.size >>= _) _ _ _ from c0 (wpAny_load g (x0 (h h' tk d a.toList ms j k i))))
  | again c₁=>refine ⟨x.1,P6 x.2 λ q t y=>?_⟩;obtain ⟨h',tk,d,a,c,ms,rfl,rfl,j,g,k,i⟩:=y;refine (show L0 _ A (load s.heap.objs.size >>= _) _ _ _ from c0 (wpAny_load g (x0 (h h' tk d a.toList ms j k i))))
 ·obtain ⟨_,_,_,_,_,_,n,_⟩:=x;cases n
theorem zfi {S:Addr} {ns:List Int} {Q:Value->u0->Prop} (hh:A.handled=none) (hS:SetAt prog w (!w.params.followText "set-order") s.heap S ns) (hn:ns.length < 64)
  (h :∀(h1 h':Heap) (tk:Nat) (d:Drawn) (out:Array Value) (ns':List Int) (e:Nat),(∀b o,s.heap.get? b=some o->h1.get? b=some o)->(∀b o,h1.get? b=some o->h'.get? b=some o)->h'.get? h1.objs.size=some { cls:=.type "list",data:=.seq out e }->c3 out.toList ns'->ns'.Perm ns->ns'.Pairwise (·<=·)->Q (.ref h1.objs.size) { s with heap:=h',toks:=tk,drawn:=d }) :
  L0 (X0 prog w) A (call (.builtin "sorted") [.ref S]) Q E s:=by
 refine j13 kind_sorted plain_sorted entry_sorted (args_sorted1 _) ?_;unfold A5.«sorted»;refine c0 (m:=checkCount "sorted" 1 1 _) (x0 (c0 (zei (A:=A.in1) hh hS (C0 (R3 hn) (by decide)) λ h1 tk d c r l g i=>?_)));have f:c.length < 64:=by rw [g.length,i.length_eq];exact hn
 refine c0 (wpAny_newList ?_ (C0 (R3 f) (by decide)));have a:(h1.push (seqObj "list" c.toArray 0)).get? h1.objs.size=some (seqObj "list" c.toArray 0):=M0 _ rfl;refine c0 (Z1 (T2 slot_list_sort ⟨_,a,rfl⟩ entry_list_sort (list_sort_tree a g f λ out ns' p n k=>⟨_,rfl,?_⟩) (args_list_sort _)));obtain ⟨e,q⟩:=sortedHeap_at (out:=out) a;refine x0 ⟨_,rfl,h h1 _ tk d out ns' e l (λ b o j=>?_) q p (n.trans i) k⟩;have lt:=N0 j;refine (sortedHeap_old (V0 lt) ?_).trans (y0 _ j);rw [size_push'];exact F1 lt
end
section
variable {X:Cx}
theorem Inv.drew {pins:List (Addr×Obj)} {σ:St} {H:Hp} {s:u0} (I:Inv X pins σ H s) (d:Drawn):Inv X pins σ H { s with drawn:=d }:=⟨I.ok,I.os,I.bare,I.base,I.loc,I.cell,I.free,I.freeC,I.pin,I.hok,I.len⟩
noncomputable def tSSet (K:b0) (te:TE):TE:=λ σ H Q=>te σ H λ x H1=>∃(a:Addr) (ns:List Int),x=.ref a/\SqT K H1 a (ns.map V.int)/\ns.length < 64/\srt (ns.foldl addI []) H1 Q
theorem z5g :∀(vs ns:List Int),(vs.foldl addI ns).length<=ns.length + vs.length
 | [],ns=>A0 _
 | v :: vs,ns=>by have a:=z5g vs (addI ns v);have b:=zft ns v;show (vs.foldl addI (addI ns v)).length<=_;rw [Z0];omega
theorem zaw {e:Expr} {te:TE} {p1 p2 c1 c2:Pos} (hcalm:X.calm=true) (g1:Gl X "sorted") (m1:X.mg "sorted" = none) (g2:Gl X "set") (m2:X.mg "set" = none) (b1:g6 "sorted" = some (.builtin "sorted")) (b2:g6 "set" = some (.type "set")) (ha:PE X e te)
  (he:A1 [e] X.env=[(false,d3 e X.env)]:=by rfl):PE X (.Call (.Name "sorted" p1) [.Call (.Name "set" p2) [e] [] c2] [] c1) (tSSet X.K te):=by
 intro l s σ H Q I h;have f:X.A.handled=none:=I.ok.hd hcalm;refine D4 (ld_blt I g1 m1 b1 ?_ (by decide) (by decide));refine S8 ?_ rfl rfl;refine (show L0 _ _ (spliced ((false,d3 (.Call (.Name "set" p2) [e] [] c2) X.env) :: [])) _ _ s from U4 ?_);refine D4 (ld_blt I g2 m2 b2 ?_ (by decide) (by decide));refine j3 ?_ he rfl;rw [he];refine (show L0 _ _ (spliced ((false,d3 e X.env) :: [])) _ _ s from U4 (thn (ha l s σ H _ I h) λ u m ⟨x,H1,I1,r1,a,ns,ex,sq,hl,q⟩=>?_));subst ex;cases r1;refine o5 ?_;obtain ⟨M,t,B,G⟩:=I1.tuple sq;refine zdp f B (by simpa using z6t t) (E8 hl (by decide)) λ w D y E c C=>o5 ?_;have j:y.length < 64:=by rw [c.length_eq];have:=z5g ns [];rw [F4,X5] at this;omega
 have n:(ns.foldl addI []).length < 64:=by rw [<-c.length_eq];exact j
 refine zfi (s:={ m with heap:=w,toks:=D }) f E j λ J O F d N L e k v g i p r=>?_;exact zgy (I1.drew d) n q (λ b o z=>k b o (C b o z)) v g i (p.trans c) r
end
end L2
set_option maxHeartbeats 400000
namespace HT
open PySem PySem.Spec PyProof.Rows L2
variable {prog:Program} {w:S0} {A:L1} {E:Value->u0->Prop} {s:u0}
theorem getItem_tuple_all {t sl:Addr} {items:Array Value} {vl vu:Value} {lo hi:Option Int} {Q:Value->u0->Prop} (ht:IsTup s.heap t items) (hs:s.heap.IsSliceOf sl vl vu .none) (pl:c9 vl lo) (pu:c9 vu hi)
  (h0:sIx items.size 0 lo=0) (h1:sIx items.size items.size hi=items.size) (h:Q (.ref t) s):L0 (X0 prog w) A (z8 (.ref t) (.ref sl)) Q E s:=by
 obtain ⟨d,c,a,f⟩:=id hs;have e:s.TypeIs (.ref sl) "slice":=⟨d,c,a⟩
 unfold z8;try with_reducible refine Z1 ?_
 first|refine c0 (x0 ?_)|skip
 refine c0 (wpAny_sequenceKey ht.typeIs (by decide) (c0 (W2 (name:=Q1 "__getitem__") ht.typeIs v4 (T2 v4 ht.typeIs entry_tuple_getitem ?_ (args_tuple_getitem _ _)))));refine (show L0 _ _ (A9 (.ref t) >>= _) _ _ s from c0 (tupleItemsOf_ ht (c0 (O4 e ?_))));rw [if_pos (by decide)];refine c0 (z2k hs pl pu ?_);have b:(((sIx items.size 0 lo:Nat):Int) == 0 && (1:Int) == 1 && (sIx items.size items.size hi - sIx items.size 0 lo) == items.size)=true:=by rw [h0,h1];simp
 refine (show L0 _ _ (if (((sIx items.size 0 lo:Nat):Int) == 0 && (1:Int) == 1 && (sIx items.size items.size hi - sIx items.size 0 lo) == items.size)=true then _ else _) _ _ s from ?_);rw [if_pos b];refine c0 (show L0 _ _ (typeOf (.ref t) >>= _) _ _ s from c0 (O4 ht.typeIs (x0 ?_)));rw [if_pos (by decide)];first
  | exact c0 (D6 (x0 ⟨_,rfl,x0 h⟩))
  | exact c0 (D6 (x0 (x0 ⟨_,rfl,x0 h⟩)))
  | (trace_state;exact c0 (D6 (x0 ⟨_,rfl,h⟩)))
end HT
namespace L2
open PySem PySem.Spec PyProof.Rows
section
variable {X:Cx}
noncomputable def rCatQ (K:b0):R2:=λ x y H Q=>∃a b xs ys,x=.ref a/\y=.ref b/\SqL K H a xs/\SqL K H b ys/\xs.length + ys.length<=sizeLine/\∀p,H p=none->Q (.ref p) (upd H p (.lst (xs++ys)))
theorem zjr:OpR X (P4 .Add) (rCatQ X.K):=by intro J s σ H x y v u Q I B C h;obtain ⟨a,b,S,N,rfl,rfl,z,D,M,q⟩:=h;cases B;cases C;obtain ⟨d,n,w,_⟩:=I.list z;obtain ⟨c,o,A,_⟩:=I.list D;obtain ⟨⟨T,R,L,r⟩,t,l,e,f,g⟩:=id w;obtain ⟨⟨O,P,G,E⟩,p,j,k,m,i⟩:=id A;simp only at e f g k m i;subst e f g k m i;have r:=n.length;have E:=o.length;refine j0c ⟨_,l,rfl⟩ ⟨_,j,rfl⟩ noFill_list_add seq_list_add PySem.F.slot_list_add PySem.F.entry_list_add (PySem.F.args_list_add_2 _ _) (list_addW a b d.toArray c.toArray t p none none _ _ (by rw [J0,J0];omega)) ⟨l,j,?_⟩;rw [show d.toArray++c.toArray=(d++c).toArray by simp];exact ⟨.ref _,_,I.lnew (t':=s.toks) (n.append o) (by rw [F0];omega),rfl,q _ I.fresh⟩
def rSlW (K:b0):V->Option Int->Option Int->Hp->VK->Prop:=λ x lo hi H Q=>∃a xs,x=.ref a/\SqT K H a xs/\(HT.sIx xs.length 0 lo=0/\HT.sIx xs.length xs.length hi=xs.length)/\Q (.ref a) H
theorem znm:SlR X (rSlW X.K):=by intro t s σ H x v u y o n p Q I l e g j h;obtain ⟨a,m,rfl,f,⟨i,d⟩,q⟩:=h;cases l;obtain ⟨k,r,c,w⟩:=I.tuple f;have b:k.toArray.size=m.length:=(J0 ..).trans r.length.symm;refine ⟨"tuple",_,PyProof.Rows.slot_tuple_getitem.lookup,c.typeIs,HT.getItem_tuple_all c e g j (by rw [b];exact i) (by rw [b];exact d) ⟨.ref a,H,I,rfl,q⟩⟩
theorem slSeqW:SlR X (λ x lo hi H Q=>(rSlL X.K x lo hi H Q\/rSlT X.K x lo hi H Q\/rSlS x lo hi H Q)\/rSlW X.K x lo hi H Q):=slSeq.or znm
end
theorem zjo {names:List (Str×c6)} {ns:List Str} {Q:Str×c6->Prop} (h:(names.all λ y=>y.2 != P1 || ns.contains y.1)=true) (q :∀n,n∈ns->∀k,Q (n,k)) :∀y∈names,y.2=P1->Q y:=λ y c e=>by
 have z:=List.all_eq_true.mp h y c;rw [e] at z;have z:ns.contains y.1=true:=by simpa using z
 obtain ⟨a,b⟩:=y;exact q a (by simpa using z) b
theorem zh8 {S:Hp->Hp->Prop} {ta:TA} {te:TE} {tc:TT} {g:TG} {m n:Nat} {fr:List (Nat×Str)} {σ:St} {H H1:Hp} {Q:VK} (p:Nat->Bool) (R:Nat->V->Hp->Prop) (s0:S H1 H1) (st :∀a b c,S a b->S b c->S a c) (hs :∀H,S H1 H->S H H) (hR :∀i y H H',S H H'->R i y H->R i y H')
  (hta :∀T:List V->Hp->Prop,T [.int (n:Nat)] H1->ta σ H T) (hn:n<=sizeLine)
  (body :∀i,i < n->∀H,S H1 H->∀(KT:VK) (KF:Hp->Prop),(p i=true->∀y H',S H H'->R i y H'->KT y H')->(p i=false->∀H',S H H'->KF H')->
   g (.int (i:Nat)) (cStG σ fr (A2 m none)) H λ σ6 H6=>∃us,us.length=m/\σ6=cStG σ fr us/\tc (cStG σ fr us) H6 λ b H2=>if b=true then te (cStG σ fr us) H2 KT else KF H2)
  (hQ :∀l H' ys,S H1 H'->H' l=none->All2 (λ i y=>R i y H') ((G1 n).filter p) ys->Q (.ref l) (upd H' l (.lst ys))):tCompG (iRng1 ta) m fr g tc te σ H Q:=by
 have b:(n:Int) < 2 ^ 62:=Int.lt_of_le_of_lt (Int.ofNat_le.mpr hn) (by decide);refine hta _ ⟨n,rfl,by omega,b,?_⟩;exact z2c s0 st p R hR (zig hs) hn (λ i f v H s h KT KF d e=>by subst h;exact body i f H s KT KF d e) hQ
def rIndex:V->List V->Hp->VK->Prop:=λ x vs H Q=>∃(l:Addr) (ss:List Str) (z:Str) (j:Nat),x=.ref l/\vs=[.str z]/\H l=some (.lst (ss.map V.str))/\ss.length<=1000/\ss[j]? = some z/\(∀m,m < j->ss[m]?≠some z)/\Q (.int (j:Nat)) H
section
variable {X:Cx}
theorem zmy {ss:List Str} :∀{us:List Value},Vals (ss.map V.str) us->∀(j:Nat) (u:Value),us[j]? = some u->∃y t,ss[j]? = some y/\u=g7 y t:=by
 induction ss with
 | nil=>intro us r j u e;rw [S5] at r;cases r;simp at e
 | cons n ss ih=>
  intro us r j u e;rw [R0] at r;cases r with
  | cons r1 r2=>
   obtain ⟨t,rfl⟩:=r1;cases j with
   | zero=>rw [C3] at e;cases e;exact ⟨n,t,rfl,rfl⟩
   | succ j=>rw [E2] at e;exact ih r2 j u e
theorem zle:MtM X "list.index" rIndex:=by
 intro J s σ H x K v N Q I D B h;obtain ⟨l,C,z,j,rfl,rfl,E,L,i,g,q⟩:=h;cases D;obtain ⟨u,rfl,w⟩:=B.one;obtain ⟨t,rfl⟩:=w;obtain ⟨M,f,n,r,O,e⟩:=I.lstM E;have lt:j < f.length:=by rw [<-r.length,D0];exact (List.getElem?_eq_some_iff.mp i).1
 let ev:Value->Bool:=λ y=>match y with | .str a _=>a == z|_=>false
 have at_ :∀m (g:m < f.toArray.size),∃y c,C[m]? = some y/\f.toArray[m]=g7 y c:=λ m g=>zmy r m _ ((B0 (show m < f.length by simpa using g)).trans (by simp));refine Z7 F.slot_list_index ⟨_,e,rfl⟩ F.entry_list_index (F.args_list_index_2 _ _) (SeqAt.list_indexAt l f.toArray n none #[] (.str z t) ev j (by simpa using lt) ?_ ?_ ?_) ⟨e,λ y p=>?_,?_⟩
 ·have:=(List.getElem?_eq_some_iff.mp i).1;have:(j:Int) < 1000:=by omega
  exact Int.lt_trans this (by decide)
 ·obtain ⟨y,c,b,d⟩:=at_ j (by simpa using lt);rw [d];rw [i] at b;cases b;exact beq_self_eq_true z
 ·intro m k A;obtain ⟨y,c,b,d⟩:=at_ m k;rw [d];refine beq_eq_false_iff_ne.mpr λ e=>g m A ?_;rw [b,e]
 ·obtain ⟨m,k,o⟩:=Array.mem_iff_getElem.mp p;obtain ⟨G,c,b,d⟩:=at_ m k;rw [d] at o;subst o;exact j1h G c z t
 ·exact ⟨.int (j:Nat),H,I.tok _,⟨_,rfl⟩,q⟩
theorem zl4 {o e:Expr} {es:List Expr} {to:TE} {t:TA} {apos cpos:Pos} (ho:PE X o to) (ha:PA X (e :: es) t)
  (hbase:U3 o "index" X.env (d3 o X.env)=d3 o X.env:=by rfl)
  (hfew:((E4 cpos (A1 (e :: es) X.env)).all (λ x=>!x.1) && (N8 cpos (K6 [] X.env)).all (λ x=>x.1.isSome) && decide ((e :: es).length + ([]:List j6).length + (if ([]:List j6).isEmpty then 0 else 1) < 30))=true:=by rfl)
  (hline:(apos.endLine == cpos.line)=true:=by rfl) (hs:A1 (e :: es) X.env=(false,d3 e X.env) :: A1 es X.env:=by rfl) (hplain:(E4 cpos (A1 es X.env)).any (·.1)=false:=by rfl) :
  PE X (.Call (.Attribute o "index" apos) (e :: es) [] cpos) (tBM X.K "list" rIndex to t):=pe_bm M4 PySem.F.slot_list_index PySem.F.type_list_index zle ho ha hbase hfew hline hs hplain
end
theorem zdt {K:b0} {a:Addr} {xs:List V} {H1:Hp} (hq:SqL K H1 a xs):RunsR Same (IteL K a) H1 xs.length (λ i v H=>∃x p,xs[i]? = some x/\v=.ref p/\H p=some (.tup [.int (i:Nat),x])):=by refine ⟨λ i b H s=>⟨xs,xs[i],s.seq hq,by simp [b]⟩,λ H s=>⟨xs,s.seq hq,rfl⟩,λ i b H v e s y=>?_⟩;obtain ⟨p,c,rfl,f⟩:=y;obtain ⟨x,d,rfl⟩:=f xs (s.seq hq);exact ⟨Same.upd c,x,p,d,rfl,upd_same⟩
end L2
set_option maxHeartbeats 1000000
namespace L2
open PySem PySem.Spec PyProof.Rows
theorem z2v {K:b0} {a:Addr} {xs:List V} {tl te:TE} {tc:TT} {g:TG} {m:Nat} {fr:List (Nat×Str)} {σ:L2.St} {H H1:Hp} {Q:VK} (p:Nat->Bool) (R:Nat->V->Hp->Prop) (hR :∀i y H H',Same H H'->R i y H->R i y H') (htl :∀R:VK,R (.ref a) H1->tl σ H R) (hq:SqL K H1 a xs) (hn:xs.length<=sizeLine)
  (body :∀i,i < xs.length->∀v H,Same H1 H->xs[i]? = some v->∀(KT:VK) (KF:Hp->Prop),(p i=true->∀y H',Same H H'->R i y H'->KT y H')->(p i=false->∀H',Same H H'->KF H')->
   g v (cStG σ fr (A2 m none)) H λ σ6 H6=>∃us,us.length=m/\σ6=cStG σ fr us/\tc (cStG σ fr us) H6 λ b H2=>if b=true then te (cStG σ fr us) H2 KT else KF H2)
  (hQ :∀l H' ys,Same H1 H'->H' l=none->All2 (λ i y=>R i y H') ((G1 xs.length).filter p) ys->Q (.ref l) (upd H' l (.lst ys))):tCompG (iList K tl) m fr g tc te σ H Q:=
 htl _ ⟨a,rfl,⟨xs,hq⟩,z2c (Same.refl _) (λ _ _ _ a b=>a.trans b) p R hR (z6i (S:=Same) (λ _ _=>Same.refl _) λ H s=>s.seq hq) hn body hQ⟩
theorem z93 {K:b0} {a:Addr} {xs:List V} {ta:TA} {te:TE} {tc:TT} {g:TG} {m:Nat} {fr:List (Nat×Str)} {σ:L2.St} {H H1:Hp} {Q:VK} (p:Nat->Bool) (R:Nat->V->Hp->Prop) (hR :∀i y H H',Same H H'->R i y H->R i y H') (hta :∀T:List V->Hp->Prop,T [.ref a] H1->ta σ H T) (hq:SqL K H1 a xs) (hn:xs.length<=sizeLine)
  (body :∀i,i < xs.length->∀v H,Same H1 H->(∃x p,xs[i]? = some x/\v=.ref p/\H p=some (.tup [.int (i:Nat),x]))->∀(KT:VK) (KF:Hp->Prop),(p i=true->∀y H',Same H H'->R i y H'->KT y H')->(p i=false->∀H',Same H H'->KF H')->
   g v (cStG σ fr (A2 m none)) H λ σ6 H6=>∃us,us.length=m/\σ6=cStG σ fr us/\tc (cStG σ fr us) H6 λ b H2=>if b=true then te (cStG σ fr us) H2 KT else KF H2)
  (hQ :∀l H' ys,Same H1 H'->H' l=none->All2 (λ i y=>R i y H') ((G1 xs.length).filter p) ys->Q (.ref l) (upd H' l (.lst ys))):tCompG (ieL K ta) m fr g tc te σ H Q:=
 hta _ ⟨a,xs,rfl,hq,z2c (Same.refl _) (λ _ _ _ a b=>a.trans b) p R hR (zdt hq) hn body hQ⟩
theorem zf2 {K:b0} {tl te:TE} {tc:TT} {g:TG} {m:Nat} {fr:List (Nat×Str)} {σ:L2.St} {H:Hp} {Q:VK} (Pr:Addr->List V->Hp->Prop) (htl :∀R:VK,(∀a xs H1,Pr a xs H1->R (.ref a) H1)->tl σ H R) (hq :∀a xs H1,Pr a xs H1->SqL K H1 a xs/\xs.length<=sizeLine)
  (p:Nat->Bool) (R:Nat->V->Hp->Prop) (hR :∀i y H H',Same H H'->R i y H->R i y H')
  (body :∀a xs H1,Pr a xs H1->∀i,i < xs.length->∀v H,Same H1 H->xs[i]? = some v->∀(KT:VK) (KF:Hp->Prop),(p i=true->∀y H',Same H H'->R i y H'->KT y H')->(p i=false->∀H',Same H H'->KF H')->
   g v (cStG σ fr (A2 m none)) H λ σ6 H6=>∃us,us.length=m/\σ6=cStG σ fr us/\tc (cStG σ fr us) H6 λ b H2=>if b=true then te (cStG σ fr us) H2 KT else KF H2)
  (hQ :∀a xs H1,Pr a xs H1->∀l H' ys,Same H1 H'->H' l=none->All2 (λ i y=>R i y H') ((G1 xs.length).filter p) ys->Q (.ref l) (upd H' l (.lst ys))):tCompG (iList K tl) m fr g tc te σ H Q:=
 htl _ λ a xs H1 c=>⟨a,rfl,⟨xs,(hq a xs H1 c).1⟩,z2c (Same.refl _) (λ _ _ _ a b=>a.trans b) p R hR (z6i (S:=Same) (λ _ _=>Same.refl _) λ H s=>s.seq (hq a xs H1 c).1) (hq a xs H1 c).2 (body a xs H1 c) (hQ a xs H1 c)⟩
theorem z1u {K:b0} {a:Addr} {xs:List V} {tl te:TE} {tc:TT} {g:TG} {m:Nat} {fr:List (Nat×Str)} {σ:L2.St} {H H1:Hp} {Q:VK} (p:Nat->Bool) (R:Nat->V->Hp->Prop) (hR :∀i y H H',Same H H'->R i y H->R i y H') (htl :∀R:VK,R (.ref a) H1->tl σ H R) (hq:SqT K H1 a xs) (hn:xs.length<=sizeLine)
  (body :∀i,i < xs.length->∀v H,Same H1 H->xs[i]? = some v->∀(KT:VK) (KF:Hp->Prop),(p i=true->∀y H',Same H H'->R i y H'->KT y H')->(p i=false->∀H',Same H H'->KF H')->
   g v (cStG σ fr (A2 m none)) H λ σ6 H6=>∃us,us.length=m/\σ6=cStG σ fr us/\tc (cStG σ fr us) H6 λ b H2=>if b=true then te (cStG σ fr us) H2 KT else KF H2)
  (hQ :∀l H' ys,Same H1 H'->H' l=none->All2 (λ i y=>R i y H') ((G1 xs.length).filter p) ys->Q (.ref l) (upd H' l (.lst ys))):tCompG (iTup K tl) m fr g tc te σ H Q:=
 htl _ ⟨a,rfl,⟨xs,hq⟩,z2c (Same.refl _) (λ _ _ _ a b=>a.trans b) p R hR (zd5 (S:=Same) (λ _ _=>Same.refl _) λ H s=>s.seqT hq) hn body hQ⟩
theorem e_cb1 {f:List V->Hp->VK->Prop} {te:TE} {σ:L2.St} {H:Hp} {Q:VK} (h:te σ H λ x H1=>f [x] H1 Q):tCB f (tCons te tNil) σ H Q:=h
theorem t_test {r:R2} {ta tb:TE} {σ:L2.St} {H:Hp} {Q:Bool->Hp->Prop} (h:ta σ H λ x H1=>tb σ H1 λ y H2=>r x y H2 λ x H3=>∃c,x=.bl c/\Q c H3):tTest (tOp r ta tb) σ H Q:=h
theorem t_or {t u:TT} {σ:L2.St} {H:Hp} {Q:Bool->Hp->Prop} (h:t σ H λ c H1=>if c=true then Q true H1 else u σ H1 Q):tOr t u σ H Q:=h
theorem sq_if {c:TT} {a b rest:TS} {D:Ends} {σ:L2.St} {H:Hp} (h:c σ H λ k H1=>if k=true then a { D with nx:=rest D } σ H1 else b { D with nx:=rest D } σ H1):tSeq (tIfS c a b) rest D σ H:=h
theorem sq_ret {te:TE} {D:Ends} {σ:L2.St} {H:Hp} (h:te σ H D.rt):tRet te D σ H:=h
theorem tB_not {te:TE} {σ:L2.St} {H:Hp} {Q:Bool->Hp->Prop} (h:te σ H λ x H1=>∃c,x=.bl c/\Q (!c) H1):tNot (tB te) σ H Q:=h
end L2
set_option maxHeartbeats 400000
namespace L2
open PySem PySem.Spec PyProof.Rows
end L2
set_option maxHeartbeats 1000000
namespace L2
open PySem PySem.Spec PyProof.Rows
theorem zh5 {te:TE} {σ:L2.St} {H:Hp} {Q:List V->Hp->Prop} (h:te σ H λ y H1=>Q [y] H1):tCons te tNil σ H Q:=h
section
variable {X:Cx}
noncomputable def rNeL0 (K:b0):R2:=λ x y H Q=>∃a b xs,x=.ref a/\y=.ref b/\SqL K H a xs/\SqL K H b []/\Q (.bl (decide (xs≠[]))) H
theorem zjy {k:Nat} (hr:Room k X.A):OpR X (j2 .NotEq) (rNeL0 X.K):=by
 intro B s σ H x y v u Q I n o h;obtain ⟨a,b,r,rfl,rfl,m,p,q⟩:=h;cases n;cases o;obtain ⟨D,g,c,_⟩:=I.list m;obtain ⟨C,t,f,_⟩:=I.list p;cases t;have d:X.A.units < cLine:=j01 (hu_of hr);have l:=g.length;cases r with
 | nil=>cases g;exact SeqAt.RcNeAt.lists (e:=λ _=>true) c.isList f.isList rfl d (λ j i _=>absurd i (Y3 _)) X.prog X.w _ _ ⟨.bl _,H,I,rfl,q⟩
 | cons z zs=>refine SeqAt.RcNeAt.lists_lengths c.isList f.isList ?_ d X.prog X.w _ _ ⟨.bl _,H,I,rfl,q⟩;rw [J0,<-l];rfl
end
structure ZLAt (h:Heap) (z T U i j a b:Addr) (n:Nat) (f:Value):Prop where
 z:IsZip h z T U f
 t:IsPair h T (.ref i) (.ref j)
 u :∃p q,IsPair h U p q
 i:h.IsListIter i a n
 j:h.IsListIter j b n
noncomputable def jl (c:Nat):List (List Nat)->List Nat
 | []=>[]
 | [a]=>a
 | a :: b :: r=>a++c :: jl c (b :: r)
end L2
namespace L2
open PySem PySem.Spec PyProof.Rows PySem.NumText
end L2
namespace L2
open PySem PySem.Spec PyProof.Rows
end L2
open PySem PySem.W PyProof.Rows
set_option maxHeartbeats 4000000
namespace TJ
section
variable (p:Program) (w:S0) (n₀:Nat) (ann:Option Value) (code:Code) (q:Pos)
theorem zj4 {n m:Nat} :∀{s s' s'':u0} {t t' t'':j39},segGo A3 p w n₀ ann 1 n s t=some (s',t')->segGo A3 p w n₀ ann 1 m s' t'=some (s'',t'')->
  segGo A3 p w n₀ ann 1 (n + m) s t=some (s'',t''):=by
 induction n with
 | zero=>
  intro s s' s'' t t' t'' h k;obtain ⟨rfl,rfl⟩:s=s'/\t=t':=by simpa [segGo] using h
  rw [X5];exact k
 | succ n ih=>
  intro s s' s'' t t' t'' h k;rw [show n + 1 + m=n + m + 1 by omega];unfold segGo at h⊢;cases he:endAt 1 t with
  | some f=>rw [he] at h;cases h
  | none=>
   rw [he] at h;cases hk:stepOk n₀ ann t with
   | false=>rw [hk] at h;cases h
   | true=>
    rw [hk] at h;cases hs:step (denote A3) p w s t with
    | halt o s₂=>rw [hs] at h;cases h
    | go s₂ t₂=>rw [hs] at h;exact ih h k
def Steps (c:Nat) (s:u0) (t:j39) (s':u0) (t':j39):Prop:=∃n,n<=c/\segGo A3 p w n₀ ann 1 n s t=some (s',t')
def Goes {α:Type} (c:Nat) (x:Sem α) (s:u0) (pos:Pos) (a:α) (s':u0) (pos':Pos):Prop:=
 ∀(K:α->Sem Fin) (H:Value->Sem Fin) (gd:Bool->Bool) (lv:List Value->List Value),
  Steps p w n₀ ann c s ⟨x.wrap K H gd lv,code,pos,[topFrame q]⟩ s' ⟨K a,code,pos',[topFrame q]⟩
end
section
variable {p:Program} {w:S0} {n₀:Nat} {ann:Option Value} {code:Code} {q:Pos}
theorem Steps.trans {c d:Nat} {s s' s'':u0} {t t' t'':j39} (h:Steps p w n₀ ann c s t s' t') (k:Steps p w n₀ ann d s' t' s'' t''):Steps p w n₀ ann (c + d) s t s'' t'':=by obtain ⟨n,a,h⟩:=h;obtain ⟨m,b,k⟩:=k;exact ⟨n + m,by omega,zj4 p w n₀ ann h k⟩
theorem Steps.refl {s:u0} {t:j39}:Steps p w n₀ ann 0 s t s t:=⟨0,A0 _,rfl⟩
theorem Steps.le {c d:Nat} {s s':u0} {t t':j39} (h:Steps p w n₀ ann c s t s' t') (l:c<=d):Steps p w n₀ ann d s t s' t':=let ⟨n,a,b⟩:=h;⟨n,C0 a l,b⟩
theorem Steps.one {s s':u0} {t t':j39} (he:endAt 1 t=none) (hk:stepOk n₀ ann t=true) (hs:step (denote A3) p w s t=.go s' t'):Steps p w n₀ ann 1 s t s' t':=by refine ⟨1,A0 _,?_⟩;unfold segGo;rw [he,hk,hs];rfl
variable {α β:Type} {s s' s'':u0} {pos pos' pos'':Pos} {a:α} {b:β} {c d:Nat}
theorem Goes.pure:Goes p w n₀ ann code q 0 (j29 a:Sem α) s pos a s pos:=λ _ _ _ _=>.refl
theorem Goes.le {x:Sem α} (h:Goes p w n₀ ann code q c x s pos a s' pos') (l:c<=d):Goes p w n₀ ann code q d x s pos a s' pos':=λ K H e b=>(h K H e b).le l
theorem Goes.bind {x:Sem α} {f:α->Sem β} (h:Goes p w n₀ ann code q c x s pos a s' pos') (k:Goes p w n₀ ann code q d (f a) s' pos' b s'' pos''):Goes p w n₀ ann code q (c + d) (x >>= f) s pos b s'' pos'':=by
 intro K H i g;have e:(x >>= f).wrap K H i g=x.wrap (λ a=>(f a).wrap K H i g) H i g:=by rw [Sem.bind_eq_wrap',Sem.wrap_wrap];rfl
 rw [e];exact (h _ H i g).trans (k K H i g)
theorem Goes.keep {x:Sem α} {vs:List Value} (h:Goes p w n₀ ann code q c x s pos a s' pos'):Goes p w n₀ ann code q c (x.keep vs) s pos a s' pos':=by intro K H d b;rw [Sem.keep_eq_wrap,Sem.wrap_wrap];exact h K H _ _
theorem Goes.holding {x:Sem α} {vs:List Value} (h:Goes p w n₀ ann code q c x s pos a s' pos'):Goes p w n₀ ann code q c (U9 vs x) s pos a s' pos':=by rw [holding_eq_keep];exact h.keep
theorem Goes.rule {tag:String}:Goes p w n₀ ann code q 1 (PySem.rule tag) s pos () s pos:=λ _ _ _ _=>.one rfl rfl rfl
theorem Goes.at' {pos₁:Pos}:Goes p w n₀ ann code q 1 (j2c pos₁) s pos () s pos₁:=λ _ _ _ _=>.one rfl rfl rfl
theorem Goes.loadPart {A:Addr} {o:Obj} {part:Option Value} (ho:s.heap.get? A=some o):Goes p w n₀ ann code q 1 (loadPart A part) s pos o s pos:=λ K H e b=>.one rfl rfl (by obtain ⟨heap,a,f,c,d⟩:=s;show (match heap.get? A with|some o=>Step.go _ _|none=>_)=_;have ho:heap.get? A=some o:=ho;rw [ho];rfl)
theorem Goes.updatePart {A:Addr} {o:Obj} {f:Obj->Obj} {part:Option Value} (ho:s.heap.get? A=some o) (hn:Nat.ble n₀ A=true):Goes p w n₀ ann code q 1 (updatePart A part f) s pos () { s with heap:=s.heap.update A f } pos:=λ K H e b=>
 .one rfl (by
  show (_ && (Nat.ble n₀ A || _ || _ || _))=true;rw [hn];rfl) (by
  obtain ⟨heap,a,g,c,d⟩:=s;have ho:heap.get? A=some o:=ho;show (if (heap.get? A).isSome=true then Step.go _ _ else _)=_;rw [ho];rfl)
theorem Goes.leaf {x:Sem α} {sT sT':SharedT} (n:Nat) (h :∀K H gd lv,segGoT A3 p w n₀ ann 1 n sT ⟨x.wrap K H gd lv,code,pos,[topFrame q]⟩=some (sT',⟨K a,code,pos',[topFrame q]⟩)) :
  Goes p w n₀ ann code q n x sT.abs pos a sT'.abs pos':=λ K H gd lv=>⟨n,A0 _,segGo_of (h K H gd lv)⟩
end
end TJ
open PySem PySem.W PyProof.Rows
namespace TJ
section
variable {p:Program} {w:S0} {n₀:Nat} {ann:Option Value} {code:Code} {q:Pos} {s:u0} {pos:Pos}
theorem Goes.forIn {γ β:Type} {c:Nat} {f:γ->β->Sem (ForInStep β)} {b:β} :∀{l:List γ},(∀x∈l,Goes p w n₀ ann code q c (f x b) s pos (.yield b) s pos)->Goes p w n₀ ann code q (l.length * c) (ForIn.forIn l b f) s pos b s pos
 | [],_=>by rw [D7];exact Goes.pure.le (X1 _)
 | x :: l,h=>by rw [Z6];have k:=Goes.forIn (l:=l) λ y a=>h y (Y0 _ a);have e:=Goes.bind (f:=λ r=>match r with | .done b=>(j29 b:Sem β) | .yield b=>ForIn.forIn l b f) (h x Q0) k;exact e.le (by rw [Z0,Nat.add_mul];omega)
theorem Goes.entries {d:Addr} {o:Obj} {es:Array DictEntry} {ep:Nat} {part:Option Value} (ho:s.heap.get? d=some o) (hd:o.data=.dict es ep):Goes p w n₀ ann code q 1 (dictEntries d part) s pos es s pos:=by unfold dictEntries;refine (Goes.bind (d:=0) (Goes.loadPart ho) ?_);rw [hd];exact Goes.pure
theorem Goes.epoch {d:Addr} {o:Obj} {es:Array DictEntry} {ep:Nat} {part:Option Value} (ho:s.heap.get? d=some o) (hd:o.data=.dict es ep):Goes p w n₀ ann code q 1 (dictEpoch d part) s pos ep s pos:=by unfold dictEpoch;refine (Goes.bind (d:=0) (Goes.loadPart ho) ?_);rw [hd];exact Goes.pure
theorem Goes.mayTell {a:Addr} {stored:List Value} {cq:Nat} (hq:Goes p w n₀ ann code q cq (N4 8 (.ref a)) s pos true s pos) (hs :∀v∈stored,Goes p w n₀ ann code q cq (N4 8 v) s pos true s pos) :
  Goes p w n₀ ann code q (cq + stored.length * cq) (tableMayTell (.ref a) stored) s pos false s pos:=by
 unfold tableMayTell;split
 ·exact Goes.pure.le (X1 _)
 ·refine Goes.bind hq ?_;simp only [j25,G9,if_false];refine (Goes.bind (a:=(none,())) (d:=0) (Goes.forIn λ v b=>?_) ?_).le (A0 _)
  ·refine (Goes.bind (d:=0) (hs v b) ?_).le (A0 _);simp only [j25,G9,if_false];exact Goes.pure
  ·exact Goes.pure
theorem Goes.find_none {d a:Addr} {o:Obj} {es:Array DictEntry} {ep:Nat} {h:Int} {cq ce:Nat} (ho:s.heap.get? d=some o) (hd:o.data=.dict es ep)
  (hq:Goes p w n₀ ann code q cq (N4 8 (.ref a)) s pos true s pos)
  (hk :∀e∈es.toList,∃b,e.key=.ref b/\b≠a/\Goes p w n₀ ann code q cq (N4 8 (.ref b)) s pos true s pos/\Goes p w n₀ ann code q ce (eqBool (.ref b) (.ref a)) s pos false s pos) :
  Goes p w n₀ ann code q (2 + cq + es.size * (cq + ce + 10)) (dictFind d (.ref a) h) s pos none s pos:=by
 have n :∀(i:Nat) (e:DictEntry),es[i]? = some e->e∈es.toList:=λ i e B=>Array.mem_toList_iff.mpr (Array.mem_of_getElem? B);have A:¬ (es.any λ e=>e.key == v1 a && e.hash != h)=true:=by rw [<-Array.any_toList,j8];rintro ⟨e,hin,hc⟩;obtain ⟨b,f,g,_⟩:=hk e hin;simp only [f,D3,beq_iff_eq,Value.ref.injEq] at hc;exact g hc.1
 have l :∀v∈(O6 es.size (λ i=>es[i]?.map (·.hash)) h).filterMap (λ i=>es[i]?.map (·.key)),∃b,v=.ref b/\b≠a/\Goes p w n₀ ann code q cq (N4 8 v) s pos true s pos:=by
  intro v k;obtain ⟨i,_,j⟩:=List.mem_filterMap.mp k;cases hei:es[i]? with
  | none=>rw [hei] at j;cases j
  | some e=>
   rw [hei] at j;obtain rfl:e.key=v:=by simpa using j
   obtain ⟨b,f,g,r,_⟩:=hk e (n i e hei);exact ⟨b,f,g,f ▸ r⟩
 have m:(O6 es.size (λ i=>es[i]?.map (·.hash)) h).length<=es.size:=by unfold O6;exact C0 (D2 _ _) (by rw [O1];exact A0 _)
 have t:((O6 es.size (λ i=>es[i]?.map (·.hash)) h).filterMap (λ i=>es[i]?.map (·.key))).length<=es.size:=C0 (j23 _ _) m;unfold dictFind;refine Goes.holding ?_;refine (Goes.bind (d:=1 + cq + es.size * (cq + ce + 10)) (Goes.entries ho hd) ?_).le (by omega);dsimp only;rw [if_neg (show ¬ ((v1 a :: (O6 es.size (λ i=>es[i]?.map (·.hash)) h).filterMap (λ i=>es[i]?.map (·.key))).all carriedByValue)=true by simp [carriedByValue])];rw [if_neg A];have u:¬ (((O6 es.size (λ i=>es[i]?.map (·.hash)) h).filterMap (λ i=>es[i]?.map (·.key))) == [v1 a])=true:=by intro e;have e:=eq_of_beq e;obtain ⟨b,f,g,_⟩:=l (.ref a) (by rw [e];exact List.mem_singleton.mpr rfl);exact g (by injection f with f;exact f.symm)
 rw [if_neg u];refine (Goes.bind (d:=1 + es.size * (ce + 10)) (Goes.mayTell hq λ v k=>(let ⟨_,_,_,z⟩:=l v k;z)) ?_).le ?_
 ·rw [if_neg (by simp)];refine (Goes.bind (a:=(none,none)) (d:=0) (Goes.forIn (c:=ce + 10) λ i j=>?_) ?_).le ?_
  ·cases hei:es[i]? with
   | none=>exact Goes.pure.le (X1 _)
   | some e=>
    dsimp only;split
    ·obtain ⟨b,f,g,_,y⟩:=hk e (n i e hei);rw [f];refine (Goes.bind (d:=ce + 2) (Goes.epoch ho hd) (Goes.bind (d:=2) y (Goes.bind (d:=1) (Goes.epoch ho hd) ?_))).le (by omega);rw [if_neg (by simp)];rw [if_neg (by simp)];refine Goes.bind (d:=0) Goes.rule ?_;rw [if_neg (by simp)];exact Goes.pure
    ·exact Goes.pure.le (X1 _)
  ·exact Goes.pure
  ·have:=X6 (ce + 10) m;omega
 ·have:=X6 cq t;have x:es.size * (cq + ce + 10)=es.size * cq + es.size * (ce + 10):=by rw [<-Nat.mul_add,j2a]
  rw [x];omega
end
end TJ
open PySem PySem.W PyProof.Rows
namespace TJ
noncomputable abbrev dObj (es:Array DictEntry) (ep:Nat):Obj:={ cls:=.type "dict",data:=.dict es ep }
noncomputable abbrev KV3:=Addr×Value×Int
noncomputable def ent (x:KV3):DictEntry:=⟨x.2.2,.ref x.1,x.2.1⟩
noncomputable def unh (a:Addr):Sem Value:=do rule "hash.unhashable";raiseError "TypeError" s!"unhashable type: '{← typeNameOf (.ref a)}'"
noncomputable def zdb (d:Addr) (vs:List (Value×Value)):Sem PUnit:=j0a vs y9 λ (x:Value×Value) (_:PUnit)=>(do j2d d x.1 x.2;V2 (U2 y9):Sem (ForInStep PUnit))
section
variable {p:Program} {w:S0} {n₀:Nat} {ann:Option Value} {code:Code} {q:Pos} {pos:Pos} {F:Obj->Nat->SharedT} {d:Addr}
structure Fam (n₀:Nat) (d:Addr) (F:Obj->Nat->SharedT):Prop where
 le:Nat.ble n₀ d=true
 get :∀es ep tk,(F (dObj es ep) tk).abs.heap.get? d=some (dObj es ep)
 upd :∀es ep tk (e:DictEntry),({ (F (dObj es ep) tk).abs with heap:=(F (dObj es ep) tk).abs.heap.update d (L8 (·.push e)) }:u0)=(F (dObj (es.push e) (ep + 1)) tk).abs
theorem Goes.updKeys (Z:Fam n₀ d F) {es:Array DictEntry} {ep tk:Nat} {e:DictEntry} {part:Option Value} (hsz:es.size < sizeLine) :
  Goes p w n₀ ann code q 3 (updateDictKeys d (·.push e) part) (F (dObj es ep) tk).abs pos () (F (dObj (es.push e) (ep + 1)) tk).abs pos:=by
 unfold updateDictKeys;refine (Goes.bind (d:=2) (Goes.loadPart (Z.get es ep tk)) ?_);dsimp only;have u:=Goes.updatePart (p:=p) (w:=w) (ann:=ann) (code:=code) (q:=q) (pos:=pos) (part:=part) (f:=L8 (·.push e)) (Z.get es ep tk) Z.le;rw [Z.upd es ep tk e] at u;refine Goes.bind (d:=1) u ?_;unfold lookBehind;refine Goes.bind (d:=0) (Goes.loadPart (Z.get _ _ tk)) ?_;have a:(dObj (es.push e) (ep + 1)).data.pastItsLine=none:=by unfold Data.pastItsLine;dsimp only;rw [if_neg (by rw [Array.size_push];omega)]
 rw [a];exact Goes.pure
theorem Goes.set (Z:Fam n₀ d F) {a:Addr} {v:Value} {es:Array DictEntry} {ep tk k cp cq ce:Nat} {hsh:Int} (hsz:es.size < sizeLine)
  (hpy:Goes p w n₀ ann code q cp (pyHash (.ref a)) (F (dObj es ep) tk).abs pos hsh (F (dObj es ep) (tk + k)).abs pos)
  (hq:Goes p w n₀ ann code q cq (N4 8 (.ref a)) (F (dObj es ep) (tk + k)).abs pos true (F (dObj es ep) (tk + k)).abs pos)
  (hk :∀e∈es.toList,∃b,e.key=.ref b/\b≠a/\Goes p w n₀ ann code q cq (N4 8 (.ref b)) (F (dObj es ep) (tk + k)).abs pos true (F (dObj es ep) (tk + k)).abs pos/\
   Goes p w n₀ ann code q ce (eqBool (.ref b) (.ref a)) (F (dObj es ep) (tk + k)).abs pos false (F (dObj es ep) (tk + k)).abs pos) :
  Goes p w n₀ ann code q (cp + (2 + cq + es.size * (cq + ce + 10)) + 4) (j2d d (.ref a) v) (F (dObj es ep) tk).abs pos () (F (dObj (es.push ⟨hsh,.ref a,v⟩) (ep + 1)) (tk + k)).abs pos:=by
 unfold j2d;refine Goes.holding ?_;refine (Goes.bind (d:=(2 + cq + es.size * (cq + ce + 10)) + 4) hpy ?_).le (by omega);unfold dictSetHashed;refine Goes.holding ?_;refine Goes.bind (d:=4) (Goes.find_none (h:=hsh) (Z.get es ep (tk + k)) rfl hq hk) ?_;exact Goes.bind (d:=3) Goes.rule (Goes.updKeys Z hsz)
theorem zm6 {γ β:Type} {f:γ->β->Sem (ForInStep β)} {x:γ} {xs:List γ} {b b' b'':β} {c c':Nat} {s s' s'':u0} (h:Goes p w n₀ ann code q c (f x b) s pos (.yield b') s' pos) (k:Goes p w n₀ ann code q c' (j0a xs b' f) s' pos b'' s'' pos) :
  Goes p w n₀ ann code q (c + c') (j0a (x :: xs) b f) s pos b'' s'' pos:=by
 rw [Z6];exact Goes.bind (f:=λ r=>match r with | .done b=>(j29 b:Sem β) | .yield b=>j0a xs b f) h k
theorem Goes.loop (Z:Fam n₀ d F) {cp cq ce N:Nat} (all:List KV3) (hN:all.length<=N) (hN':N < sizeLine) (hnd:(all.map (·.1)).Nodup)
  (hQ :∀x∈all,∀oD tk,Goes p w n₀ ann code q cq (N4 8 (.ref x.1)) (F oD tk).abs pos true (F oD tk).abs pos)
  (hE:all.Pairwise λ x y=>∀oD tk,Goes p w n₀ ann code q ce (eqBool (.ref x.1) (.ref y.1)) (F oD tk).abs pos false (F oD tk).abs pos)
  (hH :∀x∈all,∀oD tk,Goes p w n₀ ann code q cp (pyHash (.ref x.1)) (F oD tk).abs pos x.2.2 (F oD (tk + 3)).abs pos) :
  ∀(todo done:List KV3) (tk:Nat),all=done++todo->
   Goes p w n₀ ann code q (todo.length * (cp + (2 + cq + N * (cq + ce + 10)) + 4)) (zdb d (todo.map λ x=>(v1 x.1,x.2.1)))
    (F (dObj (done.map ent).toArray done.length) tk).abs pos () (F (dObj (all.map ent).toArray all.length) (tk + 3 * todo.length)).abs pos:=by
 intro todo;induction todo with
 | nil=>intro done tk e;rw [Y1] at e;subst e;unfold zdb;rw [S5,D7];exact Goes.pure.le (X1 _)
 | cons x todo ih=>
  intro done tk e;have h:x∈all:=by rw [e];exact D1 _ Q0
  have c:=ih (done++[x]) (tk + 3) (by rw [e,K3];rfl);unfold zdb at c⊢;rw [R0];have f:(done.map ent).toArray.size<=N:=by rw [J0,D0];rw [e,F0] at hN;omega
  have g:=Goes.set (p:=p) (w:=w) (ann:=ann) (code:=code) (q:=q) (pos:=pos) (v:=x.2.1) (ep:=done.length) Z (B1 f hN') (hH x h _ tk) (hQ x h _ _) (es:=(done.map ent).toArray) (ce:=ce) (by
   intro s l;obtain ⟨y,a,rfl⟩:=List.mem_map.mp l;have m:y∈all:=by rw [e];exact U6 _ a
   have n:y.1≠x.1:=by rw [e,j1,R0] at hnd;intro q;exact (List.nodup_append.mp hnd).2.2 y.1 (List.mem_map.mpr ⟨y,a,rfl⟩) x.1 Q0 q
   rw [e] at hE;exact ⟨y.1,rfl,n,hQ y m _ _,(List.pairwise_append.mp hE).2.2 y a x Q0 _ _⟩)
  have i:((done.map ent).toArray.push ⟨x.2.2,.ref x.1,x.2.1⟩)=((done++[x]).map ent).toArray:=by rw [List.push_toArray,j1];rfl
  have k:done.length + 1=(done++[x]).length:=by rw [F0];rfl
  rw [i,k] at g;have o:tk + 3 * (x :: todo).length=(tk + 3) + 3 * todo.length:=by rw [Z0];omega
  rw [o];have r:Goes p w n₀ ann code q (_ + 0) (do j2d d (v1 x.1,x.2.1).1 (v1 x.1,x.2.1).2;j29 (U2 y9):Sem (ForInStep PUnit)) _ pos (U2 y9) _ pos:=Goes.bind g Goes.pure;have j:=zm6 (b:=y9) (xs:=todo.map λ x=>(v1 x.1,x.2.1)) r c;refine j.le ?_;rw [Z0,Nat.add_mul];have:=X6 (cq + ce + 10) f;omega
noncomputable def zat (acc:Nat):Int:=if acc == 2 ^ 64 - 1 then 1546275796 else if acc < 2 ^ 63 then acc else (acc:Int) - (2 ^ 64:Nat)
theorem z8x (acc:Nat) (h:acc < 2 ^ 64):-(2:Int) ^ 63<=zat acc/\zat acc < 2 ^ 63:=by
 unfold zat;split
 ·constructor<;>decide
 ·split
  ·constructor<;>omega
  ·constructor<;>omega
theorem z7e (hs:List Int):-(2:Int) ^ 63<=j0 hs/\j0 hs < 2 ^ 63:=
 z8x _ (Nat.mod_lt _ (by decide))
theorem Goes.pyHashT {a:Addr} {s s':u0} {hs:List Int} {tok:Tok} (h1:Goes p w n₀ ann code q 1 (cRoomFor "hash" [.ref a]) s pos () s pos)
  (h2:Goes p w n₀ ann code q 1 (specialOf (.ref a) "__hash__") s pos (some (.builtin "tuple.__hash__")) s pos)
  (h3:Goes p w n₀ ann code q 22 (z7 (.ref a) "__hash__" (unh a)) s pos (some (.int (j0 hs) tok)) s' pos) :
  Goes p w n₀ ann code q 25 (pyHash (.ref a)) s pos (C1 (j0 hs)) s' pos:=by
 have e:pyHash (.ref a)=pyHashByItsType (.ref a):=rfl;rw [e];unfold pyHashByItsType;refine Goes.bind (d:=24) h1 ?_;refine Goes.bind (d:=23) h2 ?_;rw [if_neg (by rw [beq_builtin_none];exact P0)];refine Goes.bind (d:=22) h2 ?_;show Goes p w n₀ ann code q 22 (z7 (.ref a) "__hash__" (unh a) >>= _) s pos _ s' pos;refine Goes.bind (d:=0) h3 ?_;have r:(decide (-(2:Int) ^ 63<=j0 hs) && decide (j0 hs < 2 ^ 63))=true:=by have r:=z7e hs;rw [decide_eq_true r.1,decide_eq_true r.2];rfl
 show Goes p w n₀ ann code q 0 (if (decide (-(2:Int) ^ 63<=j0 hs) && decide (j0 hs < 2 ^ 63))=true then _ else _) s' pos _ s' pos;have b:C1 (j0 hs)=(if (j0 hs == -1)=true then -2 else j0 hs):=by unfold C1;rw [if_pos r]
 rw [if_pos r,b];exact Goes.pure
theorem Goes.subDict {pairs:List (Sem Value×Sem Value)} {s s₁ s':u0} {vs:List (Value×Value)} {c c':Nat} {d:Addr} (hlen:pairs.length<=15) (hd:s.heap.objs.size=d)
  (h1:Goes p w n₀ ann code q c (evalPairs pairs) { s with heap:=s.heap.push { cls:=.type "dict",data:=.dict #[] } } pos vs s₁ pos)
  (h2:Goes p w n₀ ann code q c' (zdb d vs) s₁ pos () s' pos):Goes p w n₀ ann code q (1 + (c + c')) (subDict pairs) s pos d s' pos:=by
 subst hd;unfold PySem.subDict;refine Goes.bind (a:=s.heap.objs.size) (λ _ _ _ _=>.one rfl rfl rfl) ?_;refine (Goes.bind (d:=0) (a:=()) (Goes.holding ?_) Goes.pure);rw [if_pos hlen];refine Goes.bind h1 ?_;exact Goes.holding (Goes.bind (d:=0) h2 Goes.pure)
theorem Goes.execs1 {st:Stmt} {env:Env} {s s':u0} {pos':Pos} {c:Nat} (h:Goes p w n₀ ann code q c (exec st env) s pos .next s' pos'):Goes p w n₀ ann code q c (execs [st] env) s pos .next s' pos':=by rw [execs_cons];exact Goes.bind (d:=0) h Goes.pure
theorem Goes.seg {l:List Stmt} {env:Env} {s s':u0} {pos':Pos} {c:Nat} (h:Goes p w n₀ ann code q c (execs l env) s pos .next s' pos') :∃n,n<=c + 1/\segRun A3 p w n₀ ann 1 n s (piecesOf l env code pos [topFrame q])=some (.next,s',code,pos'):=by obtain ⟨n,a,h⟩:=h doneF deadEnd id id;exact ⟨n + 1,by omega,seg_go h rfl⟩
end
theorem zkj {p q:Program} {loose:List Str} {Xt:u0->Bool} {α:Type} {Yf:u0->α} {Ya:S0->α} {N:Nat} {H₀:O0->Heap} {gs₀:Array GenState} {d₀:Drawn} {k₀ m₀:Nat} {ann:Option Value} {S:S0->Q2->u0}
  (opens :∀w:S0,(fencedOpening A3 p w N).map (λ s=>(s.heap,s.gens,s.drawn,s.toks))=some (H₀ w.params,gs₀,d₀,k₀))
  (sizes :∀w:S0,(((H₀ w.params).isNs v3 && gs₀.size == 0),(H₀ w.params).objs.size,(H₀ w.params).nsMap v3 "__annotations__")=(true,m₀,ann))
  (runs :∀(w:S0) (os:Q2),∃M,M<=N/\topRun A3 p w m₀ ann M ⟨H₀ w.params,gs₀,d₀,k₀,os⟩ (topStub p)=some (S w os))
  (looks1 :∀(w:S0) (os:Q2),(staticsOk (G7 p.main.body) (H₀ w.params) (S w os).heap && namesBound p (S w os).heap && gensDone (S w os) && laidKept (H₀ w.params) (S w os).heap)=true)
  (looks2 :∀(w:S0) (os:Q2),openSeen q loose (G7 p.main.body) Xt true (S w os)=openGood q loose) (looks3 :∀(w:S0) (os:Q2),Yf (S w os)=Ya w):LeftO p q loose Xt Yf Ya N:=by
 intro w;obtain ⟨⟨h,b,i,k,os⟩,e,a⟩:=Option.map_eq_some_iff.mp (opens w);simp only [Prod.mk.injEq] at a;obtain ⟨rfl,rfl,rfl,rfl⟩:=a;have z:=sizes w;simp only [Prod.mk.injEq] at z;obtain ⟨c,f,d⟩:=z;obtain ⟨M,g,r⟩:=runs w os;have r:=topRun_mono (N - M) _ _ _ _ r;rw [Nat.add_sub_cancel' g] at r;have t:topFrom A3 p w N ⟨H₀ w.params,b,i,k,os⟩=some (S w os):=by unfold topFrom;dsimp only;rw [c,f,d,r];show (match (staticsOk (G7 p.main.body) (H₀ w.params) (S w os).heap && namesBound p (S w os).heap && gensDone (S w os) && laidKept (H₀ w.params) (S w os).heap) with|true=>some (S w os)|false=>none)=_;rw [looks1 w os]
 unfold openEnds;rw [e];show (topFrom A3 p w N _).map _=_;rw [t];show some (_,_)=some (_,_);rw [looks2 w os,looks3 w os]
theorem zg8 {p:Program} {w:S0} {n₀:Nat} {ann:Option Value} {env:Env} {q:Pos} {c N:Nat} {s s' r:u0} {l rest:List Stmt} {b:Code} {pos pos':Pos} (h:Goes p w n₀ ann b q c (execs l env) s pos .next s' pos')
  (k:topRun A3 p w n₀ ann N s' (restOf rest env b pos' [topFrame q])=some r) :∃M,M<=c + 1 + N/\topRun A3 p w n₀ ann M s (restOf (l++rest) env b pos [topFrame q])=some r:=by
 obtain ⟨n,a,g⟩:=Goes.seg h;exact ⟨n + N,by omega,piece_app g k⟩
end TJ
open PySem PySem.Spec PyProof.Rows
namespace L2
noncomputable abbrev fnX (x q:Str) (s:Stmt) (m:Str) (k c:Nat):FuncData:=r6 x q (za7 s) (z6o s) (z06 s) .none .none .none (.str m k) none (.ref c) .none
noncomputable abbrev fY (x q:Str) (s:Stmt):=fnX x q s "law_talejudge_k56_whole_against_all_orders" 716
noncomputable abbrev fO (x q:Str) (s:Stmt) (m:Str) (k c:Nat):Obj:=⟨.type "function",none,.func (fnX x q s m k c),#[]⟩
noncomputable abbrev fL (x q:Str) (s:Stmt):=fO x q s "law_talejudge_k56_whole_against_all_orders" 716
noncomputable abbrev cO (x q:Str) (i l n a j:Nat):Obj:=
 ⟨.type "code",none,.fields #[.str x i,.str q (i + 1),.str "/claim/cut.py" (i + 2),.int l 0,.int n 0,.int 0 0,.int 0 0,.int 3 0,.ref a,.bool true,.int 181 0,.ref (a + 1),.none,.ref (a + 2),.ref (a + 3),.ref (a + 4),.int j 0,.int l 0,.str "/claim/cut.py" (j + 1)],#[]⟩
noncomputable abbrev cP (x q:Str) (i l n a j:Nat):Obj:=
 ⟨.type "code",none,.fields #[.str x i,.str q (i + 1),.str "/claim/cut.py" (i + 2),.int l 0,.int n 0,.int 0 0,.int 0 0,.int 3 0,.ref a,.bool true,.int 181 0,.ref (a + 1),.none,.none,.none,.ref (a + 2),.int j 0,.int l 0,.str "/claim/cut.py" (j + 1)],#[]⟩
noncomputable abbrev kR (P:O0) (x:Str) (i a:Nat):DictEntry:=⟨d0 P x,.str x i,.ref a⟩
section
variable {P:Program} {w:S0} {K:b0} {mg:Str->Option Value} {base:Heap} {x q:Str} {st:Stmt} {f:Addr} {fd:FuncData} {k:Nat} {ps:List Str} {sp:Sp}
theorem z0d {m:Str} {i c:Nat} (l:K.lookup f=some (fO x q st m i c):=by kernel_rfl) (hc:D8 K (.ref c) q=true:=by kernel_rfl) (hk:E3 K (.ref f)=true:=by kernel_rfl):Fun K x q st f (fnX x q st m i c):=fun_mk l hc hk
theorem cal_mk (T:TX K mg) (F:Fun K x q st f fd) (g:W6 K v3 x=some (some (.ref f))) (b:Binds K fd ps []) (G:FnOk P w K mg base CX0 k f fd ps sp):Cal P w K mg base x ps k sp:=⟨⟨f,fd,G,T.of g,F.kp,b⟩⟩
end
section
variable {p:List Value->Prop}
theorem us1 (h :∀a,p [a]) :∀us:List Value,us.length=1->p us | [a],_=>h a
theorem us2 (h :∀a b,p [a,b]) :∀us:List Value,us.length=2->p us | [a,b],_=>h a b
theorem us3 (h :∀a b c,p [a,b,c]) :∀us:List Value,us.length=3->p us | [a,b,c],_=>h a b c
theorem us4 (h :∀a b c d,p [a,b,c,d]) :∀us:List Value,us.length=4->p us | [a,b,c,d],_=>h a b c d
theorem us6 (h :∀a b c d e f,p [a,b,c,d,e,f]) :∀us:List Value,us.length=6->p us | [a,b,c,d,e,f],_=>h a b c d e f
end
end L2
set_option maxHeartbeats 1000000
namespace L2
open PySem PySem.Spec PyProof.Rows
section
variable {X:Cx}
noncomputable def rEqL0 (K:b0):R2:=λ x y H Q=>∃a b xs,x=.ref a/\y=.ref b/\SqL K H a xs/\SqL K H b []/\Q (.bl (decide (xs=[]))) H
theorem zmo {k:Nat} (hr:Room k X.A):OpR X (j2 .Eq) (rEqL0 X.K):=by
 intro B s σ H x y v u Q I n o h;obtain ⟨a,b,r,rfl,rfl,m,p,q⟩:=h;cases n;cases o;obtain ⟨D,g,c,_⟩:=I.list m;obtain ⟨C,t,f,_⟩:=I.list p;cases t;have d:X.A.units < cLine:=j01 (hu_of hr);have l:=g.length;cases r with
 | nil=>cases g;exact SeqAt.RcAt.lists (e:=λ _=>true) c.isList f.isList rfl d (λ j i _=>absurd i (Y3 _)) X.prog X.w _ _ ⟨.bl _,H,I,rfl,q⟩
 | cons z zs=>refine SeqAt.RcAt.lists_lengths c.isList f.isList ?_ d X.prog X.w _ _ ⟨.bl _,H,I,rfl,q⟩;rw [J0,<-l];rfl
end
mutual
noncomputable def keyD:PyData->Bool
 | .int _=>true
 | .str _=>false
 | .tuple xs=>keyDs xs
 | .none=>false
 | .bool _=>false
 | .list _=>false
 | .dict _=>false
noncomputable def keyDs:List PyData->Bool
 | []=>true
 | x :: xs=>keyD x && keyDs xs
end
mutual
noncomputable def hashD:PyData->Int
 | .int i=>hashInt i
 | .str _=>0
 | .tuple xs=>C1 (j0 (hashDs xs))
 | .none=>0
 | .bool _=>0
 | .list _=>0
 | .dict _=>0
noncomputable def hashDs:List PyData->List Int
 | []=>[]
 | x :: xs=>hashD x :: hashDs xs
end
mutual
noncomputable def drawD:PyData->Nat
 | .tuple xs=>drawDs xs + 1
 | .int _=>1
 | .str _=>1
 | .none=>1
 | .bool _=>1
 | .list _=>1
 | .dict _=>1
noncomputable def drawDs:List PyData->Nat
 | []=>0
 | x :: xs=>drawD x + drawDs xs
end
mutual
theorem zgm {h h':Heap} (k :∀b o vs n,h.get? b=some o->o.cls=.type "tuple"->o.data=.seq vs n->h'.get? b=some o) :∀(d:PyData) (v:Value) (as:List Addr),keyD d=true->Reads h v d as->Reads h' v d as
 | .int i,v,as,_,r=>by cases r;exact .int _ _
 | .str _,_,_,hk,_=>by cases hk
 | .tuple xs,v,as,hk,r=>by
  cases r with
  | tuple e c d r=>exact .tuple (k _ _ _ _ e c d) c d (zd1 k xs _ _ hk r)
 | .none,_,_,hk,_=>by cases hk
 | .bool _,_,_,hk,_=>by cases hk
 | .list _,_,_,hk,_=>by cases hk
 | .dict _,_,_,hk,_=>by cases hk
theorem zd1 {h h':Heap} (k :∀b o vs n,h.get? b=some o->o.cls=.type "tuple"->o.data=.seq vs n->h'.get? b=some o) :∀(ds:List PyData) (vs:List Value) (as:List Addr),keyDs ds=true->j3a h vs ds as->j3a h' vs ds as
 | [],_,_,_,r=>by cases r;exact .nil
 | d :: ds,_,_,c,r=>by
  have c:=Bool.and_eq_true_iff.mp (show (keyD d && keyDs ds)=true from c);cases r with
  | cons a r=>exact .cons (zgm k d _ _ c.1 a) (zd1 k ds _ _ c.2 r)
end
mutual
theorem z8d :∀d:PyData,keyD d=true->plainP d=true
 | .int _,_=>rfl
 | .str _,hk=>by cases hk
 | .tuple xs,h=>z9o xs h
 | .none,hk=>by cases hk
 | .bool _,hk=>by cases hk
 | .list _,hk=>by cases hk
 | .dict _,hk=>by cases hk
theorem z9o :∀ds:List PyData,keyDs ds=true->z10 ds=true
 | [],_=>rfl
 | d :: ds,a=>by have a:=Bool.and_eq_true_iff.mp (show (keyD d && keyDs ds)=true from a);show (plainP d && z10 ds)=true;rw [z8d d a.1,z9o ds a.2];rfl
end
mutual
theorem zcy :∀d:PyData,keyD d=true->d.canLay0=true
 | .int _,_=>rfl
 | .str _,hk=>by cases hk
 | .tuple xs,h=>zhg xs h
 | .none,hk=>by cases hk
 | .bool _,hk=>by cases hk
 | .list _,hk=>by cases hk
 | .dict _,hk=>by cases hk
theorem zhg :∀ds:List PyData,keyDs ds=true->K7 ds=true
 | [],_=>rfl
 | d :: ds,a=>by have a:=Bool.and_eq_true_iff.mp (show (keyD d && keyDs ds)=true from a);show (d.canLay0 && K7 ds)=true;rw [zcy d a.1,zhg ds a.2];rfl
end
section
variable {prog:Program} {w:S0} {E:Value->u0->Prop}
mutual
theorem zfx :∀(d:PyData) (v:Value) (as:List Addr) (A:L1) (s:u0) (Q:Int->u0->Prop),keyD d=true->Reads s.heap v d as->A.units + d.depth < cLine->Q (hashD d) { s with toks:=s.toks + drawD d }->L0 (X0 prog w) A (pyHash v) Q E s
 | .int i,v,as,A,s,Q,_,r,_,q=>by cases r;exact wpAny_pyHash_int q
 | .str _,_,_,_,_,_,hk,_,_,_=>by cases hk
 | .tuple xs,v,as,A,s,Q,hk,r,b,q=>by
  cases r with
  | @tuple a o vs n _ _ e c d r=>
   have b:A.units + (W1 xs + 1) < cLine:=b;have ty:s.TypeIs (.ref a) "tuple":=⟨o,e,c⟩
   refine W.pyHash_slot (v:=.ref a) ty F.slot_tuple_hash F.entry_tuple_hash (F.args_tuple_hash_1 _) rfl (.inr (by omega)) ?_;refine c0 (x0 ?_);refine c0 (wpAny_tupleItemsOf e d ?_);refine c0 ?_;rw [<-Array.forIn_toList];refine zaf xs vs.toList _ #[] A.in1 s _ hk r (show A.units + 1 + W1 xs < cLine by omega) ?_;refine c0 (wpAny_mkInt (x0 ⟨_,_,rfl,?_⟩));simpa [hashD,drawD,j2a] using q
 | .none,_,_,_,_,_,hk,_,_,_=>by cases hk
 | .bool _,_,_,_,_,_,hk,_,_,_=>by cases hk
 | .list _,_,_,_,_,_,hk,_,_,_=>by cases hk
 | .dict _,_,_,_,_,_,hk,_,_,_=>by cases hk
theorem zaf :∀(ds:List PyData) (vs:List Value) (as:List Addr) (hs:Array Int) (A:L1) (s:u0) (Q:Array Int->u0->Prop),keyDs ds=true->j3a s.heap vs ds as->A.units + W1 ds < cLine->Q (hs++(hashDs ds).toArray) { s with toks:=s.toks + drawDs ds }->
  L0 (X0 prog w) A (j0a vs hs λ x hs=>do let h <-pyHash x;V2 (U2 (hs.push h))) Q E s
 | [],_,_,hs,A,s,Q,_,r,_,q=>by cases r;rw [D7];exact x0 (by simpa [hashDs,drawDs] using q)
 | d :: ds,_,_,hs,A,s,Q,b,r,c,q=>by
  have b:=Bool.and_eq_true_iff.mp (show (keyD d && keyDs ds)=true from b);have c:A.units + max d.depth (W1 ds) < cLine:=c;cases r with
  | @cons v vs _ _ as bs a r=>rw [Z6];refine c0 (c0 (zfx d v as A s _ b.1 a (by omega) (x0 ?_)));refine zaf ds vs bs (hs.push (hashD d)) A { s with toks:=s.toks + drawD d } Q b.2 r (by omega) ?_;simpa [hashDs,drawDs,j2a] using q
end
theorem zfr {a:Addr} {n:Nat} {o:Obj} {vs:Array Value} {m:Nat} {A:L1} {s:u0} {Q:Bool->u0->Prop} (e:s.heap.get? a=some o) (c:o.cls=.type "tuple") (d:o.data=.seq vs m)
  (h:L0 (X0 prog w) A (j0a vs.toList ((none:Option Bool),()) λ y _=>do
    let b <-N4 n y
    if (!b)=true then V2 (ForInStep.done (some false,())) else V2 (U2 (none,())))
   (λ r s'=>r.1=none/\Q true s') E s):L0 (X0 prog w) A (N4 (n + 1) (.ref a)) Q E s:=by
 rw [eqIsQuiet.eq_2];have ty:s.TypeIs (.ref a) "tuple":=⟨o,e,c⟩
 refine c0 (j26 (r:=some (.builtin "tuple.__eq__")) ty (by rfl) ?_);refine c0 (c5 (T:="tuple") ty isSubtype_tuple_tuple ?_);simp only [j25,G9,if_false];refine c0 (N6 e d (c0 ?_));show L0 _ _ (j0a vs _ _) _ _ _;rw [<-Array.forIn_toList];refine M3 h (λ r s' h=>?_) (λ _ _ h=>h);obtain ⟨g,j⟩:=r;obtain ⟨f,i⟩:=h;cases (show g=none from f);exact x0 i
mutual
theorem zcr :∀(d:PyData) (v:Value) (as:List Addr) (n:Nat) (A:L1) (s:u0) (Q:Bool->u0->Prop),keyD d=true->Reads s.heap v d as->d.depth<=n->Q true s->L0 (X0 prog w) A (N4 n v) Q E s
 | .int i,v,as,n,A,s,Q,_,r,_,q=>by cases r;rw [eqIsQuiet.eq_3];exact x0 q;intro a h;cases h
 | .str _,_,_,_,_,_,_,hk,_,_,_=>by cases hk
 | .tuple xs,v,as,n,A,s,Q,hk,r,b,q=>by
  cases r with
  | @tuple a o vs m _ _ e c d r=>
   have b:W1 xs + 1<=n:=b;obtain ⟨n,rfl⟩ :∃k,n=k + 1:=⟨n - 1,by omega⟩
   exact zfr e c d (zan xs vs.toList _ n A s _ hk r (by omega) ⟨rfl,q⟩)
 | .none,_,_,_,_,_,_,hk,_,_,_=>by cases hk
 | .bool _,_,_,_,_,_,_,hk,_,_,_=>by cases hk
 | .list _,_,_,_,_,_,_,hk,_,_,_=>by cases hk
 | .dict _,_,_,_,_,_,_,hk,_,_,_=>by cases hk
theorem zan :∀(ds:List PyData) (vs:List Value) (as:List Addr) (n:Nat) (A:L1) (s:u0) (Q:Option Bool×Unit->u0->Prop),keyDs ds=true->j3a s.heap vs ds as->W1 ds<=n->Q (none,()) s->
  L0 (X0 prog w) A (j0a vs ((none:Option Bool),()) λ y _=>do
    let b <-N4 n y
    if (!b)=true then V2 (ForInStep.done (some false,())) else V2 (U2 (none,()))) Q E s
 | [],_,_,n,A,s,Q,_,r,_,q=>by cases r;rw [D7];exact x0 q
 | d :: ds,_,_,n,A,s,Q,c,r,e,q=>by
  have c:=Bool.and_eq_true_iff.mp (show (keyD d && keyDs ds)=true from c);have e:max d.depth (W1 ds)<=n:=e;cases r with
  | @cons v vs _ _ as bs a r=>rw [Z6];refine c0 (c0 (zcr d v as n A s _ c.1 a (by omega) ?_));exact x0 (zan ds vs bs n A s Q c.2 r (by omega) q)
end
end
open Classical in
noncomputable instance:DecidableEq PyData:=λ a b=>Classical.propDecidable (a=b)
noncomputable def z8e (prog:Program) (w:S0):HeapKind prog w PyData where
 is h d a:=keyD d=true/\d.depth<=7/\∃as,Reads h (.ref a) d as
 hash:=hashD
 draws:=drawD
 room A:=A.units + 8 < cLine
 inj:=λ {h a x y} hx hy=>by obtain ⟨kx,_,as,rx⟩:=hx;obtain ⟨_,_,bs,ry⟩:=hy;exact SeqAt.Reads.unique x y _ as bs (zcy x kx) rx ry
 keeps:=λ {h h' k a d o es ep} hk e hd sb=>by
  obtain ⟨k1,k2,as,r⟩:=hk;refine ⟨k1,k2,as,zgm (λ b o' vs n eb _ eo=>?_) k _ as k1 r⟩;have nb:b≠d:=λ z=>by rw [z,e] at eb;cases eb;rw [hd] at eo;cases eo
  rw [sb.2 b nb];exact eb
 pyHash:=λ {A E s k a Q} hr hk q=>by obtain ⟨k1,k2,as,r⟩:=hk;exact zfx k _ as A s Q k1 r (by omega) q
 eqBool:=λ {A E s x y a b Q} hr hx hy q=>by obtain ⟨x1,x2,as,rx⟩:=hx;obtain ⟨y1,y2,bs,ry⟩:=hy;refine SeqAt.eqAt_reads x y A s _ _ as bs rx ry (zcy x x1) (zcy y y1) (by have:=Nat.min_le_left x.depth y.depth;omega) prog w E Q ?_;rw [zn6 (p:=x=y) (z8d x x1) (z8d y y1) Iff.rfl];exact q
 quiet:=λ {A E s k a Q} hk q=>by obtain ⟨k1,k2,as,r⟩:=hk;exact zcr k _ as 8 A s Q k1 r (by omega) q
section
variable {prog:Program} {w:S0} {A:L1} {E:Value->u0->Prop} {s:u0}
def DcAt (h:Heap) (d:Addr) (es:Array DictEntry) (ep:Nat):Prop:=∃o,h.get? d=some o/\o.ExactDict/\o.data=.dict es ep
end
mutual
noncomputable def ltD:PyData->PyData->Option Bool
 | .int i,e=>match e with
  | .int j=>some (decide (i < j))
  | _=>none
 | .tuple xs,e=>match e with
  | .tuple ys=>ltDs xs ys
  | _=>none
 | .none,_=>none
 | .bool _,_=>none
 | .str _,_=>none
 | .list _,_=>none
 | .dict _,_=>none
noncomputable def ltDs:List PyData->List PyData->Option Bool
 | [],ys=>some (decide (0 < ys.length))
 | x :: xs,ys=>match ys with
  | []=>some false
  | y :: ys=>if x=y then ltDs xs ys else ltD x y
end
noncomputable def nsE (k:PyData×Addr):DictEntry:={ hash:=hashD k.1,key:=.ref k.2,val:=.bool true }
noncomputable def NsO (a:Addr) (ks:List (PyData×Addr)):HO:=.ext λ h=>(a == S3)=false/\ks.length<=sizeLine/\(ks.map (·.1)).Nodup/\∃ep,DcAt h a (ks.map nsE).toArray ep
def NsAt (K:b0) (H:Hp) (a:Addr) (ks:List (PyData×Addr)):Prop:=Rd H a (NsO a ks)/\∀k∈ks,keyD k.1=true/\k.1.depth<=7/\IsPd K H k.1 (.ref k.2)
noncomputable def putN (ks:List (PyData×Addr)) (d:PyData) (b:Addr):List (PyData×Addr):=if d∈ks.map (·.1) then ks else ks++[(d,b)]
section
variable {X:Cx} {pins:List (Addr×Obj)} {σ:St} {H:Hp} {s:u0} {a b:Addr} {ks:List (PyData×Addr)} {d:PyData} {A:L1} {E:Value->u0->Prop}
theorem ns_is (I:Inv X pins σ H s) (hk:keyD d=true) (hd:d.depth<=7) (h:IsPd X.K H d (.ref b)):(z8e X.prog X.w).is s.heap d b:=by obtain ⟨a,r⟩:=z3s I d (.ref b) (.ref b) h rfl;exact ⟨hk,hd,a,r⟩
theorem zjw (I:Inv X pins σ H s) (h:NsAt X.K H a ks):(a == S3)=false/\ks.length<=sizeLine/\(ks.map (·.1)).Nodup/\(∃ep,DcAt s.heap a (ks.map nsE).toArray ep)/\s.heap.DictOfH (z8e X.prog X.w) a (ks.map λ k=>(k.1,k.2,j4 true)):=by
 obtain ⟨d,f⟩:=h;obtain ⟨⟨l,j,b,ep,c⟩,_⟩:=(show ObjOk X.prog X.w H s.heap a (NsO a ks) from d.ok I.hok)
 refine ⟨l,j,b,⟨ep,c⟩,?_⟩;obtain ⟨o,m,e,g⟩:=c;refine ⟨o,_,ep,m,e,g,?_,λ x r=>?_,?_⟩
 ·rw [X2];rfl
 ·obtain ⟨k,q,rfl⟩:=List.mem_map.mp r;obtain ⟨i,p,n⟩:=f k q;exact ns_is I i p n
 ·rw [X2];exact b
theorem at_ns:(O8 (ks.map λ k=>(k.1,k.2,j4 true)) d).isSome=decide (d∈ks.map (·.1)):=by
 unfold O8;rw [L7,Bool.eq_iff_iff,List.find?_isSome,decide_eq_true_iff];constructor
 ·rintro ⟨x,hx,e⟩;obtain ⟨k,a,rfl⟩:=List.mem_map.mp hx;exact List.mem_map.mpr ⟨k,a,of_decide_eq_true e⟩
 ·intro h;obtain ⟨k,a,e⟩:=List.mem_map.mp h;exact ⟨_,List.mem_map.mpr ⟨k,a,rfl⟩,decide_eq_true e⟩
theorem ziv:storedH (ks.map λ k=>(k.1,k.2,j4 true)) d b (.bool true)=(putN ks d b).map λ k=>(k.1,k.2,j4 true):=by
 unfold storedH putN;rw [at_ns];by_cases z:d∈ks.map (·.1)
 ·rw [if_pos (decide_eq_true z),if_pos z,X2];refine List.map_congr_left λ k a=>?_;show putAt d (.bool true) (k.1,k.2,j4 true)=_;unfold putAt;split<;>rfl
 ·rw [if_neg (by rw [decide_eq_false z];decide),if_neg z,j1];rfl
theorem zhb:(putN ks d b).length<=ks.length + 1:=by
 unfold putN;split
 ·omega
 ·rw [F0];exact A0 _
theorem ns_put {Q:Unit->u0->Prop} (hu:A.units + 9 < cLine) (I:Inv X pins σ H s) (ha:H a=some (NsO a ks)) (h:NsAt X.K H a ks) (hl:ks.length < sizeLine) (hk:keyD d=true) (hd:d.depth<=7) (hb:IsPd X.K H d (.ref b)) (q :∀s',Inv X pins σ (upd H a (NsO a (putN ks d b))) s'->Q () s'):L0 (X0 X.prog X.w) A (setItem (.ref a) (.ref b) (.bool true)) Q E s:=by
 obtain ⟨x,y,M,_,D⟩:=zjw I h;refine wpAny_setItem_heap (knd:=z8e X.prog X.w) (hsz:=by rw [D0];exact y) (show A.units + 1 + 8 < cLine by omega) (ns_is I hk hd hb) D λ J f t=>q _ ?_;rw [ziv] at f;obtain ⟨o,u,z,c,i,j,F,_,g⟩:=f;have B:u=((putN ks d b).map nsE).toArray:=by apply Array.ext';rw [F,X2];rfl
 subst B;refine z9c I (by rw [ha];exact True.intro) t ⟨o,c⟩ ⟨⟨x,by have:=zhb (ks:=ks) (d:=d) (b:=b);omega,?_,z,o,c,i,j⟩,⟨o,c⟩,λ G L p k=>?_⟩
 ·rw [X2] at g;exact g
 ·obtain ⟨m,v,C,l,e,r,n⟩:=p;exact ⟨m,v,C,l,e,k e r,n⟩
end
noncomputable def tDNewN:TE:=λ _ H Q=>∀p,H p=none->Q (.ref p) (upd H p (NsO p []))
noncomputable def rInN (K:b0) (neg:Bool):R2:=λ y x H Q=>∃a b ks d,x=.ref a/\y=.ref b/\NsAt K H a ks/\keyD d=true/\d.depth<=7/\IsPd K H d (.ref b)/\Q (.bl (xor neg (decide (d∈ks.map (·.1))))) H
noncomputable def sNPut (K:b0) (td ty tv:TE):TS:=λ D σ H=>tv σ H λ v H1=>td σ H1 λ x H2=>ty σ H2 λ y H3=>∃a b ks d,v=.bl true/\x=.ref a/\y=.ref b/\H3 a=some (NsO a ks)/\NsAt K H3 a ks/\ks.length < sizeLine/\keyD d=true/\d.depth<=7/\IsPd K H3 d (.ref b)/\D.nx σ (upd H3 a (NsO a (putN ks d b)))
section
variable {X:Cx}
theorem zkk {P:Program} {w:S0} {H:Hp} (h:Heap) (hb:S3 < h.objs.size):ObjOk P w H (h.push { cls:=.type "dict",data:=.dict #[] }) h.objs.size (NsO h.objs.size []):=by refine ⟨⟨beq_eq_false_iff_ne.mpr (J2 (V0 hb)),X1 _,B7,0,_,M0 _ rfl,⟨rfl,rfl,rfl⟩,rfl⟩,⟨_,M0 _ rfl⟩,λ i j p k=>?_⟩;obtain ⟨f,e,b,d,a,c,g⟩:=p;exact ⟨f,e,b,d,a,k a c,g⟩
theorem zlk {pos:Pos}:PE X (.Dict [] [] pos) tDNewN:=λ b s σ H Q I h=>wpAny_Dict_empty ⟨.ref s.heap.objs.size,_,I.laid (a:=s.heap.objs.size) (o:=NsO s.heap.objs.size []) (t':=s.toks) (λ _ _ q=>y0 _ q) (A0 _) (zkk s.heap I.big),rfl,h _ (I.hok.fresh (A0 _))⟩
theorem zi9 {k:Nat} (hr:Room k X.A):OpR X (j2 .NotIn) (rInN X.K true):=by intro n s σ H y x u v Q I j i h;obtain ⟨a,b,t,d,rfl,rfl,c,f,e,m,q⟩:=h;cases j;cases i;have p:=hr.units;obtain ⟨g,o,r,_,l⟩:=zjw I c;refine wpAny_notIn_heap (knd:=z8e X.prog X.w) (show X.A.units + 1 + 8 < cLine by omega) (ns_is I f e m) g l ?_;rw [at_ns];rw [Bool.true_xor] at q;exact ⟨.bl _,H,I.tok _,rfl,q⟩
theorem zmt {o i value:Expr} {pos pos':Pos} {td ty tv:TE} {k:Nat} (hr:Room k X.A) (ho:PE X o td) (hi:PE X i ty) (hv:PE X value tv) (hs:b7 value (some (.Subscript o i pos')) pos.line X.env=V2 false) :
  PS X (.Assign [.Subscript o i pos'] value pos) (sNPut X.K td ty tv):=by
 intro c s σ H D I h;refine wpAny_Assign_Subscript (thn (hv c s σ H _ I h) λ r f ⟨v,H1,I1,rv,q1⟩=>thn (ho c f σ H1 _ I1 q1) λ u e ⟨x,H2,I2,rx,q2⟩=>thn (hi c e σ H2 _ I2 q2) λ g l ⟨y,H3,I3,ry,a,b,ks,d,ev,ex,ey,h0,h1,h2,h3,h4,h5,q3⟩=>?_) hs;subst ev ex ey;obtain rfl:u=v1 a:=rx;obtain rfl:g=v1 b:=ry;obtain rfl:r=j4 true:=rv;have n:=hr.units;exact ns_put (by omega) I3 h0 h1 h2 h3 h4 h5 λ m j=>⟨σ,_,j,q3⟩
end
noncomputable def ItRv (a:Addr) (n:Nat):It:=
 ⟨λ i H=>i < n/\∃xs,H a=some (.lst xs)/\xs.length=n,λ i H x H'=>H'=H/\∀xs,H a=some (.lst xs)->xs[n - 1 - i]? = some x,λ i H=>i=n⟩
theorem zlb {P:Program} {w:S0} {K:b0} {tg:Expr} (a it:Addr) (n:Nat):Turn P w K tg (ItRv a n) [it] it (λ i h=>h.IsRevIter it a ((n:Int) - 1 - (i:Nat))) where
 mem:=by simp
 obj:=λ i h f b g=>by
  obtain rfl:b=it:=by simpa using g
  obtain ⟨o,e,c,d⟩:=f;exact ⟨o,e,λ v z=>by rw [d] at z;cases z⟩
 keep:=λ i h j f k=>by obtain ⟨o,e,r⟩:=f;exact ⟨o,k it (by simp) o e,r⟩
 item:=by
  intro X t hw B M i G s σ H E I l f m;subst t hw B;obtain ⟨V,N,L,Z⟩:=m;obtain ⟨a0,J,p,Y⟩:=I.list (SqL.of L);obtain ⟨q,C,R,y,x,D⟩:=l it (by simp);have hl:=J.length;have lt:n - 1 - i < N.length:=by omega
  obtain ⟨u,T,Q⟩:=J.get (B0 lt);rw [show (n:Int) - 1 - (i:Nat)=((n - 1 - i:Nat):Int) by omega] at f;refine wpAny_pyNext_rev_item f p.isList (by simpa using T) λ j A O=>?_;have S:Inv X G σ H { s with heap:=j }:=I.turned (t':=s.toks) (λ b o g e=>(O.2 b g).trans e) q C y x D;obtain ⟨o,e,c,d⟩:=id A;rw [show ((n - 1 - i:Nat):Int) - 1=(n:Int) - 1 - ((i + 1:Nat):Int) by omega] at A;refine ⟨_,rfl,go_of (s:={ s with heap:=j }) e c d (by decide) ⟨N[n - 1 - i],H,S,Q,⟨rfl,λ W F=>?_⟩,A,λ b g=>(l b g).1⟩⟩;rw [L] at F;cases F;exact B0 lt
 done:=by intro X t hw B M i G s σ H E I l f m;subst t hw B;obtain ⟨q,C,R,y,x,D⟩:=l it (by simp);have m:i=n:=m;rw [show (n:Int) - 1 - (i:Nat)=-1 by omega] at f;exact wpAny_pyNext_rev_end (I.ok.hd M) f λ j U=>⟨rfl,I.turned (t':=s.toks) (λ b o g e=>U b o g e) q C y x D⟩
 self:=λ _ _ _ _ _ f h=>wpAny_pyIter_revIter f h
noncomputable def iRevL (tl:TE):TI:=λ σ H R=>tl σ H λ x H1=>∃a xs,x=.ref a/\H1 a=some (.lst xs)/\R (ItRv a xs.length) H1
theorem zm4 {X:Cx} {tg e:Expr} {te:TE} {p2 c2:Pos} (g2:Gl X "reversed") (m2:X.mg "reversed" = none) (ha:PE X e te) (he:A1 [e] X.env=[(false,d3 e X.env)]:=by rfl):PI X tg (.Call (.Name "reversed" p2) [e] [] c2) (iRevL te):=by
 intro l s σ H R I h;refine Call_ (ld_blt I g2 m2 boot_reversed (j3 ?_ he rfl));rw [he];refine (show L0 _ _ (spliced ((false,d3 e X.env) :: [])) _ _ s from U4 (thn (ha l s σ H _ I h) λ u c ⟨x,H1,I1,r1,a,xs,ex,sq,q⟩=>?_));subst ex;cases r1;refine o5 ?_;obtain ⟨d,k,i,m⟩:=I1.list (SqL.of sq);have j:=k.length;refine call_reversed_list i.isList ?_;have f:(c.heap.push (revObj a ((d.toArray.size:Int) - 1))).IsRevIter c.heap.objs.size a ((d.toArray.size:Int) - 1):=⟨_,M0 _ rfl,rfl,rfl⟩
 refine wpAny_pyIter_revIter f ?_;refine ⟨c.heap.objs.size,[c.heap.objs.size],_,_,H1,rfl,I1.kept (t':=c.toks) λ b o e=>y0 _ e,zlb a _ _,?_,λ b g=>?_,q⟩
 ·rw [show (xs.length:Int) - 1 - ((0:Nat):Int)=(d.toArray.size:Int) - 1 by rw [J0,<-j];omega];exact f
 obtain rfl:b=c.heap.objs.size:=by simpa using g
 exact I1.fpOk (A0 _) (I1.hok.fresh (A0 _))
theorem zm2 {a:Addr} {xs:List V} {g:TG} {tb:TS} {D:Ends} {σ:St} {H:Hp} (Pv:Nat->St->Hp->Prop) (h0:Pv 0 σ H) (hl :∀i σ H,Pv i σ H->H a=some (.lst xs))
  (hs :∀i x σ H,xs.reverse[i]? = some x->Pv i σ H->g x σ H λ σ2 H2=>tb { D with nx:=Pv (i + 1),ct:=Pv (i + 1),bk:=D.nx } σ2 H2) (hd :∀σ H,Pv xs.length σ H->D.nx σ H) :
  ∃W:Nat->Nat->St->Hp->Prop,(∃m,W 0 m σ H)/\∀i m σ H,W i m σ H->
   ((ItRv a xs.length).stop i H/\D.nx σ H)\/((ItRv a xs.length).go i H/\∃N:St->Hp->Prop,(∀σ' H',N σ' H'->∃m',m' < m/\W (i + 1) m' σ' H')/\∀x H',(ItRv a xs.length).yld i H x H'->g x σ H' λ σ2 H2=>tb { D with nx:=N,ct:=N,bk:=D.nx } σ2 H2):=by
 refine ⟨λ i m σ H=>m=xs.length - i/\i<=xs.length/\Pv i σ H,⟨xs.length,by simp,X1 _,h0⟩,?_⟩;rintro i m σ H ⟨rfl,hi,p⟩;have q:=hl i σ H p;by_cases hlt:i < xs.length
 ·refine .inr ⟨⟨hlt,xs,q,rfl⟩,Pv (i + 1),λ σ' H' b=>⟨xs.length - (i + 1),by omega,rfl,hlt,b⟩,λ x H' y=>?_⟩;obtain ⟨rfl,y⟩:=y;refine hs i x σ _ ?_ p;rw [List.getElem?_reverse hlt];exact y xs q
 ·obtain rfl:i=xs.length:=by omega
  exact .inl ⟨rfl,hd σ H p⟩
end L2
set_option maxHeartbeats 400000
namespace L2
open PySem PySem.Spec PyProof.Rows
section
variable {X:Cx}
theorem zms {o:Expr} {to:TE} {apos cpos:Pos} (ho:PE X o to) (hbase:U3 o "pop" X.env (d3 o X.env)=d3 o X.env:=by rfl) (hline:(apos.endLine == cpos.line)=true:=by rfl):PE X (.Call (.Attribute o "pop" apos) [] [] cpos) (tBM0 X.K "list" rPop to):=
 pe_bm0 M4 j21 j20 mt_pop ho hbase hline
theorem zhc {o e:Expr} {es:List Expr} {to:TE} {t:TA} {apos cpos:Pos} (ho:PE X o to) (ha:PA X (e :: es) t)
  (hbase:U3 o "extend" X.env (d3 o X.env)=d3 o X.env:=by rfl)
  (hfew:((E4 cpos (A1 (e :: es) X.env)).all (λ x=>!x.1) && (N8 cpos (K6 [] X.env)).all (λ x=>x.1.isSome) && decide ((e :: es).length + ([]:List j6).length + (if ([]:List j6).isEmpty then 0 else 1) < 30))=true:=by rfl)
  (hline:(apos.endLine == cpos.line)=true:=by rfl) (hs:A1 (e :: es) X.env=(false,d3 e X.env) :: A1 es X.env:=by rfl) (hplain:(E4 cpos (A1 es X.env)).any (·.1)=false:=by rfl) :
  PE X (.Call (.Attribute o "extend" apos) (e :: es) [] cpos) (tBM X.K "list" zjt to t):=pe_bm M4 PySem.F.slot_list_extend PySem.F.type_list_extend zj3 ho ha hbase hfew hline hs hplain
end
end L2
set_option maxHeartbeats 0
namespace K56
open PySem PySem.W PyProof.Rows TJ L2
noncomputable abbrev PX:Program:=PySem.Challenge.pw_talejudge_k56_whole_against_all_orders
noncomputable abbrev annX:Option Value:=some (.ref 6)
noncomputable def tp (a b:Str) (t:Nat):Obj:={ cls:=.type "tuple",data:=.seq #[.str a t,.str b (t + 1)] 0 }
noncomputable def tups:List Obj:=[tp "register" "read" 391,tp "register" "write" 393,tp "counter" "read" 395,tp "counter" "add" 397,tp "queue" "put" 399,tp "queue" "take" 401,tp "set" "put" 403,tp "set" "cut" 405,tp "set" "has" 407,tp "cell" "read" 409,tp "cell" "write" 411,tp "cell" "swap" 413]
noncomputable def insAll:List Obj->Nat->BT->BT
 | [],_,t=>t
 | x :: r,n,t=>insAll r (n + 1) (t.ins n x)
noncomputable def treeD (P:O0) (oD:Obj):BT:=insAll tups 153 ((K56.pre.tree_169 P).ins 152 oD)
noncomputable def FX (w:S0) (os:Q2) (oD:Obj) (tk:Nat):SharedT:=⟨treeD w.params oD,165,{},⟨[]⟩,{},tk,os⟩
noncomputable abbrev cdX:Code:=.body (behindTheImports PX) K56.pre.env_1
noncomputable abbrev qX:Pos:=⟨0,0,0,0⟩
noncomputable abbrev BX:List Frame:=[topFrame qX]
noncomputable abbrev GX {α:Type} (w:S0) (c:Nat) (x:Sem α) (s:u0) (pos:Pos) (a:α) (s':u0) (pos':Pos):Prop:=Goes PX w 11 annX cdX qX c x s pos a s' pos'
def LX (n:Nat) {α:Type} (x:Sem α) (w:S0) (pos:Pos) (s:Q2->Obj->Nat->SharedT) (a:Nat->α) (s':Q2->Obj->Nat->SharedT) (pos':Pos):Prop:=
 ∀(os:Q2) (oD:Obj) (tk:Nat) (K:α->Sem j00) (H:Value->Sem j00) (gd:Bool->Bool) (lv:List Value->List Value),
  PySem.W.Fast.tw10295753902157049106 m8 PX w 11 annX 1 n (s os oD tk) ⟨x.wrap K H gd lv,cdX,pos,BX⟩=some (s' os oD tk,⟨K (a tk),cdX,pos',BX⟩)
theorem LX.goes {n:Nat} {α:Type} {x:Sem α} {w:S0} {pos pos':Pos} {s s':Q2->Obj->Nat->SharedT} {a:Nat->α} (h:LX n x w pos s a s' pos') (os:Q2) (oD:Obj) (tk:Nat):GX w n x (s os oD tk).abs pos (a tk) (s' os oD tk).abs pos':=by refine Goes.leaf n λ K H c b=>?_;have e:=h os oD tk K H c b;rw [<-PySem.W.Fast.te10295753902157049106,<-E5] at e;exact e
noncomputable abbrev stay (w:S0):Q2->Obj->Nat->SharedT:=FX w
noncomputable abbrev plus3 (w:S0):Q2->Obj->Nat->SharedT:=λ os oD tk=>FX w os oD (tk + 3)
theorem qtH (a:Addr) (h :∀(w:S0) (pos:Pos),LX 3 (PySem.W.Fast.tw13066428366354244818 8 (.ref a)) w pos (stay w) (λ _=>true) (stay w) pos:=by intro w pos os oD tk K H gd lv;kernel_rfl) (w:S0) (pos:Pos):LX 3 (N4 8 (.ref a)) w pos (stay w) (λ _=>true) (stay w) pos:=by rw [PySem.W.Fast.te13066428366354244818];exact h w pos
def qt0:=qtH 153
def qt1:=qtH 154
def qt2:=qtH 155
def qt3:=qtH 156
def qt4:=qtH 157
def qt5:=qtH 158
def qt6:=qtH 159
def qt7:=qtH 160
def qt8:=qtH 161
def qt9:=qtH 162
def qt10:=qtH 163
def qt11:=qtH 164
theorem eqH (n:Nat) (a b:Addr) (hf :∀(w:S0) (pos:Pos),LX n (C5 (.ref a) (.ref b)) (w.withFollow "special-get-raises" false) pos (stay (w.withFollow "special-get-raises" false)) (λ _=>false) (stay (w.withFollow "special-get-raises" false)) pos:=by intro w pos os oD tk K H gd lv;kernel_rfl) (ht :∀(w:S0) (pos:Pos),LX n (C5 (.ref a) (.ref b)) (w.withFollow "special-get-raises" true) pos (stay (w.withFollow "special-get-raises" true)) (λ _=>false) (stay (w.withFollow "special-get-raises" true)) pos:=by intro w pos os oD tk K H gd lv;kernel_rfl) (w:S0) (pos:Pos):LX n (eqBool (.ref a) (.ref b)) w pos (stay w) (λ _=>false) (stay w) pos:=by rw [PySem.W.Fast.te13926502685295537346];exact byRow2 "special-get-raises" (P:=λ w=>LX n (C5 (.ref a) (.ref b)) w pos (stay w) (λ _=>false) (stay w) pos) (λ w=>hf w pos) (λ w=>ht w pos) w
noncomputable def eq0_1:=eqH 20 153 154
noncomputable def eq0_2:=eqH 16 153 155
noncomputable def eq0_3:=eqH 16 153 156
noncomputable def eq0_4:=eqH 16 153 157
noncomputable def eq0_5:=eqH 16 153 158
noncomputable def eq0_6:=eqH 16 153 159
noncomputable def eq0_7:=eqH 16 153 160
noncomputable def eq0_8:=eqH 16 153 161
noncomputable def eq0_9:=eqH 16 153 162
noncomputable def eq0_10:=eqH 16 153 163
noncomputable def eq0_11:=eqH 16 153 164
def eq1_2:=eqH 16 154 155
def eq1_3:=eqH 16 154 156
def eq1_4:=eqH 16 154 157
def eq1_5:=eqH 16 154 158
def eq1_6:=eqH 16 154 159
def eq1_7:=eqH 16 154 160
def eq1_8:=eqH 16 154 161
def eq1_9:=eqH 16 154 162
noncomputable def eq1_10:=eqH 16 154 163
noncomputable def eq1_11:=eqH 16 154 164
def eq2_3:=eqH 20 155 156
def eq2_4:=eqH 16 155 157
def eq2_5:=eqH 16 155 158
def eq2_6:=eqH 16 155 159
def eq2_7:=eqH 16 155 160
def eq2_8:=eqH 16 155 161
def eq2_9:=eqH 16 155 162
noncomputable def eq2_10:=eqH 16 155 163
noncomputable def eq2_11:=eqH 16 155 164
def eq3_4:=eqH 16 156 157
def eq3_5:=eqH 16 156 158
def eq3_6:=eqH 16 156 159
def eq3_7:=eqH 16 156 160
def eq3_8:=eqH 16 156 161
def eq3_9:=eqH 16 156 162
noncomputable def eq3_10:=eqH 16 156 163
noncomputable def eq3_11:=eqH 16 156 164
def eq4_5:=eqH 20 157 158
def eq4_6:=eqH 16 157 159
def eq4_7:=eqH 16 157 160
def eq4_8:=eqH 16 157 161
def eq4_9:=eqH 16 157 162
noncomputable def eq4_10:=eqH 16 157 163
noncomputable def eq4_11:=eqH 16 157 164
def eq5_6:=eqH 16 158 159
def eq5_7:=eqH 16 158 160
def eq5_8:=eqH 16 158 161
def eq5_9:=eqH 16 158 162
noncomputable def eq5_10:=eqH 16 158 163
noncomputable def eq5_11:=eqH 16 158 164
def eq6_7:=eqH 20 159 160
def eq6_8:=eqH 20 159 161
def eq6_9:=eqH 16 159 162
noncomputable def eq6_10:=eqH 16 159 163
noncomputable def eq6_11:=eqH 16 159 164
def eq7_8:=eqH 20 160 161
def eq7_9:=eqH 16 160 162
noncomputable def eq7_10:=eqH 16 160 163
noncomputable def eq7_11:=eqH 16 160 164
def eq8_9:=eqH 16 161 162
noncomputable def eq8_10:=eqH 16 161 163
noncomputable def eq8_11:=eqH 16 161 164
noncomputable def eq9_10:=eqH 20 162 163
noncomputable def eq9_11:=eqH 20 162 164
def zmc:=eqH 20 163 164
theorem crH (a:Addr) (hf :∀(w:S0) (pos:Pos),LX 1 (D5 "hash" [.ref a]) (w.withFollow "special-get-raises" false) pos (stay (w.withFollow "special-get-raises" false)) (λ _=>()) (stay (w.withFollow "special-get-raises" false)) pos:=by intro w pos os oD tk K H gd lv;kernel_rfl) (ht :∀(w:S0) (pos:Pos),LX 1 (D5 "hash" [.ref a]) (w.withFollow "special-get-raises" true) pos (stay (w.withFollow "special-get-raises" true)) (λ _=>()) (stay (w.withFollow "special-get-raises" true)) pos:=by intro w pos os oD tk K H gd lv;kernel_rfl) (w:S0) (pos:Pos):LX 1 (cRoomFor "hash" [.ref a]) w pos (stay w) (λ _=>()) (stay w) pos:=by rw [PySem.W.Fast.te13383273872528276517];exact byRow2 "special-get-raises" (P:=λ w=>LX 1 (D5 "hash" [.ref a]) w pos (stay w) (λ _=>()) (stay w) pos) (λ w=>hf w pos) (λ w=>ht w pos) w
theorem soH (a:Addr) (hf :∀(w:S0) (pos:Pos),LX 1 (K5 (.ref a) "__hash__") (w.withFollow "special-get-raises" false) pos (stay (w.withFollow "special-get-raises" false)) (λ _=>some (.builtin "tuple.__hash__")) (stay (w.withFollow "special-get-raises" false)) pos:=by intro w pos os oD tk K H gd lv;kernel_rfl) (ht :∀(w:S0) (pos:Pos),LX 1 (K5 (.ref a) "__hash__") (w.withFollow "special-get-raises" true) pos (stay (w.withFollow "special-get-raises" true)) (λ _=>some (.builtin "tuple.__hash__")) (stay (w.withFollow "special-get-raises" true)) pos:=by intro w pos os oD tk K H gd lv;kernel_rfl) (w:S0) (pos:Pos):LX 1 (specialOf (.ref a) "__hash__") w pos (stay w) (λ _=>some (.builtin "tuple.__hash__")) (stay w) pos:=by rw [PySem.W.Fast.te4214721358667687652];exact byRow2 "special-get-raises" (P:=λ w=>LX 1 (K5 (.ref a) "__hash__") w pos (stay w) (λ _=>some (.builtin "tuple.__hash__")) (stay w) pos) (λ w=>hf w pos) (λ w=>ht w pos) w
theorem csH (a:Addr) (k l:Str) (hf :∀(w:S0) (pos:Pos),LX 22 (B5 (.ref a) "__hash__" (unh a)) (w.withFollow "special-get-raises" false) pos (stay (w.withFollow "special-get-raises" false)) (λ tk=>some (.int (j0 [d0 (w.withFollow "special-get-raises" false).params k,d0 (w.withFollow "special-get-raises" false).params l]) (tk + 2))) (plus3 (w.withFollow "special-get-raises" false)) pos:=by intro w pos os oD tk K H gd lv;kernel_rfl) (ht :∀(w:S0) (pos:Pos),LX 22 (B5 (.ref a) "__hash__" (unh a)) (w.withFollow "special-get-raises" true) pos (stay (w.withFollow "special-get-raises" true)) (λ tk=>some (.int (j0 [d0 (w.withFollow "special-get-raises" true).params k,d0 (w.withFollow "special-get-raises" true).params l]) (tk + 2))) (plus3 (w.withFollow "special-get-raises" true)) pos:=by intro w pos os oD tk K H gd lv;kernel_rfl) (w:S0) (pos:Pos):LX 22 (z7 (.ref a) "__hash__" (unh a)) w pos (stay w) (λ tk=>some (.int (j0 [d0 w.params k,d0 w.params l]) (tk + 2))) (plus3 w) pos:=by rw [PySem.W.Fast.te16697807410369149715];exact byRow2 "special-get-raises" (P:=λ w=>LX 22 (B5 (.ref a) "__hash__" (unh a)) w pos (stay w) (λ tk=>some (.int (j0 [d0 w.params k,d0 w.params l]) (tk + 2))) (plus3 w) pos) (λ w=>hf w pos) (λ w=>ht w pos) w
def cr0:=crH 153
def so0:=soH 153
noncomputable def cs0:=csH 153 "register" "read"
def cr1:=crH 154
def so1:=soH 154
noncomputable def cs1:=csH 154 "register" "write"
def cr2:=crH 155
def so2:=soH 155
noncomputable def cs2:=csH 155 "counter" "read"
def cr3:=crH 156
def so3:=soH 156
noncomputable def cs3:=csH 156 "counter" "add"
def cr4:=crH 157
def so4:=soH 157
noncomputable def cs4:=csH 157 "queue" "put"
def cr5:=crH 158
def so5:=soH 158
noncomputable def cs5:=csH 158 "queue" "take"
def cr6:=crH 159
def so6:=soH 159
noncomputable def cs6:=csH 159 "set" "put"
def cr7:=crH 160
def so7:=soH 160
noncomputable def cs7:=csH 160 "set" "cut"
def cr8:=crH 161
def so8:=soH 161
noncomputable def cs8:=csH 161 "set" "has"
def cr9:=crH 162
def so9:=soH 162
noncomputable def cs9:=csH 162 "cell" "read"
def cr10:=crH 163
def so10:=soH 163
noncomputable def cs10:=csH 163 "cell" "write"
def cr11:=crH 164
def so11:=soH 164
noncomputable def cs11:=csH 164 "cell" "swap"
noncomputable def allX (P:O0):List KV3:=[(153,(.ref 97),(C1 (j0 [d0 P "register",d0 P "read"]))),(154,(.ref 104),(C1 (j0 [d0 P "register",d0 P "write"]))),(155,(.ref 97),(C1 (j0 [d0 P "counter",d0 P "read"]))),(156,(.ref 111),(C1 (j0 [d0 P "counter",d0 P "add"]))),(157,(.ref 118),(C1 (j0 [d0 P "queue",d0 P "put"]))),(158,(.ref 125),(C1 (j0 [d0 P "queue",d0 P "take"]))),(159,(.ref 132),(C1 (j0 [d0 P "set",d0 P "put"]))),(160,(.ref 137),(C1 (j0 [d0 P "set",d0 P "cut"]))),(161,(.ref 144),(C1 (j0 [d0 P "set",d0 P "has"]))),(162,(.ref 97),(C1 (j0 [d0 P "cell",d0 P "read"]))),(163,(.ref 104),(C1 (j0 [d0 P "cell",d0 P "write"]))),(164,(.ref 151),(C1 (j0 [d0 P "cell",d0 P "swap"])))]
theorem zmd (w:S0) (os:Q2) (pos:Pos):(allX w.params).Pairwise λ x y=>∀oD tk,GX w 20 (eqBool (.ref x.1) (.ref y.1)) (FX w os oD tk).abs pos false (FX w os oD tk).abs pos:=by
 unfold allX;refine
 .cons (λ y a oD tk=>(by
  revert y;simp only [U1,o0,false_implies,implies_true,and_true];exact ⟨(eq0_1 w pos).goes os oD tk |>.le (by decide),(eq0_2 w pos).goes os oD tk |>.le (by decide),(eq0_3 w pos).goes os oD tk |>.le (by decide),(eq0_4 w pos).goes os oD tk |>.le (by decide),(eq0_5 w pos).goes os oD tk |>.le (by decide),(eq0_6 w pos).goes os oD tk |>.le (by decide),(eq0_7 w pos).goes os oD tk |>.le (by decide),(eq0_8 w pos).goes os oD tk |>.le (by decide),(eq0_9 w pos).goes os oD tk |>.le (by decide),(eq0_10 w pos).goes os oD tk |>.le (by decide),(eq0_11 w pos).goes os oD tk |>.le (by decide)⟩))
  (.cons (λ y a oD tk=>(by
  revert y;simp only [U1,o0,false_implies,implies_true,and_true];exact ⟨(eq1_2 w pos).goes os oD tk |>.le (by decide),(eq1_3 w pos).goes os oD tk |>.le (by decide),(eq1_4 w pos).goes os oD tk |>.le (by decide),(eq1_5 w pos).goes os oD tk |>.le (by decide),(eq1_6 w pos).goes os oD tk |>.le (by decide),(eq1_7 w pos).goes os oD tk |>.le (by decide),(eq1_8 w pos).goes os oD tk |>.le (by decide),(eq1_9 w pos).goes os oD tk |>.le (by decide),(eq1_10 w pos).goes os oD tk |>.le (by decide),(eq1_11 w pos).goes os oD tk |>.le (by decide)⟩))
  (.cons (λ y a oD tk=>(by
  revert y;simp only [U1,o0,false_implies,implies_true,and_true];exact ⟨(eq2_3 w pos).goes os oD tk |>.le (by decide),(eq2_4 w pos).goes os oD tk |>.le (by decide),(eq2_5 w pos).goes os oD tk |>.le (by decide),(eq2_6 w pos).goes os oD tk |>.le (by decide),(eq2_7 w pos).goes os oD tk |>.le (by decide),(eq2_8 w pos).goes os oD tk |>.le (by decide),(eq2_9 w pos).goes os oD tk |>.le (by decide),(eq2_10 w pos).goes os oD tk |>.le (by decide),(eq2_11 w pos).goes os oD tk |>.le (by decide)⟩))
  (.cons (λ y a oD tk=>(by
  revert y;simp only [U1,o0,false_implies,implies_true,and_true];exact ⟨(eq3_4 w pos).goes os oD tk |>.le (by decide),(eq3_5 w pos).goes os oD tk |>.le (by decide),(eq3_6 w pos).goes os oD tk |>.le (by decide),(eq3_7 w pos).goes os oD tk |>.le (by decide),(eq3_8 w pos).goes os oD tk |>.le (by decide),(eq3_9 w pos).goes os oD tk |>.le (by decide),(eq3_10 w pos).goes os oD tk |>.le (by decide),(eq3_11 w pos).goes os oD tk |>.le (by decide)⟩))
  (.cons (λ y a oD tk=>(by
  revert y;simp only [U1,o0,false_implies,implies_true,and_true];exact ⟨(eq4_5 w pos).goes os oD tk |>.le (by decide),(eq4_6 w pos).goes os oD tk |>.le (by decide),(eq4_7 w pos).goes os oD tk |>.le (by decide),(eq4_8 w pos).goes os oD tk |>.le (by decide),(eq4_9 w pos).goes os oD tk |>.le (by decide),(eq4_10 w pos).goes os oD tk |>.le (by decide),(eq4_11 w pos).goes os oD tk |>.le (by decide)⟩))
  (.cons (λ y a oD tk=>(by
  revert y;simp only [U1,o0,false_implies,implies_true,and_true];exact ⟨(eq5_6 w pos).goes os oD tk |>.le (by decide),(eq5_7 w pos).goes os oD tk |>.le (by decide),(eq5_8 w pos).goes os oD tk |>.le (by decide),(eq5_9 w pos).goes os oD tk |>.le (by decide),(eq5_10 w pos).goes os oD tk |>.le (by decide),(eq5_11 w pos).goes os oD tk |>.le (by decide)⟩))
  (.cons (λ y a oD tk=>(by
  revert y;simp only [U1,o0,false_implies,implies_true,and_true];exact ⟨(eq6_7 w pos).goes os oD tk |>.le (by decide),(eq6_8 w pos).goes os oD tk |>.le (by decide),(eq6_9 w pos).goes os oD tk |>.le (by decide),(eq6_10 w pos).goes os oD tk |>.le (by decide),(eq6_11 w pos).goes os oD tk |>.le (by decide)⟩))
  (.cons (λ y a oD tk=>(by
  revert y;simp only [U1,o0,false_implies,implies_true,and_true];exact ⟨(eq7_8 w pos).goes os oD tk |>.le (by decide),(eq7_9 w pos).goes os oD tk |>.le (by decide),(eq7_10 w pos).goes os oD tk |>.le (by decide),(eq7_11 w pos).goes os oD tk |>.le (by decide)⟩))
  (.cons (λ y a oD tk=>(by
  revert y;simp only [U1,o0,false_implies,implies_true,and_true];exact ⟨(eq8_9 w pos).goes os oD tk |>.le (by decide),(eq8_10 w pos).goes os oD tk |>.le (by decide),(eq8_11 w pos).goes os oD tk |>.le (by decide)⟩))
  (.cons (λ y a oD tk=>(by
  revert y;simp only [U1,o0,false_implies,implies_true,and_true];exact ⟨(eq9_10 w pos).goes os oD tk |>.le (by decide),(eq9_11 w pos).goes os oD tk |>.le (by decide)⟩))
  (.cons (λ y a oD tk=>(by
  revert y;simp only [U1,o0,false_implies,implies_true,and_true];exact (zmc w pos).goes os oD tk |>.le (by decide)))
  (.cons (λ y a=>nomatch a)
  (J8))))))))))))
theorem allX_q (w:S0) (os:Q2) (pos:Pos) :∀x∈allX w.params,∀oD tk,GX w 3 (N4 8 (.ref x.1)) (FX w os oD tk).abs pos true (FX w os oD tk).abs pos:=by unfold allX;simp only [U1,o0,false_implies,implies_true,and_true];exact ⟨λ oD tk=>(qt0 w pos).goes os oD tk,λ oD tk=>(qt1 w pos).goes os oD tk,λ oD tk=>(qt2 w pos).goes os oD tk,λ oD tk=>(qt3 w pos).goes os oD tk,λ oD tk=>(qt4 w pos).goes os oD tk,λ oD tk=>(qt5 w pos).goes os oD tk,λ oD tk=>(qt6 w pos).goes os oD tk,λ oD tk=>(qt7 w pos).goes os oD tk,λ oD tk=>(qt8 w pos).goes os oD tk,λ oD tk=>(qt9 w pos).goes os oD tk,λ oD tk=>(qt10 w pos).goes os oD tk,λ oD tk=>(qt11 w pos).goes os oD tk⟩
theorem allX_h (w:S0) (os:Q2) (pos:Pos) :∀x∈allX w.params,∀oD tk,GX w 25 (pyHash (.ref x.1)) (FX w os oD tk).abs pos x.2.2 (FX w os oD (tk + 3)).abs pos:=by unfold allX;simp only [U1,o0,false_implies,implies_true,and_true];exact ⟨λ oD tk=>Goes.pyHashT ((cr0 w pos).goes os oD tk) ((so0 w pos).goes os oD tk) ((cs0 w pos).goes os oD tk),λ oD tk=>Goes.pyHashT ((cr1 w pos).goes os oD tk) ((so1 w pos).goes os oD tk) ((cs1 w pos).goes os oD tk),λ oD tk=>Goes.pyHashT ((cr2 w pos).goes os oD tk) ((so2 w pos).goes os oD tk) ((cs2 w pos).goes os oD tk),λ oD tk=>Goes.pyHashT ((cr3 w pos).goes os oD tk) ((so3 w pos).goes os oD tk) ((cs3 w pos).goes os oD tk),λ oD tk=>Goes.pyHashT ((cr4 w pos).goes os oD tk) ((so4 w pos).goes os oD tk) ((cs4 w pos).goes os oD tk),λ oD tk=>Goes.pyHashT ((cr5 w pos).goes os oD tk) ((so5 w pos).goes os oD tk) ((cs5 w pos).goes os oD tk),λ oD tk=>Goes.pyHashT ((cr6 w pos).goes os oD tk) ((so6 w pos).goes os oD tk) ((cs6 w pos).goes os oD tk),λ oD tk=>Goes.pyHashT ((cr7 w pos).goes os oD tk) ((so7 w pos).goes os oD tk) ((cs7 w pos).goes os oD tk),λ oD tk=>Goes.pyHashT ((cr8 w pos).goes os oD tk) ((so8 w pos).goes os oD tk) ((cs8 w pos).goes os oD tk),λ oD tk=>Goes.pyHashT ((cr9 w pos).goes os oD tk) ((so9 w pos).goes os oD tk) ((cs9 w pos).goes os oD tk),λ oD tk=>Goes.pyHashT ((cr10 w pos).goes os oD tk) ((so10 w pos).goes os oD tk) ((cs10 w pos).goes os oD tk),λ oD tk=>Goes.pyHashT ((cr11 w pos).goes os oD tk) ((so11 w pos).goes os oD tk) ((cs11 w pos).goes os oD tk)⟩
theorem famX (w:S0) (os:Q2):Fam 11 152 (FX w os):=by
 have g :∀c,(treeD w.params c).get 152=some c:=λ c=>by kernel_rfl
 refine ⟨by decide,λ a b d=>abs_get (show 152 < 165 by decide) (g _),λ a b d e=>?_⟩;have u:(absHeap (treeD w.params (dObj a b)) 165 {}).update 152 (L8 (·.push e))=absHeap (treeD w.params (dObj (a.push e) (b + 1))) 165 {}:=by
  rw [<-absHeap_set (g _)];have v:(treeD w.params (dObj a b)).set 152 (L8 (·.push e))=treeD w.params (dObj (a.push e) (b + 1)):=by kernel_rfl
  rw [v]
 exact congrArg (λ h=>(⟨h,⟨[]⟩,{},d,os⟩:u0)) u
noncomputable def stD:Stmt:=(behindTheImports PX).getD 23 (.Pass ⟨0,0,0,0⟩)
noncomputable def sufX:List Stmt:=(behindTheImports PX).drop 24
theorem bodyX:behindTheImports PX=K56.pre.sts_7++(K56.pre.sts_61++(K56.pre.sts_80++(K56.pre.sts_104++([stD]++sufX)))):=by kernel_rfl
noncomputable def dKeys:Stmt->List (Option Expr)
 | .Assign _ (.Dict ks _ _) _=>ks
 | _=>[]
noncomputable def dVals:Stmt->List Expr
 | .Assign _ (.Dict _ vs _) _=>vs
 | _=>[]
noncomputable def dPos:Stmt->Pos
 | .Assign _ (.Dict _ _ p) _=>p
 | _=>⟨0,0,0,0⟩
noncomputable def sPos:Stmt->Pos
 | .Assign _ _ p=>p
 | _=>⟨0,0,0,0⟩
noncomputable abbrev p1X:Pos:=sPos stD
noncomputable abbrev p2X:Pos:=dPos stD
noncomputable abbrev p3X:Pos:=⟨50,0,50,5⟩
noncomputable def runX:List (Sem Value×Sem Value):=(((evalEachOpt (dKeys stD) K56.pre.env_1).zip ((evalEach (dVals stD) K56.pre.env_1).map λ v=>do let x <-v;j2c p2X;V2 x))).filterMap λ x=>x.1.map (·,x.2)
theorem stD_eq:stD=.Assign [.Name "DOERS" p3X] (.Dict (dKeys stD) (dVals stD) p2X) p1X:=by kernel_rfl
theorem evD:d3 (.Dict (dKeys stD) (dVals stD) p2X) K56.pre.env_1=(do j2c p2X;let r <-(do let x <-subDict runX;V2 (some x));match r with|some x=>V2 (v1 x)|none=>newDict):=by kernel_rfl
theorem swD:b7 (.Dict (dKeys stD) (dVals stD) p2X) (some (.Name "DOERS" p3X)) p1X.line K56.pre.env_1=V2 false:=by kernel_rfl
noncomputable def F0X (w:S0) (os:Q2):SharedT:=⟨K56.pre.tree_169 w.params,152,{},⟨[]⟩,{},391,os⟩
noncomputable def F1X (w:S0) (os:Q2):SharedT:=⟨(K56.pre.tree_169 w.params).ins 152 (dObj #[] 0),153,{},⟨[]⟩,{},391,os⟩
noncomputable def vsX:List (Value×Value):=[(.ref 153,(.ref 97)),(.ref 154,(.ref 104)),(.ref 155,(.ref 97)),(.ref 156,(.ref 111)),(.ref 157,(.ref 118)),(.ref 158,(.ref 125)),(.ref 159,(.ref 132)),(.ref 160,(.ref 137)),(.ref 161,(.ref 144)),(.ref 162,(.ref 97)),(.ref 163,(.ref 104)),(.ref 164,(.ref 151))]
theorem zg9 (w:S0):LX 84 (evalPairs runX) w p2X (λ os _ _=>F1X w os) (λ _=>vsX) (λ os _ _=>FX w os (dObj #[] 0) 415) p2X:=by rw [PySem.W.Fast.te1788576489739465902];exact λ os a b K H d c=>by kernel_rfl
noncomputable def F2X (w:S0) (os:Q2) (oD:Obj) (tk:Nat):SharedT:=⟨(treeD w.params oD).set 3 (Obj.putName "DOERS" (d0 w.params "DOERS") (.str "DOERS" tk) (.ref 152)),165,{},⟨[]⟩,{},tk + 1,os⟩
theorem zjg (w:S0) (pos:Pos):LX 6 (bindName K56.pre.env_1 "DOERS" (.ref 152)) w pos (stay w) (λ _=>()) (λ os oD tk=>F2X w os oD tk) pos:=by
 rw [PySem.W.Fast.te7536695828754713326];exact byRow2 "special-get-raises" (P:=λ w=>LX 6 (PySem.W.Fast.tw7536695828754713326 K56.pre.env_1 "DOERS" (.ref 152)) w pos (stay w) (λ _=>()) (λ os oD tk=>F2X w os oD tk) pos)
  (λ w os oD tk K H b a=>by kernel_rfl) (λ w os oD tk K H b a=>by kernel_rfl) w
noncomputable abbrev oDX (P:O0):Obj:=dObj ((allX P).map ent).toArray 12
noncomputable abbrev S2X (w:S0) (os:Q2):SharedT:=F2X w os (oDX w.params) 451
theorem stD_go (w:S0) (os:Q2) (pos:Pos):GX w 100000 (exec stD K56.pre.env_1) (F0X w os).abs pos .next (S2X w os).abs p3X:=by
 rw [stD_eq,exec_Assign_Name _ _ _ _ _ swD];have l:=Goes.loop (p:=PX) (w:=w) (ann:=annX) (code:=cdX) (q:=qX) (pos:=p2X) (famX w os) (N:=12) (allX w.params) (show 12<=12 by decide) (by decide) (show ([153,154,155,156,157,158,159,160,161,162,163,164]:List Nat).Nodup by decide) (allX_q w os p2X) (zmd w os p2X) (allX_h w os p2X) (allX w.params) [] 415 rfl;have b:=(zg9 w).goes os (dObj #[] 0) 0;have d:GX w _ (subDict runX) (F0X w os).abs p2X 152 (FX w os (oDX w.params) 451).abs p2X:=
  Goes.subDict (by decide +kernel) (absHeap_size _ _ _) (show GX w _ (evalPairs runX) _ p2X vsX _ p2X from by
   have e:({ (F0X w os).abs with heap:=(F0X w os).abs.heap.push { cls:=.type "dict",data:=.dict #[] } }:u0)=(F1X w os).abs:=by have i:=absHeap_ins (t:=K56.pre.tree_169 w.params) (n:=152) (life:={}) (o:=dObj #[] 0) (by kernel_rfl);exact congrArg (λ h=>(⟨h,⟨[]⟩,{},391,os⟩:u0)) i.symm
   rw [e];exact b) l
 refine (Goes.bind Goes.at' (Goes.bind (a:=v1 152) (pos':=p2X) ?_ (Goes.bind Goes.at' (Goes.bind (f:=λ _=>V2 Flow.next) ((zjg w p3X).goes os (oDX w.params) 451) Goes.pure)))).le (c:=1 + (((1 + ((1 + (84 + 12 * (25 + (2 + 3 + 12 * (3 + 20 + 10)) + 4))) + 0 + 0)) + (1 + (6 + 0))))) (by decide);rw [evD];exact Goes.bind Goes.at' (Goes.bind (Goes.bind d Goes.pure) Goes.pure)
noncomputable abbrev pLX:Pos:=⟨351,0,368,15⟩
noncomputable def R3X (w:S0) (os:Q2):Option (Flow×SharedT×Code×Pos):=PySem.W.Fast.tw10110043849684766642 m8 PX w 11 annX 1 1656 (S2X w os) ⟨(PySem.W.Fast.tw12563942051412417395 sufX K56.pre.env_1).wrap doneF deadEnd id id,cdX,p3X,BX⟩
noncomputable def S3X (w:S0) (os:Q2):SharedT:=match R3X w os with|some r=>r.2.1|none=>S2X w os
theorem R3X_eq (w:S0) (os:Q2):R3X w os=some (.next,S3X w os,cdX,pLX):=by kernel_rfl
theorem zn8 (w:S0) (os:Q2):segRun A3 PX w 11 annX 1 1656 (S2X w os).abs (piecesOf sufX K56.pre.env_1 cdX p3X BX)=some (.next,(S3X w os).abs,cdX,pLX):=by have e:=R3X_eq w os;unfold R3X at e;rw [<-PySem.W.Fast.te10110043849684766642,<-E5,<-PySem.W.Fast.te12563942051412417395] at e;exact segRun_of e
noncomputable def S0X (w:S0) (os:Q2):SharedT:=⟨K56.pre.tree_6 w.params,15,{},⟨[]⟩,{},187,os⟩
theorem pre_go (w:S0) (os:Q2):topGo A3 PX w 11 annX 12 ⟨boot_heap w.params,Array.mk [],boot_drawn,boot_toks,os⟩ (topStub PX)=some ((S0X w os).abs,⟨denote A3 cdX,cdX,qX,BX⟩):=by rw [PySem.W.Fast.te15667345088766844465,E5,PySem.W.Fast.te11892475500146522536];kernel_rfl
theorem zl6 (w:S0) (os:Q2) :∃M,M<=200000/\topRun A3 PX w 11 annX M ⟨boot_heap w.params,Array.mk [],boot_drawn,boot_toks,os⟩ (topStub PX)=some (S3X w os).abs:=by have e:topRun A3 PX w 11 annX 2 (S3X w os).abs (restOf [] K56.pre.env_1 cdX pLX BX)=some (S3X w os).abs:=rfl;have b:=piece_app (zn8 w os) e;rw [Y1] at b;obtain ⟨M,h,d⟩:=zg8 (Goes.execs1 (stD_go w os ⟨46,0,49,21⟩)) b;have a:=K56.pre.chain PX (behindTheImports PX) w os _ M _ d;rw [<-bodyX] at a;have c:segRun A3 PX w 11 annX 1 1 (S0X w os).abs (blockOf (behindTheImports PX) K56.pre.env_1 cdX qX BX)=some (.next,(S0X w os).abs,cdX,qX):=rfl;have f:=piece_block c a;have g:=go_top (pre_go w os) f;refine ⟨_,?_,g⟩;simp only [Nat.add_eq];omega
noncomputable def looseX:List Str:=[("_wall" : Str),("GREATEST_WORTH" : Str),("is_whole" : Str),("is_within" : Str),("is_worth" : Str),("is_tuple_of" : Str),("TaleError" : Str),("NoDeed" : Str),("NoStrictness" : Str),("FIRST_STATES" : Str),("WORTHS_OF_VERBS" : Str),("read_state" : Str),("write_state" : Str),("add_to_number" : Str),("put_behind" : Str),("take_first" : Str),("put_into_set" : Str),("cut_from_set" : Str),("has_in_set" : Str),("swap_state" : Str),("DOERS" : Str),("is_kind" : Str),("first_state" : Str),("is_deed" : Str),("do" : Str),("deeds" : Str),("STRICTNESSES" : Str),("has_to" : Str),("check_strictness" : Str),("goes_ahead" : Str),("explains" : Str),("is_order" : Str),("is_step" : Str),("keeps_to" : Str),("is_done_so" : Str),("Candidate" : Str),("Board" : Str),("step_of" : Str),("ended_numbers" : Str),("holds_all" : Str),("first_place" : Str),("judged" : Str),("_law_hand" : Str),("_law_draw" : Str),("_law_begun" : Str),("_law_does" : Str),("_law_worth" : Str),("_law_act" : Str),("_law_things" : Str),("_law_ended" : Str),("_law_tale" : Str),("_law_acts" : Str),("_law_must" : Str),("_law_alike" : Str),("_law_rows" : Str),("_law_heard" : Str),("_law_right" : Str)]
noncomputable def viewX:Program:={ PX with main:={ PX.main with body:=(PX.main.body[65]?).toList } }
noncomputable def top (i:Nat):Stmt:=PX.main.body.getD i (.Pass ⟨0,0,0,0⟩)
noncomputable def subS (s:Stmt) (j:Nat):Stmt:=match s with
 | .ClassDef _ _ _ b _ _ _ _ _ _ _=>b.getD j s
 | _=>s
noncomputable def asX:List Addr:=[3,27,28,34,35,41,42,48,49,50,52,57,58,59,63,65,70,71,72,75,77,82,83,84,87,88,89,90,96,97,103,104,110,111,117,118,124,125,131,132,136,137,143,144,150,151,152,153,154,155,156,157,158,159,160,161,162,163,164,170,171,177,178,182,183,189,190,196,197,198,204,205,211,212,218,219,223,224,228,229,235,236,240,241,245,246,247,249,257,258,264,265,266,267,268,273,275,283,284,290,291,297,298,306,307,308,318,319,323,324,328,329,333,334,340,341,347,348,354,355,361,362,366,367,373,374,380,381,385,386,392,393,397,398,404,405,411,412,418,419,423,424,428,429,433,434,438,439]
noncomputable def KX (P:O0):Frag:=[
 (3,⟨(.type "dict"),none,(.dict #[⟨(d0 P "__name__"),(.str "__name__" 165),(.str "law_talejudge_k56_whole_against_all_orders" 716)⟩,⟨(d0 P "__doc__"),(.str "__doc__" 166),.none⟩,⟨(d0 P "__package__"),(.str "__package__" 167),.none⟩,⟨(d0 P "__loader__"),(.str "__loader__" 168),(.builtin "__main__.__loader__#opaque")⟩,⟨(d0 P "__spec__"),(.str "__spec__" 169),.none⟩,kR P "__annotations__" 170 6,kR P "__builtins__" 171 4,⟨(d0 P "__file__"),(.str "__file__" 173),(.str "/claim/cut.py" 172)⟩,⟨(d0 P "__cached__"),(.str "__cached__" 174),.none⟩,kR P "_wall" 193 21,⟨(d0 P "GREATEST_WORTH"),(.str "GREATEST_WORTH" 197),(.int (1000000000) 196)⟩,kR P "is_whole" 204 28,kR P "is_within" 212 35,kR P "is_worth" 219 42,kR P "is_tuple_of" 227 49,kR P "TaleError" 247 59,kR P "NoDeed" 263 72,kR P "NoStrictness" 279 84,kR P "FIRST_STATES" 295 87,kR P "WORTHS_OF_VERBS" 320 90,kR P "read_state" 328 97,kR P "write_state" 336 104,kR P "add_to_number" 344 111,kR P "put_behind" 352 118,kR P "take_first" 360 125,kR P "put_into_set" 368 132,kR P "cut_from_set" 374 137,kR P "has_in_set" 382 144,kR P "swap_state" 390 151,kR P "DOERS" 451 152,kR P "is_kind" 458 171,kR P "first_state" 465 178,kR P "is_deed" 471 183,kR P "do" 482 190,kR P "deeds" 497 197,kR P "STRICTNESSES" 503 198,kR P "has_to" 517 205,kR P "check_strictness" 524 212,kR P "goes_ahead" 533 219,kR P "explains" 539 224,kR P "is_order" 545 229,kR P "is_step" 553 236,kR P "keeps_to" 559 241,kR P "is_done_so" 565 246,kR P "Candidate" 611 268,kR P "Board" 668 308,kR P "step_of" 680 319,kR P "ended_numbers" 686 324,kR P "holds_all" 692 329,kR P "first_place" 698 334,kR P "judged" 715 341,kR P "_law_hand" 727 348,kR P "_law_draw" 736 355,kR P "_law_begun" 743 362,kR P "_law_does" 749 367,kR P "_law_worth" 756 374,kR P "_law_act" 766 381,kR P "_law_things" 772 386,kR P "_law_ended" 787 393,kR P "_law_tale" 793 398,kR P "_law_acts" 805 405,kR P "_law_must" 815 412,kR P "_law_alike" 823 419,kR P "_law_rows" 829 424,kR P "_law_heard" 835 429,kR P "_law_right" 841 434,kR P "law" 847 439] 67),#[]⟩),
 (27,cO "is_whole" "is_whole" 198 6 1 22 202),
 (28,fO "is_whole" "is_whole" (top 3) "talejudge.basics" 194 27),
 (34,cO "is_within" "is_within" 205 8 2 29 210),
 (35,fO "is_within" "is_within" (top 4) "talejudge.basics" 194 34),
 (41,cO "is_worth" "is_worth" 213 10 1 36 217),
 (42,fO "is_worth" "is_worth" (top 5) "talejudge.basics" 194 41),
 (48,cO "is_tuple_of" "is_tuple_of" 220 12 2 43 225),
 (49,fO "is_tuple_of" "is_tuple_of" (top 6) "talejudge.basics" 194 48),
 (50,⟨(.type "tuple"),none,(.seq #[(.type "ValueError")] 0),#[]⟩),
 (52,⟨(.type "dict"),none,(.dict #[⟨(d0 P "__module__"),(.str "__module__" 237),(.str "talejudge.errors" 228)⟩,⟨(d0 P "__qualname__"),(.str "__qualname__" 239),(.str "TaleError" 238)⟩,⟨(d0 P "__firstlineno__"),(.str "__firstlineno__" 241),(.int (15) 240)⟩,kR P "__static_attributes__" 242 57] 4),#[]⟩),
 (57,⟨(.type "tuple"),none,(.seq #[] 0),#[]⟩),
 (58,⟨(.type "dict"),none,(.dict #[⟨(d0 P "__module__"),(.str "__module__" 237),(.str "talejudge.errors" 228)⟩,⟨(d0 P "__firstlineno__"),(.str "__firstlineno__" 241),(.int (15) 240)⟩,kR P "__static_attributes__" 242 57,kR P "__weakref__" 244 60,⟨(d0 P "__doc__"),(.str "__doc__" 245),.none⟩] 3),#[]⟩),
 (59,⟨(.type "type"),none,(.cls ⟨"TaleError",[(.type "ValueError")],[(.ref 59),(.type "ValueError"),(.type "Exception"),(.type "BaseException"),(.type "object")],58,"TaleError",true,[],[(.ref 72),(.ref 84)],false,none,false⟩),#[some (.ref 50),none,some (.str "TaleError" 230),some (.str "TaleError" 238),some (.builtin "ValueError.__new__"),some (.bool true)]⟩),
 (63,⟨(.type "tuple"),none,(.seq #[(.ref 59)] 0),#[]⟩),
 (65,⟨(.type "dict"),none,(.dict #[⟨(d0 P "__module__"),(.str "__module__" 255),(.str "talejudge.errors" 228)⟩,⟨(d0 P "__qualname__"),(.str "__qualname__" 257),(.str "NoDeed" 256)⟩,⟨(d0 P "__firstlineno__"),(.str "__firstlineno__" 259),(.int (17) 258)⟩,kR P "__static_attributes__" 260 70] 4),#[]⟩),
 (70,⟨(.type "tuple"),none,(.seq #[] 0),#[]⟩),
 (71,⟨(.type "dict"),none,(.dict #[⟨(d0 P "__module__"),(.str "__module__" 255),(.str "talejudge.errors" 228)⟩,⟨(d0 P "__firstlineno__"),(.str "__firstlineno__" 259),(.int (17) 258)⟩,kR P "__static_attributes__" 260 70,⟨(d0 P "__doc__"),(.str "__doc__" 261),.none⟩] 2),#[]⟩),
 (72,⟨(.type "type"),none,(.cls ⟨"NoDeed",[(.ref 59)],[(.ref 72),(.ref 59),(.type "ValueError"),(.type "Exception"),(.type "BaseException"),(.type "object")],71,"NoDeed",true,[],[],false,none,false⟩),#[some (.ref 63),none,some (.str "NoDeed" 248),some (.str "NoDeed" 256),some (.builtin "ValueError.__new__"),some (.bool true)]⟩),
 (75,⟨(.type "tuple"),none,(.seq #[(.ref 59)] 0),#[]⟩),
 (77,⟨(.type "dict"),none,(.dict #[⟨(d0 P "__module__"),(.str "__module__" 271),(.str "talejudge.errors" 228)⟩,⟨(d0 P "__qualname__"),(.str "__qualname__" 273),(.str "NoStrictness" 272)⟩,⟨(d0 P "__firstlineno__"),(.str "__firstlineno__" 275),(.int (19) 274)⟩,kR P "__static_attributes__" 276 82] 4),#[]⟩),
 (82,⟨(.type "tuple"),none,(.seq #[] 0),#[]⟩),
 (83,⟨(.type "dict"),none,(.dict #[⟨(d0 P "__module__"),(.str "__module__" 271),(.str "talejudge.errors" 228)⟩,⟨(d0 P "__firstlineno__"),(.str "__firstlineno__" 275),(.int (19) 274)⟩,kR P "__static_attributes__" 276 82,⟨(d0 P "__doc__"),(.str "__doc__" 277),.none⟩] 2),#[]⟩),
 (84,⟨(.type "type"),none,(.cls ⟨"NoStrictness",[(.ref 59)],[(.ref 84),(.ref 59),(.type "ValueError"),(.type "Exception"),(.type "BaseException"),(.type "object")],83,"NoStrictness",true,[],[],false,none,false⟩),#[some (.ref 75),none,some (.str "NoStrictness" 264),some (.str "NoStrictness" 272),some (.builtin "ValueError.__new__"),some (.bool true)]⟩),
 (87,⟨(.type "dict"),none,(.dict #[⟨(d0 P "register"),(.str "register" 282),(.int (0) 283)⟩,⟨(d0 P "counter"),(.str "counter" 284),(.int (0) 285)⟩,kR P "queue" 286 88,kR P "set" 287 89,⟨(d0 P "cell"),(.str "cell" 288),(.int (0) 289)⟩] 5),#[]⟩),
 (88,⟨(.type "tuple"),none,(.seq #[] 0),#[]⟩),
 (89,⟨(.type "tuple"),none,(.seq #[] 0),#[]⟩),
 (90,⟨(.type "dict"),none,(.dict #[⟨(d0 P "read"),(.str "read" 296),(.int (0) 297)⟩,⟨(d0 P "take"),(.str "take" 298),(.int (0) 299)⟩,⟨(d0 P "write"),(.str "write" 300),(.int (1) 301)⟩,⟨(d0 P "add"),(.str "add" 302),(.int (1) 303)⟩,⟨(d0 P "put"),(.str "put" 304),(.int (1) 305)⟩,⟨(d0 P "cut"),(.str "cut" 306),(.int (1) 307)⟩,⟨(d0 P "has"),(.str "has" 308),(.int (1) 309)⟩,⟨(d0 P "swap"),(.str "swap" 310),(.int (2) 311)⟩] 8),#[]⟩),
 (96,cO "read_state" "read_state" 321 24 2 91 326),
 (97,fO "read_state" "read_state" (top 14) "talejudge.store" 280 96),
 (103,cO "write_state" "write_state" 329 26 2 98 334),
 (104,fO "write_state" "write_state" (top 15) "talejudge.store" 280 103),
 (110,cO "add_to_number" "add_to_number" 337 28 2 105 342),
 (111,fO "add_to_number" "add_to_number" (top 16) "talejudge.store" 280 110),
 (117,cO "put_behind" "put_behind" 345 30 2 112 350),
 (118,fO "put_behind" "put_behind" (top 17) "talejudge.store" 280 117),
 (124,cO "take_first" "take_first" 353 32 2 119 358),
 (125,fO "take_first" "take_first" (top 18) "talejudge.store" 280 124),
 (131,cO "put_into_set" "put_into_set" 361 36 2 126 366),
 (132,fO "put_into_set" "put_into_set" (top 19) "talejudge.store" 280 131),
 (136,cP "cut_from_set" "cut_from_set" 369 40 2 133 372),
 (137,fO "cut_from_set" "cut_from_set" (top 20) "talejudge.store" 280 136),
 (143,cO "has_in_set" "has_in_set" 375 44 2 138 380),
 (144,fO "has_in_set" "has_in_set" (top 21) "talejudge.store" 280 143),
 (150,cO "swap_state" "swap_state" 383 46 2 145 388),
 (151,fO "swap_state" "swap_state" (top 22) "talejudge.store" 280 150),
 (152,⟨(.type "dict"),none,(.dict #[⟨(C1 (j0 [d0 P "register",d0 P "read"])),(.ref 153),(.ref 97)⟩,⟨(C1 (j0 [d0 P "register",d0 P "write"])),(.ref 154),(.ref 104)⟩,⟨(C1 (j0 [d0 P "counter",d0 P "read"])),(.ref 155),(.ref 97)⟩,⟨(C1 (j0 [d0 P "counter",d0 P "add"])),(.ref 156),(.ref 111)⟩,⟨(C1 (j0 [d0 P "queue",d0 P "put"])),(.ref 157),(.ref 118)⟩,⟨(C1 (j0 [d0 P "queue",d0 P "take"])),(.ref 158),(.ref 125)⟩,⟨(C1 (j0 [d0 P "set",d0 P "put"])),(.ref 159),(.ref 132)⟩,⟨(C1 (j0 [d0 P "set",d0 P "cut"])),(.ref 160),(.ref 137)⟩,⟨(C1 (j0 [d0 P "set",d0 P "has"])),(.ref 161),(.ref 144)⟩,⟨(C1 (j0 [d0 P "cell",d0 P "read"])),(.ref 162),(.ref 97)⟩,⟨(C1 (j0 [d0 P "cell",d0 P "write"])),(.ref 163),(.ref 104)⟩,⟨(C1 (j0 [d0 P "cell",d0 P "swap"])),(.ref 164),(.ref 151)⟩] 12),#[]⟩),
 (153,⟨(.type "tuple"),none,(.seq #[(.str "register" 391),(.str "read" 392)] 0),#[]⟩),
 (154,⟨(.type "tuple"),none,(.seq #[(.str "register" 393),(.str "write" 394)] 0),#[]⟩),
 (155,⟨(.type "tuple"),none,(.seq #[(.str "counter" 395),(.str "read" 396)] 0),#[]⟩),
 (156,⟨(.type "tuple"),none,(.seq #[(.str "counter" 397),(.str "add" 398)] 0),#[]⟩),
 (157,⟨(.type "tuple"),none,(.seq #[(.str "queue" 399),(.str "put" 400)] 0),#[]⟩),
 (158,⟨(.type "tuple"),none,(.seq #[(.str "queue" 401),(.str "take" 402)] 0),#[]⟩),
 (159,⟨(.type "tuple"),none,(.seq #[(.str "set" 403),(.str "put" 404)] 0),#[]⟩),
 (160,⟨(.type "tuple"),none,(.seq #[(.str "set" 405),(.str "cut" 406)] 0),#[]⟩),
 (161,⟨(.type "tuple"),none,(.seq #[(.str "set" 407),(.str "has" 408)] 0),#[]⟩),
 (162,⟨(.type "tuple"),none,(.seq #[(.str "cell" 409),(.str "read" 410)] 0),#[]⟩),
 (163,⟨(.type "tuple"),none,(.seq #[(.str "cell" 411),(.str "write" 412)] 0),#[]⟩),
 (164,⟨(.type "tuple"),none,(.seq #[(.str "cell" 413),(.str "swap" 414)] 0),#[]⟩),
 (170,cO "is_kind" "is_kind" 452 51 1 165 456),
 (171,fO "is_kind" "is_kind" (top 24) "talejudge.store" 280 170),
 (177,cO "first_state" "first_state" 459 53 1 172 463),
 (178,fO "first_state" "first_state" (top 25) "talejudge.store" 280 177),
 (182,cP "is_deed" "is_deed" 466 57 3 179 469),
 (183,fO "is_deed" "is_deed" (top 26) "talejudge.store" 280 182),
 (189,cO "do" "do" 472 66 4 184 480),
 (190,fO "do" "do" (top 27) "talejudge.store" 280 189),
 (196,cO "deeds" "deeds" 485 72 1 191 495),
 (197,fO "deeds" "deeds" (top 29) "talejudge.tales" 483 196),
 (198,⟨(.type "tuple"),none,(.seq #[(.str "strict" 500),(.str "hands" 501),(.str "bare" 502)] 0),#[]⟩),
 (204,cO "has_to" "has_to" 504 86 2 199 515),
 (205,fO "has_to" "has_to" (top 32) "talejudge.orders" 498 204),
 (211,cO "check_strictness" "check_strictness" 518 95 1 206 522),
 (212,fO "check_strictness" "check_strictness" (top 33) "talejudge.orders" 498 211),
 (218,cO "goes_ahead" "goes_ahead" 525 98 3 213 531),
 (219,fO "goes_ahead" "goes_ahead" (top 34) "talejudge.orders" 498 218),
 (223,cP "explains" "explains" 534 104 3 220 537),
 (224,fO "explains" "explains" (top 35) "talejudge.orders" 498 223),
 (228,cP "is_order" "is_order" 540 110 2 225 543),
 (229,fO "is_order" "is_order" (top 36) "talejudge.orders" 498 228),
 (235,cO "is_step" "is_step" 546 117 2 230 551),
 (236,fO "is_step" "is_step" (top 37) "talejudge.orders" 498 235),
 (240,cP "keeps_to" "keeps_to" 554 121 2 237 557),
 (241,fO "keeps_to" "keeps_to" (top 38) "talejudge.orders" 498 240),
 (245,cP "is_done_so" "is_done_so" 560 125 3 242 563),
 (246,fO "is_done_so" "is_done_so" (top 39) "talejudge.orders" 498 245),
 (247,⟨(.type "tuple"),none,(.seq #[] 0),#[]⟩),
 (249,⟨(.type "dict"),none,(.dict #[⟨(d0 P "__module__"),(.str "__module__" 575),(.str "talejudge.places" 566)⟩,⟨(d0 P "__qualname__"),(.str "__qualname__" 577),(.str "Candidate" 576)⟩,⟨(d0 P "__firstlineno__"),(.str "__firstlineno__" 579),(.int (136) 578)⟩,kR P "__init__" 585 258,kR P "may_stand" 595 265,kR P "__static_attributes__" 604 266] 6),#[]⟩),
 (257,cP "__init__" "Candidate.__init__" 580 138 6 254 583),
 (258,fO "__init__" "Candidate.__init__" (subS (top 41) 0) "talejudge.places" 566 257),
 (264,cO "may_stand" "Candidate.may_stand" 586 148 2 259 593),
 (265,fO "may_stand" "Candidate.may_stand" (subS (top 41) 1) "talejudge.places" 566 264),
 (266,⟨(.type "tuple"),none,(.seq #[(.str "aheads" 596),(.str "answer" 597),(.str "behinds" 598),(.str "kind" 599),(.str "number" 600),(.str "thing" 601),(.str "verb" 602),(.str "worth" 603)] 0),#[]⟩),
 (267,⟨(.type "dict"),none,(.dict #[⟨(d0 P "__module__"),(.str "__module__" 575),(.str "talejudge.places" 566)⟩,⟨(d0 P "__firstlineno__"),(.str "__firstlineno__" 579),(.int (136) 578)⟩,kR P "__init__" 585 258,kR P "may_stand" 595 265,kR P "__static_attributes__" 604 266,kR P "__dict__" 606 269,kR P "__weakref__" 608 270,⟨(d0 P "__doc__"),(.str "__doc__" 609),.none⟩] 4),#[]⟩),
 (268,⟨(.type "type"),none,(.cls ⟨"Candidate",[(.type "object")],[(.ref 268),(.type "object")],267,"Candidate",true,[],[],false,none,false⟩),#[none,none,some (.str "Candidate" 568),some (.str "Candidate" 576),some (.builtin "object.__new__"),some (.bool true)]⟩),
 (273,⟨(.type "tuple"),none,(.seq #[] 0),#[]⟩),
 (275,⟨(.type "dict"),none,(.dict #[⟨(d0 P "__module__"),(.str "__module__" 619),(.str "talejudge.places" 566)⟩,⟨(d0 P "__qualname__"),(.str "__qualname__" 621),(.str "Board" 620)⟩,⟨(d0 P "__firstlineno__"),(.str "__firstlineno__" 623),(.int (158) 622)⟩,kR P "__init__" 629 284,kR P "steps_from" 640 291,kR P "ends_at" 648 298,kR P "has_place" 656 305,kR P "__static_attributes__" 661 306] 8),#[]⟩),
 (283,cP "__init__" "Board.__init__" 624 160 3 280 627),
 (284,fO "__init__" "Board.__init__" (subS (top 42) 0) "talejudge.places" 566 283),
 (290,cO "steps_from" "Board.steps_from" 630 172 2 285 638),
 (291,fO "steps_from" "Board.steps_from" (subS (top 42) 1) "talejudge.places" 566 290),
 (297,cO "ends_at" "Board.ends_at" 641 181 2 292 646),
 (298,fO "ends_at" "Board.ends_at" (subS (top 42) 2) "talejudge.places" 566 297),
 (306,⟨(.type "tuple"),none,(.seq #[(.str "candidates" 657),(.str "ended" 658),(.str "first" 659),(.str "kinds" 660)] 0),#[]⟩),
 (307,⟨(.type "dict"),none,(.dict #[⟨(d0 P "__module__"),(.str "__module__" 619),(.str "talejudge.places" 566)⟩,⟨(d0 P "__firstlineno__"),(.str "__firstlineno__" 623),(.int (158) 622)⟩,kR P "__init__" 629 284,kR P "steps_from" 640 291,kR P "ends_at" 648 298,kR P "has_place" 656 305,kR P "__static_attributes__" 661 306,kR P "__dict__" 663 309,kR P "__weakref__" 665 310,⟨(d0 P "__doc__"),(.str "__doc__" 666),.none⟩] 4),#[]⟩),
 (308,⟨(.type "type"),none,(.cls ⟨"Board",[(.type "object")],[(.ref 308),(.type "object")],307,"Board",true,[],[],false,none,false⟩),#[none,none,some (.str "Board" 612),some (.str "Board" 620),some (.builtin "object.__new__"),some (.bool true)]⟩),
 (318,cO "step_of" "step_of" 669 186 2 313 678),
 (319,fO "step_of" "step_of" (top 43) "talejudge.places" 566 318),
 (323,cP "ended_numbers" "ended_numbers" 681 192 1 320 684),
 (324,fO "ended_numbers" "ended_numbers" (top 44) "talejudge.places" 566 323),
 (328,cP "holds_all" "holds_all" 687 194 2 325 690),
 (329,fO "holds_all" "holds_all" (top 45) "talejudge.places" 566 328),
 (333,cP "first_place" "first_place" 693 196 1 330 696),
 (334,fO "first_place" "first_place" (top 46) "talejudge.places" 566 333),
 (340,cO "judged" "judged" 701 199 2 335 713),
 (341,fO "judged" "judged" (top 48) "talejudge.judge" 699 340),
 (347,cO "_law_hand" "_law_hand" 718 213 3 342 725),
 (348,fL "_law_hand" "_law_hand" (top 50) 347),
 (354,cO "_law_draw" "_law_draw" 728 218 2 349 734),
 (355,fL "_law_draw" "_law_draw" (top 51) 354),
 (361,cO "_law_begun" "_law_begun" 737 225 1 356 741),
 (362,fL "_law_begun" "_law_begun" (top 52) 361),
 (366,cP "_law_does" "_law_does" 744 229 4 363 747),
 (367,fL "_law_does" "_law_does" (top 53) 366),
 (373,cO "_law_worth" "_law_worth" 750 248 1 368 754),
 (374,fL "_law_worth" "_law_worth" (top 54) 373),
 (380,cO "_law_act" "_law_act" 757 252 2 375 764),
 (381,fL "_law_act" "_law_act" (top 55) 380),
 (385,cP "_law_things" "_law_things" 767 262 1 382 770),
 (386,fL "_law_things" "_law_things" (top 56) 385),
 (392,cO "_law_ended" "_law_ended" 773 268 4 387 785),
 (393,fL "_law_ended" "_law_ended" (top 57) 392),
 (397,cP "_law_tale" "_law_tale" 788 276 4 394 791),
 (398,fL "_law_tale" "_law_tale" (top 58) 397),
 (404,cO "_law_acts" "_law_acts" 794 301 1 399 803),
 (405,fL "_law_acts" "_law_acts" (top 59) 404),
 (411,cO "_law_must" "_law_must" 806 314 4 406 813),
 (412,fL "_law_must" "_law_must" (top 60) 411),
 (418,cO "_law_alike" "_law_alike" 816 318 2 413 821),
 (419,fL "_law_alike" "_law_alike" (top 61) 418),
 (423,cP "_law_rows" "_law_rows" 824 320 1 420 827),
 (424,fL "_law_rows" "_law_rows" (top 62) 423),
 (428,cP "_law_heard" "_law_heard" 830 330 3 425 833),
 (429,fL "_law_heard" "_law_heard" (top 63) 428),
 (433,cP "_law_right" "_law_right" 836 339 3 430 839),
 (434,fL "_law_right" "_law_right" (top 64) 433),
 (438,cP "law" "law" 842 351 1 435 845),
 (439,fL "law" "law" (top 65) 438)]
noncomputable def HX:Hook:=kHook KX asX (λ _=>by kernel_rfl)
noncomputable abbrev XtX:u0->Bool:=λ s=>xlAt viewX [] s && recOk (RowW.records (OpenRow.toRowW PySem.Challenge.rw_talejudge_k56_whole_against_all_orders.row)) s
theorem look1 (w:S0) (os:Q2):(staticsOk (G7 PX.main.body) (boot_heap w.params) (S3X w os).abs.heap && namesBound PX (S3X w os).abs.heap && gensDone (S3X w os).abs && laidKept (boot_heap w.params) (S3X w os).abs.heap)=true:=by kernel_rfl
theorem look2 (w:S0) (os:Q2):openSeen viewX looseX (G7 PX.main.body) XtX true (S3X w os).abs=openGood viewX looseX:=by rw [PySem.W.Fast.te4187177175401517315];kernel_rfl
theorem look3 (w:S0) (os:Q2):Hook.obs HX (S3X w os).abs=Hook.val HX w:=by kernel_rfl
theorem leftX:LeftO PX viewX looseX XtX (Hook.obs HX) (Hook.val HX) 200000:=
 zkj (H₀:=boot_heap) (gs₀:=Array.mk []) (boot_open (by kernel_rfl) (by decide) (λ s=>rfl)) (λ w=>by kernel_rfl) zl6 look1 look2 look3
end K56
set_option maxHeartbeats 4000000
namespace L2
open PySem PySem.Spec PyProof.Rows
theorem FnScope.k {N P:List Str} {sc:Scope} (a:sc.kind=.function:=by exact rfl) (b:sc.isCoroutine=false:=by exact rfl) (c:sc.isGenerator=false:=by exact rfl) (d:N.Nodup:=by decide +kernel) (e:N.take P.length=P:=by exact rfl) (f :∀x∈P,sc.names.lookup x=some .local\/sc.names.lookup x=some .cell:=by decide +kernel) (g :∀y∈sc.names,y.2≠.free:=by decide +kernel):FnScope N P sc:=⟨a,b,c,d,e,f,g⟩
theorem newA {H:Hp} {p:Addr} (o:HO) (h:H p=none) :∃H',H'=upd H p o/\Same H H'/\H' p=some o:=⟨_,rfl,Same.upd h,upd_same⟩
theorem iteK {c A B:Prop} [Decidable c] (h:B) (hc:¬ c:=by decide +kernel):if c then A else B:=iteN hc h
theorem pg_cn {X:Cx} {scope:Scope} {cl:List (Str×Addr)} {N:List Str} {C:Addr} {s₂:u0} {H₂:Hp} {fp:List Addr} {x:Str} {px:Pos} (i:Nat) (hN:N.Nodup:=by decide +kernel) (hi:N[i]? = some x:=by exact rfl) (hx:scope.names.lookup x=some .local:=by exact rfl):PG (cxComp X scope cl N C s₂ H₂ fp) (.Name x px) (gName i):=zm0 i hN hi hx
theorem pe_cg {X:Cx} {xs:List Str} {tg:Expr} {g:TG} {pos:Pos} {elt iter:Expr} {ifs:List Expr} {scope:Scope} {fr:List (Nat×Str)} {wi:TI} {tc:TT} {te:TE} (hi:PI X tg iter wi)
  (hg :∀cl C s₂ H₂ fp,PG (cxComp X scope cl (xs++fr.map (·.2)) C s₂ H₂ fp) tg g)
  (ht :∀cl C s₂ H₂ fp,PF (cxComp X scope cl (xs++fr.map (·.2)) C s₂ H₂ fp) ifs tc) (he :∀cl C s₂ H₂ fp,PE (cxComp X scope cl (xs++fr.map (·.2)) C s₂ H₂ fp) elt te) (hcalm:X.calm=true:=by exact rfl)
  (hfr :∀p∈fr,X.N[p.1]? = some p.2/\(X.env.kindOf p.2=some .cell\/X.env.kindOf p.2=some .free):=by first|exact λ _ z=>absurd z o0|(intro p hp;obtain rfl:=List.mem_singleton.mp hp;first|exact ⟨rfl,.inl rfl⟩|exact ⟨rfl,.inr rfl⟩))
  (hin:(scope.names.all λ y=>y.2 != P1 || fr.any λ p=>p.2 == y.1)=true:=by decide +kernel)
  (hfs :∀p∈fr,(p.2,P1)∈scope.names/\((y8 scope X.env).names.lookup p.2=some .cell\/(y8 scope X.env).names.lookup p.2=some .free):=by first|exact λ _ z=>absurd z o0|(intro p hp;obtain rfl:=List.mem_singleton.mp hp;exact ⟨by decide +kernel,by first|exact .inl rfl|exact .inr rfl⟩))
  (hcell :∀y∈scope.names,y.2≠NameKind.cell:=by decide +kernel) (hkind:scope.kind=.function:=by exact rfl) (hnames :∀y∈scope.names,y.2=NameKind.local->scope.names.lookup y.1=some .local:=by decide +kernel)
  (hs :∀x,P5 iter X.env x=V2 x:=by intro _;rfl):PE X (.ListComp elt [⟨tg,iter,ifs,0⟩] scope pos) (tCompG wi xs.length fr g tc te):=
 zh3 hcalm hi hfr (λ y a e=>by
  have h:=List.all_eq_true.mp hin y a;rw [e] at h;obtain ⟨p,hp,z⟩:=List.any_eq_true.mp (show fr.any (λ p=>p.2 == y.1)=true from h);have:=(hfr p hp).2
  rwa [eq_of_beq z] at this) hfs hcell hkind hnames hg ht he hs
end L2
namespace K56
open PySem PySem.Spec PyProof.Rows TJ L2
abbrev Gg (n:Str) (a:Addr):Prop:=∀P,W6 (KX P) v3 n=some (some (.ref a))
abbrev Gn (n:Str):Prop:=∀P,W6 (KX P) v3 n=some none
noncomputable abbrev kx (w:S0):=KX w.params
noncomputable abbrev Ca (P:Program) (w:S0) (mg:Str->Option Value) (base:Heap):=Cal P w (KX w.params) mg base
noncomputable abbrev CaE (P:Program) (w:S0) (mg:Str->Option Value) (base:Heap):=CalE P w (KX w.params) mg base
noncomputable abbrev Fo (P:Program) (w:S0) (mg:Str->Option Value) (base:Heap):=FnOk P w (KX w.params) mg base
theorem z0i:Gn "isinstance":=λ _=>by kernel_rfl
theorem n_len:Gn "len":=λ _=>by kernel_rfl
theorem n_all:Gn "all":=λ _=>by kernel_rfl
theorem n_int:Gn "int":=λ _=>by kernel_rfl
theorem n_str:Gn "str":=λ _=>by kernel_rfl
theorem n_bool:Gn "bool":=λ _=>by kernel_rfl
theorem z4n:Gn "tuple":=λ _=>by kernel_rfl
theorem n_list:Gn "list":=λ _=>by kernel_rfl
theorem za2:Gn "range":=λ _=>by kernel_rfl
theorem z8c:Gn "sorted":=λ _=>by kernel_rfl
theorem n_sum:Gn "sum":=λ _=>by kernel_rfl
theorem n_dict:Gn "dict":=λ _=>by kernel_rfl
theorem n_set:Gn "set":=λ _=>by kernel_rfl
theorem z12:Gn "enumerate":=λ _=>by kernel_rfl
theorem zgf:Gn "reversed":=λ _=>by kernel_rfl
theorem z5y (P:O0):W6 (KX P) v3 "GREATEST_WORTH" = some (some (.int (1000000000) 196)):=by kernel_rfl
theorem zeq:Gg "is_whole" 28:=λ _=>by kernel_rfl
theorem zej:Gg "is_within" 35:=λ _=>by kernel_rfl
theorem zem:Gg "is_worth" 42:=λ _=>by kernel_rfl
theorem z9e:Gg "is_tuple_of" 49:=λ _=>by kernel_rfl
theorem z45:Gg "FIRST_STATES" 87:=λ _=>by kernel_rfl
theorem z5i:Gg "WORTHS_OF_VERBS" 90:=λ _=>by kernel_rfl
theorem z72:Gg "read_state" 97:=λ _=>by kernel_rfl
theorem z5b:Gg "write_state" 104:=λ _=>by kernel_rfl
theorem z3k:Gg "add_to_number" 111:=λ _=>by kernel_rfl
theorem z62:Gg "put_behind" 118:=λ _=>by kernel_rfl
theorem z73:Gg "take_first" 125:=λ _=>by kernel_rfl
theorem z4c:Gg "put_into_set" 132:=λ _=>by kernel_rfl
theorem z4d:Gg "cut_from_set" 137:=λ _=>by kernel_rfl
theorem z61:Gg "has_in_set" 144:=λ _=>by kernel_rfl
theorem z6r:Gg "swap_state" 151:=λ _=>by kernel_rfl
theorem zkb:Gg "DOERS" 152:=λ _=>by kernel_rfl
theorem zim:Gg "is_kind" 171:=λ _=>by kernel_rfl
theorem za6:Gg "first_state" 178:=λ _=>by kernel_rfl
theorem zhv:Gg "is_deed" 183:=λ _=>by kernel_rfl
theorem g_do:Gg "do" 190:=λ _=>by kernel_rfl
theorem zm5:Gg "deeds" 197:=λ _=>by kernel_rfl
theorem z8w:Gg "STRICTNESSES" 198:=λ _=>by kernel_rfl
theorem zl0:Gg "has_to" 205:=λ _=>by kernel_rfl
theorem z51:Gg "check_strictness" 212:=λ _=>by kernel_rfl
theorem zbj:Gg "goes_ahead" 219:=λ _=>by kernel_rfl
theorem zex:Gg "explains" 224:=λ _=>by kernel_rfl
theorem zf9:Gg "is_order" 229:=λ _=>by kernel_rfl
theorem zj7:Gg "is_step" 236:=λ _=>by kernel_rfl
theorem zhm:Gg "keeps_to" 241:=λ _=>by kernel_rfl
theorem zb0:Gg "is_done_so" 246:=λ _=>by kernel_rfl
theorem ze2:Gg "Candidate" 268:=λ _=>by kernel_rfl
theorem znk:Gg "Board" 308:=λ _=>by kernel_rfl
theorem zj6:Gg "step_of" 319:=λ _=>by kernel_rfl
theorem z79:Gg "ended_numbers" 324:=λ _=>by kernel_rfl
theorem ze9:Gg "holds_all" 329:=λ _=>by kernel_rfl
theorem zah:Gg "first_place" 334:=λ _=>by kernel_rfl
theorem zl3:Gg "judged" 341:=λ _=>by kernel_rfl
theorem zdm:Gg "_law_hand" 348:=λ _=>by kernel_rfl
theorem zeh:Gg "_law_draw" 355:=λ _=>by kernel_rfl
theorem zbp:Gg "_law_begun" 362:=λ _=>by kernel_rfl
theorem zeb:Gg "_law_does" 367:=λ _=>by kernel_rfl
theorem zb5:Gg "_law_worth" 374:=λ _=>by kernel_rfl
theorem zg4:Gg "_law_act" 381:=λ _=>by kernel_rfl
theorem z9k:Gg "_law_things" 386:=λ _=>by kernel_rfl
theorem zb6:Gg "_law_ended" 393:=λ _=>by kernel_rfl
theorem ze5:Gg "_law_tale" 398:=λ _=>by kernel_rfl
theorem ze7:Gg "_law_acts" 405:=λ _=>by kernel_rfl
theorem ze8:Gg "_law_must" 412:=λ _=>by kernel_rfl
theorem zbt:Gg "_law_alike" 419:=λ _=>by kernel_rfl
theorem ze3:Gg "_law_rows" 424:=λ _=>by kernel_rfl
theorem zbn:Gg "_law_heard" 429:=λ _=>by kernel_rfl
theorem zc5:Gg "_law_right" 434:=λ _=>by kernel_rfl
theorem g_law:Gg "law" 439:=λ _=>by kernel_rfl
noncomputable def kl_FIRST_STATES:List (Str×V):=[("register",.int (0)),("counter",.int (0)),("queue",.ref 88),("set",.ref 89),("cell",.int (0))]
theorem z3f (P:O0):KDict (KX P) P 87 kl_FIRST_STATES:=⟨⟨#[⟨(d0 P "register"),(.str "register" 282),(.int (0) 283)⟩,⟨(d0 P "counter"),(.str "counter" 284),(.int (0) 285)⟩,⟨(d0 P "queue"),(.str "queue" 286),(.ref 88)⟩,⟨(d0 P "set"),(.str "set" 287),(.ref 89)⟩,⟨(d0 P "cell"),(.str "cell" 288),(.int (0) 289)⟩],5,by kernel_rfl,(.cons ⟨⟨_,rfl⟩,rfl,⟨_,rfl⟩⟩ (.cons ⟨⟨_,rfl⟩,rfl,⟨_,rfl⟩⟩ (.cons ⟨⟨_,rfl⟩,rfl,rfl⟩ (.cons ⟨⟨_,rfl⟩,rfl,rfl⟩ (.cons ⟨⟨_,rfl⟩,rfl,⟨_,rfl⟩⟩ .nil)))))⟩,by decide⟩
noncomputable def kl_WORTHS_OF_VERBS:List (Str×V):=[("read",.int (0)),("take",.int (0)),("write",.int (1)),("add",.int (1)),("put",.int (1)),("cut",.int (1)),("has",.int (1)),("swap",.int (2))]
theorem z4q (P:O0):KDict (KX P) P 90 kl_WORTHS_OF_VERBS:=⟨⟨#[⟨(d0 P "read"),(.str "read" 296),(.int (0) 297)⟩,⟨(d0 P "take"),(.str "take" 298),(.int (0) 299)⟩,⟨(d0 P "write"),(.str "write" 300),(.int (1) 301)⟩,⟨(d0 P "add"),(.str "add" 302),(.int (1) 303)⟩,⟨(d0 P "put"),(.str "put" 304),(.int (1) 305)⟩,⟨(d0 P "cut"),(.str "cut" 306),(.int (1) 307)⟩,⟨(d0 P "has"),(.str "has" 308),(.int (1) 309)⟩,⟨(d0 P "swap"),(.str "swap" 310),(.int (2) 311)⟩],8,by kernel_rfl,(.cons ⟨⟨_,rfl⟩,rfl,⟨_,rfl⟩⟩ (.cons ⟨⟨_,rfl⟩,rfl,⟨_,rfl⟩⟩ (.cons ⟨⟨_,rfl⟩,rfl,⟨_,rfl⟩⟩ (.cons ⟨⟨_,rfl⟩,rfl,⟨_,rfl⟩⟩ (.cons ⟨⟨_,rfl⟩,rfl,⟨_,rfl⟩⟩ (.cons ⟨⟨_,rfl⟩,rfl,⟨_,rfl⟩⟩ (.cons ⟨⟨_,rfl⟩,rfl,⟨_,rfl⟩⟩ (.cons ⟨⟨_,rfl⟩,rfl,⟨_,rfl⟩⟩ .nil))))))))⟩,by decide⟩
noncomputable def kl_DOERS:List ((Str×Str)×V):=[(("register","read"),.ref 97),(("register","write"),.ref 104),(("counter","read"),.ref 97),(("counter","add"),.ref 111),(("queue","put"),.ref 118),(("queue","take"),.ref 125),(("set","put"),.ref 132),(("set","cut"),.ref 137),(("set","has"),.ref 144),(("cell","read"),.ref 97),(("cell","write"),.ref 104),(("cell","swap"),.ref 151)]
theorem zhd (P:O0):KDictT (KX P) P 152 kl_DOERS:=⟨⟨#[⟨(C1 (j0 [d0 P "register",d0 P "read"])),(.ref 153),(.ref 97)⟩,⟨(C1 (j0 [d0 P "register",d0 P "write"])),(.ref 154),(.ref 104)⟩,⟨(C1 (j0 [d0 P "counter",d0 P "read"])),(.ref 155),(.ref 97)⟩,⟨(C1 (j0 [d0 P "counter",d0 P "add"])),(.ref 156),(.ref 111)⟩,⟨(C1 (j0 [d0 P "queue",d0 P "put"])),(.ref 157),(.ref 118)⟩,⟨(C1 (j0 [d0 P "queue",d0 P "take"])),(.ref 158),(.ref 125)⟩,⟨(C1 (j0 [d0 P "set",d0 P "put"])),(.ref 159),(.ref 132)⟩,⟨(C1 (j0 [d0 P "set",d0 P "cut"])),(.ref 160),(.ref 137)⟩,⟨(C1 (j0 [d0 P "set",d0 P "has"])),(.ref 161),(.ref 144)⟩,⟨(C1 (j0 [d0 P "cell",d0 P "read"])),(.ref 162),(.ref 97)⟩,⟨(C1 (j0 [d0 P "cell",d0 P "write"])),(.ref 163),(.ref 104)⟩,⟨(C1 (j0 [d0 P "cell",d0 P "swap"])),(.ref 164),(.ref 151)⟩],12,by kernel_rfl,(.cons ⟨⟨153,391,392,0,rfl,by kernel_rfl⟩,rfl,rfl⟩ (.cons ⟨⟨154,393,394,0,rfl,by kernel_rfl⟩,rfl,rfl⟩ (.cons ⟨⟨155,395,396,0,rfl,by kernel_rfl⟩,rfl,rfl⟩ (.cons ⟨⟨156,397,398,0,rfl,by kernel_rfl⟩,rfl,rfl⟩ (.cons ⟨⟨157,399,400,0,rfl,by kernel_rfl⟩,rfl,rfl⟩ (.cons ⟨⟨158,401,402,0,rfl,by kernel_rfl⟩,rfl,rfl⟩ (.cons ⟨⟨159,403,404,0,rfl,by kernel_rfl⟩,rfl,rfl⟩ (.cons ⟨⟨160,405,406,0,rfl,by kernel_rfl⟩,rfl,rfl⟩ (.cons ⟨⟨161,407,408,0,rfl,by kernel_rfl⟩,rfl,rfl⟩ (.cons ⟨⟨162,409,410,0,rfl,by kernel_rfl⟩,rfl,rfl⟩ (.cons ⟨⟨163,411,412,0,rfl,by kernel_rfl⟩,rfl,rfl⟩ (.cons ⟨⟨164,413,414,0,rfl,by kernel_rfl⟩,rfl,rfl⟩ .nil))))))))))))⟩,by decide +kernel,by decide⟩
noncomputable abbrev y2e:Stmt:=top 3
noncomputable abbrev y1b:FuncData:=fnX "is_whole" "is_whole" (top 3) "talejudge.basics" 194 27
theorem z5s (P:O0):Fun (KX P) "is_whole" "is_whole" y2e 28 y1b:=z0d
theorem zgx (P:O0):Binds (KX P) y1b ["value"] []:=(z5s P).binds λ _ _ _ _ _ _=>us1 λ _=>rfl
theorem zdj:FnScope ["value"] ["value"] (z06 y2e):=.k
noncomputable abbrev y23:Stmt:=top 4
noncomputable abbrev y0x:FuncData:=fnX "is_within" "is_within" (top 4) "talejudge.basics" 194 34
theorem z53 (P:O0):Fun (KX P) "is_within" "is_within" y23 35 y0x:=z0d
theorem zec (P:O0):Binds (KX P) y0x ["value","greatest"] []:=(z53 P).binds λ _ _ _ _ _ _=>us2 λ _ _=>rfl
theorem zbu:FnScope ["value","greatest"] ["value","greatest"] (z06 y23):=.k
noncomputable abbrev y2f:Stmt:=top 5
noncomputable abbrev y1c:FuncData:=fnX "is_worth" "is_worth" (top 5) "talejudge.basics" 194 41
theorem z6z (P:O0):Fun (KX P) "is_worth" "is_worth" y2f 42 y1c:=z0d
theorem zgn (P:O0):Binds (KX P) y1c ["value"] []:=(z6z P).binds λ _ _ _ _ _ _=>us1 λ _=>rfl
theorem zee:FnScope ["value"] ["value"] (z06 y2f):=.k
noncomputable abbrev y1h:Stmt:=top 6
noncomputable abbrev y0e:FuncData:=fnX "is_tuple_of" "is_tuple_of" (top 6) "talejudge.basics" 194 48
theorem z33 (P:O0):Fun (KX P) "is_tuple_of" "is_tuple_of" y1h 49 y0e:=z0d
theorem zai (P:O0):Binds (KX P) y0e ["value","many"] []:=(z33 P).binds λ _ _ _ _ _ _=>us2 λ _ _=>rfl
theorem z82:FnScope ["value","many"] ["value","many"] (z06 y1h):=.k
noncomputable abbrev y1q:Stmt:=top 14
noncomputable abbrev y0j:FuncData:=fnX "read_state" "read_state" (top 14) "talejudge.store" 280 96
theorem z3m (P:O0):Fun (KX P) "read_state" "read_state" y1q 97 y0j:=z0d
theorem zbr (P:O0):Binds (KX P) y0j ["state","worth"] []:=(z3m P).binds λ _ _ _ _ _ _=>us2 λ _ _=>rfl
theorem zab:FnScope ["state","worth"] ["state","worth"] (z06 y1q):=.k
noncomputable abbrev y1i:Stmt:=top 15
noncomputable abbrev y0f:FuncData:=fnX "write_state" "write_state" (top 15) "talejudge.store" 280 103
theorem z30 (P:O0):Fun (KX P) "write_state" "write_state" y1i 104 y0f:=z0d
theorem zap (P:O0):Binds (KX P) y0f ["state","worth"] []:=(z30 P).binds λ _ _ _ _ _ _=>us2 λ _ _=>rfl
theorem z89:FnScope ["state","worth"] ["state","worth"] (z06 y1i):=.k
noncomputable abbrev y0y:Stmt:=top 16
noncomputable abbrev y07:FuncData:=fnX "add_to_number" "add_to_number" (top 16) "talejudge.store" 280 110
theorem z1y (P:O0):Fun (KX P) "add_to_number" "add_to_number" y0y 111 y07:=z0d
theorem z75 (P:O0):Binds (KX P) y07 ["state","worth"] []:=(z1y P).binds λ _ _ _ _ _ _=>us2 λ _ _=>rfl
theorem z6q:FnScope ["state","worth"] ["state","worth"] (z06 y0y):=.k
noncomputable abbrev y1r:Stmt:=top 17
noncomputable abbrev y0k:FuncData:=fnX "put_behind" "put_behind" (top 17) "talejudge.store" 280 117
theorem z44 (P:O0):Fun (KX P) "put_behind" "put_behind" y1r 118 y0k:=z0d
theorem zax (P:O0):Binds (KX P) y0k ["state","worth"] []:=(z44 P).binds λ _ _ _ _ _ _=>us2 λ _ _=>rfl
theorem zam:FnScope ["state","worth"] ["state","worth"] (z06 y1r):=.k
noncomputable abbrev y1s:Stmt:=top 18
noncomputable abbrev y0l:FuncData:=fnX "take_first" "take_first" (top 18) "talejudge.store" 280 124
theorem z3o (P:O0):Fun (KX P) "take_first" "take_first" y1s 125 y0l:=z0d
theorem zb3 (P:O0):Binds (KX P) y0l ["state","worth"] []:=(z3o P).binds λ _ _ _ _ _ _=>us2 λ _ _=>rfl
theorem zak:FnScope ["state","worth"] ["state","worth"] (z06 y1s):=.k
noncomputable abbrev y19:Stmt:=top 19
noncomputable abbrev y0a:FuncData:=fnX "put_into_set" "put_into_set" (top 19) "talejudge.store" 280 131
theorem z2d (P:O0):Fun (KX P) "put_into_set" "put_into_set" y19 132 y0a:=z0d
theorem z8l (P:O0):Binds (KX P) y0a ["state","worth"] []:=(z2d P).binds λ _ _ _ _ _ _=>us2 λ _ _=>rfl
theorem z78:FnScope ["state","worth"] ["state","worth"] (z06 y19):=.k
noncomputable abbrev y1a:Stmt:=top 20
noncomputable abbrev y0b:FuncData:=fnX "cut_from_set" "cut_from_set" (top 20) "talejudge.store" 280 136
theorem z27 (P:O0):Fun (KX P) "cut_from_set" "cut_from_set" y1a 137 y0b:=z0d
theorem z8v (P:O0):Binds (KX P) y0b ["state","worth"] []:=(z27 P).binds λ _ _ _ _ _ _=>us2 λ _ _=>rfl
theorem z7f:FnScope ["state","worth"] ["state","worth"] (z06 y1a):=.k
noncomputable abbrev y1t:Stmt:=top 21
noncomputable abbrev y0m:FuncData:=fnX "has_in_set" "has_in_set" (top 21) "talejudge.store" 280 143
theorem z40 (P:O0):Fun (KX P) "has_in_set" "has_in_set" y1t 144 y0m:=z0d
theorem zcb (P:O0):Binds (KX P) y0m ["state","worth"] []:=(z40 P).binds λ _ _ _ _ _ _=>us2 λ _ _=>rfl
theorem z9g:FnScope ["state","worth"] ["state","worth"] (z06 y1t):=.k
noncomputable abbrev y1u:Stmt:=top 22
noncomputable abbrev y0n:FuncData:=fnX "swap_state" "swap_state" (top 22) "talejudge.store" 280 150
theorem z3z (P:O0):Fun (KX P) "swap_state" "swap_state" y1u 151 y0n:=z0d
theorem zc1 (P:O0):Binds (KX P) y0n ["state","worth"] []:=(z3z P).binds λ _ _ _ _ _ _=>us2 λ _ _=>rfl
theorem za9:FnScope ["state","worth"] ["state","worth"] (z06 y1u):=.k
noncomputable abbrev y2l:Stmt:=top 24
noncomputable abbrev y1m:FuncData:=fnX "is_kind" "is_kind" (top 24) "talejudge.store" 280 170
theorem z8n (P:O0):Fun (KX P) "is_kind" "is_kind" y2l 171 y1m:=z0d
theorem zii (P:O0):Binds (KX P) y1m ["kind"] []:=(z8n P).binds λ _ _ _ _ _ _=>us1 λ _=>rfl
theorem zgo:FnScope ["kind"] ["kind"] (z06 y2l):=.k
noncomputable abbrev y1j:Stmt:=top 25
noncomputable abbrev y0g:FuncData:=fnX "first_state" "first_state" (top 25) "talejudge.store" 280 177
theorem z2o (P:O0):Fun (KX P) "first_state" "first_state" y1j 178 y0g:=z0d
theorem zaa (P:O0):Binds (KX P) y0g ["kind"] []:=(z2o P).binds λ _ _ _ _ _ _=>us1 λ _=>rfl
theorem z81:FnScope ["kind"] ["kind"] (z06 y1j):=.k
noncomputable abbrev y2m:Stmt:=top 26
noncomputable abbrev y1n:FuncData:=fnX "is_deed" "is_deed" (top 26) "talejudge.store" 280 182
theorem z8t (P:O0):Fun (KX P) "is_deed" "is_deed" y2m 183 y1n:=z0d
theorem zir (P:O0):Binds (KX P) y1n ["kind","verb","worth"] []:=(z8t P).binds λ _ _ _ _ _ _=>us3 λ _ _ _=>rfl
theorem sc_is_deed:FnScope ["kind","verb","worth","many"] ["kind","verb","worth"] (z06 y2m):=.k
noncomputable abbrev y2s:Stmt:=top 27
noncomputable abbrev y2t:FuncData:=fnX "do" "do" (top 27) "talejudge.store" 280 189
theorem F_do (P:O0):Fun (KX P) "do" "do" y2s 190 y2t:=z0d
theorem b_do (P:O0):Binds (KX P) y2t ["kind","state","verb","worth"] []:=(F_do P).binds λ _ _ _ _ _ _=>us4 λ _ _ _ _=>rfl
theorem sc_do:FnScope ["kind","state","verb","worth","doer"] ["kind","state","verb","worth"] (z06 y2s):=.k
noncomputable abbrev y2r:Stmt:=top 29
noncomputable abbrev y2k:FuncData:=fnX "deeds" "deeds" (top 29) "talejudge.tales" 483 196
theorem zgt (P:O0):Fun (KX P) "deeds" "deeds" y2r 197 y2k:=z0d
theorem zmu (P:O0):Binds (KX P) y2k ["tale"] []:=(zgt P).binds λ _ _ _ _ _ _=>us1 λ _=>rfl
theorem sc_deeds:FnScope ["tale","told","numbers","place","event","number","begun"] ["tale"] (z06 y2r):=.k
noncomputable abbrev y2p:Stmt:=top 32
noncomputable abbrev y24:FuncData:=fnX "has_to" "has_to" (top 32) "talejudge.orders" 498 204
theorem zbb (P:O0):Fun (KX P) "has_to" "has_to" y2p 205 y24:=z0d
theorem zkq (P:O0):Binds (KX P) y24 ["tale","strictness"] []:=(zbb P).binds λ _ _ _ _ _ _=>us2 λ _ _=>rfl
theorem sc_has_to:FnScope ["tale","strictness","told","pairs","ahead","one","behind","other"] ["tale","strictness"] (z06 y2p):=.k
noncomputable abbrev y0c:Stmt:=top 33
noncomputable abbrev y05:FuncData:=fnX "check_strictness" "check_strictness" (top 33) "talejudge.orders" 498 211
theorem z17 (P:O0):Fun (KX P) "check_strictness" "check_strictness" y0c 212 y05:=z0d
theorem z4u (P:O0):Binds (KX P) y05 ["strictness"] []:=(z17 P).binds λ _ _ _ _ _ _=>us1 λ _=>rfl
theorem z47:FnScope ["strictness"] ["strictness"] (z06 y0c):=.k
noncomputable abbrev y1v:Stmt:=top 34
noncomputable abbrev y0o:FuncData:=fnX "goes_ahead" "goes_ahead" (top 34) "talejudge.orders" 498 218
theorem z3n (P:O0):Fun (KX P) "goes_ahead" "goes_ahead" y1v 219 y0o:=z0d
theorem zbv (P:O0):Binds (KX P) y0o ["one","other","strictness"] []:=(z3n P).binds λ _ _ _ _ _ _=>us3 λ _ _ _=>rfl
theorem z9t:FnScope ["one","other","strictness"] ["one","other","strictness"] (z06 y1v):=.k
noncomputable abbrev y2g:Stmt:=top 35
noncomputable abbrev y1d:FuncData:=fnX "explains" "explains" (top 35) "talejudge.orders" 498 223
theorem z64 (P:O0):Fun (KX P) "explains" "explains" y2g 224 y1d:=z0d
theorem zg0 (P:O0):Binds (KX P) y1d ["tale","strictness","order"] []:=(z64 P).binds λ _ _ _ _ _ _=>us3 λ _ _ _=>rfl
theorem sc_explains:FnScope ["tale","strictness","order","pairs","told"] ["tale","strictness","order"] (z06 y2g):=.k
noncomputable abbrev y2h:Stmt:=top 36
noncomputable abbrev y1e:FuncData:=fnX "is_order" "is_order" (top 36) "talejudge.orders" 498 228
theorem z6e (P:O0):Fun (KX P) "is_order" "is_order" y2h 229 y1e:=z0d
theorem zfk (P:O0):Binds (KX P) y1e ["told","order"] []:=(z6e P).binds λ _ _ _ _ _ _=>us2 λ _ _=>rfl
theorem sc_is_order:FnScope ["told","order","answers"] ["told","order"] (z06 y2h):=.k
noncomputable abbrev y2n:Stmt:=top 37
noncomputable abbrev y1o:FuncData:=fnX "is_step" "is_step" (top 37) "talejudge.orders" 498 235
theorem z95 (P:O0):Fun (KX P) "is_step" "is_step" y2n 236 y1o:=z0d
theorem zio (P:O0):Binds (KX P) y1o ["step","many"] []:=(z95 P).binds λ _ _ _ _ _ _=>us2 λ _ _=>rfl
theorem zh6:FnScope ["step","many"] ["step","many"] (z06 y2n):=.k
noncomputable abbrev y2i:Stmt:=top 38
noncomputable abbrev y1f:FuncData:=fnX "keeps_to" "keeps_to" (top 38) "talejudge.orders" 498 240
theorem z6b (P:O0):Fun (KX P) "keeps_to" "keeps_to" y2i 241 y1f:=z0d
theorem zgj (P:O0):Binds (KX P) y1f ["pairs","numbers"] []:=(z6b P).binds λ _ _ _ _ _ _=>us2 λ _ _=>rfl
theorem sc_keeps_to:FnScope ["pairs","numbers","stands","both"] ["pairs","numbers"] (z06 y2i):=.k
noncomputable abbrev y1w:Stmt:=top 39
noncomputable abbrev y0p:FuncData:=fnX "is_done_so" "is_done_so" (top 39) "talejudge.orders" 498 245
theorem z3p (P:O0):Fun (KX P) "is_done_so" "is_done_so" y1w 246 y0p:=z0d
theorem zar (P:O0):Binds (KX P) y0p ["things","told","order"] []:=(z3p P).binds λ _ _ _ _ _ _=>us3 λ _ _ _=>rfl
theorem sc_is_done_so:FnScope ["things","told","order","kinds","states","number","answer","deed","done"] ["things","told","order"] (z06 y1w):=.k
noncomputable abbrev y2o:Stmt:=top 43
noncomputable abbrev y1p:FuncData:=fnX "step_of" "step_of" (top 43) "talejudge.places" 566 318
theorem z8h (P:O0):Fun (KX P) "step_of" "step_of" y2o 319 y1p:=z0d
theorem ziq (P:O0):Binds (KX P) y1p ["candidate","place"] []:=(z8h P).binds λ _ _ _ _ _ _=>us2 λ _ _=>rfl
theorem sc_step_of:FnScope ["candidate","place","thing","states","done","numbers"] ["candidate","place"] (z06 y2o):=.k
noncomputable abbrev y0z:Stmt:=top 44
noncomputable abbrev y08:FuncData:=fnX "ended_numbers" "ended_numbers" (top 44) "talejudge.places" 566 323
theorem z1x (P:O0):Fun (KX P) "ended_numbers" "ended_numbers" y0z 324 y08:=z0d
theorem z7g (P:O0):Binds (KX P) y08 ["told"] []:=(z1x P).binds λ _ _ _ _ _ _=>us1 λ _=>rfl
theorem z6s:FnScope ["told"] ["told"] (z06 y0z):=.k
noncomputable abbrev y25:Stmt:=top 45
noncomputable abbrev y10:FuncData:=fnX "holds_all" "holds_all" (top 45) "talejudge.places" 566 328
theorem z50 (P:O0):Fun (KX P) "holds_all" "holds_all" y25 329 y10:=z0d
theorem zdl (P:O0):Binds (KX P) y10 ["done","numbers"] []:=(z50 P).binds λ _ _ _ _ _ _=>us2 λ _ _=>rfl
theorem zb4:FnScope ["done","numbers"] ["done","numbers"] (z06 y25):=.k
noncomputable abbrev y1k:Stmt:=top 46
noncomputable abbrev y0h:FuncData:=fnX "first_place" "first_place" (top 46) "talejudge.places" 566 333
theorem z2r (P:O0):Fun (KX P) "first_place" "first_place" y1k 334 y0h:=z0d
theorem z96 (P:O0):Binds (KX P) y0h ["tale"] []:=(z2r P).binds λ _ _ _ _ _ _=>us1 λ _=>rfl
theorem z91:FnScope ["tale"] ["tale"] (z06 y1k):=.k
noncomputable abbrev y2q:Stmt:=top 48
noncomputable abbrev y26:FuncData:=fnX "judged" "judged" (top 48) "talejudge.judge" 699 340
theorem zbm (P:O0):Fun (KX P) "judged" "judged" y2q 341 y26:=z0d
theorem zld (P:O0):Binds (KX P) y26 ["tale","strictness"] []:=(zbm P).binds λ _ _ _ _ _ _=>us2 λ _ _=>rfl
theorem sc_judged:FnScope ["tale","strictness","board","seen","waiting","reached","number","answer","place"] ["tale","strictness"] (z06 y2q):=.k
noncomputable abbrev y27:Stmt:=top 50
noncomputable abbrev y11:FuncData:=fY "_law_hand" "_law_hand" (top 50) 347
theorem z55 (P:O0):Fun (KX P) "_law_hand" "_law_hand" y27 348 y11:=z0d
theorem zef (P:O0):Binds (KX P) y11 ["script","cell","k"] []:=(z55 P).binds λ _ _ _ _ _ _=>us3 λ _ _ _=>rfl
theorem sc__law_hand:FnScope ["script","cell","k","way"] ["script","cell","k"] (z06 y27):=.k
noncomputable abbrev y28:Stmt:=top 51
noncomputable abbrev y12:FuncData:=fY "_law_draw" "_law_draw" (top 51) 354
theorem z4t (P:O0):Fun (KX P) "_law_draw" "_law_draw" y28 355 y12:=z0d
theorem zdx (P:O0):Binds (KX P) y12 ["hand","limit"] []:=(z4t P).binds λ _ _ _ _ _ _=>us2 λ _ _=>rfl
theorem sc__law_draw:FnScope ["hand","limit","got"] ["hand","limit"] (z06 y28):=.k
noncomputable abbrev y1x:Stmt:=top 52
noncomputable abbrev y0q:FuncData:=fY "_law_begun" "_law_begun" (top 52) 361
theorem z3w (P:O0):Fun (KX P) "_law_begun" "_law_begun" y1x 362 y0q:=z0d
theorem zbx (P:O0):Binds (KX P) y0q ["kind"] []:=(z3w P).binds λ _ _ _ _ _ _=>us1 λ _=>rfl
theorem z9v:FnScope ["kind"] ["kind"] (z06 y1x):=.k
noncomputable abbrev y29:Stmt:=top 53
noncomputable abbrev y13:FuncData:=fY "_law_does" "_law_does" (top 53) 366
theorem z4y (P:O0):Fun (KX P) "_law_does" "_law_does" y29 367 y13:=z0d
theorem zdy (P:O0):Binds (KX P) y13 ["kind","state","verb","worth"] []:=(z4y P).binds λ _ _ _ _ _ _=>us4 λ _ _ _ _=>rfl
theorem sc__law_does:FnScope ["kind","state","verb","worth","answer"] ["kind","state","verb","worth"] (z06 y29):=.k
noncomputable abbrev y1y:Stmt:=top 54
noncomputable abbrev y0r:FuncData:=fY "_law_worth" "_law_worth" (top 54) 373
theorem z3t (P:O0):Fun (KX P) "_law_worth" "_law_worth" y1y 374 y0r:=z0d
theorem zbc (P:O0):Binds (KX P) y0r ["hand"] []:=(z3t P).binds λ _ _ _ _ _ _=>us1 λ _=>rfl
theorem z9d:FnScope ["hand"] ["hand"] (z06 y1y):=.k
noncomputable abbrev y2j:Stmt:=top 55
noncomputable abbrev y1g:FuncData:=fY "_law_act" "_law_act" (top 55) 380
theorem z6g (P:O0):Fun (KX P) "_law_act" "_law_act" y2j 381 y1g:=z0d
theorem zeo (P:O0):Binds (KX P) y1g ["hand","kind"] []:=(z6g P).binds λ _ _ _ _ _ _=>us2 λ _ _=>rfl
theorem sc__law_act:FnScope ["hand","kind","verbs","verb"] ["hand","kind"] (z06 y2j):=.k
noncomputable abbrev y1l:Stmt:=top 56
noncomputable abbrev y0i:FuncData:=fY "_law_things" "_law_things" (top 56) 385
theorem z2w (P:O0):Fun (KX P) "_law_things" "_law_things" y1l 386 y0i:=z0d
theorem za8 (P:O0):Binds (KX P) y0i ["hand"] []:=(z2w P).binds λ _ _ _ _ _ _=>us1 λ _=>rfl
theorem sc__law_things:FnScope ["hand","known","many"] ["hand"] (z06 y1l):=.k
noncomputable abbrev y1z:Stmt:=top 57
noncomputable abbrev y0s:FuncData:=fY "_law_ended" "_law_ended" (top 57) 392
theorem z3q (P:O0):Fun (KX P) "_law_ended" "_law_ended" y1z 393 y0s:=z0d
theorem zav (P:O0):Binds (KX P) y0s ["hand","things","states","act"] []:=(z3q P).binds λ _ _ _ _ _ _=>us4 λ _ _ _ _=>rfl
theorem sc__law_ended:FnScope ["hand","things","states","act","name","verb","worth","heard","kind"] ["hand","things","states","act"] (z06 y1z):=.k
noncomputable abbrev y2a:Stmt:=top 58
noncomputable abbrev y14:FuncData:=fY "_law_tale" "_law_tale" (top 58) 397
theorem z4x (P:O0):Fun (KX P) "_law_tale" "_law_tale" y2a 398 y14:=z0d
theorem zdr (P:O0):Binds (KX P) y14 ["script","first","hands","most"] []:=(z4x P).binds λ _ _ _ _ _ _=>us4 λ _ _ _ _=>rfl
theorem sc__law_tale:FnScope ["script","first","hands","most","head","things","states","calm","busy","many","events","k","cell","hand","one","name","kind","verb","worth","heard"] ["script","first","hands","most"] (z06 y2a):=.k
noncomputable abbrev y2b:Stmt:=top 59
noncomputable abbrev y15:FuncData:=fY "_law_acts" "_law_acts" (top 59) 404
theorem z4s (P:O0):Fun (KX P) "_law_acts" "_law_acts" y2b 405 y15:=z0d
theorem zdw (P:O0):Binds (KX P) y15 ["tale"] []:=(z4s P).binds λ _ _ _ _ _ _=>us1 λ _=>rfl
theorem sc__law_acts:FnScope ["tale","acts","open_ones","at","event","act"] ["tale"] (z06 y2b):=.k
noncomputable abbrev y2c:Stmt:=top 60
noncomputable abbrev y16:FuncData:=fY "_law_must" "_law_must" (top 60) 411
theorem z4z (P:O0):Fun (KX P) "_law_must" "_law_must" y2c 412 y16:=z0d
theorem ze6 (P:O0):Binds (KX P) y16 ["acts","strictness","one","other"] []:=(z4z P).binds λ _ _ _ _ _ _=>us4 λ _ _ _ _=>rfl
theorem zbd:FnScope ["acts","strictness","one","other"] ["acts","strictness","one","other"] (z06 y2c):=.k
noncomputable abbrev y20:Stmt:=top 61
noncomputable abbrev y0t:FuncData:=fY "_law_alike" "_law_alike" (top 61) 418
theorem z43 (P:O0):Fun (KX P) "_law_alike" "_law_alike" y20 419 y0t:=z0d
theorem zbl (P:O0):Binds (KX P) y0t ["one","other"] []:=(z43 P).binds λ _ _ _ _ _ _=>us2 λ _ _=>rfl
theorem za3:FnScope ["one","other"] ["one","other"] (z06 y20):=.k
noncomputable abbrev y2d:Stmt:=top 62
noncomputable abbrev y17:FuncData:=fY "_law_rows" "_law_rows" (top 62) 423
theorem z54 (P:O0):Fun (KX P) "_law_rows" "_law_rows" y2d 424 y17:=z0d
theorem zed (P:O0):Binds (KX P) y17 ["many"] []:=(z54 P).binds λ _ _ _ _ _ _=>us1 λ _=>rfl
theorem sc__law_rows:FnScope ["many","rows","level","k","longer","row"] ["many"] (z06 y2d):=.k
noncomputable abbrev y21:Stmt:=top 63
noncomputable abbrev y0u:FuncData:=fY "_law_heard" "_law_heard" (top 63) 428
theorem z3l (P:O0):Fun (KX P) "_law_heard" "_law_heard" y21 429 y0u:=z0d
theorem zb9 (P:O0):Binds (KX P) y0u ["tale","acts","row"] []:=(z3l P).binds λ _ _ _ _ _ _=>us3 λ _ _ _=>rfl
theorem sc__law_heard:FnScope ["tale","acts","row","states","order","number","act","name","heard"] ["tale","acts","row"] (z06 y21):=.k
noncomputable abbrev y22:Stmt:=top 64
noncomputable abbrev y0v:FuncData:=fY "_law_right" "_law_right" (top 64) 433
theorem z42 (P:O0):Fun (KX P) "_law_right" "_law_right" y22 434 y0v:=z0d
theorem zb1 (P:O0):Binds (KX P) y0v ["acts","strictness","order"] []:=(z42 P).binds λ _ _ _ _ _ _=>us3 λ _ _ _=>rfl
theorem sc__law_right:FnScope ["acts","strictness","order","row","number","at","heard"] ["acts","strictness","order"] (z06 y22):=.k
noncomputable abbrev y2u:Stmt:=top 65
noncomputable abbrev fd_law:FuncData:=fY "law" "law" (top 65) 438
theorem F_law (P:O0):Fun (KX P) "law" "law" y2u 439 fd_law:=z0d
theorem sc_law:FnScope ["script","head","tale","acts","orders","strictness","due","order","right","got","told"] ["script"] (z06 y2u):=.k
noncomputable abbrev y09:Stmt:=subS (top 41) 0
noncomputable abbrev y01:FuncData:=fnX "__init__" "Candidate.__init__" (subS (top 41) 0) "talejudge.places" 566 257
theorem z1i (P:O0):Fun (KX P) "__init__" "Candidate.__init__" y09 258 y01:=z0d
theorem z3v (P:O0):Binds (KX P) y01 ["self","number","deed","thing","kind","pairs"] []:=(z1i P).binds λ _ _ _ _ _ _=>us6 λ _ _ _ _ _ _=>rfl
theorem z3d:FnScope ["self","number","deed","thing","kind","pairs"] ["self","number","deed","thing","kind","pairs"] (z06 y09):=.k
theorem zbf (P:O0):Mk (KX P) 268 258:=⟨by kernel_rfl,by kernel_rfl,by kernel_rfl,by kernel_rfl⟩
theorem z0a (P:O0):Cls (KX P) 268:=⟨by kernel_rfl,by kernel_rfl,by kernel_rfl,by kernel_rfl⟩
theorem z0r (P:O0):NoAttr (KX P) 268 "number":=by unfold NoAttr;kernel_rfl
theorem z21 (P:O0):NoAttr (KX P) 268 "thing":=by unfold NoAttr;kernel_rfl
theorem z2j (P:O0):NoAttr (KX P) 268 "kind":=by unfold NoAttr;kernel_rfl
theorem z2g (P:O0):NoAttr (KX P) 268 "verb":=by unfold NoAttr;kernel_rfl
theorem z23 (P:O0):NoAttr (KX P) 268 "worth":=by unfold NoAttr;kernel_rfl
theorem z13 (P:O0):NoAttr (KX P) 268 "answer":=by unfold NoAttr;kernel_rfl
theorem z1r (P:O0):NoAttr (KX P) 268 "aheads":=by unfold NoAttr;kernel_rfl
theorem z1l (P:O0):NoAttr (KX P) 268 "behinds":=by unfold NoAttr;kernel_rfl
noncomputable abbrev y06:Stmt:=subS (top 41) 1
noncomputable abbrev y00:FuncData:=fnX "may_stand" "Candidate.may_stand" (subS (top 41) 1) "talejudge.places" 566 264
theorem z1e (P:O0):Fun (KX P) "may_stand" "Candidate.may_stand" y06 265 y00:=z0d
theorem z3e (P:O0):Binds (KX P) y00 ["self","done"] []:=(z1e P).binds λ _ _ _ _ _ _=>us2 λ _ _=>rfl
theorem sc_Candidate_may_stand:FnScope ["self","done","ahead","behind"] ["self","done"] (z06 y06):=.k
theorem z2m (P:O0):Meth (KX P) 268 "may_stand" 265:=⟨by kernel_rfl,by kernel_rfl,by kernel_rfl⟩
noncomputable abbrev y0w:Stmt:=subS (top 42) 0
noncomputable abbrev y03:FuncData:=fnX "__init__" "Board.__init__" (subS (top 42) 0) "talejudge.places" 566 283
theorem z35 (P:O0):Fun (KX P) "__init__" "Board.__init__" y0w 284 y03:=z0d
theorem z5u (P:O0):Binds (KX P) y03 ["self","tale","strictness"] []:=(z35 P).binds λ _ _ _ _ _ _=>us3 λ _ _ _=>rfl
theorem sc_Board___init__:FnScope ["self","tale","strictness","pairs","told","names","number","deed","thing"] ["self","tale","strictness"] (z06 y0w):=.k
theorem zlu (P:O0):Mk (KX P) 308 284:=⟨by kernel_rfl,by kernel_rfl,by kernel_rfl,by kernel_rfl⟩
theorem z1n (P:O0):Cls (KX P) 308:=⟨by kernel_rfl,by kernel_rfl,by kernel_rfl,by kernel_rfl⟩
theorem z4k (P:O0):NoAttr (KX P) 308 "kinds":=by unfold NoAttr;kernel_rfl
theorem z4j (P:O0):NoAttr (KX P) 308 "first":=by unfold NoAttr;kernel_rfl
theorem z49 (P:O0):NoAttr (KX P) 308 "ended":=by unfold NoAttr;kernel_rfl
theorem z15 (P:O0):NoAttr (KX P) 308 "candidates":=by unfold NoAttr;kernel_rfl
noncomputable abbrev y0d:Stmt:=subS (top 42) 1
noncomputable abbrev y02:FuncData:=fnX "steps_from" "Board.steps_from" (subS (top 42) 1) "talejudge.places" 566 290
theorem z1z (P:O0):Fun (KX P) "steps_from" "Board.steps_from" y0d 291 y02:=z0d
theorem z4v (P:O0):Binds (KX P) y02 ["self","place"] []:=(z1z P).binds λ _ _ _ _ _ _=>us2 λ _ _=>rfl
theorem sc_Board_steps_from:FnScope ["self","place","steps","candidate","step"] ["self","place"] (z06 y0d):=.k
theorem z4g (P:O0):Meth (KX P) 308 "steps_from" 291:=⟨by kernel_rfl,by kernel_rfl,by kernel_rfl⟩
noncomputable abbrev y18:Stmt:=subS (top 42) 2
noncomputable abbrev y04:FuncData:=fnX "ends_at" "Board.ends_at" (subS (top 42) 2) "talejudge.places" 566 297
theorem z3h (P:O0):Fun (KX P) "ends_at" "Board.ends_at" y18 298 y04:=z0d
theorem z77 (P:O0):Binds (KX P) y04 ["self","place"] []:=(z3h P).binds λ _ _ _ _ _ _=>us2 λ _ _=>rfl
theorem z60:FnScope ["self","place"] ["self","place"] (z06 y18):=.k
theorem z6c (P:O0):Meth (KX P) 308 "ends_at" 298:=⟨by kernel_rfl,by kernel_rfl,by kernel_rfl⟩
section
variable {P:Program} {w:S0} {mg:Str->Option Value} {base:Heap}
def z4w:Sp:=λ vs H Q _=>∃x T,vs=[x]/\TagOf H x T/\Q (.bl (decide (T = "int"))) H
theorem zdq (T:TX (kx w) mg):Fo P w mg base CX0 1 28 y1b ["value"] z4w:=by
 refine (z5s w.params).ok zdj (λ b H Q E h=>?_) (λ e A d s H b Q E c h=>?_)
 ·obtain ⟨x,t,rfl,_⟩:=h;rfl
 ·obtain ⟨x,t,rfl,a,q⟩:=h;refine ⟨_,(z04 (ps_ret (pe_and (z0c z0k rfl (T.no (z0i _)) Y2 (z00 (pv 0) (z00 (z2i (v:=.ty "int") rfl (T.no (n_int _)) j35 rfl) pa_nil))) (pe_one (pe_not (z0c z0k rfl (T.no (z0i _)) Y2 (z00 (pv 0) (z00 (z2i (v:=.ty "bool") rfl (T.no (n_bool _)) boot_bool rfl) pa_nil)))))))),?_⟩;refine ⟨_,rfl,_,_,_,rfl,a,by decide,_,rfl,?_⟩;by_cases h1:instB t "int" = true
  ·rw [if_pos h1];refine ⟨_,rfl,_,_,_,rfl,a,by decide,_,rfl,?_⟩;rw [z8u a (by decide)];have:(!decide (t = "bool"))=decide (t = "int"):=by rcases a.one with rfl|rfl|rfl|rfl|rfl|rfl|rfl<;>revert h1<;>decide
   rw [this];exact q
  ·rw [if_neg h1];have:decide (t = "int")=false:=by rcases a.one with rfl|rfl|rfl|rfl|rfl|rfl|rfl<;>revert h1<;>decide
   rw [this] at q;exact q
def z5v:Sp:=λ vs H Q _=>∃x T g,vs=[x,.int g]/\TagOf H x T/\Q (.bl (z14 x g)) H
theorem zb8 (T:TX (kx w) mg) (c0:Ca P w mg base "is_whole" ["value"] 1 z4w):Fo P w mg base CX0 2 35 y0x ["value","greatest"] z5v:=by
 refine (z53 w.params).ok zbu (λ c H Q E h=>?_) (λ e A d s H c Q E b h=>?_)
 ·obtain ⟨x,t,g,rfl,_⟩:=h;rfl
 ·obtain ⟨x,t,g,rfl,a,q⟩:=h;refine ⟨_,(z04 (ps_ret (pe_and (pe_cal c0 (b.mono (by decide)) rfl (z00 (pv 0) pa_nil)) (pe_one (zkv op_le op_le (pe_un un_neg (pv 1)) (pv 0) (pv 1)))))),?_⟩;refine ⟨_,rfl,x,t,rfl,a,_,rfl,?_⟩;by_cases h1:t = "int"
  ·subst h1;obtain ⟨i,rfl⟩:=a.int;refine iteT ?_;refine ⟨_,rfl,_,rfl,_,rfl,_,_,rfl,rfl,_,rfl,?_⟩;unfold z14 at q;dsimp only at q;by_cases h2:-g<=i
   ·rw [decide_eq_true h2] at q⊢;refine iteT ⟨_,rfl,_,_,rfl,rfl,?_⟩;rw [E9] at q;exact q
   ·rw [decide_eq_false h2] at q⊢;refine iteF ?_;rw [F7] at q;exact q
  ·rw [decide_eq_false h1];refine iteF ?_;rw [noInt a h1] at q;exact q
def z7z:Sp:=λ vs H Q _=>∃x T,vs=[x]/\TagOf H x T/\Q (.bl (z14 x 1000000000)) H
theorem zdi (T:TX (kx w) mg) (c0:Ca P w mg base "is_within" ["value","greatest"] 2 z5v):Fo P w mg base CX0 3 42 y1c ["value"] z7z:=by
 refine (z6z w.params).ok zee (λ c H Q E h=>?_) (λ e A d s H c Q E a h=>?_)
 ·obtain ⟨x,t,rfl,_⟩:=h;rfl
 ·obtain ⟨x,t,rfl,b,q⟩:=h;refine ⟨_,(z04 (ps_ret (pe_cal c0 (a.mono (by decide)) rfl (z00 (pv 0) (z00 (z6u (v:=.int (1000000000)) rfl (T.of (z5y _)) ⟨_,rfl⟩) pa_nil))))),?_⟩;exact ⟨_,rfl,x,t,1000000000,rfl,b,q⟩
def z2a:Sp:=λ vs H Q _=>∃x T m,vs=[x,.int m]/\TagOf H x T/\Q (.bl (match tupOf H x with|some xs=>decide ((xs.length:Int)=m)|none=>false)) H
theorem z85 (T:TX (kx w) mg):Fo P w mg base CX0 1 49 y0e ["value","many"] z2a:=by
 refine (z33 w.params).ok z82 (λ i H Q E h=>?_) (λ j A k s H i Q E l h=>?_)
 ·obtain ⟨x,t,g,rfl,_⟩:=h;rfl
 ·obtain ⟨x,t,g,rfl,c,q⟩:=h;refine ⟨_,(z04 (ps_ret (pe_and (z0c z0k rfl (T.no (z0i _)) Y2 (z00 (pv 0) (z00 (z2i (v:=.ty "tuple") rfl (T.no (z4n _)) F6 rfl) pa_nil))) (pe_one (z0v opEq (z0c z1j rfl (T.no (n_len _)) i4 (z00 (pv 0) pa_nil)) (pv 1) (nomark _)))))),?_⟩;refine ⟨_,rfl,_,_,_,rfl,c,by decide,_,rfl,?_⟩;rw [z8u c (by decide)];by_cases h1:t = "tuple"
  ·subst h1;obtain ⟨a,b,rfl,d⟩:=c.tuple;refine iteT ⟨_,rfl,.inl ⟨a,b,rfl,.inr (SqT.of d),_,rfl,rfl,?_⟩⟩;have e:tupOf H (.ref a)=some b:=by unfold tupOf;dsimp only;rw [d]
   rw [e] at q;have f:decide (V.int (b.length:Int)=V.int g)=decide ((b.length:Int)=g):=by simp
   rw [f];exact q
  ·rw [decide_eq_false h1];refine iteF ?_;rw [noTup c h1] at q;exact q
noncomputable def kindB (x:V):Bool:=match x with
 | .str z=>(kl_FIRST_STATES.lookup z).isSome
 | _=>false
def z6f:Sp:=λ vs H Q _=>∃x T,vs=[x]/\TagOf H x T/\Q (.bl (kindB x)) H
theorem zfm (T:TX (kx w) mg):Fo P w mg base CX0 1 171 y1m ["kind"] z6f:=by
 refine (z8n w.params).ok zgo (λ b H Q E h=>?_) (λ e A d s H b Q E c h=>?_)
 ·obtain ⟨x,t,rfl,_⟩:=h;rfl
 ·obtain ⟨x,t,rfl,a,q⟩:=h;refine ⟨_,(z04 (ps_ret (pe_and (z0c z0k rfl (T.no (z0i _)) Y2 (z00 (pv 0) (z00 (z2i (v:=.ty "str") rfl (T.no (n_str _)) j0e rfl) pa_nil))) (pe_one (z0v (zlq (z3f _)) (pv 0) (z6u (v:=.ref 87) rfl (T.of (z45 _)) rfl) (by with_unfolding_all rfl)))))),?_⟩;refine ⟨_,rfl,_,_,_,rfl,a,by decide,_,rfl,?_⟩;rw [z8u a (by decide)];by_cases h1:t = "str"
  ·subst h1;obtain ⟨z,rfl⟩:=a.str;exact iteT ⟨_,rfl,z,rfl,rfl,q⟩
  ·rw [decide_eq_false h1];refine iteF ?_;cases x with
   | str z=>exact absurd a h1
   | _=>exact q
noncomputable def formOf (k v:Str):Int:=match kl_DOERS.lookup (k,v) with
 | none=>-1
 | some _=>(match kl_WORTHS_OF_VERBS.lookup v with|some (.int i)=>i|_=>-1)
noncomputable def deedB (H:Hp) (k v x:V):Bool:=match k,v with
 | .str a,.str b=>if formOf a b=0 then decide (x=.non) else if formOf a b=1 then z14 x 1000000000 else if formOf a b=2 then
   (match tupOf H x with|some xs=>decide (xs.length=2) && xs.all λ y=>z14 y 1000000000|none=>false) else false
 | _,_=>false
theorem zao {a b:Str} {v:V} (h:kl_DOERS.lookup (a,b)=some v):(kl_FIRST_STATES.lookup a).isSome=true/\∃i,kl_WORTHS_OF_VERBS.lookup b=some (.int i)/\(i=0\/i=1\/i=2):=by
 have m:=zas h;have all :∀p∈kl_DOERS,(kl_FIRST_STATES.lookup p.1.1).isSome=true/\(kl_WORTHS_OF_VERBS.lookup p.1.2=some (.int 0)\/kl_WORTHS_OF_VERBS.lookup p.1.2=some (.int 1)\/kl_WORTHS_OF_VERBS.lookup p.1.2=some (.int 2)):=by decide +kernel
 obtain ⟨d,c⟩:=all _ m;refine ⟨d,?_⟩;rcases c with c|c|c
 ·exact ⟨0,c,.inl rfl⟩
 ·exact ⟨1,c,.inr (.inl rfl)⟩
 ·exact ⟨2,c,.inr (.inr rfl)⟩
def z9j:Sp:=λ vs H Q _=>∃k v x Tk Tv Tx,vs=[k,v,x]/\TagOf H k Tk/\TagOf H v Tv/\TagOf H x Tx/\Flat H x/\∀H',Same H H'->Q (.bl (deedB H k v x)) H'
theorem zhn (T:TX (kx w) mg) (c0:Ca P w mg base "is_kind" ["kind"] 1 z6f) (c1:Ca P w mg base "is_worth" ["value"] 3 z7z) (c2:Ca P w mg base "is_tuple_of" ["value","many"] 1 z2a):Fo P w mg base CX0 4 183 y1n ["kind","verb","worth"] z9j:=by
 refine (z8t w.params).ok sc_is_deed (λ Z H Q E h=>?_) (λ a1 A a2 s H Z Q E n h=>?_)
 ·obtain ⟨k,v,x,J,L,t,rfl,_⟩:=h;rfl
 ·obtain ⟨k,v,x,J,L,t,rfl,hk,o,B,hf,q⟩:=h;refine ⟨_,(z02 (ps_if (PW.pt (pw_or (pt_not (pt_val (pe_cal c0 (n.mono (by decide)) rfl (z00 (pv 0) pa_nil)) (λ _=>rfl))) (pw_or (pt_not (pt_val (z0c z0k rfl (T.no (z0i _)) Y2 (z00 (pv 1) (z00 (z2i (v:=.ty "str") rfl (T.no (n_str _)) j0e rfl) pa_nil))) (λ _=>rfl))) (pw_or1 (z08 (zaz (hu_of n) (zhd _)) (pe_tup (z00 (pv 0) (z00 (pv 1) pa_nil))) (z6u (v:=.ref 152) rfl (T.of (zkb _)) rfl) (by with_unfolding_all rfl))))))
   (z04 (ps_ret pe_bl))
   z0e)
   (z02 (ps_set (i:=3) sc_is_deed.nd rfl (U0 rfl) (pe_ix (ix_kd (z4q _)) (z6u (v:=.ref 90) rfl (T.of (z5i _)) rfl) (pv 1) (λ _ _=>rfl)))
   (z02 (ps_if (z08 opEq (pv 3) pe_int (nomark _))
   (z04 (ps_ret (z0v op_isN (pv 2) pe_non (nomark _))))
   z0e)
   (z02 (ps_if (z08 opEq (pv 3) pe_int (nomark _))
   (z04 (ps_ret (pe_cal c1 (n.mono (by decide)) rfl (z00 (pv 2) pa_nil))))
   z0e)
   (z04 (ps_ret (pe_and (pe_cal c2 (n.mono (by decide)) rfl (z00 (pv 2) (z00 (pv 3) pa_nil))) (pe_one (z0c (z46 rfl) rfl (T.no (n_all _)) j36 (z00 (pe_cg (xs:=["part"]) (g:=gName 0) (fr:=[]) (pi_tup (pv 2)) (λ _ _ _ _ _=>(pg_cn (N:=["part"]) 0)) (λ _ _ _ _ _=>pf_nil) (λ _ _ _ _ _=>(pe_cal c1 (n.mono (by decide)) rfl (z00 (pv 0) pa_nil)))) pa_nil)))))))))),?_⟩
  refine ⟨_,rfl,k,J,rfl,hk,_,rfl,?_⟩;have M:deedB H k v x=false->Q (.bl false) H:=λ e=>by have:=q H (Same.refl H);rw [e] at this;exact this
  by_cases j :∃a,k=.str a/\(kl_FIRST_STATES.lookup a).isSome=true
  ·obtain ⟨a,rfl,j⟩:=j;have X:kindB (.str a)=true:=j;rw [X];refine iteF ?_;refine ⟨_,rfl,_,_,_,rfl,o,by decide,_,rfl,?_⟩;rw [z8u o (by decide)];by_cases r:L = "str"
   ·subst r;obtain ⟨b,rfl⟩:=o.str;refine iteF ?_;refine ⟨_,rfl,_,rfl,?_⟩;refine ⟨w_2,λ p Y=>⟨p,a,b,rfl,upd_same,rfl,_,rfl,?_⟩⟩;have d:Same H (upd H p (.tup [.str a,.str b])):=Same.upd Y;cases h3:kl_DOERS.lookup (a,b) with
    | none=>
     refine iteT ?_;have:=q _ d;have e:deedB H (.str a) (.str b) x=false:=by unfold deedB formOf;dsimp only;rw [h3];rfl
     rw [e] at this;exact this
    | some z=>
     refine iteF ?_;obtain ⟨_,i,S,h5⟩:=zao h3;have u:formOf a b=i:=by unfold formOf;rw [h3];dsimp only;rw [S]
     refine ⟨_,rfl,b,.int i,rfl,rfl,S,?_⟩;refine ⟨_,rfl,rfl,_,rfl,?_⟩;rcases h5 with rfl|rfl|rfl
     ·refine iteT ⟨_,rfl,rfl,?_⟩;have:=q _ d;have e:deedB H (.str a) (.str b) x=decide (x=.non):=by unfold deedB;dsimp only;rw [u];rfl
      rw [e] at this;exact this
     ·refine iteF ⟨_,rfl,rfl,_,rfl,?_⟩;refine iteT ⟨_,rfl,x,t,rfl,B.same d,?_⟩;have:=q _ d;have e:deedB H (.str a) (.str b) x=z14 x 1000000000:=by unfold deedB;dsimp only;rw [u];rfl
      rw [e] at this;exact this
     ·refine iteF ⟨_,rfl,rfl,_,rfl,?_⟩;refine iteF ⟨_,rfl,_,rfl,x,t,2,rfl,B.same d,_,rfl,?_⟩;rw [zfp B d];have e:deedB H (.str a) (.str b) x=(match tupOf H x with|some xs=>decide (xs.length=2) && xs.all λ y=>z14 y 1000000000|none=>false):=by unfold deedB;dsimp only;rw [u];rfl
      rw [e] at q;cases ht:tupOf H x with
      | none=>rw [ht] at q;exact iteF (q _ d)
      | some xs=>
       rw [ht] at q;dsimp only at q⊢;by_cases m:xs.length=2
       ·have F:((xs.length:Nat):Int)=2:=by omega
        rw [if_pos (decide_eq_true F)];rw [decide_eq_true m,E9] at q;obtain ⟨c,rfl,hc⟩:=zez ht;have a0:xs.length<=sizeLine:=by rw [m];decide
        refine e_cb1 ?_;refine z1u (K:=KX w.params) (a:=c) (xs:=xs) (H1:=upd H p (.tup [.str a,.str b])) (λ _=>true) (λ i y _=>y=.bl (z14 (xs[i]?.getD .non) 1000000000)) (λ _ _ _ _ _ z=>z) (λ R h=>⟨_,rfl,h⟩) (SqT.of (d _ _ hc)) a0 ?_ ?_
        ·intro i G C H' D O KT KF U k2;obtain ⟨Ty,ty⟩:=(hf xs ht).2 C (G0 O);refine ⟨[some C],rfl,rfl,iteT ?_⟩;exact ⟨_,rfl,C,Ty,rfl,(ty.same d).same D,U rfl _ _ (Same.refl _) (by rw [O];rfl)⟩
        ·intro l H' ys D m I;rw [List.filter_eq_self.mpr (λ _ _=>rfl)] at I;have ey:ys=xs.map λ y=>V.bl (z14 y 1000000000):=by
          rw [z7j (f:=λ i=>V.bl (z14 (xs[i]?.getD .non) 1000000000)) I];apply i8
          ·simp
          ·intro i j r;have G:i < xs.length:=by simpa using j
           simp [B0 G]
         subst ey;refine ⟨l,_,rfl,SqL.of upd_same,λ y W=>?_,?_⟩
         ·obtain ⟨z,_,rfl⟩:=List.mem_map.mp W;exact ⟨_,rfl⟩
         ·have e9:((xs.map λ y=>V.bl (z14 y 1000000000)).all λ y=>decide (y=V.bl true))=xs.all λ y=>z14 y 1000000000:=by rw [j2h];congr 1;funext y;simp
          rw [e9];exact q _ ((d.trans D).trans (Same.upd m))
       ·have F:¬ ((xs.length:Nat):Int)=2:=by omega
        rw [if_neg (by rw [decide_eq_false F];exact P0)];rw [decide_eq_false m,F7] at q;exact q _ d
   ·rw [decide_eq_false r];refine iteT ?_;exact M (by unfold deedB;cases v with|str z=>exact absurd o r|_=>rfl)
  ·have e1:kindB k=false:=by
    cases k with
    | str z=>exact Bool.eq_false_iff.mpr λ e=>j ⟨z,rfl,e⟩
    | _=>rfl
   rw [e1];refine iteT ?_;refine M ?_;cases k with
   | str a=>
    cases v with
    | str b=>
     unfold deedB formOf;dsimp only;cases h3:kl_DOERS.lookup (a,b) with
     | none=>rfl
     | some z=>exact absurd ⟨a,rfl,(zao h3).1⟩ j
    | _=>rfl
   | _=>rfl
theorem deedB0 {H:Hp} {a b:Str} {x:V} (h:formOf a b=0):deedB H (.str a) (.str b) x=decide (x=.non):=by unfold deedB;dsimp only;rw [h];rfl
theorem deedB1 {H:Hp} {a b:Str} {x:V} (h:formOf a b=1):deedB H (.str a) (.str b) x=z14 x 1000000000:=by unfold deedB;dsimp only;rw [h];rfl
theorem deedB2 {H:Hp} {a b:Str} {x:V} {xs:List V} (h:formOf a b=2) (e:tupOf H x=some xs):deedB H (.str a) (.str b) x=(decide (xs.length=2) && xs.all λ y=>z14 y 1000000000):=by unfold deedB;dsimp only;rw [h,e];rfl
def z31:Sp:=λ vs H Q _=>∃st x,vs=[st,x]/\∀p,H p=none->Q (.ref p) (upd H p (.tup [st,st]))
theorem z99 (T:TX (kx w) mg):Fo P w mg base CX0 1 97 y0j ["state","worth"] z31:=by
 refine (z3m w.params).ok zab (λ b H Q E h=>?_) (λ e A d s H b Q E c h=>?_)
 ·obtain ⟨a,x,rfl,_⟩:=h;rfl
 ·obtain ⟨a,x,rfl,q⟩:=h;refine ⟨_,(z04 (ps_ret (pe_tup (z00 (pv 0) (z00 (pv 0) pa_nil))))),?_⟩;exact ⟨_,rfl,_,rfl,w_2,q⟩
def z24:Sp:=λ vs H Q _=>∃st x,vs=[st,x]/\∀p,H p=none->Q (.ref p) (upd H p (.tup [x,.str "ok"]))
theorem z94 (T:TX (kx w) mg):Fo P w mg base CX0 1 104 y0f ["state","worth"] z24:=by
 refine (z30 w.params).ok z89 (λ b H Q E h=>?_) (λ e A d s H b Q E c h=>?_)
 ·obtain ⟨a,x,rfl,_⟩:=h;rfl
 ·obtain ⟨a,x,rfl,q⟩:=h;refine ⟨_,(z04 (ps_ret (pe_tup (z00 (pv 1) (z00 pe_str pa_nil))))),?_⟩;exact ⟨_,rfl,w_2,q⟩
def z1k:Sp:=λ vs H Q _=>∃i j:Int,vs=[.int i,.int j]/\∀p,H p=none->Q (.ref p) (upd H p (.tup [.int (i + j),.int i]))
theorem z6h (T:TX (kx w) mg):Fo P w mg base CX0 1 111 y07 ["state","worth"] z1k:=by
 refine (z1y w.params).ok z6q (λ a H Q E h=>?_) (λ e A d s H a Q E b h=>?_)
 ·obtain ⟨c,x,rfl,_⟩:=h;rfl
 ·obtain ⟨i,j,rfl,q⟩:=h;refine ⟨_,(z04 (ps_ret (pe_tup (z00 (pe_op opAdd (pv 0) (pv 1)) (z00 (pv 0) pa_nil))))),?_⟩;exact ⟨_,rfl,_,rfl,.inl ⟨_,_,rfl,rfl,_,rfl,w_2,q⟩⟩
def z32 (K:b0):Sp:=λ vs H Q _=>∃(i a b:Int) (t:Addr),vs=[.int i,.ref t]/\SqT K H t [.int a,.int b]/\∀p,H p=none->Q (.ref p) (upd H p (.tup (if i=a then [.int b,.int 1] else [.int i,.int 0])))
theorem z9q (T:TX (kx w) mg):Fo P w mg base CX0 1 151 y0n ["state","worth"] (z32 (kx w)):=by
 refine (z3z w.params).ok za9 (λ d H Q E h=>?_) (λ j A g s H d Q E f h=>?_)
 ·obtain ⟨i,a,b,t,rfl,_⟩:=h;rfl
 ·obtain ⟨i,a,b,t,rfl,c,q⟩:=h;refine ⟨_,(z02 (ps_if (z08 opEq (pv 0) (pe_ix ix_seq (pv 1) pe_int (λ _ _=>rfl)) (nomark _))
   (z04 (ps_ret (pe_tup (z00 (pe_ix ix_seq (pv 1) pe_int (λ _ _=>rfl)) (z00 pe_int pa_nil)))))
   z0e)
   (z04 (ps_ret (pe_tup (z00 (pv 0) (z00 pe_int pa_nil)))))),?_⟩
  refine ⟨_,rfl,_,rfl,.inr (.inl ⟨t,_,0,.int a,rfl,rfl,c,rfl,rfl,_,rfl,?_⟩)⟩;by_cases e:i=a
  ·subst e;rw [decide_eq_true rfl];simp only [if_true] at q;exact iteT ⟨_,rfl,.inr (.inl ⟨t,_,1,.int b,rfl,rfl,c,rfl,w_2,q⟩)⟩
  ·rw [decide_eq_false (λ z=>e (by cases z;rfl))];simp only [if_neg e] at q;exact iteF ⟨_,rfl,w_2,q⟩
def z2l (K:b0):Sp:=λ vs H Q _=>∃(t:Addr) (ns:List V) (x:V),vs=[.ref t,x]/\SqT K H t ns/\ns.length < 1000/\∀p p' H',Same H H'->H' p=some (.tup [.ref p',.str "ok"])->SqT K H' p' (ns++[x])->Q (.ref p) H'
theorem za4 (T:TX (kx w) mg):Fo P w mg base CX0 1 118 y0k ["state","worth"] (z2l (kx w)):=by
 refine (z44 w.params).ok zam (λ i H Q E h=>?_) (λ n A r s H i Q E u h=>?_)
 ·obtain ⟨t,a,x,rfl,_⟩:=h;rfl
 ·obtain ⟨t,a,x,rfl,m,j,q⟩:=h;refine ⟨_,(z04 (ps_ret (pe_tup (z00 (pe_op op_catS (pv 0) (pe_tup (z00 (pv 1) pa_nil))) (z00 pe_str pa_nil))))),?_⟩;refine ⟨_,rfl,_,rfl,w_1,λ e k=>?_⟩;have b:=Same.upd (o:=.tup [x]) k;refine ⟨t,e,a,[x],rfl,rfl,b.seqT m,SqT.of upd_same,by simp,C0 (Nat.add_le_add_right (R3 j) _) (show 1000 + 1<=sizeLine by decide),λ f p d g=>?_⟩;refine ⟨w_2,λ l c=>?_⟩;exact q l f _ ((b.trans d).trans (Same.upd c)) upd_same ((Same.upd c).seqT g)
def z36 (K:b0):Sp:=λ vs H Q _=>∃(t:Addr) (ns:List V) (x:V),vs=[.ref t,x]/\SqT K H t ns/\
 (ns=[]->∀p H',Same H H'->H' p=some (.tup [.ref t,.str "none"])->Q (.ref p) H')/\(∀n r,ns=n :: r->∀p p' H',Same H H'->H' p=some (.tup [.ref p',n])->SqT K H' p' r->Q (.ref p) H')
theorem z9h (T:TX (kx w) mg):Fo P w mg base CX0 1 125 y0l ["state","worth"] (z36 (kx w)):=by
 refine (z3o w.params).ok zak (λ k H Q E h=>?_) (λ u A v s H k Q E y h=>?_)
 ·obtain ⟨t,a,x,rfl,_⟩:=h;rfl
 ·obtain ⟨t,a,x,rfl,b,l,e⟩:=h;refine ⟨_,(z02 (ps_if (z08 opEq (z0c z1j rfl (T.no (n_len _)) i4 (z00 (pv 0) pa_nil)) pe_int (nomark _))
   (z04 (ps_ret (pe_tup (z00 (pv 0) (z00 pe_str pa_nil)))))
   z0e)
   (z04 (ps_ret (pe_tup (z00 (z2x slSeq (pv 0) (z4p pe_int) z5z) (z00 (pe_ix ix_seq (pv 0) pe_int (λ _ _=>rfl)) pa_nil)))))),?_⟩
  refine ⟨_,rfl,.inl ⟨t,a,rfl,.inr b,rfl,_,rfl,?_⟩⟩;cases a with
  | nil=>exact iteT ⟨_,rfl,w_2,λ p g=>l rfl p _ (Same.upd g) upd_same⟩
  | cons n r=>
   rw [decide_eq_false (show ¬ V.int (((n :: r).length:Nat):Int)=V.int 0 from λ z=>by injection z with z;rw [Z0] at z;omega)];refine iteF ⟨_,rfl,_,rfl,.inr (.inl ⟨t,_,rfl,b,?_,λ f m=>?_⟩)⟩
   ·intro z;have:HT.sIx (n :: r).length 0 (some 1)=1:=by rw [Z0];simp [HT.sIx]
    omega
   ·have d:=Same.upd (o:=.tup (cutV (n :: r) (some 1) none)) m;have q:cutV (n :: r) (some 1) none=r:=by unfold cutV;simp [HT.sIx]
    refine ⟨_,rfl,.inr (.inl ⟨t,_,0,n,rfl,rfl,d.seqT b,z05 (j:=0) rfl,w_2,λ i c=>?_⟩)⟩;refine e n r rfl i f _ (d.trans (Same.upd c)) upd_same ((Same.upd c).seqT (SqT.of ?_));rw [upd_same,q]
theorem dec_i0 (i j:Int):decide (V.int i=V.int j)=decide (i=j):=by simp
theorem zd9 {q:Int->Bool} :∀(ns:List Int) (ys:List V),All2 (λ (i:Nat) y=>ns[i]?.map V.int=some y) ((G1 ns.length).filter λ i=>(ns[i]?.map q).getD false) ys->ys=(ns.filter q).map V.int
 | [],ys,h=>by cases h;rfl
 | n :: ns,ys,h=>by
  have un :∀{is:List Nat} {ys:List V},All2 (λ (i:Nat) y=>(n :: ns)[i]?.map V.int=some y) (is.map Nat.succ) ys->All2 (λ (i:Nat) y=>ns[i]?.map V.int=some y) is ys:=λ {is}=>by
   induction is with
   | nil=>intro ys h;cases h;exact .nil
   | cons i is ih=>intro ys h;cases h with|cons a r=>exact .cons a (ih r)
  rw [Z0,List.range_succ_eq_map,R4,List.filter_map] at h;rw [R4];by_cases z:q n=true
  ·rw [if_pos (show (j06 q (n :: ns)[0]?).getD false=true from z)] at h;rw [if_pos z,R0];cases h with
   | cons a r=>rw [<-zd9 ns _ (un r),<-J1 a]
  ·rw [if_neg (show ¬ (j06 q (n :: ns)[0]?).getD false=true from z)] at h;rw [if_neg z];exact zd9 ns _ (un h)
def z1w (K:b0):Sp:=λ vs H Q _=>∃(t:Addr) (ns:List Int) (i:Int),vs=[.ref t,.int i]/\SqT K H t (ns.map V.int)/\ns.length < 63/\
 (i∈ns->∀p H',Same H H'->H' p=some (.tup [.ref t,.int 0])->Q (.ref p) H')/\(i∉ns->∀(p p':Addr) (ns':List Int) (H':Hp),Same H H'->H' p=some (.tup [.ref p',.int 1])->SqT K H' p' (ns'.map V.int)->ns'.Perm (ns++[i])->ns'.Pairwise (·<=·)->Q (.ref p) H')
theorem z7d (T:TX (kx w) mg):Fo P w mg base CX0 1 132 y0a ["state","worth"] (z1w (kx w)):=by
 refine (z2d w.params).ok z78 (λ y H Q E h=>?_) (λ G A J s H y Q E K h=>?_)
 ·obtain ⟨t,a,i,rfl,_⟩:=h;rfl
 ·obtain ⟨t,a,i,rfl,g,e,z,k⟩:=h;refine ⟨_,(z02 (ps_if (z08 z1t (pv 1) (pv 0) (by with_unfolding_all rfl))
   (z04 (ps_ret (pe_tup (z00 (pv 0) (z00 pe_int pa_nil)))))
   z0e)
   (z04 (ps_ret (pe_tup (z00 (z0g z0n rfl (T.no (z4n _)) F6 (z00 (z0c z6k rfl (T.no (z8c _)) j1g (z00 (pe_op op_catS (pv 0) (pe_tup (z00 (pv 1) pa_nil))) pa_nil)) pa_nil)) (z00 pe_int pa_nil)))))),?_⟩
  refine ⟨_,rfl,_,rfl,t,_,rfl,.inr g,rfl,z39 a,_,rfl,?_⟩;rw [if_neg P0,z52];by_cases hi:i∈a
  ·rw [decide_eq_true hi];exact iteT ⟨_,rfl,w_2,λ p u=>z hi p _ (Same.upd u) upd_same⟩
  ·rw [decide_eq_false hi];refine iteF ⟨_,rfl,_,rfl,w_1,λ n C=>?_⟩;have c:=Same.upd (o:=.tup [.int i]) C;refine ⟨t,n,a.map V.int,[.int i],rfl,rfl,c.seqT g,SqT.of upd_same,by simp,?_,λ x I j d=>?_⟩
   ·rw [D0];exact C0 (Nat.succ_le_of_lt (F1 e)) (by decide)
   rw [show a.map V.int++[V.int i]=(a++[i]).map V.int by rw [j1];rfl] at d;refine ⟨x,a++[i],rfl,.inr d,by rw [F0];exact Nat.succ_lt_succ e,λ l f F B D=>?_⟩;have r:=Same.upd (o:=.lst (f.map V.int)) F;refine ⟨l,_,rfl,.inl ⟨SqL.of upd_same,λ m q=>⟨w_2,λ v b=>?_⟩⟩⟩;exact k hi v m f _ ((((c.trans j).trans r).trans (Same.upd q)).trans (Same.upd b)) upd_same (SqT.of ((Same.upd b) _ _ upd_same)) B D
def z1v (K:b0):Sp:=λ vs H Q _=>∃(t:Addr) (ns:List Int) (i:Int),vs=[.ref t,.int i]/\SqT K H t (ns.map V.int)/\ns.length < 64/\
 (i∉ns->∀p H',Same H H'->H' p=some (.tup [.ref t,.int 0])->Q (.ref p) H')/\(i∈ns->∀p p' H',Same H H'->H' p=some (.tup [.ref p',.int 1])->SqT K H' p' ((ns.filter λ j=>!decide (j=i)).map V.int)->Q (.ref p) H')
theorem z7b (T:TX (kx w) mg):Fo P w mg base CX0 1 137 y0b ["state","worth"] (z1v (kx w)):=by
 refine (z27 w.params).ok z7f (λ F H Q E h=>?_) (λ W A X s H F Q E Z h=>?_)
 ·obtain ⟨t,b,i,rfl,_⟩:=h;rfl
 ·obtain ⟨t,b,i,rfl,q,G,L,r⟩:=h;refine ⟨_,(z02 (ps_if (z08 z1h (pv 1) (pv 0) (by with_unfolding_all rfl))
   (z04 (ps_ret (pe_tup (z00 (pv 0) (z00 pe_int pa_nil)))))
   z0e)
   (z04 (ps_ret (pe_tup (z00 (z0g z0n rfl (T.no (z4n _)) F6 (z00 (pe_cg (xs:=["held"]) (g:=gName 0) (fr:=[(1,"worth")]) (pi_tup (pv 0)) (λ _ _ _ _ _=>(pg_cn (N:=["held","worth"]) 0)) (λ _ _ _ _ _=>(pf_one (z08 opNe (pv 0) (pv 1) (nomark _)))) (λ _ _ _ _ _=>(pv 0))) pa_nil)) (z00 pe_int pa_nil)))))),?_⟩
  refine ⟨_,rfl,_,rfl,t,_,rfl,.inr q,rfl,z39 b,_,rfl,?_⟩;rw [if_pos rfl,z52];by_cases hi:i∈b
  ·rw [decide_eq_true hi];refine iteF ?_;have I:(b.map V.int).length<=sizeLine:=by rw [D0];exact C0 (R3 G) (by decide)
   refine t_next ?_;simp only [tRet,tTup,tCB,tCons,tNil];refine z1u (K:=KX w.params) (a:=t) (xs:=b.map V.int) (H1:=H) (λ j=>(b[j]?.map λ n=>!decide (n=i)).getD false) (λ j y _=>b[j]?.map V.int=some y) (λ _ _ _ _ _ z=>z) (λ R h=>⟨_,rfl,h⟩) q I (λ j U v O k f KT Y c m=>?_) λ l O J k S d=>?_
   ·rw [K0] at f;obtain ⟨n,M,rfl⟩:=Option.map_eq_some_iff.mp f;rw [M] at c m;refine ⟨[some (.int n)],rfl,rfl,_,rfl,_,rfl,rfl,_,rfl,?_⟩;rw [dec_i0];exact ite2 (λ z=>⟨_,rfl,c z _ _ (Same.refl _) rfl⟩) λ z=>m (Bool.eq_false_iff.mpr z) _ (Same.refl _)
   ·rw [D0] at d;rw [zd9 b J d];have B:=Same.upd (o:=.lst ((b.filter λ j=>!decide (j=i)).map V.int)) S;refine ⟨l,_,rfl,.inl ⟨SqL.of upd_same,λ u x=>⟨w_2,λ D e=>?_⟩⟩⟩;exact r hi D u _ (((k.trans B).trans (Same.upd x)).trans (Same.upd e)) upd_same (SqT.of ((Same.upd e) _ _ upd_same))
  ·rw [decide_eq_false hi];exact iteT ⟨_,rfl,w_2,λ p C=>L hi p _ (Same.upd C) upd_same⟩
def z37 (K:b0):Sp:=λ vs H Q _=>∃(t:Addr) (ns:List Int) (i:Int),vs=[.ref t,.int i]/\SqT K H t (ns.map V.int)/\∀p H',Same H H'->H' p=some (.tup [.ref t,.int (if i∈ns then 1 else 0)])->Q (.ref p) H'
theorem z9b (T:TX (kx w) mg):Fo P w mg base CX0 1 144 y0m ["state","worth"] (z37 (kx w)):=by
 refine (z40 w.params).ok z9g (λ d H Q E h=>?_) (λ e A g s H d Q E f h=>?_)
 ·obtain ⟨t,a,i,rfl,_⟩:=h;rfl
 ·obtain ⟨t,a,i,rfl,c,q⟩:=h;refine ⟨_,(z04 (ps_ret (pe_tup (z00 (pv 0) (z00 (zlt (z08 z1t (pv 1) (pv 0) (by with_unfolding_all rfl)) pe_int pe_int) pa_nil))))),?_⟩;refine ⟨_,rfl,_,rfl,_,rfl,t,_,rfl,.inr c,rfl,z39 a,_,rfl,?_⟩;rw [if_neg P0,z52];by_cases hi:i∈a
  ·rw [if_pos hi] at q;rw [decide_eq_true hi];exact iteT ⟨w_2,λ p b=>q p _ (Same.upd b) upd_same⟩
  ·rw [if_neg hi] at q;rw [decide_eq_false hi];exact iteF ⟨w_2,λ p b=>q p _ (Same.upd b) upd_same⟩
def doTb (K:b0) (f:Addr) (sp:Sp):Prop:=(f=97/\sp=z31)\/(f=104/\sp=z24)\/(f=111/\sp=z1k)\/(f=118/\sp=z2l K)\/(f=125/\sp=z36 K)\/(f=132/\sp=z1w K)\/(f=137/\sp=z1v K)\/(f=144/\sp=z37 K)\/(f=151/\sp=z32 K)
theorem cal_fn {x:Str} {ps:List Str} {k f:Nat} {sp:Sp} {K:b0} (c:Cal P w K mg base x ps k sp) (e:mg x=some (.ref f)) :∃fd ps,FnOk P w K mg base CX0 k f fd ps sp/\E3 K (.ref f)=true/\Binds K fd ps []:=by obtain ⟨h,fd,b,a,g,d⟩:=c.ex;rw [e] at a;cases a;exact ⟨fd,ps,b,g,d⟩
def sp_do (K:b0):Sp:=λ vs H Q _=>∃(k v:Str) (st x:V) (f:Addr) (sp:Sp) (Tx:String),vs=[.str k,st,.str v,x]/\TagOf H x Tx/\Flat H x/\deedB H (.str k) (.str v) x=true/\kl_DOERS.lookup (k,v)=some (.ref f)/\doTb K f sp/\∀H',Same H H'->sp [st,x] H' Q E0
theorem ok_do (T:TX (kx w) mg) (c0:Ca P w mg base "is_deed" ["kind","verb","worth"] 4 z9j) (c1:Ca P w mg base "read_state" ["state","worth"] 1 z31) (c2:Ca P w mg base "write_state" ["state","worth"] 1 z24) (c3:Ca P w mg base "add_to_number" ["state","worth"] 1 z1k) (c4:Ca P w mg base "put_behind" ["state","worth"] 1 (z2l (kx w))) (c5:Ca P w mg base "take_first" ["state","worth"] 1 (z36 (kx w))) (c6:Ca P w mg base "put_into_set" ["state","worth"] 1 (z1w (kx w))) (c7:Ca P w mg base "cut_from_set" ["state","worth"] 1 (z1v (kx w))) (c8:Ca P w mg base "has_in_set" ["state","worth"] 1 (z37 (kx w))) (c9:Ca P w mg base "swap_state" ["state","worth"] 1 (z32 (kx w))):Fo P w mg base CX0 5 190 y2t ["kind","state","verb","worth"] (sp_do (kx w)):=by
 refine (F_do w.params).ok sc_do (λ u H Q E h=>?_) (λ y A I s H u Q E g h=>?_)
 ·obtain ⟨k,v,D,x,f,j,l,rfl,_⟩:=h;rfl
 ·obtain ⟨k,v,D,x,f,j,l,rfl,m,n,r,B,C,q⟩:=h;have G :∀f j,doTb (kx w) f j->∃k a b,Fo P w mg base CX0 k f a b j/\Room k (A.deeper (X8 "do" (z06 y2s) s.heap.objs.size 190 y))/\E3 (kx w) (.ref f)=true/\Binds (kx w) a b []:=λ f j z=>by
   rcases z with ⟨rfl,rfl⟩|⟨rfl,rfl⟩|⟨rfl,rfl⟩|⟨rfl,rfl⟩|⟨rfl,rfl⟩|⟨rfl,rfl⟩|⟨rfl,rfl⟩|⟨rfl,rfl⟩|⟨rfl,rfl⟩
   ·obtain ⟨a,b,c,e,d⟩:=cal_fn c1 (T.of (z72 _));exact ⟨1,a,b,c,g.mono (by decide),e,d⟩
   ·obtain ⟨a,b,c,e,d⟩:=cal_fn c2 (T.of (z5b _));exact ⟨1,a,b,c,g.mono (by decide),e,d⟩
   ·obtain ⟨a,b,c,e,d⟩:=cal_fn c3 (T.of (z3k _));exact ⟨1,a,b,c,g.mono (by decide),e,d⟩
   ·obtain ⟨a,b,c,e,d⟩:=cal_fn c4 (T.of (z62 _));exact ⟨1,a,b,c,g.mono (by decide),e,d⟩
   ·obtain ⟨a,b,c,e,d⟩:=cal_fn c5 (T.of (z73 _));exact ⟨1,a,b,c,g.mono (by decide),e,d⟩
   ·obtain ⟨a,b,c,e,d⟩:=cal_fn c6 (T.of (z4c _));exact ⟨1,a,b,c,g.mono (by decide),e,d⟩
   ·obtain ⟨a,b,c,e,d⟩:=cal_fn c7 (T.of (z4d _));exact ⟨1,a,b,c,g.mono (by decide),e,d⟩
   ·obtain ⟨a,b,c,e,d⟩:=cal_fn c8 (T.of (z61 _));exact ⟨1,a,b,c,g.mono (by decide),e,d⟩
   ·obtain ⟨a,b,c,e,d⟩:=cal_fn c9 (T.of (z6r _));exact ⟨1,a,b,c,g.mono (by decide),e,d⟩
  refine ⟨_,(z02 (ps_if (pt_not (pt_val (pe_cal c0 (g.mono (by decide)) rfl (z00 (pv 0) (z00 (pv 2) (z00 (pv 3) pa_nil)))) (λ _=>rfl)))
   (z04 zbs)
   z0e)
   (z02 (ps_set (i:=4) sc_do.nd rfl (U0 rfl) (pe_ix (ix_kdt (hu_of g) (zhd _)) (z6u (v:=.ref 152) rfl (T.of (zkb _)) rfl) (pe_tup (z00 (pv 0) (z00 (pv 2) pa_nil))) (λ _ _=>rfl)))
   (z04 (ps_ret (zmh (doTb (kx w)) (i:=4) rfl (by first|exact U0 rfl|exact T0 (U0 rfl)) G (z00 (pv 1) (z00 (pv 3) pa_nil))))))),?_⟩
  refine ⟨_,rfl,_,rfl,_,rfl,.str k,.str v,x,"str","str",l,rfl,rfl,rfl,m,n,λ F o=>⟨_,rfl,?_⟩⟩;rw [r];refine iteF ?_;refine ⟨_,rfl,_,rfl,w_2,λ p t=>⟨p,k,v,.ref f,rfl,rfl,upd_same,B,?_⟩⟩;exact ⟨f,j,rfl,C,_,rfl,_,rfl,q _ (o.trans (Same.upd t))⟩
def z2e:Sp:=λ vs H Q _=>∃(k:Str) (v:V),vs=[.str k]/\kl_FIRST_STATES.lookup k=some v/\Q v H
theorem z8o (T:TX (kx w) mg) (c0:Ca P w mg base "is_kind" ["kind"] 1 z6f):Fo P w mg base CX0 2 178 y0g ["kind"] z2e:=by
 refine (z2o w.params).ok z81 (λ c H Q E h=>?_) (λ f A d s H c Q E b h=>?_)
 ·obtain ⟨k,v,rfl,_⟩:=h;rfl
 ·obtain ⟨k,v,rfl,a,q⟩:=h;refine ⟨_,(z02 (ps_if (pt_not (pt_val (pe_cal c0 (b.mono (by decide)) rfl (z00 (pv 0) pa_nil)) (λ _=>rfl)))
   (z04 zbs)
   z0e)
   (z04 (ps_ret (pe_ix (ix_kd (z3f _)) (z6u (v:=.ref 87) rfl (T.of (z45 _)) rfl) (pv 0) (λ _ _=>rfl))))),?_⟩
  refine ⟨_,rfl,.str k,"str",rfl,rfl,_,rfl,?_⟩;have e:kindB (.str k)=true:=by unfold kindB;dsimp only;rw [a];rfl
  rw [e];exact iteF ⟨_,rfl,k,v,rfl,rfl,a,q⟩
inductive Ev
 | beg (h:Int) (n v x:V)
 | fin (h:Int) (a:V)
noncomputable def EvAt (K:b0) (H:Hp):Ev->V->Prop
 | .beg h n v x,y=>∃p,y=.ref p/\SqT K H p [.str "begin",.int h,n,v,x]
 | .fin h a,y=>∃p,y=.ref p/\SqT K H p [.str "end",.int h,a]
structure Rc where
 h:Int
 n:V
 v:V
 x:V
 a:V
 b:Nat
 e:Option Nat
noncomputable def endV:Option Nat->V
 | none=>.non
 | some i=>.int i
def RcAt (K:b0) (H:Hp) (r:Rc) (y:V):Prop:=∃p,y=.ref p/\SqT K H p [.int r.h,r.n,r.v,r.x,r.a,.int r.b,endV r.e]
def Tups (K:b0) (H H':Hp):Prop:=∀a xs,SqT K H a xs->SqT K H' a xs
theorem Tups.of {K:b0} {H H':Hp} (s:Same H H'):Tups K H H':=λ _ _ q=>s.seqT q
theorem Tups.trans {K:b0} {H H1 H2:Hp} (a:Tups K H H1) (b:Tups K H1 H2):Tups K H H2:=λ _ _ q=>b _ _ (a _ _ q)
theorem Tups.lst {K:b0} {H:Hp} {l:Addr} {o:HO} {zs:List V} (e:H l=some (.lst zs)):Tups K H (upd H l o):=λ _ _ q=>q.wrote e
theorem Tups.dict {K:b0} {H:Hp} {l:Addr} {o:HO} {kvs:List (Key×V)} (e:H l=some (.dK kvs)):Tups K H (upd H l o):=λ a b h=>by
 rcases h with (h|⟨ob,h⟩)|h
 ·exact .inl (.inl (by rw [upd_ne (ne_of h e (by intro z;cases z))];exact h))
 ·exact .inl (.inr ⟨ob,by rw [upd_ne (ne_of h e (by intro z;cases z))];exact h⟩)
 ·exact .inr h
theorem zmp {n j:Nat} (h:j < n):ixN n (j:Nat)=some j:=by unfold ixN;rw [if_pos (by omega),if_pos (by omega)];rfl
theorem Same.keep {H H':Hp} {l:Addr} {o:HO} (s:Same H H') (n:H l=none):Same H (upd H' l o):=λ a x e=>by rw [upd_ne (z0b e n)];exact s a x e
theorem z0y {α β:Type} {R:α->β->Prop} {x:α} {y:β} :∀{xs:List α} {ys:List β},All2 R xs ys->R x y->All2 R (xs++[x]) (ys++[y])
 | _,_,.nil,h=>.cons h .nil
 | _,_,.cons a r,h=>.cons a (z0y r h)
theorem zkr {κ:Type} [DecidableEq κ] {kvs:List (κ×V)} {k:κ} {v:V}:(putK kvs k v).length<=kvs.length + 1:=by
 unfold putK;by_cases z:(kvs.any λ a=>decide (a.1=k))=true
 ·rw [if_pos z,D0];omega
 ·rw [if_neg z,F0];exact A0 _
noncomputable def lastI (h:Int) (hs:List Int):Option Nat:=(hs.foldl (λ (acc:Nat×Option Nat) k=>(acc.1 + 1,if k=h then some acc.1 else acc.2)) (0,none)).2
theorem lastF (h:Int) :∀hs:List Int,(hs.foldl (λ (acc:Nat×Option Nat) k=>(acc.1 + 1,if k=h then some acc.1 else acc.2)) (0,none)).1=hs.length:=by
 have b :∀(hs:List Int) (a:Nat×Option Nat),(hs.foldl (λ (acc:Nat×Option Nat) k=>(acc.1 + 1,if k=h then some acc.1 else acc.2)) a).1=a.1 + hs.length:=by
  intro hs;induction hs with
  | nil=>intro a;rfl
  | cons k hs ih=>intro a;rw [X3,ih,Z0];show a.1 + 1 + hs.length=_;omega
 intro hs;rw [b hs (0,none)];simp
theorem z4h (h k:Int) (hs:List Int):lastI h (hs++[k])=if k=h then some hs.length else lastI h hs:=by unfold lastI;rw [K4];show (if k=h then some _ else _)=_;rw [lastF]
theorem z8r {h:Int} {hs:List Int} {j:Nat} (e:lastI h hs=some j):j < hs.length:=by
 have c :∀(hs:List Int) (a:Nat×Option Nat),(∀j,a.2=some j->j < a.1)->∀j,(hs.foldl (λ (acc:Nat×Option Nat) k=>(acc.1 + 1,if k=h then some acc.1 else acc.2)) a).2=some j->j < a.1 + hs.length:=by
  intro hs;induction hs with
  | nil=>intro a b j e;exact b j e
  | cons k hs ih=>
   intro a b j e;rw [X3] at e;have:=ih (a.1 + 1,if k=h then some a.1 else a.2) (λ j e=>by
    dsimp only at e⊢;by_cases z:k=h
    ·rw [if_pos z] at e;cases e;omega
    ·rw [if_neg z] at e;have:=b j e;omega) j e
   rw [Z0];dsimp only at this;omega
 have:=c hs (0,none) (λ j e=>by cases e) j e;simpa using this
noncomputable def dstep (i:Nat) (rs:List Rc):Ev->List Rc
 | .beg h n v x=>rs++[⟨h,n,v,x,.non,i,none⟩]
 | .fin h a=>match lastI h (rs.map Rc.h) with|some j=>rs.modify j (λ r=>{ r with a:=a,e:=some i })|none=>rs
noncomputable def dAll:Nat->List Rc->List Ev->List Rc
 | _,rs,[]=>rs
 | i,rs,e :: es=>dAll (i + 1) (dstep i rs e) es
noncomputable def dWf:Nat->List Rc->List Ev->Prop
 | _,_,[]=>True
 | i,rs,e :: es=>(∀h a,e=.fin h a->(lastI h (rs.map Rc.h)).isSome=true)/\dWf (i + 1) (dstep i rs e) es
theorem RcAt.tups {K:b0} {H H':Hp} {r:Rc} {y:V} (t:Tups K H H') (h:RcAt K H r y):RcAt K H' r y:=h.elim λ p z=>⟨p,z.1,t _ _ z.2⟩
theorem EvAt.tups {K:b0} {H H':Hp} (t:Tups K H H') :∀{e:Ev} {y:V},EvAt K H e y->EvAt K H' e y
 | .beg h n v x,_,z=>z.elim λ p z=>⟨p,z.1,t _ _ z.2⟩
 | .fin h a,_,z=>z.elim λ p z=>⟨p,z.1,t _ _ z.2⟩
theorem z7o {α β:Type} {R:α->β->Prop} {f:α->α} {y:β} :∀{xs:List α} {ys:List β} {j:Nat} {x:α},All2 R xs ys->xs[j]? = some x->R (f x) y->All2 R (xs.modify j f) (ys.set j y)
 | _,_,_,_,.nil,e,_=>by simp at e
 | _,_,0,x,.cons a r,e,h=>by rw [C3] at e;cases e;exact .cons h r
 | _,_,j + 1,x,.cons a r,e,h=>by rw [E2] at e;exact .cons a (z7o r e h)
theorem z0q {α β:Type} {R:α->β->Prop} :∀{xs:List α} {ys:List β} {i:Nat} {x:α},All2 R xs ys->xs[i]? = some x->∃y,ys[i]? = some y/\R x y
 | _,_,i,x,.nil,e=>by simp at e
 | _,_,0,x,.cons a _,e=>by rw [C3] at e;cases e;exact ⟨_,C3,a⟩
 | _,_,i + 1,x,.cons _ r,e=>by rw [E2] at e;obtain ⟨y,b,c⟩:=z0q r e;exact ⟨y,by rw [E2];exact b,c⟩
def z8j (K:b0):Sp:=λ vs H Q _=>∃(t te:Addr) (th:V) (ys:List V) (es:List Ev),vs=[.ref t]/\SqT K H t [th,.ref te]/\SqT K H te ys/\All2 (EvAt K H) es ys/\es.length<=100/\dWf 0 [] es/\
 ∀l zs H',Same H H'->H l=none->H' l=some (.lst zs)->All2 (RcAt K H') (dAll 0 [] es) zs->Q (.ref l) H'
theorem zko (T:TX (kx w) mg):Fo P w mg base CX0 1 197 y2k ["tale"] (z8j (kx w)):=by
 refine (zgt w.params).ok sc_deeds (λ vs H Q E h=>?_) (λ c3 A c4 s H vs Q E hr h=>?_)
 ·obtain ⟨t,Z,th,ys,C,rfl,_⟩:=h;rfl
 ·obtain ⟨t,Z,th,ys,C,rfl,st,se,al,hl,wf,q⟩:=h;refine ⟨_,(z02 (ps_set (i:=1) sc_deeds.nd rfl (U0 rfl) (pe_lst pa_nil))
   (z02 (ps_set (i:=2) sc_deeds.nd rfl (U0 rfl) z8y)
   (z02 (ps_for K1 rfl (zkf rfl (T.no (z12 _)) (z00 (pe_ix ix_seq (pv 0) pe_int (λ _ _=>rfl)) pa_nil)) (pg_tup rfl (z07 (z0f (i:=3) sc_deeds.nd rfl (U0 rfl)) (z07 (z0f (i:=4) sc_deeds.nd rfl (U0 rfl)) z0m)))
   (z04 (ps_if (z08 opEq (pe_ix ix_seq (pv 4) pe_int (λ _ _=>rfl)) pe_str (nomark _))
   (z02 (z9z (hu_of hr) (pv 2) (pe_ix ix_seq (pv 4) pe_int (λ _ _=>rfl)) (z0c z1j rfl (T.no (n_len _)) i4 (z00 (pv 1) pa_nil)) rfl)
   (z04 (z22 (z18 (pv 1) (z00 (pe_op opAdd (z2x slSeq (pv 4) (z4p pe_int) z5z) (pe_tup (z00 pe_non (z00 (pv 3) (z00 pe_non pa_nil))))) pa_nil)))))
   (z02 (ps_set (i:=5) sc_deeds.nd rfl (U0 rfl) (z2h (hu_of hr) (pv 2) (pe_ix ix_seq (pv 4) pe_int (λ _ _=>rfl)) (λ _ _=>rfl)))
   (z02 (ps_set (i:=6) sc_deeds.nd rfl (U0 rfl) (pe_ix ix_seq (pv 1) (pv 5) (λ _ _=>rfl)))
   (z04 (ps_asg (pe_op opAdd (z2x slSeq (pv 6) z5z (z4p pe_int)) (pe_tup (z00 (pe_ix ix_seq (pv 4) pe_int (λ _ _=>rfl)) (z00 (pe_ix ix_seq (pv 6) pe_int (λ _ _=>rfl)) (z00 (pv 3) pa_nil))))) (pg_sub (pv 1) (pv 5) z6x))))))))
   (z04 (ps_ret (pv 1)))))),?_⟩
  refine ⟨w_0,λ l a0=>?_⟩;intro d a3;have O:l≠d:=z0b upd_same a3;have s0:upd H l (.lst []) d=none->H d=none:=λ z=>by rwa [upd_ne O.symm] at z
  have s2:Same H (upd (upd H l (.lst [])) d (.dK [])):=(Same.upd a0).trans (Same.upd a3);have e1:upd (upd H l (.lst [])) d (.dK []) l=some (.lst []):=by rw [upd_ne O];exact upd_same
  have e2:upd (upd H l (.lst [])) d (.dK []) d=some (.dK []):=upd_same;generalize upd (upd H l (.lst [])) d (.dK [])=H2 at s2 e1 e2⊢;have b9:=z03 al;refine ⟨_,rfl,.inr (.inl ⟨t,_,1,.ref Z,rfl,rfl,s2.seqT st,z05 (j:=1) rfl,Z,ys,rfl,s2.seqT se,?_⟩)⟩;refine zhu (K:=KX w.params) (a:=Z) (xs:=ys) (λ i σ N=>∃c f g,N l=some (.lst f)/\All2 (RcAt (kx w) N) c f/\N d=some (.dK g)/\g.length<=i/\c.length<=i/\(∀h,valV g (.inl h)=(lastI h (c.map Rc.h)).map λ j=>V.int (j:Nat))/\dAll i c (C.drop i)=dAll 0 [] C/\dWf i c (C.drop i)/\Same H N/\∃x3 x4 x5 x6,σ=[some (.ref t),some (.ref l),some (.ref d),x3,x4,x5,x6])
   ⟨[],[],[],e1,.nil,e2,A0 _,A0 _,λ h=>rfl,by rw [u4],by rw [u4];exact wf,s2,_,_,_,_,rfl⟩ (λ i σ N h=>?_) ?_ ?_
  ·obtain ⟨c,f,g,_,_,_,_,_,_,_,_,s',_⟩:=h;exact s'.seqT se
  ·rintro i y σ H3 p hy ⟨c,f,g,el,ar,ed,hk,hr',hv,F,dw,s3,x3,x4,x5,x6,rfl⟩ hp;obtain ⟨e,he,ev⟩:=z09 al hy;obtain ⟨hi,ee⟩:=List.getElem?_eq_some_iff.mp he;have dr:C.drop i=e :: C.drop (i + 1):=by rw [j1b hi,ee]
   rw [dr] at F dw;have s4:=s3.trans (Same.upd (o:=.tup [.int i,y]) hp);have Y:=(Same.upd (o:=.tup [.int i,y]) hp) _ _ el;have R:=(Same.upd (o:=.tup [.int i,y]) hp) _ _ ed;have L:=z01 (λ a b z=>RcAt.tups (.of (Same.upd (o:=.tup [.int i,y]) hp)) z) ar;have b0:upd H3 p (.tup [.int i,y]) p=some (.tup [.int i,y]):=upd_same;generalize upd H3 p (.tup [.int i,y])=H4 at s4 Y R L b0⊢;have b1:=EvAt.tups (.of s4) ev;refine ⟨p,_,rfl,SqT.of b0,rfl,.int i,_,rfl,y,_,rfl,rfl,?_⟩;have lz:f.length=c.length:=z03 L;have b3:100<=sizeLine:=by decide
   have a8:i < 100:=E1 hi hl;cases e with
   | beg h n v x=>
    obtain ⟨J,rfl,I⟩:=b1;refine ⟨_,rfl,.inr (.inl ⟨J,_,0,.str "begin",rfl,rfl,I,z05 (j:=0) rfl,rfl,_,rfl,iteP (decide_eq_true rfl) ?_⟩)⟩;refine ⟨_,rfl,.inl ⟨l,f,rfl,.inl (SqL.of Y),⟨_,rfl,⟨_,rfl,.inr (.inl ⟨J,_,1,.int h,rfl,rfl,I,z05 (j:=1) rfl,d,_,rfl,DPut.k (k:=.inl h) R (B1 hk (E1 a8 b3)),?_⟩)⟩⟩⟩⟩;have b7:H d=none:=s0 a3;have t5:Tups (kx w) H4 (upd H4 d (.dK (putK g (.inl h) (.int (f.length:Nat))))):=Tups.dict R;have s5:=Same.keep (o:=.dK (putK g (.inl h) (.int (f.length:Nat)))) s4 b7;have a2:upd H4 d (.dK (putK g (.inl h) (.int (f.length:Nat)))) l=some (.lst f):=by rw [upd_ne O];exact Y
    have b2:upd H4 d (.dK (putK g (.inl h) (.int (f.length:Nat)))) d=some (.dK (putK g (.inl h) (.int (f.length:Nat)))):=upd_same;generalize upd H4 d (.dK (putK g (.inl h) (.int (f.length:Nat))))=H5 at t5 s5 a2 b2⊢;have b5:=t5 _ _ I;have c2:=z01 (λ a b z=>RcAt.tups t5 z) L;refine ⟨_,rfl,.inl ⟨rfl,f,SqL.of a2⟩,⟨_,rfl,1,rfl,.inr (.inl ⟨J,_,rfl,b5,λ z=>absurd z.1 (show ¬ HT.sIx 5 0 (some 1)=0 by decide),λ D S=>?_⟩)⟩⟩;have c1:cutV [V.str "begin",.int h,n,v,x] (some 1) none=[.int h,n,v,x]:=rfl;rw [c1];refine ⟨_,rfl,w_3,λ G W=>.inr (.inr (.inr ⟨D,G,_,_,rfl,rfl,(Same.upd W).seqT (SqT.of upd_same),SqT.of upd_same,by simp,w_7,λ z=>(by cases z),λ _ u a4=>?_⟩))⟩;have B:Same H5 (upd (upd (upd H5 D (.tup [.int h,n,v,x])) G (.tup [.non,.int i,.non])) u (.tup ([.int h,n,v,x]++[.non,.int i,.non]))):=((Same.upd S).trans (Same.upd W)).trans (Same.upd a4);have U:upd (upd (upd H5 D (.tup [.int h,n,v,x])) G (.tup [.non,.int i,.non])) u (.tup ([.int h,n,v,x]++[.non,.int i,.non])) u=some (.tup ([.int h,n,v,x]++[.non,.int i,.non])):=upd_same;generalize upd (upd (upd H5 D (.tup [.int h,n,v,x])) G (.tup [.non,.int i,.non])) u (.tup ([.int h,n,v,x]++[.non,.int i,.non]))=H6 at B U⊢;have M:=B _ _ a2;have a5:=B _ _ b2;have a1:=z01 (λ a b z=>RcAt.tups (.of B) z) c2;have X:Tups (kx w) H6 (upd H6 l (.lst (f++[.ref u]))):=Tups.lst M;refine ⟨l,f,_,rfl,rfl,M,B1 (C0 (A7 lz) hr') (E1 a8 b3),?_⟩;refine ⟨c++[⟨h,n,v,x,.non,i,none⟩],f++[.ref u],putK g (.inl h) (.int (f.length:Nat)),upd_same,?_,?_,?_,?_,?_,(show dAll (i + 1) (dstep i c (.beg h n v x)) _=_ from F),dw.2,Same.keep (s5.trans B) a0,_,_,_,_,rfl⟩
    ·exact z0y (z01 (λ a b z=>RcAt.tups X z) a1) ⟨u,rfl,X _ _ (SqT.of U)⟩
    ·rw [upd_ne O.symm];exact a5
    ·exact C0 zkr (by omega)
    ·rw [F0];show c.length + 1<=i + 1;omega
    ·intro k;rw [z1d,j1];show _=j06 _ (lastI k (c.map Rc.h++[h]));rw [z4h,hv k,D0,lz];by_cases z:h=k
     ·rw [if_pos z,if_pos (by rw [z])];rfl
     ·rw [if_neg z,if_neg (λ y=>z (Q3 y).symm)]
   | fin h a=>
    obtain ⟨J,rfl,I⟩:=b1;obtain ⟨j,hj⟩:=Option.isSome_iff_exists.mp (dw.1 h a rfl);have c0:valV g (.inl h)=some (.int (j:Nat)):=by rw [hv h,hj];rfl
    have a6:j < c.length:=by have:=z8r hj;rwa [D0] at this
    have a7:c[j]? = some c[j]:=B0 a6;obtain ⟨yj,b8,pj,rfl,sj⟩:=z0q L a7;have b6:DGet H4 d (.int h) (some (.int (j:Nat))):=c0 ▸ DGet.k (k:=.inl h) R;refine ⟨_,rfl,.inr (.inl ⟨J,_,0,.str "end",rfl,rfl,I,z05 (j:=0) rfl,rfl,_,rfl,iteK ?_⟩)⟩;refine ⟨_,rfl,⟨_,rfl,.inr (.inl ⟨J,_,1,.int h,rfl,rfl,I,z05 (j:=1) rfl,d,_,rfl,b6,?_⟩)⟩⟩;refine ⟨_,rfl,_,rfl,.inl ⟨l,f,j,.ref pj,rfl,rfl,SqL.of Y,z05 b8,?_⟩⟩;refine ⟨_,rfl,4,rfl,.inr (.inl ⟨pj,_,rfl,sj,λ z=>absurd z.2 (show ¬ HT.sIx 7 7 (some 4)=7 by decide),λ D S=>?_⟩)⟩;have c1:cutV [.int c[j].h,c[j].n,c[j].v,c[j].x,c[j].a,.int c[j].b,endV c[j].e] none (some 4)=[.int c[j].h,c[j].n,c[j].v,c[j].x]:=rfl;rw [c1];refine ⟨_,rfl,.inr (.inl ⟨J,_,2,a,rfl,rfl,(Same.upd S).seqT I,z05 (j:=2) rfl,?_⟩)⟩;refine ⟨_,rfl,.inr (.inl ⟨pj,_,5,.int c[j].b,rfl,rfl,(Same.upd S).seqT sj,z05 (j:=5) rfl,?_⟩)⟩;refine ⟨_,rfl,w_3,λ G W=>.inr (.inr (.inr ⟨D,G,_,_,rfl,rfl,(Same.upd W).seqT (SqT.of upd_same),SqT.of upd_same,by simp,w_7,λ z=>(by cases z),λ _ u a4=>?_⟩))⟩;have B:Same H4 _:=((Same.upd S).trans (Same.upd W)).trans (Same.upd (o:=.tup ([.int c[j].h,c[j].n,c[j].v,c[j].x]++[a,.int c[j].b,.int (i:Nat)])) a4);have U:upd (upd (upd H4 D (.tup [.int c[j].h,c[j].n,c[j].v,c[j].x])) G (.tup [a,.int c[j].b,.int (i:Nat)])) u (.tup ([.int c[j].h,c[j].n,c[j].v,c[j].x]++[a,.int c[j].b,.int (i:Nat)])) u=some (.tup ([.int c[j].h,c[j].n,c[j].v,c[j].x]++[a,.int c[j].b,.int (i:Nat)])):=upd_same;generalize upd (upd (upd H4 D (.tup [.int c[j].h,c[j].n,c[j].v,c[j].x])) G (.tup [a,.int c[j].b,.int (i:Nat)])) u (.tup ([.int c[j].h,c[j].n,c[j].v,c[j].x]++[a,.int c[j].b,.int (i:Nat)]))=H6 at B U⊢;have M:=B _ _ Y;have a5:=B _ _ R;have a1:=z01 (λ a b z=>RcAt.tups (.of B) z) L;have X:Tups (kx w) H6 (upd H6 l (.lst (f.set j (.ref u)))):=Tups.lst M;refine ⟨_,rfl,_,rfl,l,f,j,j,rfl,rfl,M,zmp (show j < f.length by rw [lz];exact a6),?_⟩;have dd:dstep i c (.fin h a)=c.modify j (λ r=>{ r with a:=a,e:=some i }):=by unfold dstep;dsimp only;rw [hj]
    have a9:dAll (i + 1) (dstep i c (.fin h a)) (List.drop (i + 1) C)=_:=F;have b4:=dw.2;rw [dd] at a9 b4;have mh:(c.modify j (λ r=>{ r with a:=a,e:=some i })).map Rc.h=c.map Rc.h:=by
     apply L4;intro m;rw [K0,K0,L5];cases c[m]? with
     | none=>rfl
     | some r=>
      show some (if j=m then _ else r).h=some r.h;by_cases z:j=m
      ·rw [if_pos z]
      ·rw [if_neg z]
    refine ⟨_,f.set j (.ref u),g,upd_same,?_,?_,?_,?_,?_,a9,b4,Same.keep (s4.trans B) a0,_,_,_,_,rfl⟩
    ·exact z7o (z01 (λ a b z=>RcAt.tups X z) a1) a7 ⟨u,rfl,X _ _ (SqT.of U)⟩
    ·rw [upd_ne O.symm];exact a5
    ·omega
    ·rw [m6];omega
    ·intro k;rw [mh];exact hv k
  ·rintro σ H3 ⟨c,f,g,el,ar,ed,hk,hr',hv,F,dw,s3,x3,x4,x5,x6,rfl⟩;have:C.drop ys.length=[]:=by rw [b9];exact List.drop_length
   rw [this] at F;have F:c=dAll 0 [] C:=F;rw [<-F] at q;exact ⟨_,rfl,q l f H3 s3 a0 el ar⟩
noncomputable def z0x:Nat->Str
 | 0=>"strict"
 | 1=>"hands"
 | _=>"bare"
noncomputable def ltO:Option Nat->Nat->Bool
 | some a,b=>decide (a < b)
 | none,_=>false
noncomputable def aheadB:Nat->Rc->Rc->Bool
 | 0,r,q=>ltO r.e q.b
 | 1,r,q=>decide (r.h=q.h) && decide (r.b < q.b)
 | _,_,_=>false
theorem dec_lt (a b:Nat):decide ((a:Int) < (b:Int))=decide (a < b):=decide_eq_decide.mpr (by omega)
theorem dec_iI (a b:Int):decide (V.int a=V.int b)=decide (a=b):=decide_eq_decide.mpr ⟨λ e=>by cases e;rfl,λ e=>by rw [e]⟩
def z5d (K:b0):Sp:=λ vs H Q _=>∃(x y:V) (r q:Rc) (m:Nat),vs=[x,y,.str (z0x m)]/\RcAt K H r x/\RcAt K H q y/\Q (.bl (aheadB m r q)) H
theorem zae (T:TX (kx w) mg):Fo P w mg base CX0 1 219 y0o ["one","other","strictness"] (z5d (kx w)):=by
 refine (z3n w.params).ok z9t (λ g H Q E h=>?_) (λ i A k s H g Q E l h=>?_)
 ·obtain ⟨x,y,r,q,m,rfl,_⟩:=h;rfl
 ·obtain ⟨x,y,r,q,m,rfl,⟨a,rfl,c⟩,⟨f,rfl,d⟩,h⟩:=h;refine ⟨_,(z02 (ps_if (z08 opEq (pv 2) pe_str (nomark _))
   (z04 (ps_ret (pe_and (z0v z7y (pe_ix ix_seq (pv 0) pe_int (λ _ _=>rfl)) pe_non (nomark _)) (pe_one (z0v op_lt (pe_ix ix_seq (pv 0) pe_int (λ _ _=>rfl)) (pe_ix ix_seq (pv 1) pe_int (λ _ _=>rfl)) (nomark _))))))
   z0e)
   (z02 (ps_if (z08 opEq (pv 2) pe_str (nomark _))
   (z04 (ps_ret (pe_and (z0v opEq (pe_ix ix_seq (pv 0) pe_int (λ _ _=>rfl)) (pe_ix ix_seq (pv 1) pe_int (λ _ _=>rfl)) (nomark _)) (pe_one (z0v op_lt (pe_ix ix_seq (pv 0) pe_int (λ _ _=>rfl)) (pe_ix ix_seq (pv 1) pe_int (λ _ _=>rfl)) (nomark _))))))
   z0e)
   (z04 (ps_ret pe_bl)))),?_⟩
  match m,h with
  | 0,h=>
   refine ⟨_,rfl,rfl,_,rfl,iteP (decide_eq_true rfl) ?_⟩;refine ⟨_,rfl,.inr (.inl ⟨a,_,6,endV r.e,rfl,rfl,c,z05 (j:=6) rfl,rfl,_,rfl,?_⟩)⟩;cases re:r.e with
   | none=>
    refine iteN (by show ¬ (!decide (V.non=V.non))=true;decide) ?_;have:aheadB 0 r q=false:=by show ltO r.e q.b=_;rw [re];rfl
    rw [this] at h;exact h
   | some b=>
    refine iteP rfl ?_;refine ⟨_,rfl,.inr (.inl ⟨a,_,6,.int (b:Nat),rfl,rfl,c,z05 (j:=6) (by rw [re];rfl),?_⟩)⟩;refine ⟨_,rfl,.inr (.inl ⟨f,_,5,.int (q.b:Nat),rfl,rfl,d,z05 (j:=5) rfl,b,q.b,rfl,rfl,?_⟩)⟩;have:aheadB 0 r q=decide (b < q.b):=by show ltO r.e q.b=_;rw [re];rfl
    rw [this,<-dec_lt] at h;exact h
  | 1,h=>
   refine ⟨_,rfl,rfl,_,rfl,iteK ?_⟩;refine ⟨_,rfl,rfl,_,rfl,iteP (decide_eq_true rfl) ?_⟩;refine ⟨_,rfl,.inr (.inl ⟨a,_,0,.int r.h,rfl,rfl,c,z05 (j:=0) rfl,?_⟩)⟩;refine ⟨_,rfl,.inr (.inl ⟨f,_,0,.int q.h,rfl,rfl,d,z05 (j:=0) rfl,rfl,_,rfl,?_⟩)⟩;by_cases z:r.h=q.h
   ·refine iteP (decide_eq_true (by rw [z])) ?_;refine ⟨_,rfl,.inr (.inl ⟨a,_,5,.int (r.b:Nat),rfl,rfl,c,z05 (j:=5) rfl,?_⟩)⟩;refine ⟨_,rfl,.inr (.inl ⟨f,_,5,.int (q.b:Nat),rfl,rfl,d,z05 (j:=5) rfl,r.b,q.b,rfl,rfl,?_⟩)⟩;have:aheadB 1 r q=decide (r.b < q.b):=by show (decide (r.h=q.h) && _)=_;rw [decide_eq_true z];rfl
    rw [this,<-dec_lt] at h;exact h
   ·refine iteN (λ e=>z (V.int.inj (of_decide_eq_true e))) ?_;have:aheadB 1 r q=false:=by show (decide (r.h=q.h) && _)=_;rw [decide_eq_false z];rfl
    rw [this] at h;exact h
  | m + 2,h=>refine ⟨_,rfl,rfl,_,rfl,iteN (show ¬ decide (V.str "bare" = V.str "strict")=true by decide +kernel) ?_⟩;refine ⟨_,rfl,rfl,_,rfl,iteN (show ¬ decide (V.str "bare" = V.str "hands")=true by decide +kernel) ?_⟩;exact h
def z1q:Sp:=λ vs H Q _=>∃(m:Nat),vs=[.str (z0x m)]/\Q .non H
theorem zjc {H:Hp}:SqT (kx w) H 198 [.str "strict",.str "hands",.str "bare"]:=
 .inr ⟨⟨(.type "tuple"),none,(.seq #[(.str "strict" 500),(.str "hands" 501),(.str "bare" 502)] 0),#[]⟩,#[(.str "strict" 500),(.str "hands" 501),(.str "bare" 502)],0,by kernel_rfl,rfl,rfl,w_3,.cons ⟨_,rfl⟩ (.cons ⟨_,rfl⟩ (.cons ⟨_,rfl⟩ .nil))⟩
theorem z48 (T:TX (kx w) mg):Fo P w mg base CX0 1 212 y05 ["strictness"] z1q:=by
 refine (z17 w.params).ok z47 (λ a H Q E h=>?_) (λ d A c s H a Q E b h=>?_)
 ·obtain ⟨m,rfl,_⟩:=h;rfl
 ·obtain ⟨m,rfl,h⟩:=h;refine ⟨_,(z04 (ps_if (PW.pt (pw_or (pt_not (pt_val (z0c z0k rfl (T.no (z0i _)) Y2 (z00 (pv 0) (z00 (z2i (v:=.ty "str") rfl (T.no (n_str _)) j0e rfl) pa_nil))) (λ _=>rfl))) (pw_or1 (z08 z1h (pv 0) (z6u (v:=.ref 198) rfl (T.of (z8w _)) rfl) (by with_unfolding_all rfl)))))
   (z04 zbs)
   z0e)),?_⟩
  refine ⟨_,rfl,_,_,"str",rfl,rfl,by decide +kernel,_,rfl,iteN (by decide) ?_⟩;refine ⟨_,rfl,198,_,rfl,.inr zjc,rfl,rfl,_,rfl,iteN ?_ h⟩
  match m with
  | 0=>decide +kernel
  | 1=>decide +kernel
  | m + 2=>exact (by decide +kernel:¬ (if true=true then !inV (.str "bare") [V.str "strict",.str "hands",.str "bare"] else inV (.str "bare") [V.str "strict",.str "hands",.str "bare"])=true)
noncomputable def z0j (m:Nat) (rs:List Rc) (a b:Nat):Bool:=match rs[a]?,rs[b]? with|some r,some q=>aheadB m r q|_,_=>false
noncomputable def rowTo (m:Nat) (rs:List Rc) (a j:Nat):List (Nat×Nat):=((G1 j).filter λ b=>z0j m rs a b).map λ b=>(a,b)
noncomputable def z1o (m:Nat) (rs:List Rc) (i:Nat):List (Nat×Nat):=(G1 i).flatMap λ a=>rowTo m rs a rs.length
theorem za5 {m:Nat} {rs:List Rc} {a j:Nat}:rowTo m rs a (j + 1)=rowTo m rs a j++if z0j m rs a j then [(a,j)] else []:=by
 unfold rowTo;rw [F8,E7,j1];by_cases z:z0j m rs a j=true
 ·rw [if_pos z];simp [z]
 ·rw [if_neg z];simp [z]
theorem z6d {m:Nat} {rs:List Rc} {i:Nat}:z1o m rs (i + 1)=z1o m rs i++rowTo m rs i rs.length:=by unfold z1o;rw [F8,m9];simp
theorem zda {m:Nat} {rs:List Rc} {a j:Nat}:(rowTo m rs a j).length<=j:=by unfold rowTo;rw [D0];exact C0 (D2 _ _) (by rw [O1];exact A0 _)
theorem z38 {m:Nat} {rs:List Rc} :∀i:Nat,(z1o m rs i).length<=i * rs.length
 | 0=>by simp [z1o]
 | i + 1=>by rw [z6d,F0,Nat.add_mul,Nat.one_mul];exact Nat.add_le_add (z38 i) zda
theorem zht {i:Nat} {rs:List Rc} {e:Ev}:(dstep i rs e).length<=rs.length + 1:=by
 cases e with
 | beg h n v x=>show (rs++[_]).length<=_;rw [F0];exact A0 _
 | fin h a=>
  unfold dstep;dsimp only;cases lastI h (rs.map Rc.h) with
  | none=>exact B2 _
  | some j=>show (rs.modify j _).length<=_;rw [m6];exact B2 _
theorem z80 :∀{i:Nat} {rs:List Rc} (es:List Ev),(dAll i rs es).length<=rs.length + es.length
 | _,_,[]=>A0 _
 | i,rs,e :: es=>by show (dAll (i + 1) (dstep i rs e) es).length<=_;have:=z80 (i:=i + 1) (rs:=dstep i rs e) es;have:=zht (i:=i) (rs:=rs) (e:=e);rw [Z0];omega
def PairAt (H:Hp) (p:Nat×Nat) (y:V):Prop:=∃a,y=.ref a/\H a=some (.tup [.int p.1,.int p.2])
theorem PairAt.same {H H':Hp} {p:Nat×Nat} {y:V} (s:Same H H') (h:PairAt H p y):PairAt H' p y:=h.elim λ a z=>⟨a,z.1,s _ _ z.2⟩
theorem PairAt.wrote {H:Hp} {l:Addr} {zs ws:List V} {p:Nat×Nat} {y:V} (e:H l=some (.lst zs)) (h:PairAt H p y):PairAt (upd H l (.lst ws)) p y:=h.elim λ a z=>⟨a,z.1,by rw [upd_ne (ne_of z.2 e (by intro z;cases z))];exact z.2⟩
def z8p (K:b0):Sp:=λ vs H Q _=>∃(t te:Addr) (th:V) (ys:List V) (es:List Ev) (m:Nat),vs=[.ref t,.str (z0x m)]/\SqT K H t [th,.ref te]/\SqT K H te ys/\All2 (EvAt K H) es ys/\es.length<=100/\dWf 0 [] es/\
 ∀l zs H',Same H H'->H l=none->H' l=some (.lst zs)->All2 (PairAt H') (z1o m (dAll 0 [] es) (dAll 0 [] es).length) zs->Q (.ref l) H'
theorem zi5 (T:TX (kx w) mg) (c0:Ca P w mg base "deeds" ["tale"] 1 (z8j (kx w))) (c1:Ca P w mg base "check_strictness" ["strictness"] 1 z1q) (c2:Ca P w mg base "goes_ahead" ["one","other","strictness"] 1 (z5d (kx w))):Fo P w mg base CX0 2 205 y24 ["tale","strictness"] (z8p (kx w)):=by
 refine (zbb w.params).ok sc_has_to (λ vs H Q E h=>?_) (λ b9 A c3 s H vs Q E O h=>?_)
 ·obtain ⟨t,S,th,ys,B,m,rfl,_⟩:=h;rfl
 ·obtain ⟨t,S,th,ys,B,m,rfl,st,se,al,hl,wf,q⟩:=h;refine ⟨_,(z02 (z22 (pe_cal c1 (O.mono (by decide)) rfl (z00 (pv 1) pa_nil)))
   (z02 (ps_set (i:=2) sc_has_to.nd rfl (U0 rfl) (pe_cal c0 (O.mono (by decide)) rfl (z00 (pv 0) pa_nil)))
   (z02 (ps_set (i:=3) sc_has_to.nd rfl (U0 rfl) (pe_lst pa_nil))
   (z02 (ps_for K1 rfl (z3r rfl (T.no (z12 _)) (z00 (pv 2) pa_nil)) (pg_tup rfl (z07 (z0f (i:=4) sc_has_to.nd rfl (U0 rfl)) (z07 (z0f (i:=5) sc_has_to.nd rfl (U0 rfl)) z0m)))
   (z04 (ps_for K1 rfl (z3r rfl (T.no (z12 _)) (z00 (pv 2) pa_nil)) (pg_tup rfl (z07 (z0f (i:=6) sc_has_to.nd rfl (U0 rfl)) (z07 (z0f (i:=7) sc_has_to.nd rfl (U0 rfl)) z0m)))
   (z04 (ps_if (pt_val (pe_cal c2 (O.mono (by decide)) rfl (z00 (pv 5) (z00 (pv 7) (z00 (pv 1) pa_nil)))) (λ _=>rfl))
   (z04 (z22 (z18 (pv 3) (z00 (pe_tup (z00 (pv 4) (z00 (pv 6) pa_nil))) pa_nil))))
   z0e)))))
   (z04 (ps_ret (pv 3))))))),?_⟩
  refine ⟨_,rfl,m,rfl,?_⟩;refine ⟨_,rfl,t,S,th,ys,B,rfl,st,se,al,hl,wf,λ l g G Y b8 U I=>?_⟩;generalize hrs:dAll 0 [] B=rs at I q;have hn:rs.length<=100:=by rw [<-hrs];have:=z80 (i:=0) (rs:=[]) B;simpa using C0 this (by simpa using hl)
  have v:g.length=rs.length:=z03 I;refine ⟨w_0,λ c n=>?_⟩;have Z:H c=none:=Y.free n;have nl:l≠c:=z0b U n;have V:Same H (upd G c (.lst [])):=Y.trans (Same.upd n);have L:upd G c (.lst []) l=some (.lst g):=(Same.upd n) _ _ U;have a1:=z01 (λ a b z=>RcAt.tups (.of (Same.upd (o:=.lst []) n)) z) I;have a0:upd G c (.lst []) c=some (.lst []):=upd_same;generalize upd G c (.lst [])=H2 at V L a1 a0⊢;refine ⟨_,rfl,l,g,rfl,SqL.of L,?_⟩;refine z5o (K:=KX w.params) (a:=l) (xs:=g) (λ i σ d=>∃f,d l=some (.lst g)/\All2 (RcAt (kx w) d) rs g/\d c=some (.lst f)/\All2 (PairAt d) (z1o m rs i) f/\Same H d/\∃x4 x5 x6 x7,σ=[some (.ref t),some (.str (z0x m)),some (.ref l),some (.ref c),x4,x5,x6,x7])
   ⟨[],L,a1,a0,.nil,V,_,_,_,_,rfl⟩ (λ i σ d h=>?_) ?_ ?_
  ·obtain ⟨f,e,_⟩:=h;exact SqL.of e
  ·rintro i x σ H3 p hx ⟨f,e3,a3,f3,b3,s3,x4,x5,x6,x7,rfl⟩ hp;obtain ⟨H4,J,u,ep⟩:=newA (.tup [.int i,x]) hp;rw [<-J];have e4:=u _ _ e3;have f4:=u _ _ f3;have a4:=z01 (λ a b z=>RcAt.tups (.of u) z) a3;have b4:=z01 (λ a b z=>PairAt.same u z) b3;have s4:=s3.trans u;refine ⟨p,_,rfl,SqT.of ep,rfl,.int i,_,rfl,x,_,rfl,rfl,?_⟩;have a8:i < rs.length:=by rw [<-v];exact (List.getElem?_eq_some_iff.mp hx).1
   have pl:=z38 (m:=m) (rs:=rs) i;have pm:i * rs.length<=10000:=a9 (C0 (R3 a8) hn) hn;refine ⟨_,rfl,l,g,rfl,SqL.of e4,?_⟩;refine z5o (K:=KX w.params) (a:=l) (xs:=g) (λ j σ d=>∃f,d l=some (.lst g)/\All2 (RcAt (kx w) d) rs g/\d c=some (.lst f)/\All2 (PairAt d) (z1o m rs i++rowTo m rs i j) f/\Same H d/\∃x6 x7,σ=[some (.ref t),some (.str (z0x m)),some (.ref l),some (.ref c),some (.int (i:Nat)),some x,x6,x7])
    ⟨f,e4,a4,f4,by rw [show rowTo m rs i 0=[] from rfl,Y1];exact b4,s4,_,_,rfl⟩ (λ j σ d h=>?_) ?_ ?_
   ·obtain ⟨f,e,_⟩:=h;exact SqL.of e
   ·rintro j y σ R F hy ⟨zs3,e5,a5,f5,b5,s5,x6,x7,rfl⟩ hp';have k:=Same.upd (o:=.tup [.int j,y]) hp';have X:upd R F (.tup [.int j,y]) F=some (.tup [.int j,y]):=upd_same;generalize upd R F (.tup [.int j,y])=H6 at k X⊢;have e6:=k _ _ e5;have M:=k _ _ f5;have C:=z01 (λ a b z=>RcAt.tups (.of k) z) a5;have N:=z01 (λ a b z=>PairAt.same k z) b5;have W:=s5.trans k;refine ⟨F,_,rfl,SqT.of X,rfl,.int j,_,rfl,y,_,rfl,rfl,?_⟩;obtain ⟨r1,b0,a7⟩:=z09 C hx;obtain ⟨r2,a2,b2⟩:=z09 C hy;have b7:j < rs.length:=(List.getElem?_eq_some_iff.mp a2).1;have ah:z0j m rs i j=aheadB m r1 r2:=by unfold z0j;rw [b0,a2]
    refine ⟨_,rfl,_,rfl,_,rfl,x,y,r1,r2,m,rfl,a7,b2,_,rfl,?_⟩;rw [<-ah];have rl:=zda (m:=m) (rs:=rs) (a:=i) (j:=j);have zl:zs3.length=(z1o m rs i++rowTo m rs i j).length:=z03 N;rw [F0] at zl;by_cases z:z0j m rs i j=true
    ·refine iteP z ?_;refine ⟨_,rfl,.inl ⟨rfl,zs3,SqL.of M⟩,_,rfl,_,rfl,w_2,λ p2 b1=>?_⟩;obtain ⟨H7,J,r,e7⟩:=newA (.tup [.int (i:Nat),.int (j:Nat)]) b1;rw [<-J];have D:=r _ _ M;refine ⟨c,zs3,_,rfl,rfl,D,B1 (m:=20000) (by omega) (by decide),?_⟩;refine ⟨zs3++[.ref p2],?_,?_,upd_same,?_,Same.keep (W.trans r) Z,_,_,rfl⟩
     ·rw [upd_ne nl];exact r _ _ e6
     ·exact z01 (λ a b z=>RcAt.tups ((Tups.of r).trans (Tups.lst D)) z) C
     ·rw [za5,if_pos z,<-K3];exact z0y (z01 (λ a b z=>PairAt.wrote D (PairAt.same r z)) N) (PairAt.wrote D ⟨p2,rfl,e7⟩)
    ·refine iteN z ?_;exact ⟨zs3,e6,C,M,by rw [za5,if_neg z,Y1];exact N,W,_,_,rfl⟩
   ·rintro σ R ⟨zs3,e5,a5,f5,b5,s5,x6,x7,rfl⟩;exact ⟨zs3,e5,a5,f5,by rw [z6d,<-v];rw [v] at b5;rw [v];exact b5,s5,_,_,_,_,rfl⟩
  ·rintro σ H3 ⟨f,e3,a3,f3,b3,s3,x4,x5,x6,x7,rfl⟩;rw [v] at b3;exact ⟨_,rfl,q c f H3 s3 Z f3 b3⟩
def HandAt (H:Hp) (r:Addr):Prop:=∃a b c:Int,H r=some (.lst [.int a,.int b,.int c])/\0<=b/\b < 4294967296/\0<=c/\c < 2
theorem HandAt.same {H H':Hp} {r:Addr} (h:HandAt H r) (s:Same H H'):HandAt H' r:=by obtain ⟨a,b,c,e,z⟩:=h;exact ⟨a,b,c,s _ _ e,z⟩
theorem HandAt.fresh {r p:Addr} {H:Hp} (h:HandAt H r) (e:H p=none):p≠r:=λ z=>by obtain ⟨a,b,c,d,_⟩:=h;rw [z,d] at e;cases e
structure Hw (r:Addr) (H H':Hp):Prop where
 k:Kept r H H'
 r:HandAt H' r
theorem Hw.trans {r:Addr} {H H1 H2:Hp} (a:Hw r H H1) (b:Hw r H1 H2):Hw r H H2:=⟨a.k.trans b.k,b.r⟩
theorem Hw.same {r:Addr} {H H1 H2:Hp} (a:Hw r H H1) (s:Same H1 H2):Hw r H H2:=⟨a.k.trans s.kept,a.r.same s⟩
theorem HandAt.hw {r:Addr} {H:Hp} (h:HandAt H r):Hw r H H:=⟨.refl,h⟩
theorem z9n {K:b0} {H:Hp} :∀ns:List Int,IsPds K H (ns.map T3) (ns.map V.int)
 | []=>rfl
 | n :: ns=>⟨.int n,ns.map V.int,rfl,rfl,z9n ns⟩
theorem za1 :∀ns:List Int,z10 (ns.map T3)=true
 | []=>rfl
 | n :: ns=>by show (true && z10 (ns.map T3))=true;rw [za1 ns];rfl
theorem z97 :∀ns:List Int,W1 (ns.map T3)<=1
 | []=>by decide
 | n :: ns=>by have:=z97 ns;show max (Y6 (.int n)) (W1 (ns.map T3))<=1;exact Nat.max_le.mpr ⟨(show (0:Nat)<=1 by decide),this⟩
def z3u (K:b0):Sp:=λ vs H Q _=>∃(a:Addr) (ns:List Int) (c k:Int),vs=[.ref a,.int c,.int k]/\SqL K H a (ns.map V.int)/\0<=k/\k < 1000/\∀r H',Same H H'->HandAt H' r->H r=none->Q (.ref r) H'
theorem zc0 (T:TX (kx w) mg):Fo P w mg base CX0 1 348 y11 ["script","cell","k"] (z3u (kx w)):=by
 refine (z55 w.params).ok sc__law_hand (λ n H Q E h=>?_) (λ z A B s H n Q E e h=>?_)
 ·obtain ⟨a,d,c,k,rfl,_⟩:=h;rfl
 ·obtain ⟨a,d,c,k,rfl,l,x,v,q⟩:=h;refine ⟨_,(z02 (ps_set (i:=3) sc__law_hand.nd rfl (U0 rfl) pe_int)
   (z02 (ps_if (z08 (op_neP e) (pv 0) (pe_lst pa_nil) (nomark _))
   (z04 (ps_set (i:=3) sc__law_hand.nd rfl (U0 rfl) (pe_op op_mod (z0c (zhx rfl) rfl (T.no (n_sum _)) boot_sum (z00 (pv 0) pa_nil)) pe_int)))
   z0e)
   (z04 (ps_ret (pe_lst (z00 (pv 1) (z00 (pe_op op_mod (pe_op op_mul (pe_op opAdd (pe_op opAdd (pe_op op_mod (pv 1) pe_int) (pe_op op_mul pe_int (pv 2))) pe_int) pe_int) pe_int) (z00 (pv 3) pa_nil)))))))),?_⟩
  refine z0s ?_;refine g_name ?_;refine z6p (λ f g=>Same H g/\∃y:Int,(0<=y/\y < 2)/\f=[some (.ref a),some (.int c),some (.int k),some (.int y)]) ?_ (λ j=>?_);rotate_left
  ·refine ⟨_,rfl,w_0,λ p m=>?_⟩;have b:=Same.upd (o:=.lst []) m;refine ⟨.list (d.map T3),.list [],⟨a,_,rfl,b.seq l,z9n d⟩,⟨p,[],rfl,SqL.of upd_same,rfl⟩,za1 d,rfl,C0 (Nat.add_le_add_right (z97 d) 1) (by decide),_,rfl,?_⟩;refine ite2 (λ _=>?_) λ _=>?_
   ·exact ⟨_,rfl,a,d,rfl,b.seq l,_,_,rfl,rfl,(show (0:Int) < 2 by decide),j _ _ ⟨b,_,⟨d7 _ (by decide),y6 _ (by decide)⟩,rfl⟩⟩
   ·exact j _ _ ⟨b,0,by decide,rfl⟩
  rintro f g ⟨b,y,⟨hy0,hy1⟩,rfl⟩;refine ⟨_,rfl,_,rfl,_,_,rfl,rfl,(show (0:Int) < 2147483629 by decide),?_⟩;refine ⟨_,rfl,_,_,rfl,rfl,.inl (by decide),.inl ⟨_,_,rfl,rfl,.inl ⟨_,_,rfl,rfl,?_⟩⟩⟩;refine ⟨_,_,rfl,rfl,.inr (by decide),_,_,rfl,rfl,(show (0:Int) < 2147483647 by decide),_,rfl,w_3,λ r e=>?_⟩;have t:0<=((c % 2147483629 + 7919 * k + 1) * 48271) % 2147483647:=d7 _ (by decide);have u:((c % 2147483629 + 7919 * k + 1) * 48271) % 2147483647 < 2147483647:=y6 _ (by decide);exact q r _ (b.trans (Same.upd e)) ⟨_,_,_,upd_same,t,by omega,hy0,hy1⟩ (b.free e)
def z0z:Sp:=λ vs H Q _=>∃(r:Addr) (m:Int),vs=[.ref r,.int m]/\HandAt H r/\0 < m/\m < 2 ^ 64/\∀t H',Hw r H H'->0<=t->t < m->Q (.int t) H'
theorem zau (T:TX (kx w) mg):Fo P w mg base CX0 1 355 y12 ["hand","limit"] z0z:=by
 refine (z4t w.params).ok sc__law_draw (λ k H Q E h=>?_) (λ p A t s H k Q E v h=>?_)
 ·obtain ⟨r,m,rfl,_⟩:=h;rfl
 ·obtain ⟨r,m,rfl,⟨a,b,c,e,j,l,f,g⟩,d,n,q⟩:=h;refine ⟨_,(z02 (ps_if (z08 opEq (pe_ix ix_seq (pv 0) pe_int (λ _ _=>rfl)) pe_int (nomark _))
   (z02 (ps_set (i:=2) sc__law_draw.nd rfl (U0 rfl) (pe_op op_mod (pe_ix ix_seq (pv 0) pe_int (λ _ _=>rfl)) (pv 1)))
   (z02 (ps_asg (pe_op zge (pe_ix ix_seq (pv 0) pe_int (λ _ _=>rfl)) (pv 1)) (pg_sub (pv 0) pe_int z6x))
   (z04 (ps_ret (pv 2)))))
   z0e)
   (z02 (ps_asg (pe_op opAdd (pe_op op_mod (pe_op op_mul (pe_ix ix_seq (pv 0) pe_int (λ _ _=>rfl)) (pe_ix ix_seq (pv 0) pe_int (λ _ _=>rfl))) pe_int) pe_int) (pg_sub (pv 0) pe_int z6x))
   (z04 (ps_ret (pe_op op_mod (pe_op zge (pe_op op_mod (pe_op op_mul (pe_ix ix_seq (pv 0) pe_int (λ _ _=>rfl)) pe_int) pe_int) pe_int) (pv 1)))))),?_⟩
  refine ⟨_,rfl,.inl ⟨r,_,2,.int c,rfl,rfl,SqL.of e,rfl,rfl,_,rfl,?_⟩⟩;refine ite2 (λ _=>?_) λ _=>?_
  ·refine ⟨_,rfl,.inl ⟨r,_,0,.int a,rfl,rfl,SqL.of e,rfl,_,rfl,_,_,rfl,rfl,d,?_⟩⟩;refine ⟨_,rfl,.inl ⟨r,_,0,.int a,rfl,rfl,SqL.of e,rfl,_,rfl,_,_,rfl,rfl,⟨d,n⟩,?_⟩⟩;refine ⟨_,rfl,r,_,0,0,rfl,rfl,e,rfl,?_⟩;exact ⟨_,rfl,q _ _ ⟨.set,_,b,c,upd_same,j,l,f,g⟩ (d7 _ (by omega)) (y6 _ d)⟩
  ·have u:0<=(b * b) % 2147483629:=d7 _ (by decide);have o:(b * b) % 2147483629 < 2147483629:=y6 _ (by decide);refine ⟨_,rfl,.inl ⟨r,_,1,.int b,rfl,rfl,SqL.of e,rfl,_,rfl,.inl ⟨r,_,1,.int b,rfl,rfl,SqL.of e,rfl,?_⟩⟩⟩;refine ⟨_,_,rfl,rfl,.inl ⟨by omega,by omega⟩,_,_,rfl,rfl,(show (0:Int) < 2147483629 by decide),.inl ⟨_,_,rfl,rfl,?_⟩⟩;refine ⟨_,rfl,r,_,1,1,rfl,rfl,e,rfl,?_⟩;refine ⟨_,rfl,.inl ⟨r,_,1,.int _,rfl,rfl,SqL.of upd_same,rfl,?_⟩⟩;refine ⟨_,_,rfl,rfl,.inr (by decide),_,_,rfl,rfl,(show (0:Int) < 2147483563 by decide),_,_,rfl,rfl,⟨by decide,by decide⟩,_,rfl,_,_,rfl,rfl,d,?_⟩;exact q _ _ ⟨.set,a,_,c,upd_same,by omega,by omega,f,g⟩ (d7 _ (by omega)) (y6 _ d)
def near (i:Int):Prop:=-1000000000<=i/\i<=1000000000
inductive DeedOk:Str->Str->Dt->Prop
 | regR:DeedOk "register" "read" .non
 | regW {i:Int}:near i->DeedOk "register" "write" (.int i)
 | cntR:DeedOk "counter" "read" .non
 | cntA {i:Int}:near i->DeedOk "counter" "add" (.int i)
 | quP {i:Int}:near i->DeedOk "queue" "put" (.int i)
 | quT:DeedOk "queue" "take" .non
 | setP {i:Int}:near i->DeedOk "set" "put" (.int i)
 | setC {i:Int}:near i->DeedOk "set" "cut" (.int i)
 | setH {i:Int}:near i->DeedOk "set" "has" (.int i)
 | celR:DeedOk "cell" "read" .non
 | celW {i:Int}:near i->DeedOk "cell" "write" (.int i)
 | celS {i j:Int}:near i->near j->DeedOk "cell" "swap" (.tup [.int i,.int j])
noncomputable def kinds5:List Str:=["register","counter","queue","set","cell"]
noncomputable def verbsT (k:Str):List Str:=if k = "register" then ["write","read"] else if k = "counter" then ["add","read"] else if k = "queue" then ["put","take"] else if k = "set" then ["put","cut","has"] else ["read","write","swap","swap"]
def VerbOk (k v:Str):Prop:=((v = "read"\/v = "take")/\DeedOk k v .non)\/(v = "swap"/\∀i j,near i->near j->DeedOk k v (.tup [.int i,.int j]))\/(v≠"read"/\v≠"take"/\v≠"swap"/\∀i,near i->DeedOk k v (.int i))
theorem zks {k v:Str} (hk:k∈kinds5) (hv:v∈verbsT k):VerbOk k v:=by
 unfold kinds5 at hk;simp only [W0,o0,or_false] at hk;rcases hk with rfl|rfl|rfl|rfl|rfl
 ·rw [show verbsT "register" = (["write","read"]:List Str) by decide +kernel] at hv;simp only [W0,o0,or_false] at hv;rcases hv with rfl|rfl
  ·exact .inr (.inr ⟨by decide +kernel,by decide +kernel,by decide +kernel,λ i h=>.regW h⟩)
  ·exact .inl ⟨.inl rfl,.regR⟩
 ·rw [show verbsT "counter" = (["add","read"]:List Str) by decide +kernel] at hv;simp only [W0,o0,or_false] at hv;rcases hv with rfl|rfl
  ·exact .inr (.inr ⟨by decide +kernel,by decide +kernel,by decide +kernel,λ i h=>.cntA h⟩)
  ·exact .inl ⟨.inl rfl,.cntR⟩
 ·rw [show verbsT "queue" = (["put","take"]:List Str) by decide +kernel] at hv;simp only [W0,o0,or_false] at hv;rcases hv with rfl|rfl
  ·exact .inr (.inr ⟨by decide +kernel,by decide +kernel,by decide +kernel,λ i h=>.quP h⟩)
  ·exact .inl ⟨.inr rfl,.quT⟩
 ·rw [show verbsT "set" = (["put","cut","has"]:List Str) by decide +kernel] at hv;simp only [W0,o0,or_false] at hv;rcases hv with rfl|rfl|rfl
  ·exact .inr (.inr ⟨by decide +kernel,by decide +kernel,by decide +kernel,λ i h=>.setP h⟩)
  ·exact .inr (.inr ⟨by decide +kernel,by decide +kernel,by decide +kernel,λ i h=>.setC h⟩)
  ·exact .inr (.inr ⟨by decide +kernel,by decide +kernel,by decide +kernel,λ i h=>.setH h⟩)
 ·rw [show verbsT "cell" = (["read","write","swap","swap"]:List Str) by decide +kernel] at hv;simp only [W0,o0,or_false] at hv;rcases hv with rfl|rfl|rfl|rfl
  ·exact .inl ⟨.inl rfl,.celR⟩
  ·exact .inr (.inr ⟨by decide +kernel,by decide +kernel,by decide +kernel,λ i h=>.celW h⟩)
  ·exact .inr (.inl ⟨rfl,λ i j a b=>.celS a b⟩)
  ·exact .inr (.inl ⟨rfl,λ i j a b=>.celS a b⟩)
theorem zk4 (z:Str) (ws:List Str):inV (.str z) (ws.map V.str)=decide (z∈ws):=by
 unfold inV;rw [j2g,Bool.eq_iff_iff,j8,decide_eq_true_eq];constructor
 ·rintro ⟨x,hx,e⟩;have e:x=z:=eq_of_beq (show (x == z)=true from e);rw [<-e];exact hx
 ·exact λ h=>⟨z,h,(show (z == z)=true from beq_self_eq_true z)⟩
theorem zbq {L:List Addr} {H H':Hp} (k:KeptL L H H') (n :∀l∈L,H l=none):Same H H':=λ b o e=>k b o (λ z=>by rw [n b z] at e;cases e) e
structure WordsAt (H:Hp) (p:Addr) (n:Nat) (f:Str->Option (List Str)):Prop where
 ex :∃kvs:List (Key×V),H p=some (.dK kvs)/\kvs.length<=n/\∀k ws,f k=some ws->∃l,valV kvs (.inr k)=some (.ref l)/\H l=some (.lst (ws.map V.str))
theorem z5j (kvs:List (Key×V)) (k:Key) (v:V):(putK kvs k v).length<=kvs.length + 1:=by
 unfold putK;split
 ·rw [D0];exact B2 _
 ·rw [F0];exact A0 _
theorem WordsAt.put {H:Hp} {p l:Addr} {n:Nat} {f:Str->Option (List Str)} {kvs:List (Key×V)} {k:Str} {ws:List Str} (hl:H l=none) (e:H p=some (.dK kvs)) (hn:kvs.length<=n) (h :∀k ws,f k=some ws->∃l,valV kvs (.inr k)=some (.ref l)/\H l=some (.lst (ws.map V.str))) :
  ∃H',H'=upd (upd H l (.lst (ws.map V.str))) p (.dK (putK kvs (.inr k) (.ref l)))/\WordsAt H' p (n + 1) (λ j=>if j=k then some ws else f j)/\KeptL [p] H H':=by
 have s:p≠l:=z0b e hl;refine ⟨_,rfl,⟨_,upd_same,C0 (z5j _ _ _) (Y5 hn),λ j g c=>?_⟩,λ b o i d=>?_⟩
 ·by_cases z:j=k
  ·subst z;rw [if_pos rfl] at c;cases c;refine ⟨l,by rw [z1d,if_pos rfl],?_⟩;rw [upd_ne s.symm];exact upd_same
  ·rw [if_neg z] at c;obtain ⟨m,r,a⟩:=h j g c;refine ⟨m,by rw [z1d,if_neg (λ y=>z (d6 y))];exact r,?_⟩;have t:m≠p:=λ y=>by rw [y,e] at a;cases a
   rw [upd_ne t,upd_ne (z0b a hl)];exact a
 ·have q:b≠p:=λ z=>i (by rw [z];exact List.mem_singleton.mpr rfl);rw [upd_ne q,upd_ne (z0b d hl)];exact d
theorem words3 {H:Hp} {p l1 l2 l3:Addr} {k1 k2 k3:Str} {w1 w2 w3:List Str} (hp:H p=none) (h1:upd H p (.dK []) l1=none) (h2:upd (upd H p (.dK [])) l1 (.lst (w1.map V.str)) l2=none)
  (h3:upd (upd (upd H p (.dK [])) l1 (.lst (w1.map V.str))) l2 (.lst (w2.map V.str)) l3=none) (n12:k1≠k2) (n13:k1≠k3) (n23:k2≠k3) :
  upd (upd (upd (upd H p (.dK [])) l1 (.lst (w1.map V.str))) l2 (.lst (w2.map V.str))) l3 (.lst (w3.map V.str)) p=some (.dK [])/\
  ∃H',H'=upd (upd (upd (upd (upd H p (.dK [])) l1 (.lst (w1.map V.str))) l2 (.lst (w2.map V.str))) l3 (.lst (w3.map V.str))) p (.dK [(.inr k1,.ref l1),(.inr k2,.ref l2),(.inr k3,.ref l3)])/\Same H H'/\
   H' p=some (.dK [(.inr k1,.ref l1),(.inr k2,.ref l2),(.inr k3,.ref l3)])/\∀k ws,(if k=k1 then some w1 else if k=k2 then some w2 else if k=k3 then some w3 else none)=some ws->∃l,valV [((.inr k1:Key),V.ref l1),(.inr k2,.ref l2),(.inr k3,.ref l3)] (.inr k)=some (.ref l)/\H' l=some (.lst (ws.map V.str)):=by
 have c:p≠l1:=z0b upd_same h1;have d:p≠l2:=z0b (by rw [upd_ne c];exact upd_same) h2;have g:p≠l3:=z0b (by rw [upd_ne d,upd_ne c];exact upd_same) h3;have i:l1≠l2:=z0b upd_same h2;have j:l1≠l3:=z0b (by rw [upd_ne i];exact upd_same) h3;have m:l2≠l3:=z0b upd_same h3;refine ⟨by rw [upd_ne g,upd_ne d,upd_ne c];exact upd_same,_,rfl,λ b o e=>?_,upd_same,λ k ws e=>?_⟩
 ·rw [upd_ne (z0b e hp)];exact ((((Same.upd hp).trans (Same.upd h1)).trans (Same.upd h2)).trans (Same.upd h3)) b o e
 ·have f :∀{a b:Str},a≠b->(Sum.inr a:Key)≠Sum.inr b:=λ h e=>h (d6 e);by_cases z1:k=k1
  ·rw [if_pos z1] at e;cases e;exact ⟨l1,by rw [z1];exact z0t rfl,by rw [upd_ne c.symm,upd_ne j,upd_ne i];exact upd_same⟩
  ·rw [if_neg z1] at e;by_cases z2:k=k2
   ·rw [if_pos z2] at e;cases e;exact ⟨l2,by rw [z2,z0p (f n12)];exact z0t rfl,by rw [upd_ne d.symm,upd_ne m];exact upd_same⟩
   ·rw [if_neg z2] at e;by_cases z3:k=k3
    ·rw [if_pos z3] at e;cases e;exact ⟨l3,by rw [z3,z0p (f n13),z0p (f n23)];exact z0t rfl,by rw [upd_ne g.symm];exact upd_same⟩
    ·rw [if_neg z3] at e;cases e
def WorthIn (H:Hp) (d:Dt) (x:V):Prop:=∀a b:Int,d=.tup [.int a,.int b]->∃t,x=.ref t/\H t=some (.tup [.int a,.int b])
theorem e9:(10:Int) ^ (9:Int).toNat=1000000000:=by decide
theorem p9:CPow 10 9:=⟨by decide,by decide,by decide⟩
def z5c:Sp:=λ vs H Q _=>∃r:Addr,vs=[.ref r]/\HandAt H r/\∀i H',Hw r H H'->near i->Q (.int i) H'
theorem z9r (T:TX (kx w) mg) (c0:Ca P w mg base "_law_draw" ["hand","limit"] 1 z0z):Fo P w mg base CX0 2 374 y0r ["hand"] z5c:=by
 refine (z3t w.params).ok z9d (λ x H Q E h=>?_) (λ G A J s H x Q E g h=>?_)
 ·obtain ⟨r,rfl,_⟩:=h;rfl
 ·obtain ⟨r,rfl,R,q⟩:=h;refine ⟨_,(z02 (ps_if (z08 opEq (pe_cal c0 (g.mono (by decide)) rfl (z00 (pv 0) (z00 pe_int pa_nil))) pe_int (nomark _))
   (z04 (ps_ret (pe_ix ix_seq (pe_lst (z00 (pe_op op_pow pe_int pe_int) (z00 (pe_op op_sub pe_int (pe_op op_pow pe_int pe_int)) (z00 (pe_op op_sub (pe_cal c0 (g.mono (by decide)) rfl (z00 (pv 0) (z00 (pe_op opAdd (pe_op op_mul pe_int (pe_op op_pow pe_int pe_int)) pe_int) pa_nil))) (pe_op op_pow pe_int pe_int)) pa_nil)))) (pe_cal c0 (g.mono (by decide)) rfl (z00 (pv 0) (z00 pe_int pa_nil))) (λ _ _=>rfl))))
   z0e)
   (z04 (ps_ret (pe_ix ix_seq (pe_lst (z00 pe_int (z00 pe_int (z00 pe_int (z00 pe_int (z00 (pe_un un_neg pe_int) pa_nil)))))) (pe_cal c0 (g.mono (by decide)) rfl (z00 (pv 0) (z00 pe_int pa_nil))) (λ _ _=>rfl))))),?_⟩
  refine ⟨_,rfl,r,6,rfl,R,by decide,by decide,λ t D c _ _=>⟨rfl,_,rfl,?_⟩⟩;refine ite2 (λ _=>?_) λ _=>?_
  ·refine ⟨_,_,rfl,rfl,p9,_,_,rfl,rfl,p9,_,_,rfl,rfl,_,rfl,_,_,rfl,rfl,p9,_,_,rfl,rfl,.inl ⟨by decide,by decide⟩,.inl ⟨_,_,rfl,rfl,r,_,rfl,c.r,by decide,by decide,λ e y f I u=>?_⟩⟩;rw [e9] at u;refine ⟨_,_,rfl,rfl,p9,_,_,rfl,rfl,w_3,λ l a=>?_⟩;rw [e9];have d:=c.trans f;refine ⟨_,rfl,r,3,rfl,d.r.same (Same.upd a),by decide,by decide,λ p F m C B=>?_⟩;obtain ⟨v,i,b⟩:=atI_of (xs:=[V.int 1000000000,.int (0 - 1000000000),.int (e - 1000000000)]) C B;refine .inl ⟨l,_,p,v,rfl,rfl,SqL.of (m.k _ _ (d.r.fresh a) upd_same),i,?_⟩;have j:=(d.same (Same.upd (o:=.lst [V.int 1000000000,.int (0 - 1000000000),.int (e - 1000000000)]) a)).trans m;simp only [W0,o0,or_false] at b;rcases b with rfl|rfl|rfl
   ·exact q _ _ j ⟨by decide,by decide⟩
   ·exact q _ _ j ⟨by decide,by decide⟩
   ·exact q _ _ j ⟨by omega,by omega⟩
  ·refine ⟨_,rfl,w_5,λ l a=>⟨_,rfl,r,5,rfl,c.r.same (Same.upd a),by decide,by decide,λ e y f z n=>?_⟩⟩;obtain ⟨v,i,b⟩:=atI_of (xs:=[V.int 0,.int 1,.int 2,.int 3,.int (-1)]) z n;refine .inl ⟨l,_,e,v,rfl,rfl,SqL.of (f.k _ _ (c.r.fresh a) upd_same),i,?_⟩;have d:=(c.same (Same.upd (o:=.lst [V.int 0,.int 1,.int 2,.int 3,.int (-1)]) a)).trans f;simp only [W0,o0,or_false] at b;rcases b with rfl|rfl|rfl|rfl|rfl<;>exact q _ _ d ⟨by decide,by decide⟩
def z7q (K:b0):Sp:=λ vs H Q _=>∃(r:Addr) (k:Str),vs=[.ref r,.str k]/\HandAt H r/\k∈kinds5/\∀p v x d H',Hw r H H'->H' p=some (.tup [.str v,x])->H p=none->DeedOk k v d->IsDt K H' d x->WorthIn H' d x->Q (.ref p) H'
theorem ze4 (T:TX (kx w) mg) (c0:Ca P w mg base "_law_draw" ["hand","limit"] 1 z0z) (c1:Ca P w mg base "_law_worth" ["hand"] 2 z5c):Fo P w mg base CX0 3 381 y1g ["hand","kind"] (z7q (kx w)):=by
 refine (z6g w.params).ok sc__law_act (λ vs H Q E h=>?_) (λ b6 A b7 s H vs Q E f h=>?_)
 ·obtain ⟨r,k,rfl,_⟩:=h;rfl
 ·obtain ⟨r,k,rfl,R,I,q⟩:=h;refine q_of (z0u (qs_set (i:=2) sc__law_act.nd rfl (U0 rfl) (zn4 (zc6 (QE.mk pe_str) (qe_lst (z0l (QE.mk pe_str) (z0l (QE.mk pe_str) qa_nil))) (zc6 (QE.mk pe_str) (qe_lst (z0l (QE.mk pe_str) (z0l (QE.mk pe_str) qa_nil))) (zc6 (QE.mk pe_str) (qe_lst (z0l (QE.mk pe_str) (z0l (QE.mk pe_str) qa_nil))) zmg))) rfl rfl (by simp) (by decide)))
   (z0u (zjh (hu_of f) (QE.mk (pv 2)) (QE.mk pe_str) (qe_lst (z0l (QE.mk pe_str) (z0l (QE.mk pe_str) (z0l (QE.mk pe_str) qa_nil)))) rfl)
   (z0u (zjh (hu_of f) (QE.mk (pv 2)) (QE.mk pe_str) (qe_lst (z0l (QE.mk pe_str) (z0l (QE.mk pe_str) (z0l (QE.mk pe_str) (z0l (QE.mk pe_str) qa_nil))))) rfl)
   (z0u (QS.mk (ps_set (i:=3) sc__law_act.nd rfl (U0 rfl) (pe_ix ix_seq (z2h (hu_of f) (pv 2) (pv 1) (λ _ _=>rfl)) (pe_cal c0 (f.mono (by decide)) rfl (z00 (pv 0) (z00 (z0c z1j rfl (T.no (n_len _)) i4 (z00 (z2h (hu_of f) (pv 2) (pv 1) (λ _ _=>rfl)) pa_nil)) pa_nil))) (λ _ _=>rfl))))
   (z0u (QS.mk (ps_if (z08 z1t (pv 3) (pe_tup (z00 pe_str (z00 pe_str pa_nil))) (by with_unfolding_all rfl))
   (z04 (ps_ret (pe_tup (z00 (pv 3) (z00 pe_non pa_nil)))))
   z0e))
   (z0u (QS.mk (ps_if (z08 opEq (pv 3) pe_str (nomark _))
   (z04 (ps_ret (pe_tup (z00 (pv 3) (z00 (pe_tup (z00 (pe_cal c1 (f.mono (by decide)) rfl (z00 (pv 0) pa_nil)) (z00 (pe_cal c1 (f.mono (by decide)) rfl (z00 (pv 0) pa_nil)) pa_nil))) pa_nil)))))
   z0e))
   (zdd (QS.mk (ps_ret (pe_tup (z00 (pv 3) (z00 (pe_cal c1 (f.mono (by decide)) rfl (z00 (pv 0) pa_nil)) pa_nil)))))))))))) ?_
  refine z0s ?_;intro p hp;refine ⟨w_2,λ J N=>⟨w_2,λ G W=>⟨w_2,λ X S=>?_⟩⟩⟩;obtain ⟨ep,H2,a5,s2,e2,f2⟩:=words3 (H:=H) (k1:="register") (k2:="counter") (k3:="queue") (w1:=["write","read"]) (w2:=["add","read"]) (w3:=["put","take"]) hp N W S (by decide +kernel) (by decide +kernel) (by decide +kernel);refine ⟨ep,[(.inr "register",.ref J),(.inr "counter",.ref G),(.inr "queue",.ref X)],rfl,(show (3:Nat)<=15 by decide),?_⟩;rw [show mergeK [] [((.inr "register" : Key),V.ref J),(.inr "counter",.ref G),(.inr "queue",.ref X)]=[(.inr "register",.ref J),(.inr "counter",.ref G),(.inr "queue",.ref X)] from rfl];refine g_name ?_;refine (show∀A,H2=A->tSeq _ _ _ _ A from ?_) _ a5;intro A u;subst u;refine ⟨w_3,λ l4 h4=>⟨_,rfl,p,_,rfl,DPut.k (k:=.inr "set") ((Same.upd h4) _ _ e2) (show (3:Nat) < sizeLine by decide),?_⟩⟩;obtain ⟨H4,a7,W4,k4⟩:=WordsAt.put (k:="set") (ws:=["put","cut","has"]) h4 e2 (n:=3) (A0 _) f2;refine (show∀A,H4=A->tSeq _ _ _ _ A from ?_) _ a7;intro A u;subst u;obtain ⟨b5,e4,n4,f4⟩:=W4.ex;refine ⟨w_4,λ l5 h5=>⟨_,rfl,p,_,rfl,DPut.k (k:=.inr "cell") ((Same.upd h5) _ _ e4) (B1 n4 (by decide)),?_⟩⟩;obtain ⟨Y,a3,W5,k5⟩:=WordsAt.put (k:="cell") (ws:=["read","write","swap","swap"]) h5 e4 n4 f4;refine (show∀A,Y=A->tSeq _ _ _ _ A from ?_) _ a3;intro A u;subst u;have s5:Same H Y:=zbq (L:=[p]) ((s2.keptL.trans k4).trans k5) (λ l hl=>by rw [List.mem_singleton.mp hl];exact hp);obtain ⟨b4,e5,_,f5⟩:=W5.ex;have O:=R.hw.same s5;have fk:(if k = "cell" then some ["read","write","swap","swap"] else if k = "set" then some ["put","cut","has"] else if k = "register" then some ["write","read"] else if k = "counter" then some ["add","read"] else if k = "queue" then some ["put","take"] else none:Option (List Str))=some (verbsT k):=by have m:=I;unfold kinds5 at m;simp only [W0,o0,or_false] at m;rcases m with rfl|rfl|rfl|rfl|rfl<;>decide +kernel
  obtain ⟨t,v6,x⟩:=f5 k _ fk;have dg:DGet Y p (.str k) (some (.ref t)):=by have:=DGet.k (k:=.inr k) e5;rw [v6] at this;exact this
  refine ⟨_,rfl,_,rfl,p,.ref t,rfl,dg,_,rfl,_,rfl,_,rfl,p,.ref t,rfl,dg,.inl ⟨t,_,rfl,.inl (SqL.of x),?_⟩⟩;have a1:0 < (verbsT k).length/\(verbsT k).length<=4:=by have m:=I;unfold kinds5 at m;simp only [W0,o0,or_false] at m;rcases m with rfl|rfl|rfl|rfl|rfl<;>decide +kernel
  refine ⟨r,_,rfl,O.r,by rw [D0];omega,by rw [D0];omega,λ t7 H7 w7 a4 b3=>?_⟩;obtain ⟨v0,a6,a2⟩:=atI_of (xs:=(verbsT k).map V.str) a4 b3;obtain ⟨v,hv,rfl⟩:=List.mem_map.mp a2;have n6:t≠r:=λ z=>by
   obtain ⟨a,b,c,er,_⟩:=O.r;rw [z,er] at x;cases hws:verbsT k with
   | nil=>rw [hws] at a1;exact absurd a1.1 (by decide)
   | cons y ys=>rw [hws] at x;cases x
  refine .inl ⟨t,_,t7,_,rfl,rfl,SqL.of (w7.k _ _ n6 x),a6,?_⟩;have b1:=O.trans w7;refine ⟨_,rfl,w_2,λ p8 b0=>⟨p8,[V.str "read",.str "take"],rfl,.inr (SqT.of upd_same),rfl,rfl,_,rfl,?_⟩⟩;have iv:inV (.str v) [.str "read",.str "take"]=decide (v∈(["read","take"]:List Str)):=zk4 v ["read","take"];rw [if_neg P0,iv];have d:=b1.same (Same.upd (o:=.tup [.str "read",.str "take"]) b0);generalize upd H7 p8 (.tup [.str "read",.str "take"])=H8 at d⊢;have M :∀{H':Hp} {p':Addr},Hw r H H'->H' p'=none->H p'=none:=λ {H' p'} hw e=>by
   cases z:H p' with
   | none=>rfl
   | some o=>have nr:p'≠r:=hw.r.fresh e;rw [hw.k _ _ nr z] at e;cases e
  rcases zks I hv with ⟨a8,B⟩|⟨hsw,B⟩|⟨N,W,S,B⟩
  ·refine iteP (decide_eq_true (by rcases a8 with rfl|rfl<;>decide +kernel)) ?_;exact ⟨_,rfl,w_2,λ p9 a0=>q p9 v .non .non _ (d.same (Same.upd a0)) upd_same (M d a0) B rfl (λ _ _ e=>by cases e)⟩
  ·subst hsw;refine iteK ⟨_,rfl,rfl,_,rfl,iteP (decide_eq_true rfl) ?_⟩;refine ⟨_,rfl,_,rfl,r,rfl,d.r,λ i H9 C U=>⟨_,rfl,r,rfl,C.r,λ j b8 D nj=>⟨w_2,λ F b2=>⟨w_2,λ K g=>?_⟩⟩⟩⟩;have Z:=Same.upd (o:=.tup [.int i,.int j]) b2;have a9:=Z.trans (Same.upd (o:=.tup [.str "swap",.ref F]) g);have D:=(d.trans C).trans D;exact q K "swap" (.ref F) _ _ (D.same a9) upd_same (M (D.same Z) g) (B i j U nj) (.mkT ((Same.upd g) _ _ upd_same) (.mk2 rfl rfl)) (λ a b e=>by cases e;exact ⟨F,rfl,(Same.upd g) _ _ upd_same⟩)
  ·refine iteN (λ z=>?_) ⟨_,rfl,rfl,_,rfl,iteN (by rw [decide_eq_false λ e=>S (by injection e)];decide) ?_⟩
   ·have:=of_decide_eq_true z;simp only [W0,o0,or_false] at this;rcases this with z|z
    ·exact N z
    ·exact W z
   ·exact ⟨_,rfl,_,rfl,r,rfl,d.r,λ i H9 C U=>⟨w_2,λ K g=>q K v (.int i) _ _ ((d.trans C).same (Same.upd g)) upd_same (M (d.trans C) g) (B i U) rfl (λ _ _ e=>by cases e)⟩⟩
end
section
noncomputable def oStep (os:List Int):Ev->List Int
 | .beg h _ _ _=>os++[h]
 | .fin h _=>os.filter λ k=>decide (k≠h)
noncomputable def oOk (os:List Int):Ev->Prop
 | .beg h _ _ _=>h∉os
 | .fin h _=>h∈os
noncomputable def EWf:List Int->List Ev->Prop
 | _,[]=>True
 | os,e :: es=>oOk os e/\EWf (oStep os e) es
theorem EWf.snoc :∀{es:List Ev} {os:List Int} {e:Ev},EWf os es->oOk (es.foldl oStep os) e->EWf os (es++[e])
 | [],os,e,_,h=>⟨h,trivial⟩
 | x :: es,os,e,w,h=>⟨w.1,EWf.snoc w.2 h⟩
theorem zjb {h:Int} (hs:List Int) :∀{j:Nat},lastI h hs=some j->hs[j]? = some h/\∀k,j < k->hs[k]?≠some h:=by
 suffices key :∀n (hs:List Int),hs.length=n->∀{j:Nat},lastI h hs=some j->hs[j]? = some h/\∀k,j < k->hs[k]?≠some h from λ {j} a=>key _ hs rfl a;intro n;induction n with
 | zero=>intro hs e j a;have:=z8r a;omega
 | succ n ih=>
  intro hs e j a;have d:hs≠[]:=λ z=>by rw [z] at e;cases e
  obtain ⟨b,t,rfl⟩ :∃b t,hs=b++[t]:=⟨hs.dropLast,hs.getLast d,(i5 d).symm⟩
  rw [F0] at e;have e:b.length=n:=by simpa using e
  rw [z4h] at a;by_cases z:t=h
  ·rw [if_pos z] at a;cases a;refine ⟨by simp [z],λ k c=>?_⟩;rw [y4 (by rw [F0];show b.length + 1<=k;omega)];intro y;cases y
  ·rw [if_neg z] at a;obtain ⟨f,g⟩:=ih b e a;have lt:=z8r a;refine ⟨by rw [N2 lt];exact f,λ k c=>?_⟩;by_cases y:k < b.length
   ·rw [N2 y];exact g k c
   ·by_cases y2:k=b.length
    ·subst y2;rw [F2 (A0 _)];simp;exact z
    ·rw [y4 (by rw [F0];show b.length + 1<=k;omega)];intro y;cases y
theorem zhh {h:Int} (hs:List Int) (hm:h∈hs):(lastI h hs).isSome=true:=by
 suffices key :∀n (hs:List Int),hs.length=n->h∈hs->(lastI h hs).isSome=true from key _ hs rfl hm;intro n;induction n with
 | zero=>intro hs e hm;rw [List.length_eq_zero_iff.mp e] at hm;cases hm
 | succ n ih=>
  intro hs e hm;have b:hs≠[]:=λ z=>by rw [z] at e;cases e
  obtain ⟨a,t,rfl⟩ :∃a t,hs=a++[t]:=⟨hs.dropLast,hs.getLast b,(i5 b).symm⟩
  rw [F0] at e;rw [z4h];by_cases z:t=h
  ·rw [if_pos z];rfl
  ·rw [if_neg z];refine ih a (by simpa using e) ?_;rcases List.mem_append.mp hm with y|y
   ·exact y
   ·exact absurd (List.mem_singleton.mp y).symm z
structure DInv (i:Nat) (rs:List Rc) (os:List Int):Prop where
 b :∀r∈rs,r.b < i
 e :∀r∈rs,∀e,r.e=some e->e < i
 p :∀(x y:Nat) (r q:Rc),x < y->rs[x]? = some r->rs[y]? = some q->r.b < q.b/\(r.h=q.h->∃e,r.e=some e/\e < q.b)
 o :∀r∈rs,r.h∉os->r.e.isSome=true
 m :∀h∈os,h∈rs.map Rc.h
theorem DInv.nil:DInv 0 [] []:=⟨λ _ h=>(by cases h),λ _ h=>(by cases h),λ x y r q _ h=>(by simp at h),λ _ h=>(by cases h),λ _ h=>(by cases h)⟩
theorem zh9 {rs:List Rc} {j:Nat} {f:Rc->Rc} (hf :∀r,(f r).h=r.h):(rs.modify j f).map Rc.h=rs.map Rc.h:=by
 apply L4;intro m;rw [K0,K0,L5];cases rs[m]? with
 | none=>rfl
 | some r=>
  show some (if j=m then f r else r).h=some r.h;by_cases z:j=m
  ·rw [if_pos z,hf]
  ·rw [if_neg z]
theorem DInv.step {i:Nat} {rs:List Rc} {os:List Int} (I:DInv i rs os) {e:Ev} (ok:oOk os e):DInv (i + 1) (dstep i rs e) (oStep os e)/\∀h a,e=.fin h a->(lastI h (rs.map Rc.h)).isSome=true:=by
 cases e with
 | beg h n v x=>
  have ok:h∉os:=ok;refine ⟨⟨λ r d=>?_,λ r d e c=>?_,λ u g r q E K D=>?_,λ r d A=>?_,λ k O=>?_⟩,λ h a e=>by cases e⟩
  ·rcases List.mem_append.mp d with z|z
   ·have:=I.b r z;omega
   ·rw [List.mem_singleton.mp z];exact V1 i
  ·rcases List.mem_append.mp d with z|z
   ·have:=I.e r z e c;omega
   ·rw [List.mem_singleton.mp z] at c;cases c
  ·have a1:g < (dstep i rs (.beg h n v x)).length:=(List.getElem?_eq_some_iff.mp D).1;have hl:(dstep i rs (.beg h n v x)).length=rs.length + 1:=by show (rs++[_]).length=_;rw [F0];rfl
   have R:rs[u]? = some r:=by
    have:(rs++[_])[u]? = some r:=K
    rwa [N2 (by omega)] at this
   by_cases z:g < rs.length
   ·have a0:rs[g]? = some q:=by
     have:(rs++[_])[g]? = some q:=D
     rwa [N2 z] at this
    exact I.p u g r q E R a0
   ·have L:(rs++[_])[g]? = some q:=D;have ey:g=rs.length:=by omega
    subst ey;rw [F2 (A0 _)] at L;simp at L;have F:=G0 R;rw [<-L];refine ⟨I.b r F,λ B=>?_⟩;have:r.e.isSome=true:=I.o r F (by rw [B];exact ok);obtain ⟨e,c⟩:=Option.isSome_iff_exists.mp this;exact ⟨e,c,I.e r F e c⟩
  ·rcases List.mem_append.mp d with z|z
   ·exact I.o r z λ y=>A (List.mem_append.mpr (.inl y))
   ·rw [List.mem_singleton.mp z] at A;exact absurd (List.mem_append.mpr (.inr (List.mem_singleton.mpr rfl))) A
  ·show k∈(rs++[_]).map Rc.h;rw [j1];rcases List.mem_append.mp O with z|z
   ·exact List.mem_append.mpr (.inl (I.m k z))
   ·rw [List.mem_singleton.mp z];exact List.mem_append.mpr (.inr (List.mem_singleton.mpr rfl))
 | fin h a=>
  have ok:h∈os:=ok;obtain ⟨j,G⟩:=Option.isSome_iff_exists.mp (zhh _ (I.m h ok));refine ⟨?_,λ h' a' e=>by cases e;rw [G];rfl⟩;obtain ⟨T,S⟩:=zjb _ G;have Z:dstep i rs (.fin h a)=rs.modify j (λ r=>{ r with a:=a,e:=some i }):=by unfold dstep;dsimp only;rw [G]
  rw [Z];have hs:oStep os (.fin h a)=os.filter λ k=>decide (k≠h):=rfl;rw [hs];rw [K0] at T;obtain ⟨rj,W,U⟩:=Option.map_eq_some_iff.mp T;have get :∀m q,(rs.modify j (λ r=>{ r with a:=a,e:=some i }))[m]? = some q->∃r,rs[m]? = some r/\q.h=r.h/\q.b=r.b/\(m=j->q.e=some i)/\(m≠j->q=r):=λ m q V=>by
   rw [L5] at V;obtain ⟨r,d,e⟩:=Option.map_eq_some_iff.mp V;refine ⟨r,d,?_⟩;by_cases z:j=m
   ·rw [if_pos z] at e;rw [<-e];exact ⟨rfl,rfl,λ _=>rfl,λ y=>absurd z.symm y⟩
   ·rw [if_neg z] at e;rw [<-e];exact ⟨rfl,rfl,λ y=>absurd y.symm z,λ _=>rfl⟩
  refine ⟨λ r d=>?_,λ r d e c=>?_,λ u g r q E K D=>?_,λ r d A=>?_,λ k O=>?_⟩
  ·obtain ⟨m,C⟩:=List.mem_iff_getElem?.mp d;obtain ⟨s,t,_,h3,_⟩:=get m r C;have:=I.b s (G0 t);omega
  ·obtain ⟨m,C⟩:=List.mem_iff_getElem?.mp d;obtain ⟨s,t,_,_,N,M⟩:=get m r C;by_cases z:m=j
   ·rw [N z] at c;cases c;exact V1 i
   ·rw [M z] at c;have:=I.e s (G0 t) e c;omega
  ·obtain ⟨s,J,r2,r3,r4,Y⟩:=get u r K;obtain ⟨X,P,Q,q3,_⟩:=get g q D;obtain ⟨p1,H⟩:=I.p u g s X E J P;refine ⟨by omega,λ B=>?_⟩;by_cases z:u=j
   ·subst z;rw [W] at J;cases J;refine absurd ?_ (S g E);rw [K0,P];show some X.h=some h;rw [<-Q,<-B,r2,U]
   ·rw [Y z] at B⊢;rw [Q] at B;obtain ⟨e,c,lt⟩:=H B;exact ⟨e,c,by omega⟩
  ·obtain ⟨m,C⟩:=List.mem_iff_getElem?.mp d;obtain ⟨s,t,h2,_,N,M⟩:=get m r C;by_cases z:m=j
   ·rw [N z];rfl
   ·rw [M z] at A⊢;by_cases y:s.h=h
    ·have lt:m < j:=by
      rcases Nat.lt_or_gt_of_ne z with l|l
      ·exact l
      ·exact absurd (by rw [K0,t];show some s.h=_;rw [y]) (S m l)
     obtain ⟨_,H⟩:=I.p m j s rj lt t W;obtain ⟨e,c,_⟩:=H (by rw [y,U]);rw [c];rfl
    ·exact I.o s (G0 t) λ w=>A (List.mem_filter.mpr ⟨w,decide_eq_true y⟩)
  ·rw [zh9 (f:=λ r=>{ r with a:=a,e:=some i }) (λ r=>rfl)];exact I.m k (List.mem_filter.mp O).1
theorem DInv.all :∀{es:List Ev} {i:Nat} {rs:List Rc} {os:List Int},DInv i rs os->EWf os es->dWf i rs es/\∃os',DInv (i + es.length) (dAll i rs es) os'
 | [],i,rs,os,I,_=>⟨trivial,os,I⟩
 | e :: es,i,rs,os,I,w=>by obtain ⟨c,a⟩:=I.step w.1;obtain ⟨d,os',b⟩:=DInv.all c w.2;refine ⟨⟨a,d⟩,os',?_⟩;rw [Z0,show i + (es.length + 1)=i + 1 + es.length by omega];exact b
theorem zde {kvs:List (Key×V)} {k j:Key} (h:j≠k):valV (dropK kvs k) j=valV kvs j:=by
 induction kvs with
 | nil=>rfl
 | cons p r ih=>
  by_cases z:p.1=k
  ·rw [zck z,ih];have:p.1≠j:=λ y=>h (y.symm.trans z);obtain ⟨a,pv⟩:=p;exact (z0p this).symm
  ·rw [zcv z];obtain ⟨a,pv⟩:=p;by_cases y:a=j
   ·subst y;rw [z0t rfl,z0t rfl]
   ·rw [z0p y,z0p y,ih]
theorem zcg {kvs:List (Key×V)} {h:Int} :∀{os:List Int},kvs.map (·.1)=os.map Sum.inl->(dropK kvs (.inl h)).map (·.1)=(os.filter λ k=>decide (k≠h)).map Sum.inl:=by
 induction kvs with
 | nil=>intro os e;cases os with|nil=>rfl|cons o os=>cases e
 | cons p r ih=>
  intro os e;cases os with
  | nil=>cases e
  | cons o os=>
   rw [R0,R0] at e;injection e with e1 e2;by_cases z:o=h
   ·rw [zck (by rw [e1,z]),g8 (by simp [z])];exact ih e2
   ·rw [zcv (by rw [e1];exact λ y=>z (Q3 y)),d8 (by simp [z]),R0,R0,e1,ih e2]
theorem valV_isSome {kvs:List (Key×V)} {k:Key}:(valV kvs k).isSome=true↔k∈kvs.map (·.1):=by
 induction kvs with
 | nil=>simp [valV]
 | cons p r ih=>
  obtain ⟨a,pv⟩:=p;by_cases y:a=k
  ·subst y;rw [z0t rfl];simp
  ·rw [z0p y,ih,R0,W0];exact ⟨λ z=>.inr z,λ z=>z.resolve_left λ x=>y x.symm⟩
theorem z6n {kvs:List (Key×V)} {k:Key} {v:V} (h:k∉kvs.map (·.1)):putK kvs k v=kvs++[(k,v)]:=by unfold putK;rw [if_neg];intro z;obtain ⟨p,a,e⟩:=List.any_eq_true.mp z;exact h (List.mem_map.mpr ⟨p,a,of_decide_eq_true e⟩)
theorem z7i {α β:Type} {R S:α->β->Prop} :∀{xs:List α} {ys:List β},(∀a b,b∈ys->R a b->S a b)->All2 R xs ys->All2 S xs ys
 | _,_,_,.nil=>.nil
 | _,_,h,.cons a r=>.cons (h _ _ Q0 a) (z7i (λ x y c z=>h x y (Y0 _ c) z) r)
theorem z0w {α β:Type} {R:α->β->Prop} :∀{xs:List α} {ys:List β},ys.length=xs.length->(∀(k:Nat) a b,xs[k]? = some a->ys[k]? = some b->R a b)->All2 R xs ys
 | [],[],_,_=>.nil
 | [],y :: ys,h,_=>by cases h
 | x :: xs,[],h,_=>by cases h
 | x :: xs,y :: ys,h,f=>.cons (f 0 x y rfl rfl) (z0w (by simpa using h) λ k a b c d=>f (k + 1) a b (by rw [E2];exact c) (by rw [E2];exact d))
end
section
theorem z41 {m:Nat} {rs:List Rc} {a b:Nat} {r q:Rc} (ha:rs[a]? = some r) (hb:rs[b]? = some q):z0j m rs a b=aheadB m r q:=by unfold z0j;rw [ha,hb]
theorem DInv.hands {i:Nat} {rs:List Rc} {os:List Int} (I:DInv i rs os) {a b:Nat} {r q:Rc} (ha:rs[a]? = some r) (hb:rs[b]? = some q):aheadB 1 r q=(decide (a < b) && decide (r.h=q.h)):=by
 show (decide (r.h=q.h) && decide (r.b < q.b))=_;rw [Bool.and_comm];congr 1;apply decide_eq_decide.mpr;constructor
 ·intro lt;rcases V7 a b with l|l|l
  ·exact l
  ·subst l;rw [ha] at hb;cases hb;omega
  ·have:=(I.p b a q r l hb ha).1;omega
 ·exact λ l=>(I.p a b r q l ha hb).1
theorem mem_pairsTo {m:Nat} {rs:List Rc} {p:Nat×Nat} {n:Nat}:p∈z1o m rs n↔p.1 < n/\p.2 < rs.length/\z0j m rs p.1 p.2=true:=by
 unfold z1o rowTo;rw [List.mem_flatMap];constructor
 ·rintro ⟨a,ha,h⟩;obtain ⟨b,e,rfl⟩:=List.mem_map.mp h;obtain ⟨c,d⟩:=List.mem_filter.mp e;exact ⟨List.mem_range.mp ha,List.mem_range.mp c,d⟩
 ·rintro ⟨c,d,h3⟩;exact ⟨p.1,List.mem_range.mpr c,List.mem_map.mpr ⟨p.2,List.mem_filter.mpr ⟨List.mem_range.mpr d,h3⟩,rfl⟩⟩
end
section
inductive Sv
 | num (i:Int)
 | row (ns:List Int)
def rowK (k:Str):Prop:=k = "queue"\/k = "set"
instance (k:Str):Decidable (rowK k):=by unfold rowK;infer_instance
noncomputable def opOf (k v:Str):Nat:=if k = "queue" then (if v = "put" then 0 else 1) else if k = "set" then (if v = "put" then 2 else if v = "cut" then 3 else 4) else if v = "read" then 5 else if v = "add" then 6 else if v = "write" then 7 else 8
noncomputable def dI:Dt->Int
 | .int i=>i
 | _=>0
noncomputable def srtI (ns:List Int):List Int:=ns.mergeSort λ a b=>decide (a<=b)
noncomputable def dzo:Nat->Dt->Sv->Sv×V
 | 0,d,.row ns=>(.row (ns++[dI d]),.str "ok")
 | 1,_,.row []=>(.row [],.str "none")
 | 1,_,.row (m :: r)=>(.row r,.int m)
 | 2,d,.row ns=>if dI d∈ns then (.row ns,.int 0) else (.row (srtI (ns++[dI d])),.int 1)
 | 3,d,.row ns=>(.row (ns.filter λ j=>!decide (j=dI d)),.int (if dI d∈ns then 1 else 0))
 | 4,d,.row ns=>(.row ns,.int (if dI d∈ns then 1 else 0))
 | 5,_,.num i=>(.num i,.int i)
 | 6,d,.num i=>(.num (i + dI d),.int i)
 | 7,d,.num _=>(.num (dI d),.str "ok")
 | 8,.tup [.int a,.int b],.num i=>if i=a then (.num b,.int 1) else (.num i,.int 0)
 | _,_,s=>(s,.non)
noncomputable def dz (k v:Str) (d:Dt) (s:Sv):Sv×V:=dzo (opOf k v) d s
theorem dz_at {k v:Str} {d:Dt} {s:Sv} {n:Nat} (h:opOf k v=n):dz k v d s=dzo n d s:=by unfold dz;rw [h]
theorem dz_quP {i:Int} {ns:List Int}:dz "queue" "put" (.int i) (.row ns)=(.row (ns++[i]),.str "ok"):=dz_at (n:=0) (by decide +kernel)
theorem zhl {d:Dt}:dz "queue" "take" d (.row [])=(.row [],.str "none"):=dz_at (n:=1) (by decide +kernel)
theorem dz_quT {d:Dt} {m:Int} {r:List Int}:dz "queue" "take" d (.row (m :: r))=(.row r,.int m):=dz_at (n:=1) (by decide +kernel)
theorem zgc {i:Int} {ns:List Int}:dz "set" "put" (.int i) (.row ns)=if i∈ns then (.row ns,.int 0) else (.row (srtI (ns++[i])),.int 1):=dz_at (n:=2) (by decide +kernel)
theorem zfj {i:Int} {ns:List Int}:dz "set" "cut" (.int i) (.row ns)=(.row (ns.filter λ j=>!decide (j=i)),.int (if i∈ns then 1 else 0)):=dz_at (n:=3) (by decide +kernel)
theorem zen {i:Int} {ns:List Int}:dz "set" "has" (.int i) (.row ns)=(.row ns,.int (if i∈ns then 1 else 0)):=dz_at (n:=4) (by decide +kernel)
theorem zfa {d:Dt} {i:Int}:dz "register" "read" d (.num i)=(.num i,.int i):=dz_at (n:=5) (by decide +kernel)
theorem zfc {d:Dt} {i:Int}:dz "counter" "read" d (.num i)=(.num i,.int i):=dz_at (n:=5) (by decide +kernel)
theorem zfs {d:Dt} {i:Int}:dz "cell" "read" d (.num i)=(.num i,.int i):=dz_at (n:=5) (by decide +kernel)
theorem zgh {i j:Int}:dz "counter" "add" (.int j) (.num i)=(.num (i + j),.int i):=dz_at (n:=6) (by decide +kernel)
theorem zgu {i j:Int}:dz "register" "write" (.int j) (.num i)=(.num j,.str "ok"):=dz_at (n:=7) (by decide +kernel)
theorem zh1 {i j:Int}:dz "cell" "write" (.int j) (.num i)=(.num j,.str "ok"):=dz_at (n:=7) (by decide +kernel)
theorem zew {i a b:Int}:dz "cell" "swap" (.tup [.int a,.int b]) (.num i)=if i=a then (.num b,.int 1) else (.num i,.int 0):=dz_at (n:=8) (by decide +kernel)
theorem z90 (ns:List Int):(srtI ns).Perm ns:=List.mergeSort_perm ns _
theorem z56 (ns:List Int):(srtI ns).Pairwise (·<=·):=by have:=j2b (le:=λ a b:Int=>decide (a<=b)) (λ a b c d e=>decide_eq_true (Int.le_trans (of_decide_eq_true d) (of_decide_eq_true e))) (λ a b=>by rcases Int.le_total a b with h|h<;>simp [h]) ns;exact this.imp λ h=>of_decide_eq_true h
theorem z8g {xs ys:List Int} (p:xs.Perm ys) (hx:xs.Pairwise (·<=·)) (hy:ys.Pairwise (·<=·)):xs=ys:=p.eq_of_pairwise (le:=(·<=·)) (λ _ _ _ _ a b=>Int.le_antisymm a b) hx hy
theorem zfo {ns:List Int} {i:Int} (h:i∉ns):addI ns i=ns++[i]:=by unfold addI;rw [if_neg h]
theorem zlf {ns:List Int} {i:Int} (h:i∈ns):addI ns i=ns:=by unfold addI;rw [if_pos h]
theorem z63 :∀(ns acc:List Int),(acc++ns).Nodup->ns.foldl addI acc=acc++ns
 | [],acc,_=>(Y1 acc).symm
 | n :: ns,acc,h=>by
  have a:n∉acc:=λ z=>by have:=(List.nodup_append.mp h).2.2 n z n Q0;exact this rfl
  rw [X3,zfo a,z63 ns (acc++[n]) (by rw [K3];exact h),K3];rfl
theorem zca {ns:List Int} (h:ns.Pairwise (· < ·)):ns.Nodup:=h.imp λ z e=>by omega
theorem znb {ns ns':List Int} {i:Int} (hs:ns.Pairwise (· < ·)) (hi:i∈ns) (pm:ns'.Perm ((ns++[i]).foldl addI [])) (pw:ns'.Pairwise (·<=·)):ns'=ns:=by rw [K4,z63 ns [] (zca hs)] at pm;rw [show [i].foldl addI ([]++ns)=ns from zlf hi] at pm;exact z8g pm pw (hs.imp λ h=>Int.le_of_lt h)
theorem zn9 {ns ns':List Int} {i:Int} (hs:ns.Pairwise (· < ·)) (hi:i∉ns) (pm:ns'.Perm ((ns++[i]).foldl addI [])) (pw:ns'.Pairwise (·<=·)):ns'=srtI (ns++[i]):=by rw [K4,z63 ns [] (zca hs)] at pm;rw [show [i].foldl addI ([]++ns)=ns++[i] from zfo hi] at pm;exact z8g (pm.trans (z90 _).symm) pw (z56 _)
noncomputable def SvOk (n:Nat) (k:Str):Sv->Prop
 | .row ns=>rowK k/\ns.length<=n/\(∀i∈ns,near i)/\(k = "set"->ns.Pairwise (· < ·))
 | .num i=>¬ rowK k/\-(1000000000 * (n:Int))<=i/\i<=1000000000 * (n:Int)
def AnsV (a:V):Prop:=a=.str "ok"\/a=.str "none"\/∃i:Int,a=.int i/\-100000000000<=i/\i<=100000000000
theorem SvOk.le {n m:Nat} {k:Str} :∀{s:Sv},n<=m->SvOk n k s->SvOk m k s
 | .row _,l,h=>⟨h.1,C0 h.2.1 l,h.2.2⟩
 | .num _,l,h=>⟨h.1,by have:=h.2.1;omega,by have:=h.2.2;omega⟩
theorem SvOk.isRow {n:Nat} {k:Str} :∀{s:Sv},SvOk n k s->rowK k->∃ns,s=.row ns/\ns.length<=n/\(∀i∈ns,near i)/\(k = "set"->ns.Pairwise (· < ·))
 | .row ns,h,_=>⟨ns,rfl,h.2⟩
 | .num _,h,hk=>absurd hk h.1
theorem SvOk.isNum {n:Nat} {k:Str} :∀{s:Sv},SvOk n k s->¬ rowK k->∃i,s=.num i/\-(1000000000 * (n:Int))<=i/\i<=1000000000 * (n:Int)
 | .row _,h,hk=>absurd h.1 hk
 | .num i,h,_=>⟨i,rfl,h.2⟩
theorem SvOk.row {n:Nat} {k:Str} {ns:List Int} (h1:rowK k) (h2:ns.length<=n) (h3 :∀i∈ns,near i) (h4:k = "set"->ns.Pairwise (· < ·)):SvOk n k (.row ns):=⟨h1,h2,h3,h4⟩
theorem SvOk.num {n:Nat} {k:Str} {i:Int} (h1:¬ rowK k) (h2:-(1000000000 * (n:Int))<=i) (h3:i<=1000000000 * (n:Int)):SvOk n k (.num i):=⟨h1,h2,h3⟩
theorem z1m {i:Int} (h0:-100000000000<=i) (h1:i<=100000000000):AnsV (.int i):=.inr (.inr ⟨i,rfl,h0,h1⟩)
theorem ans_b {p:Prop} [Decidable p]:AnsV (.int (if p then 1 else 0)):=by
 by_cases h:p
 ·rw [if_pos h];exact z1m (by decide) (by decide)
 ·rw [if_neg h];exact z1m (by decide) (by decide)
theorem dz_ok {n:Nat} {k v:Str} {d:Dt} {s:Sv} (hd:DeedOk k v d) (h:SvOk n k s) (hn:n < 63):SvOk (n + 1) k (dz k v d s).1/\AnsV (dz k v d s).2:=by
 have t:rowK "queue":=.inl rfl;have p:rowK "set":=.inr rfl;have x:("queue" : Str)≠"set":=by decide +kernel
 have u:¬ rowK "register":=by decide +kernel
 have w:¬ rowK "counter":=by decide +kernel
 have q:¬ rowK "cell":=by decide +kernel
 cases hd with
 | quP ni=>
  obtain ⟨g,rfl,f,c,o⟩:=h.isRow t;rw [dz_quP];refine ⟨.row t (by rw [F0];exact Y5 f) (λ j l=>?_) λ z=>absurd z x,.inl rfl⟩;rcases List.mem_append.mp l with y|y
  ·exact c j y
  ·rw [List.mem_singleton.mp y];exact ni
 | quT=>
  obtain ⟨g,rfl,f,c,o⟩:=h.isRow t;cases g with
  | nil=>rw [zhl];exact ⟨.row t (X1 _) (λ j l=>by cases l) (λ z=>absurd z x),.inr (.inl rfl)⟩
  | cons m r=>rw [dz_quT];rw [Z0] at f;have B:=c m Q0;exact ⟨.row t (by omega) (λ j l=>c j (Y0 _ l)) (λ z=>absurd z x),z1m (by have:=B.1;omega) (by have:=B.2;omega)⟩
 | setP ni=>
  rename_i i;obtain ⟨g,rfl,f,c,o⟩:=h.isRow p;rw [zgc];by_cases z:i∈g
  ·rw [if_pos z];exact ⟨.row p (G6 f) c o,z1m (by decide) (by decide)⟩
  ·rw [if_neg z];have A:=z90 (g++[i]);refine ⟨.row p (by rw [A.length_eq,F0];exact Y5 f) (λ j l=>?_) (λ _=>?_),z1m (by decide) (by decide)⟩
   ·rcases List.mem_append.mp (A.mem_iff.mp l) with y|y
    ·exact c j y
    ·rw [List.mem_singleton.mp y];exact ni
   ·have C:(srtI (g++[i])).Nodup:=A.nodup_iff.mpr (by rw [A6];exact ⟨zca (o rfl),by simp,λ a D b E e=>z (by rw [<-List.mem_singleton.mp E,<-e];exact D)⟩);exact ((z56 (g++[i])).and C).imp λ h=>by have:=h.1;have:=h.2;omega
 | setC ni=>obtain ⟨g,rfl,f,c,o⟩:=h.isRow p;rw [zfj];exact ⟨.row p (C0 (D2 _ _) (G6 f)) (λ j l=>c j (List.mem_filter.mp l).1) (λ z=>(o z).filter _),ans_b⟩
 | setH ni=>obtain ⟨g,rfl,f,c,o⟩:=h.isRow p;rw [zen];exact ⟨.row p (G6 f) c o,ans_b⟩
 | regR=>obtain ⟨a,rfl,f,c⟩:=h.isNum u;rw [zfa];exact ⟨.num u (by omega) (by omega),z1m (by omega) (by omega)⟩
 | cntR=>obtain ⟨a,rfl,f,c⟩:=h.isNum w;rw [zfc];exact ⟨.num w (by omega) (by omega),z1m (by omega) (by omega)⟩
 | celR=>obtain ⟨a,rfl,f,c⟩:=h.isNum q;rw [zfs];exact ⟨.num q (by omega) (by omega),z1m (by omega) (by omega)⟩
 | cntA ni=>obtain ⟨a,rfl,f,c⟩:=h.isNum w;rw [zgh];have:=ni.1;have:=ni.2;exact ⟨.num w (by omega) (by omega),z1m (by omega) (by omega)⟩
 | regW ni=>obtain ⟨a,rfl,f,c⟩:=h.isNum u;rw [zgu];have:=ni.1;have:=ni.2;exact ⟨.num u (by omega) (by omega),.inl rfl⟩
 | celW ni=>obtain ⟨a,rfl,f,c⟩:=h.isNum q;rw [zh1];have:=ni.1;have:=ni.2;exact ⟨.num q (by omega) (by omega),.inl rfl⟩
 | celS ni nj=>
  rename_i i j;obtain ⟨a,rfl,f,c⟩:=h.isNum q;rw [zew];have:=nj.1;have:=nj.2;by_cases z:a=i
  ·rw [if_pos z];exact ⟨.num q (by omega) (by omega),z1m (by decide) (by decide)⟩
  ·rw [if_neg z];exact ⟨.num q (by omega) (by omega),z1m (by decide) (by decide)⟩
noncomputable def StZ (K:b0) (H:Hp):Sv->V->Prop
 | .row ns,v=>∃p,v=.ref p/\SqT K H p (ns.map V.int)
 | .num i,v=>v=.int i
theorem StZ.tups {K:b0} {H H':Hp} (t:Tups K H H') :∀{s:Sv} {v:V},StZ K H s v->StZ K H' s v
 | .row _,_,h=>h.elim λ p z=>⟨p,z.1,t _ _ z.2⟩
 | .num _,_,h=>h
def StAt (K:b0) (H:Hp) (n:Nat) (k:Str) (v:V):Prop:=∃s,SvOk n k s/\StZ K H s v
theorem StAt.tups {K:b0} {H H':Hp} {n:Nat} {k:Str} {v:V} (t:Tups K H H') (h:StAt K H n k v):StAt K H' n k v:=h.elim λ s z=>⟨s,z.1,z.2.tups t⟩
theorem StAt.le {K:b0} {H:Hp} {n m:Nat} {k:Str} {v:V} (l:n<=m) (h:StAt K H n k v):StAt K H m k v:=h.elim λ s z=>⟨s,z.1.le l,z.2⟩
noncomputable def zeroK (k:Str):Sv:=if rowK k then .row [] else .num 0
theorem zbi (k:Str):SvOk 0 k (zeroK k):=by
 unfold zeroK;by_cases h:rowK k
 ·rw [if_pos h];exact .row h (A0 _) (λ i a=>by cases a) (λ _=>.nil)
 ·rw [if_neg h];exact .num h (by omega) (by omega)
end
section
variable {P:Program} {w:S0} {mg:Str->Option Value} {base:Heap}
def z2u (K:b0):Sp:=λ vs H Q _=>∃(k:Str),vs=[.str k]/\∀v H',Same H H'->StZ K H' (zeroK k) v->Q v H'
theorem z9y (T:TX (kx w) mg):Fo P w mg base CX0 1 362 y0q ["kind"] (z2u (kx w)):=by
 refine (z3w w.params).ok z9v (λ g H Q E h=>?_) (λ i A l s H g Q E j h=>?_)
 ·obtain ⟨k,rfl,_⟩:=h;rfl
 ·obtain ⟨k,rfl,q⟩:=h;refine ⟨_,(z02 (ps_if (z08 z1t (pv 0) (pe_tup (z00 pe_str (z00 pe_str pa_nil))) (by with_unfolding_all rfl))
   (z04 (ps_ret (pe_tup pa_nil)))
   z0e)
   (z04 (ps_ret pe_int))),?_⟩
  refine ⟨_,rfl,w_2,λ p e=>⟨p,[V.str "queue",.str "set"],rfl,.inr (SqT.of upd_same),rfl,rfl,_,rfl,?_⟩⟩;have d:inV (.str k) [.str "queue",.str "set"]=decide (k∈(["queue","set"]:List Str)):=zk4 k ["queue","set"];rw [if_neg P0,d];have b:=Same.upd (o:=.tup [.str "queue",.str "set"]) e;by_cases z:k∈(["queue","set"]:List Str)
  ·refine iteP (decide_eq_true z) ⟨w_0,λ f c=>?_⟩;have a:rowK k:=by simpa [rowK] using z
   exact q _ _ (b.trans (Same.upd c)) (by unfold zeroK;rw [if_pos a];exact ⟨f,rfl,SqT.of upd_same⟩)
  ·refine iteN (by rw [decide_eq_false z];decide) ?_;exact q _ _ b (by unfold zeroK;rw [if_neg λ a=>z (by simpa [rowK] using a)];rfl)
def z29 (K:b0):Sp:=λ vs H Q _=>∃(k v:Str) (st x:V) (d:Dt) (n:Nat) (sv:Sv),vs=[.str k,st,.str v,x]/\SvOk n k sv/\StZ K H sv st/\n < 63/\DeedOk k v d/\IsDt K H d x/\WorthIn H d x/\∀p st' H',Same H H'->H' p=some (.tup [st',(dz k v d sv).2])->StZ K H' (dz k v d sv).1 st'->Q (.ref p) H'
theorem zc2 (T:TX (kx w) mg):Fo P w mg base CX0 1 367 y13 ["kind","state","verb","worth"] (z29 (kx w)):=by
 refine (z4y w.params).ok sc__law_does (λ vs H Q E h=>?_) (λ a9 A b0 s H vs Q E hr h=>?_)
 ·obtain ⟨k,v,U,x,d,n,sv,rfl,_⟩:=h;rfl
 ·obtain ⟨k,v,U,x,d,n,sv,rfl,B,sz,hn,hd,I,wi,q⟩:=h;refine ⟨_,(z02 (ps_if (z08 opEq (pv 0) pe_str (nomark _))
   (z02 (ps_if (z08 opEq (pv 2) pe_str (nomark _))
   (z04 (ps_ret (pe_tup (z00 (pe_op op_catS (pv 1) (pe_tup (z00 (pv 3) pa_nil))) (z00 pe_str pa_nil)))))
   z0e)
   (z04 (ps_ret (pe_tup (z00 (z2x slSeqW (pv 1) (z4p pe_int) z5z) (z00 (pe_ix ix_seq (pe_op op_catS (pv 1) (pe_tup (z00 pe_str pa_nil))) pe_int (λ _ _=>rfl)) pa_nil))))))
   z0e)
   (z02 (ps_if (z08 opEq (pv 0) pe_str (nomark _))
   (z02 (ps_set (i:=4) sc__law_does.nd rfl (U0 rfl) (z0g z84 rfl (T.no (n_int _)) j35 (z00 (z0v z1t (pv 3) (pv 1) (by with_unfolding_all rfl)) pa_nil)))
   (z02 (ps_if (z08 opEq (pv 2) pe_str (nomark _))
   (z04 (ps_ret (pe_tup (z00 (z0g z0n rfl (T.no (z4n _)) F6 (z00 (zaw rfl rfl (T.no (z8c _)) rfl (T.no (n_set _)) j1g boot_set (pe_op op_catS (pv 1) (pe_tup (z00 (pv 3) pa_nil)))) pa_nil)) (z00 (pe_op op_sub pe_int (pv 4)) pa_nil)))))
   z0e)
   (z02 (ps_if (z08 opEq (pv 2) pe_str (nomark _))
   (z04 (ps_ret (pe_tup (z00 (z0g z0n rfl (T.no (z4n _)) F6 (z00 (pe_cg (xs:=["one"]) (g:=gName 0) (fr:=[(3,"worth")]) (pi_tup (pv 1)) (λ _ _ _ _ _=>(pg_cn (N:=["one","worth"]) 0)) (λ _ _ _ _ _=>(pf_one (z08 opNe (pv 0) (pv 1) (nomark _)))) (λ _ _ _ _ _=>(pv 0))) pa_nil)) (z00 (pv 4) pa_nil)))))
   z0e)
   (z04 (ps_ret (pe_tup (z00 (pv 1) (z00 (pv 4) pa_nil))))))))
   z0e)
   (z02 (ps_if (z08 opEq (pv 2) pe_str (nomark _))
   (z04 (ps_ret (pe_tup (z00 (pv 1) (z00 (pv 1) pa_nil)))))
   z0e)
   (z02 (ps_if (z08 opEq (pv 2) pe_str (nomark _))
   (z04 (ps_ret (pe_tup (z00 (pe_op opAdd (pv 1) (pv 3)) (z00 (pv 1) pa_nil)))))
   z0e)
   (z02 (ps_if (z08 opEq (pv 2) pe_str (nomark _))
   (z04 (ps_ret (pe_tup (z00 (pv 3) (z00 pe_str pa_nil)))))
   z0e)
   (z04 (ps_ret (pe_tup (z00 (pe_ix ix_seq (pe_lst (z00 (pv 1) (z00 (pe_ix ix_seq (pv 3) pe_int (λ _ _=>rfl)) pa_nil))) (z0g z84 rfl (T.no (n_int _)) j35 (z00 (z0v opEq (pv 1) (pe_ix ix_seq (pv 3) pe_int (λ _ _=>rfl)) (nomark _)) pa_nil)) (λ _ _=>rfl)) (z00 (z0g z84 rfl (T.no (n_int _)) j35 (z00 (z0v opEq (pv 1) (pe_ix ix_seq (pv 3) pe_int (λ _ _=>rfl)) (nomark _)) pa_nil)) pa_nil)))))))))),?_⟩
  have big :∀{b:List Int},b.length<=n->(b.map V.int).length + 1<=sizeLine:=λ l=>by rw [D0];exact C0 (m:=64) (by omega) (by decide)
  have a4 :∀(b:List Int) (i:Int),b.map V.int++[V.int i]=(b++[i]).map V.int:=λ b i=>by rw [j1];rfl
  have a3:rowK "queue":=.inl rfl;have a2:rowK "set":=.inr rfl;cases hd with
  | quP ni=>rename_i i;obtain ⟨b,rfl,F,_,_⟩:=B.isRow a3;obtain ⟨t,rfl,f⟩:=sz;cases (show x=V.int i from I);refine ⟨_,rfl,rfl,_,rfl,iteP (decide_eq_true rfl) ⟨_,rfl,rfl,_,rfl,iteP (decide_eq_true rfl) ?_⟩⟩;refine ⟨_,rfl,_,rfl,w_1,λ G O=>?_⟩;have e:=Same.upd (o:=.tup [.int i]) O;refine ⟨t,G,b.map V.int,[.int i],rfl,rfl,e.seqT f,SqT.of upd_same,by simp,big F,λ L H2 C D=>?_⟩;rw [a4] at D;rw [dz_quP] at q;exact ⟨w_2,λ W M=>q W _ _ ((e.trans C).trans (Same.upd M)) upd_same ⟨L,rfl,(Same.upd M).seqT D⟩⟩
  | quT=>
   obtain ⟨b,rfl,F,_,_⟩:=B.isRow a3;obtain ⟨t,rfl,f⟩:=sz;refine ⟨_,rfl,rfl,_,rfl,iteP (decide_eq_true rfl) ⟨_,rfl,rfl,_,rfl,iteK ?_⟩⟩;have a7:(b.map V.int).length + 1<=sizeLine:=big F;cases b with
   | nil=>refine ⟨_,rfl,_,rfl,.inr ⟨t,[],rfl,f,⟨rfl,rfl⟩,?_⟩⟩;refine ⟨_,rfl,w_1,λ G O=>?_⟩;have e:=Same.upd (o:=.tup [.str "none"]) O;refine ⟨t,G,[],[.str "none"],rfl,rfl,e.seqT f,SqT.of upd_same,by simp,w_1,λ L H2 C D=>?_⟩;refine .inr (.inl ⟨L,_,0,_,rfl,rfl,D,z05 (j:=0) rfl,w_2,λ W M=>?_⟩);rw [zhl] at q;exact q W _ _ ((e.trans C).trans (Same.upd M)) upd_same ⟨t,rfl,((e.trans C).trans (Same.upd M)).seqT f⟩
   | cons m r=>
    refine ⟨_,rfl,_,rfl,.inl (.inr (.inl ⟨t,_,rfl,f,?_,λ X a6=>?_⟩))⟩
    ·intro z;have:HT.sIx ((m :: r).map V.int).length 0 (some 1)=1:=by rw [D0,Z0];simp [HT.sIx]
     omega
    ·have ec:cutV ((m :: r).map V.int) (some 1) none=r.map V.int:=by unfold cutV;simp [HT.sIx];exact V4 (by rw [D0];exact A0 _)
     have s0:=Same.upd (o:=.tup (cutV ((m :: r).map V.int) (some 1) none)) a6;have e0:upd H X (.tup (cutV ((m :: r).map V.int) (some 1) none)) X=some (.tup (r.map V.int)):=by rw [upd_same,ec]
     generalize upd H X (.tup (cutV ((m :: r).map V.int) (some 1) none))=H0 at s0 e0⊢;refine ⟨_,rfl,w_1,λ G O=>?_⟩;have e:=Same.upd (o:=.tup [.str "none"]) O;refine ⟨t,G,(m :: r).map V.int,[.str "none"],rfl,rfl,(s0.trans e).seqT f,SqT.of upd_same,by simp,a7,λ L H2 C D=>?_⟩;refine .inr (.inl ⟨L,_,0,.int m,rfl,rfl,D,z05 (j:=0) rfl,w_2,λ W M=>?_⟩);have J:=(e.trans C).trans (Same.upd (o:=.tup [.ref X,.int m]) M);rw [dz_quT] at q;exact q W _ _ (s0.trans J) upd_same ⟨X,rfl,J.seqT (SqT.of e0)⟩
  | setP ni=>
   rename_i i;obtain ⟨b,rfl,F,_,Y⟩:=B.isRow a2;obtain ⟨t,rfl,f⟩:=sz;cases (show x=V.int i from I);refine ⟨_,rfl,rfl,_,rfl,iteK ⟨_,rfl,rfl,_,rfl,iteP (decide_eq_true rfl) ?_⟩⟩;refine ⟨_,rfl,_,rfl,t,_,rfl,.inr f,rfl,z39 b,.inl (.inr ⟨decide (i∈b),by rw [if_neg P0,z52],?_⟩)⟩;refine ⟨_,rfl,rfl,_,rfl,iteP (decide_eq_true rfl) ?_⟩;refine ⟨_,rfl,_,rfl,w_1,λ G O=>?_⟩;have e:=Same.upd (o:=.tup [.int i]) O;refine ⟨t,G,b.map V.int,[.int i],rfl,rfl,e.seqT f,SqT.of upd_same,by simp,big F,λ L H2 C D=>?_⟩;rw [a4] at D;refine ⟨L,b++[i],rfl,D,by rw [F0];exact (show b.length + 1 < 64 by omega),λ l a5 hl pm pw=>?_⟩;have J:=Same.upd (o:=.lst (a5.map V.int)) hl;refine ⟨l,_,rfl,.inl ⟨SqL.of upd_same,λ p4 a0=>?_⟩⟩;refine ⟨_,rfl,_,_,rfl,rfl,w_2,λ Z S=>?_⟩;rw [zgc] at q;by_cases z:i∈b
   ·rw [znb (Y rfl) z pm pw] at *;rw [if_pos z] at q;refine q Z _ _ ((((e.trans C).trans J).trans (Same.upd a0)).trans (Same.upd S)) (upd_same.trans (by rw [decide_eq_true z];rfl)) ⟨p4,rfl,SqT.of ((Same.upd S) _ _ upd_same)⟩
   ·rw [zn9 (Y rfl) z pm pw] at *;rw [if_neg z] at q;refine q Z _ _ ((((e.trans C).trans J).trans (Same.upd a0)).trans (Same.upd S)) (upd_same.trans (by rw [decide_eq_false z];rfl)) ⟨p4,rfl,SqT.of ((Same.upd S) _ _ upd_same)⟩
  | setC ni=>
   rename_i i;obtain ⟨b,rfl,F,_,Y⟩:=B.isRow a2;obtain ⟨t,rfl,f⟩:=sz;cases (show x=V.int i from I);refine ⟨_,rfl,rfl,_,rfl,iteK ⟨_,rfl,rfl,_,rfl,iteP (decide_eq_true rfl) ?_⟩⟩;refine ⟨_,rfl,_,rfl,t,_,rfl,.inr f,rfl,z39 b,.inl (.inr ⟨decide (i∈b),by rw [if_neg P0,z52],?_⟩)⟩;refine ⟨_,rfl,rfl,_,rfl,iteK ⟨_,rfl,rfl,_,rfl,iteP (decide_eq_true rfl) ?_⟩⟩;have zl:(b.map V.int).length<=sizeLine:=C0 (B2 _) (big F);simp only [tRet,tTup,tCB,tCons,tNil];refine z1u (K:=KX w.params) (a:=t) (xs:=b.map V.int) (H1:=H) (λ j=>(b[j]?.map λ n=>!decide (n=i)).getD false) (λ j y _=>b[j]?.map V.int=some y) (λ _ _ _ _ _ z=>z) (λ R h=>⟨_,rfl,h⟩) f zl (λ j hj v H' s' hv KT KF k1 k2=>?_) λ l H' ys s' a8 al=>?_
   ·rw [K0] at hv;obtain ⟨n,hn,rfl⟩:=Option.map_eq_some_iff.mp hv;rw [hn] at k1 k2;refine ⟨[some (.int n)],rfl,rfl,_,rfl,_,rfl,rfl,_,rfl,?_⟩;rw [dec_i0];exact ite2 (λ z=>⟨_,rfl,k1 z _ _ (Same.refl _) rfl⟩) λ z=>k2 (Bool.eq_false_iff.mpr z) _ (Same.refl _)
   ·rw [D0] at al;rw [zd9 b ys al];have J:=Same.upd (o:=.lst ((b.filter λ j=>!decide (j=i)).map V.int)) a8;refine ⟨l,_,rfl,.inl ⟨SqL.of upd_same,λ p4 a0=>⟨_,rfl,w_2,λ Z S=>?_⟩⟩⟩;rw [zfj] at q;exact q Z _ _ (((s'.trans J).trans (Same.upd a0)).trans (Same.upd S)) (upd_same.trans (by simp only [decide_eq_true_eq])) ⟨p4,rfl,SqT.of ((Same.upd S) _ _ upd_same)⟩
  | setH ni=>rename_i i;obtain ⟨b,rfl,F,_,Y⟩:=B.isRow a2;obtain ⟨t,rfl,f⟩:=sz;cases (show x=V.int i from I);refine ⟨_,rfl,rfl,_,rfl,iteK ⟨_,rfl,rfl,_,rfl,iteP (decide_eq_true rfl) ?_⟩⟩;refine ⟨_,rfl,_,rfl,t,_,rfl,.inr f,rfl,z39 b,.inl (.inr ⟨decide (i∈b),by rw [if_neg P0,z52],?_⟩)⟩;refine ⟨_,rfl,rfl,_,rfl,iteK ⟨_,rfl,rfl,_,rfl,iteK ?_⟩⟩;rw [zen] at q;exact ⟨_,rfl,_,rfl,w_2,λ p c=>q p _ _ (Same.upd c) (upd_same.trans (by simp only [decide_eq_true_eq])) ⟨t,rfl,(Same.upd c).seqT f⟩⟩
  | regR=>
   have u:¬ rowK "register":=by decide +kernel
   obtain ⟨a,rfl,_⟩:=B.isNum u;cases (show U=V.int a from sz);refine ⟨_,rfl,rfl,_,rfl,iteK ⟨_,rfl,rfl,_,rfl,iteK ⟨_,rfl,rfl,_,rfl,iteP (decide_eq_true rfl) ?_⟩⟩⟩;rw [zfa] at q;exact ⟨_,rfl,_,rfl,w_2,λ p c=>q p _ _ (Same.upd c) upd_same rfl⟩
  | cntR=>
   have u:¬ rowK "counter":=by decide +kernel
   obtain ⟨a,rfl,_⟩:=B.isNum u;cases (show U=V.int a from sz);refine ⟨_,rfl,rfl,_,rfl,iteK ⟨_,rfl,rfl,_,rfl,iteK ⟨_,rfl,rfl,_,rfl,iteP (decide_eq_true rfl) ?_⟩⟩⟩;rw [zfc] at q;exact ⟨_,rfl,_,rfl,w_2,λ p c=>q p _ _ (Same.upd c) upd_same rfl⟩
  | celR=>
   have u:¬ rowK "cell":=by decide +kernel
   obtain ⟨a,rfl,_⟩:=B.isNum u;cases (show U=V.int a from sz);refine ⟨_,rfl,rfl,_,rfl,iteK ⟨_,rfl,rfl,_,rfl,iteK ⟨_,rfl,rfl,_,rfl,iteP (decide_eq_true rfl) ?_⟩⟩⟩;rw [zfs] at q;exact ⟨_,rfl,_,rfl,w_2,λ p c=>q p _ _ (Same.upd c) upd_same rfl⟩
  | cntA ni=>
   rename_i i;have u:¬ rowK "counter":=by decide +kernel
   obtain ⟨a,rfl,_⟩:=B.isNum u;cases (show U=V.int a from sz);cases (show x=V.int i from I);refine ⟨_,rfl,rfl,_,rfl,iteK ⟨_,rfl,rfl,_,rfl,iteK ⟨_,rfl,rfl,_,rfl,iteK ⟨_,rfl,rfl,_,rfl,iteP (decide_eq_true rfl) ?_⟩⟩⟩⟩;rw [zgh] at q;exact ⟨_,rfl,_,rfl,.inl ⟨a,i,rfl,rfl,_,rfl,w_2,λ p c=>q p _ _ (Same.upd c) upd_same rfl⟩⟩
  | regW ni=>
   rename_i i;have u:¬ rowK "register":=by decide +kernel
   obtain ⟨a,rfl,_⟩:=B.isNum u;cases (show x=V.int i from I);refine ⟨_,rfl,rfl,_,rfl,iteK ⟨_,rfl,rfl,_,rfl,iteK ⟨_,rfl,rfl,_,rfl,iteK ⟨_,rfl,rfl,_,rfl,iteK ⟨_,rfl,rfl,_,rfl,iteP (decide_eq_true rfl) ?_⟩⟩⟩⟩⟩;rw [zgu] at q;exact ⟨_,rfl,w_2,λ p c=>q p _ _ (Same.upd c) upd_same rfl⟩
  | celW ni=>
   rename_i i;have u:¬ rowK "cell":=by decide +kernel
   obtain ⟨a,rfl,_⟩:=B.isNum u;cases (show x=V.int i from I);refine ⟨_,rfl,rfl,_,rfl,iteK ⟨_,rfl,rfl,_,rfl,iteK ⟨_,rfl,rfl,_,rfl,iteK ⟨_,rfl,rfl,_,rfl,iteK ⟨_,rfl,rfl,_,rfl,iteP (decide_eq_true rfl) ?_⟩⟩⟩⟩⟩;rw [zh1] at q;exact ⟨_,rfl,w_2,λ p c=>q p _ _ (Same.upd c) upd_same rfl⟩
  | celS ni nj=>
   rename_i i j;have u:¬ rowK "cell":=by decide +kernel
   obtain ⟨a,rfl,_⟩:=B.isNum u;cases (show U=V.int a from sz);obtain ⟨t,rfl,et⟩:=wi i j rfl;refine ⟨_,rfl,rfl,_,rfl,iteK ⟨_,rfl,rfl,_,rfl,iteK ⟨_,rfl,rfl,_,rfl,iteK ⟨_,rfl,rfl,_,rfl,iteK ⟨_,rfl,rfl,_,rfl,iteK ?_⟩⟩⟩⟩⟩;refine ⟨_,rfl,_,rfl,.inr (.inl ⟨t,_,1,.int j,rfl,rfl,SqT.of et,z05 (j:=1) rfl,w_2,λ l hl=>?_⟩)⟩;obtain ⟨H1,v_,e,e1⟩:=newA (.lst [.int a,.int j]) hl;rw [<-v_];have a1:=e _ _ et;refine ⟨_,rfl,_,rfl,.inr (.inl ⟨t,_,0,.int i,rfl,rfl,SqT.of a1,z05 (j:=0) rfl,rfl,.inl (.inr ⟨_,rfl,?_⟩)⟩)⟩;rw [zew] at q;by_cases z:a=i
   ·rw [if_pos z] at q;refine .inl ⟨l,_,1,.int j,rfl,by rw [if_pos (decide_eq_true (by rw [z]))],SqL.of e1,rfl,?_⟩;refine ⟨_,rfl,_,rfl,.inr (.inl ⟨t,_,0,.int i,rfl,rfl,SqT.of a1,z05 (j:=0) rfl,rfl,.inl (.inr ⟨_,rfl,?_⟩)⟩)⟩;exact ⟨w_2,λ p c=>q p _ _ (e.trans (Same.upd c)) (upd_same.trans (by rw [if_pos (decide_eq_true (by rw [z]))])) rfl⟩
   ·rw [if_neg z] at q;have nz:¬ decide (V.int a=V.int i)=true:=λ y=>z (by cases of_decide_eq_true y;rfl);refine .inl ⟨l,_,0,.int a,rfl,by rw [if_neg nz],SqL.of e1,rfl,?_⟩;refine ⟨_,rfl,_,rfl,.inr (.inl ⟨t,_,0,.int i,rfl,rfl,SqT.of a1,z05 (j:=0) rfl,rfl,.inl (.inr ⟨_,rfl,?_⟩)⟩)⟩;exact ⟨w_2,λ p c=>q p _ _ (e.trans (Same.upd c)) (upd_same.trans (by rw [if_neg nz])) rfl⟩
theorem do_can {H:Hp} {k v:Str} {st x:V} {d:Dt} {n:Nat} {sv:Sv} {Q:VK} {E:XK} (so:SvOk n k sv) (sz:StZ (kx w) H sv st) (hn:n < 63) (hd:DeedOk k v d) (hx:IsDt (kx w) H d x) (wi:WorthIn H d x)
  (q :∀p st' H',Same H H'->H' p=some (.tup [st',(dz k v d sv).2])->StZ (kx w) H' (dz k v d sv).1 st'->Q (.ref p) H'):sp_do (kx w) [.str k,st,.str v,x] H Q E:=by
 have A :∀i:Int,Flat H (.int i):=λ i M e=>by cases e
 have D:Flat H .non:=λ M e=>by cases e
 have s :∀i:Int,near i->z14 (.int i) 1000000000=true:=λ i h=>by unfold z14;dsimp only;rw [decide_eq_true h.1,decide_eq_true h.2];rfl
 have J:rowK "queue":=.inl rfl;have G:rowK "set":=.inr rfl;cases hd with
 | quP ni=>rename_i i;obtain ⟨o,rfl,F,_,_⟩:=so.isRow J;obtain ⟨t,rfl,l⟩:=sz;cases (show x=V.int i from hx);rw [dz_quP] at q;refine ⟨_,_,_,_,_,_,_,rfl,rfl,A i,(deedB1 (by decide +kernel)).trans (s i ni),by decide +kernel,.inr (.inr (.inr (.inl ⟨rfl,rfl⟩))),λ H' b=>⟨t,_,_,rfl,b.seqT l,by rw [D0];omega,λ p C B c f u=>q p _ _ (b.trans c) f ⟨C,rfl,?_⟩⟩⟩;rw [show (o++[i]).map V.int=o.map V.int++[V.int i] by rw [j1];rfl];exact u
 | quT=>
  obtain ⟨o,rfl,F,_,_⟩:=so.isRow J;obtain ⟨t,rfl,l⟩:=sz;cases (show x=V.non from hx);refine ⟨_,_,_,_,_,_,_,rfl,rfl,D,(deedB0 (by decide +kernel)).trans rfl,by decide +kernel,.inr (.inr (.inr (.inr (.inl ⟨rfl,rfl⟩)))),λ H' b=>⟨t,o.map V.int,_,rfl,b.seqT l,λ e p B c f=>?_,λ m r e p C B c f u=>?_⟩⟩
  ·cases o with
   | nil=>rw [zhl] at q;exact q p _ _ (b.trans c) f ⟨t,rfl,(b.trans c).seqT l⟩
   | cons m r=>cases e
  ·cases o with
   | nil=>cases e
   | cons m' r'=>rw [dz_quT] at q;rw [R0] at e;injection e with e1 e3;subst e1 e3;exact q p _ _ (b.trans c) f ⟨C,rfl,u⟩
 | setP ni=>
  rename_i i;obtain ⟨o,rfl,F,_,K⟩:=so.isRow G;obtain ⟨t,rfl,l⟩:=sz;cases (show x=V.int i from hx);rw [zgc] at q;refine ⟨_,_,_,_,_,_,_,rfl,rfl,A i,(deedB1 (by decide +kernel)).trans (s i ni),by decide +kernel,.inr (.inr (.inr (.inr (.inr (.inl ⟨rfl,rfl⟩))))),λ H' b=>⟨t,o,_,rfl,b.seqT l,by omega,λ z p B c f=>?_,λ z p C R B c f u O P=>?_⟩⟩
  ·rw [if_pos z] at q;exact q p _ _ (b.trans c) f ⟨t,rfl,(b.trans c).seqT l⟩
  ·rw [if_neg z] at q;rw [z8g (O.trans (z90 _).symm) P (z56 _)] at u;exact q p _ _ (b.trans c) f ⟨C,rfl,u⟩
 | setC ni=>
  rename_i i;obtain ⟨o,rfl,F,_,K⟩:=so.isRow G;obtain ⟨t,rfl,l⟩:=sz;cases (show x=V.int i from hx);rw [zfj] at q;refine ⟨_,_,_,_,_,_,_,rfl,rfl,A i,(deedB1 (by decide +kernel)).trans (s i ni),by decide +kernel,.inr (.inr (.inr (.inr (.inr (.inr (.inl ⟨rfl,rfl⟩)))))),λ H' b=>⟨t,o,_,rfl,b.seqT l,by omega,λ z p B c f=>?_,λ z p C B c f u=>?_⟩⟩
  ·rw [if_neg z,List.filter_eq_self.mpr (λ j N=>by simp;exact λ e=>z (e ▸ N))] at q;exact q p _ _ (b.trans c) f ⟨t,rfl,(b.trans c).seqT l⟩
  ·rw [if_pos z] at q;exact q p _ _ (b.trans c) f ⟨C,rfl,u⟩
 | setH ni=>rename_i i;obtain ⟨o,rfl,F,_,K⟩:=so.isRow G;obtain ⟨t,rfl,l⟩:=sz;cases (show x=V.int i from hx);rw [zen] at q;exact ⟨_,_,_,_,_,_,_,rfl,rfl,A i,(deedB1 (by decide +kernel)).trans (s i ni),by decide +kernel,.inr (.inr (.inr (.inr (.inr (.inr (.inr (.inl ⟨rfl,rfl⟩))))))),λ H' b=>⟨t,o,_,rfl,b.seqT l,λ p B c f=>q p _ _ (b.trans c) f ⟨t,rfl,(b.trans c).seqT l⟩⟩⟩
 | regR=>obtain ⟨a,rfl,_⟩:=so.isNum (by decide +kernel);cases (show st=V.int a from sz);cases (show x=V.non from hx);rw [zfa] at q;exact ⟨_,_,_,_,_,_,_,rfl,rfl,D,(deedB0 (by decide +kernel)).trans rfl,by decide +kernel,.inl ⟨rfl,rfl⟩,λ H' b=>⟨_,_,rfl,λ p g=>q p _ _ (b.trans (Same.upd g)) upd_same rfl⟩⟩
 | cntR=>obtain ⟨a,rfl,_⟩:=so.isNum (by decide +kernel);cases (show st=V.int a from sz);cases (show x=V.non from hx);rw [zfc] at q;exact ⟨_,_,_,_,_,_,_,rfl,rfl,D,(deedB0 (by decide +kernel)).trans rfl,by decide +kernel,.inl ⟨rfl,rfl⟩,λ H' b=>⟨_,_,rfl,λ p g=>q p _ _ (b.trans (Same.upd g)) upd_same rfl⟩⟩
 | celR=>obtain ⟨a,rfl,_⟩:=so.isNum (by decide +kernel);cases (show st=V.int a from sz);cases (show x=V.non from hx);rw [zfs] at q;exact ⟨_,_,_,_,_,_,_,rfl,rfl,D,(deedB0 (by decide +kernel)).trans rfl,by decide +kernel,.inl ⟨rfl,rfl⟩,λ H' b=>⟨_,_,rfl,λ p g=>q p _ _ (b.trans (Same.upd g)) upd_same rfl⟩⟩
 | cntA ni=>rename_i i;obtain ⟨a,rfl,_⟩:=so.isNum (by decide +kernel);cases (show st=V.int a from sz);cases (show x=V.int i from hx);rw [zgh] at q;exact ⟨_,_,_,_,_,_,_,rfl,rfl,A i,(deedB1 (by decide +kernel)).trans (s i ni),by decide +kernel,.inr (.inr (.inl ⟨rfl,rfl⟩)),λ H' b=>⟨_,_,rfl,λ p g=>q p _ _ (b.trans (Same.upd g)) upd_same rfl⟩⟩
 | regW ni=>rename_i i;obtain ⟨a,rfl,_⟩:=so.isNum (by decide +kernel);cases (show st=V.int a from sz);cases (show x=V.int i from hx);rw [zgu] at q;exact ⟨_,_,_,_,_,_,_,rfl,rfl,A i,(deedB1 (by decide +kernel)).trans (s i ni),by decide +kernel,.inr (.inl ⟨rfl,rfl⟩),λ H' b=>⟨_,_,rfl,λ p g=>q p _ _ (b.trans (Same.upd g)) upd_same rfl⟩⟩
 | celW ni=>rename_i i;obtain ⟨a,rfl,_⟩:=so.isNum (by decide +kernel);cases (show st=V.int a from sz);cases (show x=V.int i from hx);rw [zh1] at q;exact ⟨_,_,_,_,_,_,_,rfl,rfl,A i,(deedB1 (by decide +kernel)).trans (s i ni),by decide +kernel,.inr (.inl ⟨rfl,rfl⟩),λ H' b=>⟨_,_,rfl,λ p g=>q p _ _ (b.trans (Same.upd g)) upd_same rfl⟩⟩
 | celS ni nj=>
  rename_i i j;obtain ⟨a,rfl,_⟩:=so.isNum (by decide +kernel);cases (show st=V.int a from sz);obtain ⟨t,rfl,e⟩:=wi i j rfl;have L:tupOf H (.ref t)=some [.int i,.int j]:=by unfold tupOf;dsimp only;rw [e]
  rw [zew] at q;refine ⟨_,_,_,_,_,_,"tuple",rfl,.inr (.inl ⟨⟨_,e⟩,rfl⟩),λ M z=>?_,?_,by decide +kernel,.inr (.inr (.inr (.inr (.inr (.inr (.inr (.inr ⟨rfl,rfl⟩))))))),λ H' b=>⟨a,i,j,t,rfl,SqT.of (b _ _ e),λ p g=>?_⟩⟩
  ·rw [L] at z;cases z;exact ⟨(show (2:Nat)<=1000 by decide),λ y I=>⟨"int",by simp only [W0,o0,or_false] at I;rcases I with rfl|rfl<;>rfl⟩⟩
  ·rw [deedB2 (by decide +kernel) L];show (true && (z14 (.int i) 1000000000 && (z14 (.int j) 1000000000 && true)))=true;rw [s i ni,s j nj];rfl
  ·by_cases z:a=i
   ·rw [if_pos z] at q⊢;exact q p _ _ (b.trans (Same.upd g)) upd_same rfl
   ·rw [if_neg z] at q⊢;exact q p _ _ (b.trans (Same.upd g)) upd_same rfl
structure Tt (K:b0) (H H':Hp):Prop where
 t:Tups K H H'
 l :∀a xs,H a=some (.tup xs)->H' a=some (.tup xs)
theorem Tt.of {K:b0} {H H':Hp} (s:Same H H'):Tt K H H':=⟨.of s,λ _ _ h=>s _ _ h⟩
theorem Tt.trans {K:b0} {H H1 H2:Hp} (a:Tt K H H1) (b:Tt K H1 H2):Tt K H H2:=⟨a.t.trans b.t,λ _ _ h=>b.l _ _ (a.l _ _ h)⟩
def MutAt (H:Hp) (l:Addr):Prop:=(∃zs,H l=some (.lst zs))\/∃kvs:List (Key×V),H l=some (.dK kvs)
theorem HandAt.mutAt {H:Hp} {r:Addr} (h:HandAt H r):MutAt H r:=by obtain ⟨a,b,c,e,_⟩:=h;exact .inl ⟨_,e⟩
theorem KeptL.tt {K:b0} {L:List Addr} {H H':Hp} (k:KeptL L H H') (m :∀l∈L,MutAt H l):Tt K H H':=by
 refine ⟨λ a b h=>?_,λ a b h=>k _ _ (λ z=>?_) h⟩
 ·rcases h with (h|⟨ob,h⟩)|h
  ·exact .inl (.inl (k _ _ (λ z=>by rcases m a z with ⟨_,e⟩|⟨_,e⟩<;>(rw [h] at e;cases e)) h))
  ·exact .inl (.inr ⟨ob,k _ _ (λ z=>by rcases m a z with ⟨_,e⟩|⟨_,e⟩<;>(rw [h] at e;cases e)) h⟩)
  ·exact .inr h
 ·rcases m a z with ⟨_,e⟩|⟨_,e⟩<;>(rw [h] at e;cases e)
theorem Hw.keptL {r:Addr} {H H':Hp} {L:List Addr} (h:Hw r H H') (hr:r∈L):KeptL L H H':=λ b o n e=>h.k b o (λ z=>n (z ▸ hr)) e
theorem Hw.tt {K:b0} {r:Addr} {H H':Hp} (R:HandAt H r) (h:Hw r H H'):Tt K H H':=KeptL.tt (h.keptL (List.mem_singleton.mpr rfl)) λ l a=>by rw [List.mem_singleton.mp a];exact R.mutAt
theorem Hw.free {r:Addr} {H H':Hp} {p:Addr} (h:Hw r H H') (e:H' p=none):H p=none:=by
 cases z:H p with
 | none=>rfl
 | some o=>rw [h.k _ _ (h.r.fresh e) z] at e;cases e
def ThAt (H:Hp) (p:Addr) (ts:List (Str×Str)):Prop:=∃ys,H p=some (.tup ys)/\All2 (λ (t:Str×Str) y=>∃b,y=.ref b/\H b=some (.tup [.str t.1,.str t.2])) ts ys
structure ThOk (ts:List (Str×Str)):Prop where
 n0:0 < ts.length
 n6:ts.length<=6
 nd:(ts.map (·.1)).Nodup
 ks :∀t∈ts,t.2∈kinds5
theorem ThAt.tt {K:b0} {H H':Hp} {p:Addr} {ts:List (Str×Str)} (t:Tt K H H') (h:ThAt H p ts):ThAt H' p ts:=h.elim λ a z=>⟨a,t.l _ _ z.1,z01 (λ _ _ y=>y.elim λ b x=>⟨b,x.1,t.l _ _ x.2⟩) z.2⟩
theorem zcc {α β:Type} {f:α->β} :∀(xs:List α) (i:Nat),(xs.map f).eraseIdx i=(xs.eraseIdx i).map f
 | [],_=>rfl
 | x :: xs,0=>rfl
 | x :: xs,i + 1=>by show f x :: (xs.map f).eraseIdx i=f x :: (xs.eraseIdx i).map f;rw [zcc xs i]
theorem z8z {α:Type} {xs:List α} (h:xs.Nodup) (i:Nat):(xs.eraseIdx i).Nodup:=h.sublist (List.eraseIdx_sublist xs i)
theorem zif {j n:Nat} (h:j < n):PySem.seqIndex? (j:Int) n=some j:=by
 unfold PySem.seqIndex?;have:¬ ((j:Int) < 0):=by omega
 simp only [if_neg this];rw [if_pos (by simp [h])];rfl
def kindR (K:b0) (x y:V) (H:Hp):Prop:=∃(n k:Str) (b:Addr),x=.str n/\y=.ref b/\k∈kinds5/\H b=some (.tup [.str n,.str k])
theorem z7m {K:b0} {H:Hp} :∀{ks:List Str} {ys:List V},All2 (λ x y=>kindR K x y H) (ks.map V.str) ys->∃ts:List (Str×Str),ts.map (·.1)=ks/\(∀t∈ts,t.2∈kinds5)/\All2 (λ (t:Str×Str) y=>∃b,y=.ref b/\H b=some (.tup [.str t.1,.str t.2])) ts ys
 | [],_,h=>by cases h;exact ⟨[],rfl,λ _ z=>absurd z o0,.nil⟩
 | n :: ks,_,h=>by
  cases h with
  | cons a r=>
   obtain ⟨ts,e,i,g⟩:=z7m r;obtain ⟨m,k,b,j,f,l,c⟩:=a;cases j;refine ⟨(n,k) :: ts,by rw [R0,e],λ t d=>?_,.cons ⟨b,f,c⟩ g⟩;rcases List.mem_cons.mp d with z|z
   ·rw [z];exact l
   ·exact i t z
def z4l:Sp:=λ vs H Q _=>∃(r:Addr),vs=[.ref r]/\HandAt H r/\∀p ts H',Hw r H H'->H p=none->ThAt H' p ts->ThOk ts->Q (.ref p) H'
theorem z8s (T:TX (kx w) mg) (c0:Ca P w mg base "_law_draw" ["hand","limit"] 1 z0z):Fo P w mg base CX0 2 386 y0i ["hand"] z4l:=by
 refine (z2w w.params).ok sc__law_things (λ vs H Q E h=>?_) (λ b3 A b4 s H vs Q E W h=>?_)
 ·obtain ⟨r,rfl,_⟩:=h;rfl
 ·obtain ⟨r,rfl,R,q⟩:=h;refine q_of (z0u (qs_set (i:=1) sc__law_things.nd rfl (U0 rfl) (qe_lst (z0l (QE.mk pe_str) (z0l (QE.mk pe_str) (z0l (QE.mk pe_str) (z0l (QE.mk pe_str) (z0l (QE.mk pe_str) (z0l (QE.mk pe_str) qa_nil))))))))
   (z0u (qs_set (i:=2) sc__law_things.nd rfl (U0 rfl) (qe_ix ix_seq (qe_lst (z0l (QE.mk pe_int) (z0l (QE.mk pe_int) (z0l (QE.mk pe_int) (z0l (QE.mk pe_int) (z0l (QE.mk pe_int) qa_nil)))))) (QE.mk (pe_cal c0 (W.mono (by decide)) rfl (z00 (pv 0) (z00 pe_int pa_nil)))) (λ _ _=>rfl)))
   (z0u (QS.mk (zfd K1 (z08 op_gt (z0c z1j rfl (T.no (n_len _)) i4 (z00 (pv 1) pa_nil)) (pv 2) (nomark _))
   (z04 (z22 (zm7 (pv 1) (z00 (pe_cal c0 (W.mono (by decide)) rfl (z00 (pv 0) (z00 (z0c z1j rfl (T.no (n_len _)) i4 (z00 (pv 1) pa_nil)) pa_nil))) pa_nil))))))
   (zdd (QS.mk (ps_ret (z0g z0n rfl (T.no (z4n _)) F6 (z00 (pe_cg (xs:=["name"]) (g:=gName 0) (fr:=[(0,"hand")]) (z16 (pv 1)) (λ _ _ _ _ _=>(pg_cn (N:=["name","hand"]) 0)) (λ _ _ _ _ _=>pf_nil) (λ _ _ _ _ _=>(pe_tup (z00 (pv 0) (z00 (pe_ix (z5x (K:=KX w.params) rfl) (pe_lst (z00 pe_str (z00 pe_str (z00 pe_str (z00 pe_str (z00 pe_str pa_nil)))))) (pe_cal c0 (W.mono (by decide)) rfl (z00 (pv 1) (z00 pe_int pa_nil))) (λ _ _=>rfl)) pa_nil))))) pa_nil)))))))) ?_
  refine z0s ?_;refine ⟨w_6,λ l O=>?_⟩;refine g_name ?_;have C:l≠r:=R.fresh O;have Z:=Same.upd (o:=.lst [.str "a",.str "b",.str "it",.str "thing",.str "x",.str "zzzzzzzz"]) O;have c:upd H l (.lst [.str "a",.str "b",.str "it",.str "thing",.str "x",.str "zzzzzzzz"]) l=some (.lst ((["a","b","it","thing","x","zzzzzzzz"]:List Str).map V.str)):=upd_same;generalize upd H l (.lst [.str "a",.str "b",.str "it",.str "thing",.str "x",.str "zzzzzzzz"])=H1 at Z c⊢;have I:Hw r H H1:=R.hw.same Z;refine z0s ?_;refine ⟨w_5,λ l2 D=>⟨_,rfl,r,5,rfl,I.r.same (Same.upd D),by decide,by decide,λ t H2 B h0 h1=>?_⟩⟩;obtain ⟨v,J,hm⟩:=atI_of (xs:=[V.int 1,.int 1,.int 2,.int 3,.int 6]) h0 h1;refine .inl ⟨l2,_,t,v,rfl,rfl,SqL.of (B.k _ _ (I.r.fresh D) upd_same),J,?_⟩;refine g_name ?_;have u:=B.k _ _ C ((Same.upd (o:=.lst [V.int 1,.int 1,.int 2,.int 3,.int 6]) D) _ _ c);have B:=(I.same (Same.upd (o:=.lst [V.int 1,.int 1,.int 2,.int 3,.int 6]) D)).trans B;obtain ⟨m,rfl,m1⟩ :∃m:Int,v=.int m/\1<=m:=by simp only [W0,o0,or_false] at hm;rcases hm with rfl|rfl|rfl|rfl|rfl<;>exact ⟨_,rfl,by decide⟩
  refine z6p (λ p d=>∃ks:List Str,p=[some (.ref r),some (.ref l),some (.int m)]/\d l=some (.lst (ks.map V.str))/\ks.Nodup/\0 < ks.length/\ks.length<=6/\Hw r H d) ?_ (λ tl=>?_);rotate_left
  ·refine ⟨λ k p d=>∃ks:List Str,k=ks.length/\p=[some (.ref r),some (.ref l),some (.int m)]/\d l=some (.lst (ks.map V.str))/\ks.Nodup/\0 < ks.length/\ks.length<=6/\Hw r H d,⟨6,["a","b","it","thing","x","zzzzzzzz"],rfl,rfl,u,by decide +kernel,by decide,by decide,B⟩,?_⟩;rintro k p d ⟨ks,rfl,rfl,e3,nd,k0,k6,w3⟩;refine ⟨_,rfl,.inl ⟨l,_,rfl,.inl (SqL.of e3),_,rfl,_,_,rfl,rfl,_,rfl,?_⟩⟩;refine ite2 (λ z=>?_) λ z=>tl _ _ ⟨ks,rfl,e3,nd,k0,k6,w3⟩;have z:m < ((ks.map V.str).length:Int):=of_decide_eq_true z;rw [D0] at z;refine ⟨_,λ _ _ h=>h,?_⟩;refine ⟨_,rfl,.inl ⟨rfl,_,SqL.of e3⟩,_,rfl,_,rfl,.inl ⟨l,_,rfl,.inl (SqL.of e3),r,_,rfl,w3.r,by rw [D0];omega,by rw [D0];omega,λ t4 H4 w4 a5 a2=>?_⟩⟩;rw [D0] at a2;have M:=w4.k _ _ C e3;obtain ⟨j,rfl⟩:=Int.eq_ofNat_of_zero_le a5;have f:j < ks.length:=by omega
   refine ⟨l,_,_,j,.str ks[j],rfl,rfl,M,by omega,by omega,?_,?_,?_⟩
   ·rw [D0];exact zif f
   ·rw [K0,B0 f];rfl
   ·refine ⟨ks.length - 1,by omega,ks.eraseIdx j,by rw [U8,if_pos f],rfl,?_,z8z nd j,?_,?_,?_⟩
    ·rw [upd_same,zcc]
    ·rw [U8,if_pos f];omega
    ·rw [U8,if_pos f];omega
    ·have w5:=w3.trans w4;refine ⟨λ b o hb e=>by rw [upd_ne (z0b e O)];exact w5.k b o hb e,?_⟩;obtain ⟨a1,b1,c1,c,z1⟩:=w5.r;exact ⟨a1,b1,c1,by rw [upd_ne C.symm];exact c,z1⟩
  rintro p d ⟨ks,rfl,e3,nd,k0,k6,w3⟩;refine zmw ?_;refine zea (S:=λ H H'=>HandAt H r/\Hw r H H') (K:=KX w.params) (a:=l) (xs:=ks.map V.str) (kindR (kx w)) ⟨w3.r,w3.r.hw⟩ (λ _ _ _ a b=>⟨a.1,a.2.trans b.2⟩) (λ _ s=>⟨s.2.r,s.2.r.hw⟩) ?_ (λ R h=>⟨_,rfl,h⟩) (λ H' s'=>SqL.of (s'.2.k _ _ C e3)) (by rw [D0];exact C0 k6 (by decide)) ?_ ?_
  ·rintro x y Ha Hb ⟨Ra,wa⟩ ⟨n,k,b,c,u,e3,M⟩;exact ⟨n,k,b,c,u,e3,(wa.tt (K:=KX w.params) Ra).l _ _ M⟩
  ·intro v J H4 F KT a6 KF;obtain ⟨n,_,rfl⟩:=List.mem_map.mp J;refine ⟨[some (.str n)],rfl,rfl,iteT ?_⟩;refine ⟨_,rfl,w_5,λ l5 U=>⟨_,rfl,r,5,rfl,F.2.r.same (Same.upd U),by decide,by decide,λ t6 H6 Y a3 a9=>?_⟩⟩;obtain ⟨v6,a7,b0⟩:=atI_of (xs:=kinds5.map V.str) a3 a9;obtain ⟨k,hk,rfl⟩:=List.mem_map.mp b0;refine .inl ⟨l5,_,t6,_,rfl,rfl,SqL.of (Y.k _ _ (F.2.r.fresh U) upd_same),a7,w_2,λ p7 a8=>?_⟩;exact a6 _ _ ⟨F.2.r,((F.2.r.hw.same (Same.upd U)).trans Y).same (Same.upd a8)⟩ ⟨n,k,p7,rfl,rfl,hk,upd_same⟩
  ·intro l7 H7 G s7 a4 b2;obtain ⟨ts,c,u,a0⟩:=z7m b2;have X:=Same.upd (o:=.lst G) a4;refine ⟨l7,G,rfl,.inl ⟨SqL.of upd_same,λ p8 L=>?_⟩⟩;have w8:=(w3.trans s7.2).same X;have s9:=X.trans (Same.upd (o:=.tup G) L);have tl:ts.length=ks.length:=by rw [<-c,D0]
   exact q p8 ts _ (w8.same (Same.upd L)) (w8.free L) ⟨G,upd_same,z01 (λ _ _ z=>z.elim λ b y=>⟨b,y.1,s9 _ _ y.2⟩) a0⟩ ⟨by omega,by omega,by rw [c];exact nd,u⟩
def StsAt (K:b0) (H:Hp) (d:Addr) (n:Nat) (ts:List (Str×Str)):Prop:=∃kvs:List (Key×V),H d=some (.dK kvs)/\kvs.length<=6 + n/\∀t∈ts,∃v,valV kvs (.inr t.1)=some v/\StAt K H n t.2 v
def AcAt (K:b0) (H:Hp) (ts:List (Str×Str)) (y:V):Prop:=∃(p:Addr) (nm v:Str) (x hd:V) (k:Str) (dt:Dt),y=.ref p/\H p=some (.tup [.str nm,.str v,x,hd])/\(nm,k)∈ts/\DeedOk k v dt/\IsDt K H dt x/\WorthIn H dt x/\(hd=.non\/AnsV hd)
theorem WorthIn.tt {K:b0} {H H':Hp} {d:Dt} {x:V} (t:Tt K H H') (h:WorthIn H d x):WorthIn H' d x:=λ a b e=>(h a b e).elim λ p z=>⟨p,z.1,t.l _ _ z.2⟩
theorem AcAt.tt {K:b0} {H H':Hp} {ts:List (Str×Str)} {y:V} (t:Tt K H H') (h:AcAt K H ts y):AcAt K H' ts y:=by obtain ⟨p,j,v,x,b,k,a,e,i,g,m,d,c,f⟩:=h;exact ⟨p,j,v,x,b,k,a,e,t.l _ _ i,g,m,IsDt.mono' t.t a x d,c.tt t,f⟩
theorem StsAt.tt {K:b0} {H H':Hp} {d:Addr} {n:Nat} {ts:List (Str×Str)} (t:Tt K H H') (e :∀o,H d=some o->H' d=some o) (h:StsAt K H d n ts):StsAt K H' d n ts:=by obtain ⟨b,c,l,f⟩:=h;exact ⟨b,e _ c,l,λ u a=>(f u a).elim λ v z=>⟨v,z.1,z.2.tups t.t⟩⟩
theorem StsAt.le {K:b0} {H:Hp} {d:Addr} {n m:Nat} {ts:List (Str×Str)} (l:n<=m) (h:StsAt K H d n ts):StsAt K H d m ts:=by obtain ⟨b,c,e,f⟩:=h;exact ⟨b,c,by omega,λ u a=>(f u a).elim λ v z=>⟨v,z.1,z.2.le l⟩⟩
theorem StsAt.mutAt {K:b0} {H:Hp} {d:Addr} {n:Nat} {ts:List (Str×Str)} (h:StsAt K H d n ts):MutAt H d:=h.elim λ a z=>.inr ⟨a,z.1⟩
theorem zm1 {ts:List (Str×Str)} (ok:ThOk ts) {n k k':Str} (h1:(n,k)∈ts) (h2:(n,k')∈ts):k=k':=by
 have b :∀{ts:List (Str×Str)},(ts.map (·.1)).Nodup->(n,k)∈ts->(n,k')∈ts->k=k':=by
  intro ts;induction ts with
  | nil=>intro _ h;cases h
  | cons t ts ih=>
   intro a h1 h2;rw [R0,i6] at a;rcases List.mem_cons.mp h1 with z1|z1
   ·rcases List.mem_cons.mp h2 with z2|z2
    ·rw [<-z1] at z2;cases z2;rfl
    ·exact absurd (List.mem_map.mpr ⟨_,z2,rfl⟩) (by rw [<-z1] at a;exact a.1)
   ·rcases List.mem_cons.mp h2 with z2|z2
    ·exact absurd (List.mem_map.mpr ⟨_,z1,rfl⟩) (by rw [<-z2] at a;exact a.1)
    ·exact ih a.2 z1 z2
 exact b ok.nd h1 h2
theorem StsAt.put {K:b0} {H H2:Hp} {d:Addr} {n:Nat} {ts:List (Str×Str)} {nm k:Str} {v:V} {kvs:List (Key×V)} (ok:ThOk ts) (s:Same H H2) (ed:H d=some (.dK kvs)) (l:kvs.length<=6 + n) (f :∀t∈ts,∃v,valV kvs (.inr t.1)=some v/\StAt K H n t.2 v) (hm:(nm,k)∈ts) (sa:StAt K H2 (n + 1) k v) :
  StsAt K (upd H2 d (.dK (putK kvs (.inr nm) v))) d (n + 1) ts:=by
 have b:Tups K H2 (upd H2 d (.dK (putK kvs (.inr nm) v))):=Tups.dict (s _ _ ed);refine ⟨_,upd_same,C0 (z5j _ _ _) (by omega),λ t a=>?_⟩;by_cases z:t.1=nm
 ·refine ⟨v,by rw [z1d,if_pos (by rw [z])],?_⟩;have:t.2=k:=zm1 ok (n:=nm) (by rw [<-z];exact a) hm;rw [this];exact sa.tups b
 ·obtain ⟨u,e,h⟩:=f t a;exact ⟨u,by rw [z1d,if_neg (λ y=>z (d6 y))];exact e,(h.tups ((Tups.of s).trans b)).le (B2 _)⟩
theorem z2z :∀{more acc:List (Key×V)} {k:Key},k∉more.map (·.1)->valV (mergeK acc more) k=valV acc k
 | [],_,_,_=>rfl
 | p :: r,acc,k,h=>by rw [R0,W0,not_or] at h;show valV (mergeK (putK acc p.1 p.2) r) k=_;rw [z2z h.2,z1d,if_neg h.1]
theorem z19 :∀{more acc:List (Key×V)} {k:Key} {v:V},(more.map (·.1)).Nodup->(k,v)∈more->valV (mergeK acc more) k=some v
 | [],_,_,_,_,h=>by cases h
 | p :: r,acc,k,v,nd,h=>by
  rw [R0,i6] at nd;show valV (mergeK (putK acc p.1 p.2) r) k=_;rcases List.mem_cons.mp h with z|z
  ·subst z;rw [z2z nd.1,z1d,if_pos rfl]
  ·exact z19 nd.2 z
theorem z20 :∀{more acc:List (Key×V)},(mergeK acc more).length<=acc.length + more.length
 | [],_=>A0 _
 | p :: r,acc=>by have a:=z20 (more:=r) (acc:=putK acc p.1 p.2);have b:=z5j acc p.1 p.2;show (mergeK (putK acc p.1 p.2) r).length<=_;rw [Z0];omega
noncomputable def thK (ts:List (Str×Str)):List (Key×V):=ts.map λ t=>(.inr t.1,.str t.2)
theorem zbh {ts:List (Str×Str)} (nd:(ts.map (·.1)).Nodup):((thK ts).map (·.1)).Nodup:=by unfold thK;rw [X2];have:((λ x:Key×V=>x.1) ∘ λ t:Str×Str=>((.inr t.1,.str t.2):Key×V))=(Sum.inr:Str->Key) ∘ (λ t:Str×Str=>t.1):=rfl;rw [this,<-X2];exact S4 _ (λ a b h e=>h (d6 e)) nd
theorem zg6 {K:b0} {H:Hp} {ts:List (Str×Str)} :∀{ys:List V},All2 (λ (t:Str×Str) y=>∃b,y=.ref b/\H b=some (.tup [.str t.1,.str t.2])) ts ys->All2 (λ (p:Key×V) y=>∃b,y=.ref b/\SqT K H b [kV p.1,p.2]) (thK ts) ys:=by
 induction ts with
 | nil=>intro ys h;cases h;exact .nil
 | cons t ts ih=>intro ys h;cases h with|cons a r=>exact .cons (a.elim λ b z=>⟨b,z.1,SqT.of z.2⟩) (ih r)
def z5h (K:b0):Sp:=λ vs H Q _=>∃(r pt d:Addr) (y:V) (ts:List (Str×Str)) (n:Nat),vs=[.ref r,.ref pt,.ref d,y]/\HandAt H r/\ThAt H pt ts/\ThOk ts/\StsAt K H d n ts/\n < 63/\AcAt K H ts y/\∀a H',AnsV a->KeptL [r,d] H H'->HandAt H' r->StsAt K H' d (n + 1) ts->Q a H'
theorem z9a (T:TX (kx w) mg) (c0:Ca P w mg base "_law_draw" ["hand","limit"] 1 z0z) (c2:Ca P w mg base "_law_does" ["kind","state","verb","worth"] 1 (z29 (kx w))):Fo P w mg base CX0 2 393 y0s ["hand","things","states","act"] (z5h (kx w)):=by
 refine (z3q w.params).ok sc__law_ended (λ vs H Q E h=>?_) (λ a9 A b0 s H vs Q E F h=>?_)
 ·obtain ⟨r,pt,d,y,C,n,rfl,_⟩:=h;rfl
 ·obtain ⟨r,pt,d,y,C,n,rfl,R,th,ok,O,hn,⟨p,g,v,x,hd,k,dt,rfl,ep,W,dk,ix,wi,hh⟩,q⟩:=h;have a2:r≠d:=λ z=>by obtain ⟨a,b,c,e,_⟩:=R;obtain ⟨a3,U,_⟩:=O;rw [z,U] at e;cases e
  refine ⟨_,(z02 (ps_asg (pv 3) (pg_tup rfl (z07 (z0f (i:=4) sc__law_ended.nd rfl (U0 rfl)) (z07 (z0f (i:=5) sc__law_ended.nd rfl (U0 rfl)) (z07 (z0f (i:=6) sc__law_ended.nd rfl (U0 rfl)) (z07 (z0f (i:=7) sc__law_ended.nd rfl (U0 rfl)) z0m))))))
   (z02 (ps_if (z08 op_isN (pv 7) pe_non (nomark _))
   (z02 (ps_set (i:=8) sc__law_ended.nd rfl (U0 rfl) (z2h (hu_of F) (z0g (z11 rfl) rfl (T.no (n_dict _)) U7 (z00 (pv 1) pa_nil)) (pv 4) (λ _ _=>rfl)))
   (z04 (ps_asg (pe_cal c2 (F.mono (by decide)) rfl (z00 (pv 8) (z00 (z2h (hu_of F) (pv 2) (pv 4) (λ _ _=>rfl)) (z00 (pv 5) (z00 (pv 6) pa_nil))))) (pg_tup rfl (z07 (pg_sub (pv 2) (pv 4) (zc8 (hu_of F))) (z07 (z0f (i:=7) sc__law_ended.nd rfl (U0 rfl)) z0m))))))
   z0e)
   (z02 (ps_if (z08 opEq (pe_cal c0 (F.mono (by decide)) rfl (z00 (pv 0) (z00 pe_int pa_nil))) pe_int (nomark _))
   (z04 (ps_set (i:=7) sc__law_ended.nd rfl (U0 rfl) (pe_ix ix_seq (pe_lst (z00 pe_int (z00 pe_int (z00 pe_str (z00 pe_str (z00 pe_int (z00 (pe_un un_neg pe_int) (z00 (pv 7) pa_nil)))))))) (pe_cal c0 (F.mono (by decide)) rfl (z00 (pv 0) (z00 pe_int pa_nil))) (λ _ _=>rfl))))
   z0e)
   (z04 (ps_ret (pv 7)))))),?_⟩
  refine ⟨_,rfl,p,_,rfl,SqT.of ep,rfl,_,_,rfl,_,_,rfl,_,_,rfl,_,_,rfl,rfl,t_nx ?_⟩;refine z6p (λ Y D=>KeptL [r,d] H D/\HandAt D r/\StsAt (kx w) D d (n + 1) C/\∃hd' x8,AnsV hd'/\Y=[some (.ref r),some (.ref pt),some (.ref d),some (.ref p),some (.str g),some (.str v),some x,some hd',x8]) ?_ (λ tl=>?_);rotate_left
  ·refine ⟨_,rfl,rfl,_,rfl,ite2 (λ _=>?_) λ zn=>tl _ _ ⟨KeptL.refl,R,O.le (B2 _),_,_,hh.resolve_left (λ e=>zn (by rw [e];rfl)),rfl⟩⟩;obtain ⟨ys,ey,al⟩:=th;refine ⟨_,rfl,pt,ys,thK C,rfl,.inr ey,zg6 al,λ G a4=>?_⟩;have j:=Same.upd (o:=.dK (mergeK [] (thK C))) a4;have dg:DGet (upd H G (.dK (mergeK [] (thK C)))) G (.str g) (some (.str k)):=by have:=DGet.k (k:=.inr g) (upd_same (H:=H) (a:=G) (o:=.dK (mergeK [] (thK C))));rw [z19 (zbh ok.nd) (List.mem_map.mpr ⟨(g,k),W,rfl⟩)] at this;exact this
   refine ⟨_,rfl,G,.str k,rfl,dg,?_⟩;generalize upd H G (.dK (mergeK [] (thK C)))=D at j⊢;obtain ⟨a3,N,J,f⟩:=StsAt.tt (.of j) (λ o e=>j _ _ e) O;obtain ⟨S,ev,sv,so,sz⟩:=f _ W;have a7:DGet D d (.str g) (some S):=by have:=DGet.k (k:=.inr g) N;rw [ev] at this;exact this
   refine ⟨_,rfl,_,rfl,_,rfl,d,S,rfl,a7,_,rfl,_,rfl,k,v,S,x,dt,n,sv,rfl,so,sz,hn,dk,ix.same j,wi.tt (.of (K:=KX w.params) j),λ p2 a5 H2 L U a8=>?_⟩;have a0:=dz_ok dk so hn;refine ⟨p2,_,rfl,SqT.of U,rfl,a5,_,rfl,_,rfl,_,rfl,d,_,rfl,DPut.k (k:=.inr g) (L _ _ N) (B1 (m:=100) (by omega) (by decide)),_,_,rfl,rfl,?_⟩;refine tl _ _ ⟨((j.trans L).keptL).trans (KeptL.set (by simp)),?_,.put ok L N J f W ⟨_,a0.1,a8⟩,_,_,a0.2,rfl⟩;obtain ⟨a1,b1,c1,e1,z1⟩:=R.same (j.trans L);exact ⟨a1,b1,c1,by rw [upd_ne a2];exact e1,z1⟩
  rintro Y D ⟨k1,R1,st1,hd',x8,hA,rfl⟩;refine ⟨_,rfl,r,10,rfl,R1,by decide,by decide,λ t H2 M _ _=>⟨rfl,_,rfl,?_⟩⟩;have X :∀I,Hw r D I->∀a,AnsV a->Q a I:=λ I B a ha=>by refine q a I ha (k1.trans (B.keptL (by simp))) B.r (st1.tt (B.tt R1) λ o e=>B.k _ _ a2.symm e)
  refine ite2 (λ _=>?_) λ _=>⟨_,rfl,X _ M _ hA⟩
  refine ⟨_,rfl,_,rfl,w_7,λ l J=>⟨_,rfl,r,7,rfl,M.r.same (Same.upd J),by decide,by decide,λ t3 I B h0 h1=>?_⟩⟩;obtain ⟨u,hu,Z⟩:=atI_of (xs:=[V.int 0,.int 1,.str "ok",.str "none",.int 2,.int (-1),hd']) h0 h1;have a6:AnsV u:=by
   simp only [W0,o0,or_false] at Z;rcases Z with rfl|rfl|rfl|rfl|rfl|rfl|rfl
   ·exact z1m (by decide) (by decide)
   ·exact z1m (by decide) (by decide)
   ·exact .inl rfl
   ·exact .inr (.inl rfl)
   ·exact z1m (by decide) (by decide)
   ·exact z1m (by decide) (by decide)
   ·exact hA
  refine .inl ⟨l,_,t3,u,rfl,rfl,SqL.of (B.k _ _ (M.r.fresh J) upd_same),hu,?_⟩;exact ⟨_,rfl,X _ ((M.same (Same.upd J)).trans B) _ a6⟩
noncomputable def wordE:Ev->Str
 | .beg _ _ _ _=>"begin"
 | .fin _ _=>"end"
noncomputable def isBg (e:Ev):Bool:=decide (V.str (wordE e)=V.str "begin")
theorem zes {h:Int} {n v x:V}:isBg (.beg h n v x)=true:=by show decide (V.str "begin" = V.str "begin")=true;decide +kernel
theorem zh7 {h:Int} {a:V}:isBg (.fin h a)=false:=by show decide (V.str "end" = V.str "begin")=false;decide +kernel
noncomputable def bgN (es:List Ev):Nat:=(es.filter isBg).length
theorem zkc {es:List Ev} {h:Int} {a:V}:bgN (es++[.fin h a])=bgN es:=by unfold bgN;rw [E7,F0];rw [g8 (by rw [zh7];decide)];rfl
theorem zju {es:List Ev} {h:Int} {n v x:V}:bgN (es++[.beg h n v x])=bgN es + 1:=by unfold bgN;rw [E7,F0,d8 zes];rfl
theorem zka :∀{es:List Ev} {i:Nat} {rs:List Rc},(dAll i rs es).length=rs.length + bgN es
 | [],_,_=>rfl
 | e :: es,i,rs=>by
  have c:=zka (es:=es) (i:=i + 1) (rs:=dstep i rs e);show (dAll (i + 1) (dstep i rs e) es).length=_;rw [c];cases e with
  | beg hd n v x=>
   have b:(dstep i rs (.beg hd n v x)).length=rs.length + 1:=by show (rs++[_]).length=_;rw [F0];rfl
   have d:bgN (Ev.beg hd n v x :: es)=bgN es + 1:=by unfold bgN;rw [d8 zes,Z0]
   omega
  | fin hd a=>
   have b:(dstep i rs (.fin hd a)).length=rs.length:=by
    unfold dstep;dsimp only;cases lastI hd (rs.map Rc.h) with
    | none=>rfl
    | some j=>exact m6 ..
   have d:bgN (Ev.fin hd a :: es)=bgN es:=by unfold bgN;rw [g8 (by rw [zh7];decide)]
   omega
def BzAt (K:b0) (H:Hp) (b:Addr) (ts:List (Str×Str)) (os:List Int):Prop:=∃kvs:List (Key×V),H b=some (.dK kvs)/\kvs.map (·.1)=os.map Sum.inl/\∀h v,valV kvs (.inl h)=some v->AcAt K H ts v
theorem BzAt.tt {K:b0} {H H':Hp} {b:Addr} {ts:List (Str×Str)} {os:List Int} (t:Tt K H H') (e :∀o,H b=some o->H' b=some o) (h:BzAt K H b ts os):BzAt K H' b ts os:=by obtain ⟨a,d,c,f⟩:=h;exact ⟨a,e _ d,c,λ h v z=>(f h v z).tt t⟩
noncomputable def EvGd (K:b0) (H:Hp) (ts:List (Str×Str)):Ev->Prop
 | .beg _ n v x=>∃(nm k vb:Str) (dt:Dt),n=.str nm/\v=.str vb/\(nm,k)∈ts/\DeedOk k vb dt/\IsDt K H dt x/\WorthIn H dt x
 | .fin _ a=>AnsV a
theorem EvGd.tt {K:b0} {H H':Hp} {ts:List (Str×Str)} (t:Tt K H H') :∀{e:Ev},EvGd K H ts e->EvGd K H' ts e
 | .beg _ _ _ _,⟨nm,k,vb,dt,e1,e2,hm,dk,ix,wi⟩=>⟨nm,k,vb,dt,e1,e2,hm,dk,IsDt.mono' t.t dt _ ix,wi.tt t⟩
 | .fin _ _,h=>h
structure TaI (K:b0) (H:Hp) (pt d b l:Addr) (ts:List (Str×Str)) (i:Nat) (es:List Ev):Prop where
 th:ThAt H pt ts
 st:StsAt K H d i ts
 bz:BzAt K H b ts (es.foldl oStep [])
 ev :∃ys,H l=some (.lst ys)/\All2 (EvAt K H) es ys
 ln:es.length<=i
 gd :∀e∈es,EvGd K H ts e
theorem TaI.tt {K:b0} {H H':Hp} {pt d b l:Addr} {ts:List (Str×Str)} {i:Nat} {es:List Ev} (t:Tt K H H') (e :∀c∈[d,b,l],∀o,H c=some o->H' c=some o) (h:TaI K H pt d b l ts i es):TaI K H' pt d b l ts i es:=
 ⟨h.th.tt t,h.st.tt t (e d (by simp)),h.bz.tt t (e b (by simp)),h.ev.elim λ f z=>⟨f,e l (by simp) _ z.1,z01 (λ _ _ y=>EvAt.tups t.t y) z.2⟩,h.ln,λ e a=>(h.gd e a).tt t⟩
theorem TaI.same {K:b0} {H H':Hp} {pt d b l:Addr} {ts:List (Str×Str)} {i:Nat} {es:List Ev} (s:Same H H') (h:TaI K H pt d b l ts i es):TaI K H' pt d b l ts i es:=h.tt (.of s) λ _ _ _ e=>s _ _ e
theorem TaI.hw {K:b0} {H H':Hp} {pt d b l r:Addr} {ts:List (Str×Str)} {i:Nat} {es:List Ev} (R:HandAt H r) (w:Hw r H H') (n:r∉[d,b,l]) (h:TaI K H pt d b l ts i es):TaI K H' pt d b l ts i es:=h.tt (w.tt R) λ c a o e=>w.k c o (λ z=>n (z ▸ a)) e
theorem zd8 :∀(es:List Ev) (os:List Int),(es.foldl oStep os).length<=os.length + es.length
 | [],os=>A0 _
 | e :: es,os=>by
  have a:=zd8 es (oStep os e);have b:(oStep os e).length<=os.length + 1:=by
   cases e with
   | beg h _ _ _=>show (os++[h]).length<=_;rw [F0];exact A0 _
   | fin h _=>exact C0 (D2 _ _) (B2 _)
  show ((es.foldl oStep (oStep os e))).length<=_;rw [Z0];omega
theorem z26 {L:List Addr} {H H1 H2:Hp} (s:Same H H1) (k:KeptL L H1 H2) (n :∀l∈L,H l=none):Same H H2:=λ c o e=>k c o (λ z=>by rw [n c z] at e;cases e) (s c o e)
theorem zjj {K:b0} {H:Hp} {ts:List (Str×Str)} {es:List Ev} {e:Ev} (h :∀e∈es,EvGd K H ts e) (g:EvGd K H ts e) :∀x∈es++[e],EvGd K H ts x:=λ x a=>by
 rcases List.mem_append.mp a with z|z
 ·exact h x z
 ·rw [List.mem_singleton.mp z];exact g
theorem z7n {K:b0} {H:Hp} :∀{ts:List (Str×Str)} {ys zs:List V},All2 (λ (t:Str×Str) y=>∃b,y=.ref b/\H b=some (.tup [.str t.1,.str t.2])) ts ys->All2 (λ x y=>∃(n k:Str) (b c:Addr) (v:V),x=.ref b/\H b=some (.tup [.str n,.str k])/\y=.ref c/\H c=some (.tup [.str n,v])/\StAt K H 0 k v) ys zs->
  ∃kvs:List (Key×V),kvs.map (·.1)=ts.map (λ t=>Sum.inr t.1)/\All2 (λ (p:Key×V) y=>∃b,y=.ref b/\SqT K H b [kV p.1,p.2]) kvs zs/\∀t∈ts,∃v,((.inr t.1:Key),v)∈kvs/\StAt K H 0 t.2 v
 | [],_,_,.nil,.nil=>⟨[],rfl,.nil,λ _ h=>absurd h o0⟩
 | t :: ts,_,_,.cons a r,.cons a' r'=>by
  obtain ⟨kvs,w,f,l⟩:=z7n r r';obtain ⟨b,rfl,o⟩:=a;obtain ⟨n,k,B,c,v,A,d,rfl,j,q⟩:=a';cases A;rw [o] at d;injection d with d;injection d with d;have e:t.1=n:=by injection d with h _;injection h
  have g:t.2=k:=by injection d with _ h;injection h with h _;injection h
  subst e g;refine ⟨(.inr t.1,v) :: kvs,by rw [R0,R0,w],.cons ⟨c,rfl,SqT.of j⟩ f,λ u i=>?_⟩;rcases List.mem_cons.mp i with z|z
  ·rw [z];exact ⟨v,Q0,q⟩
  ·obtain ⟨m,h,s⟩:=l u z;exact ⟨m,Y0 _ h,s⟩
def z69 (K:b0):Sp:=λ vs H Q _=>∃(sc:Addr) (ns:List Int) (hs:Int),vs=[.ref sc,.int 5,.int hs,.int 4]/\SqL K H sc (ns.map V.int)/\ns.length<=63/\0 < hs/\hs<=6/\
 ∀t pt te ys es ts H',Same H H'->H' t=some (.tup [.ref pt,.ref te])->H' te=some (.tup ys)->ThAt H' pt ts->ThOk ts->All2 (EvAt K H') es ys->es.length<=63->EWf [] es->(∀e∈es,EvGd K H' ts e)->bgN es<=4->Q (.ref t) H'
theorem zay (T:TX (kx w) mg) (c0:Ca P w mg base "_law_hand" ["script","cell","k"] 1 (z3u (kx w))) (c2:Ca P w mg base "_law_draw" ["hand","limit"] 1 z0z) (c3:Ca P w mg base "_law_things" ["hand"] 2 z4l) (c4:Ca P w mg base "_law_begun" ["kind"] 1 (z2u (kx w))) (c5:Ca P w mg base "_law_ended" ["hand","things","states","act"] 2 (z5h (kx w))) (c6:Ca P w mg base "_law_act" ["hand","kind"] 3 (z7q (kx w))) (c7:Ca P w mg base "_law_does" ["kind","state","verb","worth"] 1 (z29 (kx w))):Fo P w mg base CX0 4 398 y14 ["script","first","hands","most"] (z69 (kx w)):=by
 refine (z4x w.params).ok sc__law_tale (λ vs H Q E h=>?_) (λ q3 A q4 s H vs Q E J h=>?_)
 ·obtain ⟨sc,W,hs,rfl,_⟩:=h;rfl
 ·obtain ⟨sc,W,hs,rfl,sq,hn,h0,h6,q⟩:=h;refine ⟨_,(z02 (ps_set (i:=4) sc__law_tale.nd rfl (U0 rfl) (pe_cal c0 (J.mono (by decide)) rfl (z00 (pv 0) (z00 (pe_ix ix_seq (pe_op zjr (pv 0) (pe_lst (z00 pe_int (z00 pe_int pa_nil)))) pe_int (λ _ _=>rfl)) (z00 pe_int pa_nil)))))
   (z02 (ps_set (i:=5) sc__law_tale.nd rfl (U0 rfl) (pe_cal c3 (J.mono (by decide)) rfl (z00 (pv 4) pa_nil)))
   (z02 (ps_set (i:=6) sc__law_tale.nd rfl (U0 rfl) (z0g (z11 rfl) rfl (T.no (n_dict _)) U7 (z00 (pe_cg (xs:=["name","kind"]) (g:=gTup (kx w) 2 (gCons (gName 0) (gCons (gName 1) gNil))) (fr:=[]) (pi_tup (pv 5)) (λ _ _ _ _ _=>(pg_tup rfl (z07 (pg_cn (N:=["name","kind"]) 0) (z07 (pg_cn (N:=["name","kind"]) 1) z0m)))) (λ _ _ _ _ _=>pf_nil) (λ _ _ _ _ _=>(pe_tup (z00 (pv 0) (z00 (pe_cal c4 (J.mono (by decide)) rfl (z00 (pv 1) pa_nil)) pa_nil))))) pa_nil)))
   (z02 (ps_set (i:=7) sc__law_tale.nd rfl (U0 rfl) (pe_and (z0v opEq (pe_cal c2 (J.mono (by decide)) rfl (z00 (pv 4) (z00 pe_int pa_nil))) pe_int (nomark _)) (pe_one (z0v op_gt (pv 3) pe_int (nomark _)))))
   (z02 (ps_set (i:=8) sc__law_tale.nd rfl (U0 rfl) z8y)
   (z02 (ps_set (i:=9) sc__law_tale.nd rfl (U0 rfl) pe_int)
   (z02 (ps_set (i:=10) sc__law_tale.nd rfl (U0 rfl) (pe_lst pa_nil))
   (z02 (ps_for K1 rfl (z3r rfl (T.no (z12 _)) (z00 (z2x slSeq (pv 0) (z4p (pv 1)) (z4p pe_int)) pa_nil)) (pg_tup rfl (z07 (z0f (i:=11) sc__law_tale.nd rfl (U0 rfl)) (z07 (z0f (i:=12) sc__law_tale.nd rfl (U0 rfl)) z0m)))
   (z02 (ps_set (i:=13) sc__law_tale.nd rfl (U0 rfl) (pe_cal c0 (J.mono (by decide)) rfl (z00 (pv 0) (z00 (pv 12) (z00 (pv 11) pa_nil)))))
   (z02 (ps_set (i:=14) sc__law_tale.nd rfl (U0 rfl) (pe_cal c2 (J.mono (by decide)) rfl (z00 (pv 13) (z00 (pv 2) pa_nil))))
   (z02 (ps_if (PW.pt (pw_and (pt_val (pv 7) (λ _=>rfl)) (pw_and (z08 (znl (hu_of J)) (pv 8) z8y (nomark _)) (z7u (PW.pt (pw_or (z08 op_gt (pe_cal c2 (J.mono (by decide)) rfl (z00 (pv 13) (z00 pe_int pa_nil))) pe_int (nomark _)) (pw_or1 (z08 op_gt (z0c z87 rfl (T.no (n_len _)) i4 (z00 (pv 8) pa_nil)) pe_int (nomark _)))))))))
   (z04 (ps_set (i:=14) sc__law_tale.nd rfl (U0 rfl) (pe_ix ix_seq (z0c (zb2 rfl) rfl (T.no (z8c _)) j1g (z00 (pv 8) pa_nil)) (pe_cal c2 (J.mono (by decide)) rfl (z00 (pv 13) (z00 (z0c z87 rfl (T.no (n_len _)) i4 (z00 (pv 8) pa_nil)) pa_nil))) (λ _ _=>rfl))))
   z0e)
   (z04 (ps_if (pt_cmp (pc_din (hu_of J) (pv 14) (pv 8)) (by with_unfolding_all rfl))
   (z04 (z22 (z18 (pv 10) (z00 (pe_tup (z00 pe_str (z00 (pv 14) (z00 (pe_cal c5 (J.mono (by decide)) rfl (z00 (pv 13) (z00 (pv 5) (z00 (pv 6) (z00 (zet (pv 8) (pv 14) ⟨rfl,rfl,rfl,rfl⟩) pa_nil))))) pa_nil)))) pa_nil))))
   (z04 (ps_if (z08 op_lt (pv 9) (pe_ix ix_seq (pe_lst (z00 (pv 3) (z00 pe_int pa_nil))) (z0g z84 rfl (T.no (n_int _)) j35 (z00 (pv 7) pa_nil)) (λ _ _=>rfl)) (nomark _))
   (z02 (ps_asg (pe_ix ix_seq (pv 5) (pe_cal c2 (J.mono (by decide)) rfl (z00 (pv 13) (z00 (z0c z1j rfl (T.no (n_len _)) i4 (z00 (pv 5) pa_nil)) pa_nil))) (λ _ _=>rfl)) (pg_tup rfl (z07 (z0f (i:=15) sc__law_tale.nd rfl (U0 rfl)) (z07 (z0f (i:=16) sc__law_tale.nd rfl (U0 rfl)) z0m))))
   (z02 (ps_asg (pe_cal c6 (J.mono (by decide)) rfl (z00 (pv 13) (z00 (pv 16) pa_nil))) (pg_tup rfl (z07 (z0f (i:=17) sc__law_tale.nd rfl (U0 rfl)) (z07 (z0f (i:=18) sc__law_tale.nd rfl (U0 rfl)) z0m))))
   (z02 (ps_set (i:=19) sc__law_tale.nd rfl (U0 rfl) pe_non)
   (z02 (ps_if (z08 opEq (pe_cal c2 (J.mono (by decide)) rfl (z00 (pv 13) (z00 pe_int pa_nil))) pe_int (nomark _))
   (z04 (ps_asg (pe_cal c7 (J.mono (by decide)) rfl (z00 (pv 16) (z00 (z2h (hu_of J) (pv 6) (pv 15) (λ _ _=>rfl)) (z00 (pv 17) (z00 (pv 18) pa_nil))))) (pg_tup rfl (z07 (pg_sub (pv 6) (pv 15) (zc8 (hu_of J))) (z07 (z0f (i:=19) sc__law_tale.nd rfl (U0 rfl)) z0m)))))
   z0e)
   (z02 (z9z (hu_of J) (pv 8) (pv 14) (pe_tup (z00 (pv 15) (z00 (pv 17) (z00 (pv 18) (z00 (pv 19) pa_nil))))) rfl)
   (z02 (z22 (z18 (pv 10) (z00 (pe_tup (z00 pe_str (z00 (pv 14) (z00 (pv 15) (z00 (pv 17) (z00 (pv 18) pa_nil)))))) pa_nil)))
   (z04 (ps_set (i:=9) sc__law_tale.nd rfl (U0 rfl) (pe_op opAdd (pv 9) pe_int)))))))))
   z0e))))))))
   (z04 (ps_ret (pe_tup (z00 (pv 5) (z00 (z0g z0n rfl (T.no (z4n _)) F6 (z00 (pv 10) pa_nil)) pa_nil))))))))))))),?_⟩
  have C :∃c:Int,atI (W.map V.int++[V.int 0,.int 0]) 1=some (.int c):=by
   match W with
   | []=>exact ⟨0,rfl⟩
   | [a]=>exact ⟨0,rfl⟩
   | a :: b :: r=>exact ⟨b,z05 (j:=1) rfl⟩
  obtain ⟨c,C⟩:=C;refine ⟨_,rfl,_,rfl,w_2,λ l0 o3=>?_⟩;have sA:=Same.upd (o:=.lst [V.int 0,.int 0]) o3;refine ⟨sc,l0,W.map V.int,[.int 0,.int 0],rfl,rfl,sA.seq sq,SqL.of upd_same,by rw [D0];exact C0 (m:=65) (by show W.length + 2<=65;omega) (by decide),λ l1 o1=>?_⟩;have sB:=sA.trans (Same.upd (o:=.lst (W.map V.int++[V.int 0,.int 0])) o1);refine .inl ⟨l1,_,1,.int c,rfl,rfl,SqL.of upd_same,C,sc,W,c,1,rfl,sB.seq sq,by decide,by decide,λ r H1 s1 R1 m3=>?_⟩;have s1:=sB.trans s1;have fr:H r=none:=sB.free m3;refine ⟨_,rfl,r,rfl,R1,λ pt O H2 w2 q0 th ok=>?_⟩;have s2:Same H H2:=z26 s1 (w2.keptL (L:=[r]) (by simp)) (λ l hl=>by rw [List.mem_singleton.mp hl];exact fr);obtain ⟨yt,d7,c8⟩:=th;refine g_name (t_nx ?_);refine zcx ?_;refine zg5 (S:=Same) (K:=KX w.params) (a:=pt) (xs:=yt) (λ x y H=>∃(n k:Str) (b c:Addr) (v:V),x=.ref b/\H b=some (.tup [.str n,.str k])/\y=.ref c/\H c=some (.tup [.str n,v])/\StAt (kx w) H 0 k v) (Same.refl _) (λ _ _ _ a b=>a.trans b) (λ _ _=>Same.refl _) ?_ (λ R h=>⟨_,rfl,h⟩) (λ H' s'=>s'.seqT (SqT.of d7)) (C0 (A7 (z03 c8)) (C0 ok.n6 (by decide))) ?_ ?_
  ·rintro x y H3 H4 s4 ⟨n,k,b,c,v,e1,e2,e3,e4,e5⟩;exact ⟨n,k,b,c,v,e1,s4 _ _ e2,e3,s4 _ _ e4,e5.tups (.of s4)⟩
  ·intro v hv H3 s3 KT m8 KF;obtain ⟨m,hm⟩:=List.mem_iff_getElem?.mp hv;obtain ⟨t,ht,b,rfl,eb⟩:=z09 c8 hm;refine ⟨b,_,rfl,SqT.of (s3 _ _ eb),rfl,_,_,rfl,_,_,rfl,rfl,[some (.str t.1),some (.str t.2)],rfl,rfl,iteT ?_⟩;refine ⟨_,rfl,_,rfl,t.2,rfl,λ u H4 s4 sa=>⟨w_2,λ p5 g9=>m8 _ _ (s4.trans (Same.upd g9)) ?_⟩⟩;exact ⟨t.1,t.2,b,p5,u,rfl,(s4.trans (Same.upd g9)) _ _ (s3 _ _ eb),rfl,upd_same,zeroK t.2,zbi _,sa.tups (.of (Same.upd g9))⟩
  intro l3 H3 zs s3 m4 n4;have j4:All2 (λ (t:Str×Str) y=>∃b,y=.ref b/\H3 b=some (.tup [.str t.1,.str t.2])) O yt:=z01 (λ _ _ z=>z.elim λ b y=>⟨b,y.1,s3 _ _ y.2⟩) c8;obtain ⟨f,ek,l6,fk⟩:=z7n j4 n4;obtain ⟨H4,v_,b7,g0⟩:=newA (.lst zs) m4;rw [<-v_];refine ⟨l3,zs,f,rfl,.inl g0,z01 (λ _ _ z=>z.elim λ b y=>⟨b,y.1,b7.seqT y.2⟩) l6,λ d hd=>?_⟩;refine g_name ?_;have ed:upd H4 d (.dK (mergeK [] f)) d=some (.dK (mergeK [] f)):=upd_same;have Z:=Same.upd (o:=.dK (mergeK [] f)) hd;have fd:H d=none:=(s2.trans (s3.trans b7)).free hd;have j5:StsAt (kx w) (upd H4 d (.dK (mergeK [] f))) d 0 O:=by
   refine ⟨_,ed,?_,λ t ht=>?_⟩
   ·have h1:=z20 (more:=f) (acc:=[]);have h2:=congrArg u6 ek;rw [D0,D0] at h2;have:=ok.n6;rw [F4,X5] at h1;omega
   ·obtain ⟨v,hv,sa⟩:=fk t ht;refine ⟨v,z19 ?_ hv,sa.tups (.of (b7.trans Z))⟩;rw [ek,show (O.map λ t=>(Sum.inr t.1:Key))=(O.map (·.1)).map Sum.inr by rw [X2];rfl];exact S4 _ (λ a b h e=>h (d6 e)) ok.nd
  have i1:ThAt (upd H4 d (.dK (mergeK [] f))) pt O:=ThAt.tt (K:=KX w.params) (.of (b7.trans Z)) ⟨yt,s3 _ _ d7,j4⟩;have R5:HandAt (upd H4 d (.dK (mergeK [] f))) r:=w2.r.same ((s3.trans b7).trans Z);have Z:=(s2.trans (s3.trans b7)).trans Z;generalize upd H4 d (.dK (mergeK [] f))=H5 at ed Z j5 i1 R5⊢;refine z6p (λ σ1 H6=>Hw r H5 H6/\∃cm:Bool,cm=false/\σ1=[some (.ref sc),some (.int 5),some (.int hs),some (.int 4),some (.ref r),some (.ref pt),some (.ref d),some (.bl cm),none,none,none,none,none,none,none,none,none,none,none,none]) ?_ (λ tl=>?_);rotate_left
  ·refine ⟨_,rfl,r,3,rfl,R5,by decide,by decide,λ t6 H6 Y _ _=>⟨rfl,_,rfl,?_⟩⟩;refine ite2 (λ _=>?_) λ _=>tl _ _ ⟨Y,false,rfl,rfl⟩;exact ⟨_,rfl,_,_,rfl,rfl,tl _ _ ⟨Y,_,(by decide),rfl⟩⟩
  rintro σ1 H6 ⟨Y,cm,hcm,rfl⟩;have s6:Same H H6:=z26 Z (Y.keptL (L:=[r]) (by simp)) (λ l hl=>by rw [List.mem_singleton.mp hl];exact fr);have m2:d≠r:=λ z=>by obtain ⟨a1,b1,c1,e1,_⟩:=R5;rw [<-z,ed] at e1;cases e1
  have k3:StsAt (kx w) H6 d 0 O:=j5.tt (Y.tt R5) λ o e=>Y.k _ _ m2 e;have m6:ThAt H6 pt O:=i1.tt (Y.tt (K:=KX w.params) R5);intro b hb;have fb:H b=none:=s6.free hb;have f0:b≠d:=λ z=>by obtain ⟨kv,e,_⟩:=k3;rw [z,e] at hb;cases hb
  have s7:=Same.upd (o:=.dK []) hb;have eb:upd H6 b (.dK []) b=some (.dK []):=upd_same;have h9:=k3.tt (.of s7) λ o e=>s7 _ _ e;have j7:=m6.tt (.of (K:=KX w.params) s7);have s7:=s6.trans s7;generalize upd H6 b (.dK [])=D at eb s7 h9 j7⊢;refine ⟨w_0,λ l hl=>?_⟩;have fl:H l=none:=s7.free hl;have G:=Same.upd (o:=.lst []) hl;have el:upd D l (.lst []) l=some (.lst []):=upd_same;have I8:TaI (kx w) (upd D l (.lst [])) pt d b l O 0 []:=⟨j7.tt (.of (K:=KX w.params) G),h9.tt (.of G) (λ o e=>G _ _ e),⟨[],G _ _ eb,rfl,λ h v e=>by cases e⟩,⟨[],el,.nil⟩,A0 _,λ e he=>absurd he o0⟩
  have G:=s7.trans G;generalize upd D l (.lst [])=H8 at G I8⊢;have l4 :∃ms:List Int,cutV (W.map V.int) (some 5) (some 63)=ms.map V.int/\ms.length<=63:=by
   refine ⟨(W.drop (HT.sIx (W.map V.int).length 0 (some 5))).take (HT.sIx (W.map V.int).length (W.map V.int).length (some 63) - HT.sIx (W.map V.int).length 0 (some 5)),?_,?_⟩
   ·unfold cutV;rw [List.map_take,List.map_drop]
   ·rw [P3,b8];omega
  obtain ⟨ms,em,q6⟩:=l4;refine ⟨_,rfl,_,rfl,5,rfl,63,rfl,.inl ⟨sc,_,rfl,G.seq sq,λ qa b3=>?_⟩⟩;rw [em];have s9:=Same.upd (o:=.lst (ms.map V.int)) b3;have g5:upd H8 qa (.lst (ms.map V.int)) qa=some (.lst (ms.map V.int)):=upd_same;have I9:=I8.same s9;have p8:H qa=none:=G.free b3;have j9:qa∉[d,b,l]:=λ z=>by
   simp only [W0,o0,or_false] at z;rcases z with z|z|z
   ·obtain ⟨kv,e,_⟩:=I8.st;rw [z,e] at b3;cases b3
   ·obtain ⟨kv,e,_⟩:=I8.bz;rw [z,e] at b3;cases b3
   ·obtain ⟨kv,e,_⟩:=I8.ev;rw [z,e] at b3;cases b3
  have s9:=G.trans s9;generalize upd H8 qa (.lst (ms.map V.int))=H9 at s9 g5 I9⊢;refine ⟨qa,_,rfl,SqL.of g5,?_⟩;refine z5o (K:=KX w.params) (a:=qa) (xs:=ms.map V.int) (λ i σ H'=>∃M a5,TaI (kx w) H' pt d b l O i M/\(a5=(bgN M:Nat)/\bgN M<=4)/\EWf [] M/\H' qa=some (.lst (ms.map V.int))/\Same H H'/\∃x11 x12 x13 x14 x15 x16 x17 x18 x19,σ=[some (.ref sc),some (.int 5),some (.int hs),some (.int 4),some (.ref r),some (.ref pt),some (.ref d),some (.bl cm),some (.ref b),some (.int a5),some (.ref l),x11,x12,x13,x14,x15,x16,x17,x18,x19])
   ⟨[],0,I9,⟨rfl,X1 _⟩,trivial,g5,s9,_,_,_,_,_,_,_,_,_,rfl⟩ (λ i σ H' h=>?_) ?_ ?_
  ·obtain ⟨M,a5,_,_,_,e,_⟩:=h;exact SqL.of e
  ·rintro i y σ H3 p hy ⟨M,a5,ti,⟨mb,mb4⟩,wf,eq3,s3,x11,x12,x13,x14,x15,x16,x17,x18,x19,rfl⟩ hp;obtain ⟨cell,k5,rfl⟩:=K0 .. ▸ hy |> Option.map_eq_some_iff.mp;have hi:i < ms.length:=(List.getElem?_eq_some_iff.mp k5).1;have sp:=Same.upd (o:=.tup [.int i,.int cell]) hp;have i7:upd H3 p (.tup [.int i,.int cell]) p=some (.tup [.int i,.int cell]):=upd_same;have d8:=ti.same sp;have g8:=sp _ _ eq3;have s4:=s3.trans sp;generalize upd H3 p (.tup [.int i,.int cell])=H4 at i7 d8 g8 s4⊢;refine ⟨p,_,rfl,SqT.of i7,rfl,.int i,_,rfl,.int cell,_,rfl,rfl,?_⟩;refine ⟨_,rfl,_,rfl,_,rfl,sc,W,cell,i,rfl,s4.seq sq,by omega,by omega,λ B H5 Z R5 a7=>?_⟩;have fH:H B=none:=s4.free a7;have e8:B≠d:=λ z=>by obtain ⟨kv,e,_⟩:=d8.st;rw [z,e] at a7;cases a7
   have e7:B≠b:=λ z=>by obtain ⟨kv,e,_⟩:=d8.bz;rw [z,e] at a7;cases a7
   have f9:B≠l:=λ z=>by obtain ⟨kv,e,_⟩:=d8.ev;rw [z,e] at a7;cases a7
   have f8:B≠qa:=λ z=>by rw [z,g8] at a7;cases a7
   have i9:B∉[d,b,l]:=by simp [e8,e7,f9]
   have l9:=d8.same Z;have l5:=Z _ _ g8;have Z:=s4.trans Z;refine ⟨_,rfl,_,rfl,B,hs,rfl,R5,h0,by omega,λ one H6 Y _ _=>?_⟩;have m1:=l9.hw R5 Y i9;have m5:=Y.k _ _ (J2 f8) l5;have s6:Same H H6:=z26 Z (Y.keptL (L:=[B]) (by simp)) (λ l hl=>by rw [List.mem_singleton.mp hl];exact fH);have q7:(M.foldl oStep []).length<=i:=by have h1:=zd8 M [];have h2:=ti.ln;rw [F4,X5] at h1;omega
   refine g_name (t_nx ?_);refine z6p (λ σ1 D=>Hw B H6 D/\∃one:Int,σ1=[some (.ref sc),some (.int 5),some (.int hs),some (.int 4),some (.ref r),some (.ref pt),some (.ref d),some (.bl cm),some (.ref b),some (.int a5),some (.ref l),some (.int i),some (.int cell),some (.ref B),some (.int one),x15,x16,x17,x18,x19]) ?_ (λ tl=>?_);rotate_left
   ·refine ⟨_,rfl,cm,rfl,?_⟩;cases cm with
    | false=>exact iteF (iteF (tl _ _ ⟨Y.r.hw,_,rfl⟩))
    | true=>cases hcm
   rintro σ7 D ⟨w7,one,rfl⟩;have a4:=m1.hw Y.r w7 i9;have R7:=w7.r;have g7:=w7.k _ _ (J2 f8) m5;have s7:Same H D:=z26 s6 (w7.keptL (L:=[B]) (by simp)) (λ l hl=>by rw [List.mem_singleton.mp hl];exact fH);obtain ⟨f,c9,d1,g1⟩:=a4.bz;obtain ⟨I,b4,g6⟩:=a4.ev;have kl:f.length=(M.foldl oStep []).length:=by have:=congrArg u6 d1;simpa using this
   have f3:l≠b:=λ z=>by rw [z,c9] at b4;cases b4
   have f7:l≠d:=λ z=>by obtain ⟨kv,e,_⟩:=a4.st;rw [z,e] at b4;cases b4
   have yl:I.length<=i:=by rw [z03 g6];exact ti.ln
   have dg:DGet D b (.int one) (valV f (.inl one)):=DGet.k (k:=.inl one) c9;refine ⟨_,rfl,_,rfl,b,_,rfl,dg,_,rfl,?_⟩;cases hv:valV f (.inl one) with
   | some v=>
    refine iteP rfl ?_;have o8:one∈M.foldl oStep []:=by have:(Sum.inl one:Key)∈f.map (·.1):=valV_isSome.mp (by rw [hv];rfl);rw [d1] at this;obtain ⟨k,hk,e⟩:=List.mem_map.mp this;exact Q3 e ▸ hk
    refine ⟨_,rfl,.inl ⟨rfl,_,SqL.of b4⟩,_,rfl,_,rfl,_,rfl,_,rfl,_,rfl,b,rfl,.inl ⟨_,.inl c9⟩,_,rfl,f,.inl one,v,c9,rfl,hv,?_⟩;have k8:KeptL [b] D (upd D b (.dK (dropK f (.inl one)))):=KeptL.set (by simp);have T8:Tt (kx w) D (upd D b (.dK (dropK f (.inl one)))):=KeptL.tt k8 λ c C=>by rw [List.mem_singleton.mp C];exact .inr ⟨_,c9⟩
    have j6:upd D b (.dK (dropK f (.inl one))) b=some (.dK (dropK f (.inl one))):=upd_same;generalize upd D b (.dK (dropK f (.inl one)))=H8 at k8 T8 j6⊢;have R8:HandAt H8 B:=by obtain ⟨a1,b1,c1,e1,z1⟩:=R7;exact ⟨a1,b1,c1,k8 _ _ (by simp [e7]) e1,z1⟩
    have k0:StsAt (kx w) H8 d i O:=a4.st.tt T8 λ o e=>k8 _ _ (by simp [f0.symm]) e;have p4:H8 l=some (.lst I):=k8 _ _ (by simp [f3]) b4;refine ⟨B,pt,d,v,O,i,rfl,R8,a4.th.tt T8,ok,k0,by omega,(g1 _ _ hv).tt T8,λ a H9 hA k9 R9 n5=>?_⟩;have T9:Tt (kx w) H8 H9:=KeptL.tt k9 λ c C=>by
     simp only [W0,o0,or_false] at C;rcases C with rfl|rfl
     ·exact R8.mutAt
     ·exact k0.mutAt
    have p2:H9 b=_:=k9 _ _ (by simp [f0,J2 e7]) j6;have o4:H9 l=_:=k9 _ _ (by simp [f7,J2 f9]) p4;refine ⟨w_3,λ p9 o2=>?_⟩;have b6:=Same.upd (o:=.tup [.str "end",.int one,a]) o2;have e6:upd H9 p9 (.tup [.str "end",.int one,a]) p9=some (.tup [.str "end",.int one,a]):=upd_same;have d2:=n5.tt (.of b6) λ o e=>b6 _ _ e;generalize upd H9 p9 (.tup [.str "end",.int one,a])=a3 at b6 e6 d2⊢;have j3:=b6 _ _ o4;refine ⟨l,I,_,rfl,rfl,j3,B1 (m:=63) (by omega) (by decide),?_⟩;have a9:KeptL [l] a3 (upd a3 l (.lst (I++[.ref p9]))):=KeptL.set (by simp);have b2:Tt (kx w) a3 (upd a3 l (.lst (I++[.ref p9]))):=KeptL.tt a9 λ c C=>by rw [List.mem_singleton.mp C];exact .inl ⟨_,j3⟩
    have f1:upd a3 l (.lst (I++[.ref p9])) l=some (.lst (I++[.ref p9])):=upd_same;generalize upd a3 l (.lst (I++[.ref p9]))=F at a9 b2 f1⊢;have T:Tt (kx w) D F:=((T8.trans T9).trans (.of b6)).trans b2;have kk:KeptL [B,d,b,l] D F:=λ c o n e=>by simp only [W0,o0,or_false,not_or] at n;exact a9 _ _ (by simp [n]) (b6 _ _ (k9 _ _ (by simp [n]) (k8 _ _ (by simp [n]) e)))
    have g2:qa∉[B,d,b,l]:=by
     intro z;rcases List.mem_cons.mp z with z|z
     ·exact f8 z.symm
     ·exact j9 z
    refine ⟨M++[.fin one a],a5,⟨a4.th.tt T,d2.tt b2 (λ o e=>a9 _ _ (by simp [J2 f7]) e),?_,⟨_,f1,?_⟩,?_,zjj (e:=.fin one a) (λ e he=>(a4.gd e he).tt T) hA⟩,⟨by rw [zkc];exact mb,by rw [zkc];exact mb4⟩,EWf.snoc (e:=.fin one a) wf o8,kk _ _ g2 g7,z26 s7 kk (λ c C=>?_),_,_,_,_,_,_,_,_,_,rfl⟩
    ·refine ⟨_,a9 _ _ (by simp [J2 f3]) (b6 _ _ p2),?_,λ h u hu=>?_⟩
     ·rw [K4];exact zcg d1
     ·refine (g1 h u ?_).tt T;by_cases z:h=one
      ·subst z;have:(Sum.inl h:Key)∈(dropK f (.inl h)).map (·.1):=valV_isSome.mp (by rw [hu];rfl);obtain ⟨q1,o9,e1⟩:=List.mem_map.mp this;have:=(List.mem_filter.mp o9).2;exact absurd e1 (of_decide_eq_true this)
      ·rwa [zde (λ e=>z (Q3 e))] at hu
    ·exact z0y (z01 (λ _ _ z=>EvAt.tups T.t z) g6) ⟨p9,rfl,b2.t _ _ (SqT.of e6)⟩
    ·rw [F0];exact Y5 ti.ln
    ·simp only [W0,o0,or_false] at C;rcases C with rfl|rfl|rfl|rfl
     ·exact fH
     ·exact fd
     ·exact fb
     ·exact fl
   | none=>
    refine iteN (by decide) ?_;have i6:one∉M.foldl oStep []:=λ z=>by have:(valV f (.inl one)).isSome=true:=valV_isSome.mpr (by rw [d1];exact List.mem_map.mpr ⟨one,z,rfl⟩);rw [hv] at this;cases this
    have n9:atI [V.int 4,.int 24] (if cm=true then 1 else 0)=some (.int 4):=by rw [hcm];rfl
    refine ⟨_,rfl,_,rfl,w_2,λ l8 l7=>⟨_,rfl,.inl (.inr ⟨cm,rfl,.inl ⟨l8,_,_,.int 4,rfl,rfl,SqL.of upd_same,n9,_,_,rfl,rfl,_,rfl,?_⟩⟩)⟩⟩;have G:=Same.upd (o:=.lst [V.int 4,.int 24]) l7;generalize upd D l8 (.lst [V.int 4,.int 24])=H8 at G⊢;have b0:=a4.same G;have R8:=R7.same G;refine ite2 (λ p0=>?_) λ _=>⟨M,a5,⟨b0.th,b0.st.le (B2 _),b0.bz,b0.ev,G6 b0.ln,b0.gd⟩,⟨mb,mb4⟩,wf,G _ _ g7,s7.trans G,_,_,_,_,_,_,_,_,_,rfl⟩
    obtain ⟨yt,d7,c8⟩:=b0.th;have p7:yt.length=O.length:=z03 c8;have q9:=ok.n0;have q2:=ok.n6;refine ⟨_,rfl,_,rfl,_,rfl,.inl ⟨pt,yt,rfl,.inr (SqT.of d7),B,_,rfl,R8,by omega,by omega,λ t9 H9 w9 p1 o7=>?_⟩⟩;obtain ⟨v9,p3,n2⟩:=atI_of (xs:=yt) p1 o7;obtain ⟨j,hj⟩:=List.mem_iff_getElem?.mp n2;obtain ⟨t,ht,b9,rfl,e9⟩:=z09 c8 hj;have d5:=G0 ht;have T9:Tt (kx w) H8 H9:=w9.tt R8;refine .inr (.inl ⟨pt,yt,t9,_,rfl,rfl,SqT.of (T9.l _ _ d7),p3,b9,_,rfl,SqT.of (T9.l _ _ e9),rfl,_,_,rfl,_,_,rfl,rfl,?_⟩);refine ⟨_,rfl,_,rfl,B,t.2,rfl,w9.r,ok.ks t d5,λ l2 U X h4 a3 f6 e6 _ dk ix wi=>⟨l2,_,rfl,SqT.of e6,rfl,_,_,rfl,_,_,rfl,rfl,t_nx ?_⟩⟩;have h5:=w9.trans f6;have k1:Tt (kx w) H8 a3:=h5.tt R8;have d2:StsAt (kx w) a3 d i O:=b0.st.tt k1 λ o e=>h5.k _ _ (J2 e8) e;refine z0s ?_;refine g_name ?_;refine z6p (λ σ1 F=>KeptL [B,d] a3 F/\HandAt F B/\StsAt (kx w) F d (i + 1) O/\∃hd',(hd'=.non\/AnsV hd')/\σ1=[some (.ref sc),some (.int 5),some (.int hs),some (.int 4),some (.ref r),some (.ref pt),some (.ref d),some (.bl cm),some (.ref b),some (.int a5),some (.ref l),some (.int i),some (.int cell),some (.ref B),some (.int one),some (.str t.1),some (.str t.2),some (.str U),some X,some hd']) ?_ (λ i3=>?_);rotate_left
    ·refine ⟨_,rfl,B,3,rfl,f6.r,by decide,by decide,λ r0 F d0 _ _=>⟨rfl,_,rfl,?_⟩⟩;have b2:Tt (kx w) a3 F:=d0.tt f6.r;have e0:StsAt (kx w) F d i O:=d2.tt b2 λ o e=>d0.k _ _ (J2 e8) e;refine ite2 (λ _=>?_) λ _=>i3 _ _ ⟨d0.keptL (by simp),d0.r,e0.le (B2 _),_,.inl rfl,rfl⟩;obtain ⟨q8,g3,n1,f2⟩:=e0;obtain ⟨st,ev,sv,so,sz⟩:=f2 t d5;have m7:DGet F d (.str t.1) (some st):=by have:=DGet.k (k:=.inr t.1) g3;rw [ev] at this;exact this
     refine ⟨_,rfl,_,rfl,_,rfl,d,st,rfl,m7,_,rfl,_,rfl,t.2,U,st,X,h4,i,sv,rfl,so,sz,by omega,dk,IsDt.mono' b2.t _ _ ix,wi.tt b2,λ a2 m0 a8 a0 f5 n7=>?_⟩;have k2:=dz_ok dk so (show i < 63 by omega);refine ⟨a2,_,rfl,SqT.of f5,rfl,m0,_,rfl,_,rfl,_,rfl,d,_,rfl,DPut.k (k:=.inr t.1) (a0 _ _ g3) (B1 (m:=100) (by omega) (by decide)),_,_,rfl,rfl,?_⟩;refine i3 _ _ ⟨((d0.keptL (by simp)).trans a0.keptL).trans (KeptL.set (by simp)),?_,.put ok a0 g3 n1 f2 d5 ⟨_,k2.1,n7⟩,_,.inr k2.2,rfl⟩;obtain ⟨a1,b1,c1,e1,z1⟩:=d0.r.same a0;exact ⟨a1,b1,c1,by rw [upd_ne e8];exact e1,z1⟩
    rintro q5 F ⟨a9,R11,e0,hd',hh,rfl⟩;have k7:KeptL [B,d] D F:=(G.keptL.trans (h5.keptL (by simp))).trans a9;have T1:Tt (kx w) a3 F:=KeptL.tt a9 λ c C=>by
     simp only [W0,o0,or_false] at C;rcases C with rfl|rfl
     ·exact f6.r.mutAt
     ·exact d2.mutAt
    have T7:Tt (kx w) D F:=(Tt.trans (.of G) k1).trans T1;have p6:F b=_:=k7 _ _ (by simp [f0,J2 e7]) c9;have f1:F l=_:=k7 _ _ (by simp [f7,J2 f9]) b4;refine ⟨_,rfl,_,rfl,_,rfl,_,rfl,w_4,λ a2 n8=>?_⟩;have a0:=Same.upd (o:=.tup [.str t.1,.str U,X,hd']) n8;have f5:upd F a2 (.tup [.str t.1,.str U,X,hd']) a2=some (.tup [.str t.1,.str U,X,hd']):=upd_same;have h7:=e0.tt (.of a0) λ o e=>a0 _ _ e;generalize upd F a2 (.tup [.str t.1,.str U,X,hd'])=a8 at a0 f5 h7⊢;have i0:=a0 _ _ p6;have k6:=a0 _ _ f1;refine ⟨_,rfl,_,rfl,b,_,rfl,DPut.k (k:=.inl one) i0 (B1 (m:=100) (by omega) (by decide)),?_⟩;have d3:KeptL [b] a8 (upd a8 b (.dK (putK f (.inl one) (.ref a2)))):=KeptL.set (by simp);have g4:Tt (kx w) a8 (upd a8 b (.dK (putK f (.inl one) (.ref a2)))):=KeptL.tt d3 λ c C=>by rw [List.mem_singleton.mp C];exact .inr ⟨_,i0⟩
    have j0:upd a8 b (.dK (putK f (.inl one) (.ref a2))) b=some (.dK (putK f (.inl one) (.ref a2))):=upd_same;have i5:=h7.tt g4 λ o e=>d3 _ _ (by simp [J2 f0]) e;have h3:upd a8 b (.dK (putK f (.inl one) (.ref a2))) l=_:=d3 _ _ (by simp [f3]) k6;generalize upd a8 b (.dK (putK f (.inl one) (.ref a2)))=H13 at d3 g4 j0 i5 h3⊢;refine ⟨_,rfl,.inl ⟨rfl,_,SqL.of h3⟩,_,rfl,_,rfl,_,rfl,_,rfl,w_5,λ a6 k4=>?_⟩;have b5:=Same.upd (o:=.tup [.str "begin",.int one,.str t.1,.str U,X]) k4;have i8:upd H13 a6 (.tup [.str "begin",.int one,.str t.1,.str U,X]) a6=some (.tup [.str "begin",.int one,.str t.1,.str U,X]):=upd_same;have j2:=i5.tt (.of b5) λ o e=>b5 _ _ e;generalize upd H13 a6 (.tup [.str "begin",.int one,.str t.1,.str U,X])=H14 at b5 i8 j2⊢;have i2:=b5 _ _ h3;have n3:=b5 _ _ j0;refine ⟨l,I,_,rfl,rfl,i2,B1 (m:=63) (by omega) (by decide),?_⟩;have d9:KeptL [l] H14 (upd H14 l (.lst (I++[.ref a6]))):=KeptL.set (by simp);have f4:Tt (kx w) H14 (upd H14 l (.lst (I++[.ref a6]))):=KeptL.tt d9 λ c C=>by rw [List.mem_singleton.mp C];exact .inl ⟨_,i2⟩
    have h8:upd H14 l (.lst (I++[.ref a6])) l=some (.lst (I++[.ref a6])):=upd_same;generalize upd H14 l (.lst (I++[.ref a6]))=H15 at d9 f4 h8⊢;refine ⟨_,rfl,.inl ⟨_,_,rfl,rfl,?_⟩⟩;have j8:Tt (kx w) a8 H15:=(g4.trans (.of b5)).trans f4;have d4:Tt (kx w) F H15:=Tt.trans (.of a0) j8;have T:Tt (kx w) D H15:=T7.trans d4;have kk:KeptL [B,d,b,l] D H15:=λ c o n e=>by simp only [W0,o0,or_false,not_or] at n;exact d9 _ _ (by simp [n]) (b5 _ _ (d3 _ _ (by simp [n]) (a0 _ _ (k7 _ _ (by simp [n]) e))))
    have g2:qa∉[B,d,b,l]:=by
     intro z;rcases List.mem_cons.mp z with z|z
     ·exact f8 z.symm
     ·exact j9 z
    have m9:(Sum.inl one:Key)∉f.map (·.1):=by rw [d1];intro z;obtain ⟨k,hk,e⟩:=List.mem_map.mp z;exact i6 (Q3 e ▸ hk)
    refine ⟨M++[.beg one (.str t.1) (.str U) X],a5 + 1,⟨a4.th.tt T,j2.tt f4 (λ o e=>d9 _ _ (by simp [J2 f7]) e),?_,⟨_,h8,?_⟩,?_,zjj (e:=.beg one (.str t.1) (.str U) X) (λ e he=>(a4.gd e he).tt T) ⟨t.1,t.2,U,h4,rfl,rfl,d5,dk,IsDt.mono' (T1.trans d4).t _ _ ix,wi.tt (T1.trans d4)⟩⟩,⟨by rw [zju,mb],by rw [zju];have:=of_decide_eq_true p0;omega⟩,EWf.snoc (e:=.beg one (.str t.1) (.str U) X) wf i6,kk _ _ g2 g7,z26 s7 kk (λ c C=>?_),_,_,_,_,_,_,_,_,_,rfl⟩
    ·refine ⟨_,d9 _ _ (by simp [J2 f3]) n3,?_,λ h u hu=>?_⟩
     ·rw [K4,z6n m9,j1,d1];show _=((M.foldl oStep [])++[one]).map Sum.inl;rw [j1];rfl
     ·rw [z1d] at hu;by_cases z:(Sum.inl h:Key)=Sum.inl one
      ·rw [if_pos z] at hu;cases hu;exact ⟨a2,t.1,U,X,hd',t.2,h4,rfl,j8.l _ _ f5,d5,dk,IsDt.mono' (T1.trans d4).t _ _ ix,wi.tt (T1.trans d4),hh⟩
      ·rw [if_neg z] at hu;exact (g1 h u hu).tt T
    ·exact z0y (z01 (λ _ _ z=>EvAt.tups T.t z) g6) ⟨a6,rfl,f4.t _ _ (SqT.of i8)⟩
    ·rw [F0];exact Y5 ti.ln
    ·simp only [W0,o0,or_false] at C;rcases C with rfl|rfl|rfl|rfl
     ·exact fH
     ·exact fd
     ·exact fb
     ·exact fl
  ·rintro σ H3 ⟨M,a5,ti,mb,wf,eq3,s3,x11,x12,x13,x14,x15,x16,x17,x18,x19,rfl⟩;obtain ⟨I,g0,o5⟩:=ti.ev;refine ⟨_,rfl,_,rfl,l,I,rfl,.inl ⟨SqL.of g0,λ te o6=>⟨w_2,λ t ht=>?_⟩⟩⟩;have sE:=Same.upd (o:=.tup I) o6;have sF:=sE.trans (Same.upd (o:=.tup [.ref pt,.ref te]) ht);refine q t pt te I M O _ (s3.trans sF) upd_same ((Same.upd ht) _ _ upd_same) (ti.th.tt (.of (K:=KX w.params) sF)) ok (z01 (λ _ _ z=>EvAt.tups (.of sF) z) o5) ?_ wf (λ e he=>(ti.gd e he).tt (.of sF)) mb.2;have:=ti.ln;rw [D0] at this;omega
def ActAt (H:Hp) (r:Rc) (y:V):Prop:=∃p,y=.ref p/\H p=some (.lst [.int r.h,r.n,r.v,r.x,r.a,.int r.b,endV r.e])
theorem ActAt.same {H H':Hp} {r:Rc} {y:V} (s:Same H H') (h:ActAt H r y):ActAt H' r y:=h.elim λ p z=>⟨p,z.1,s _ _ z.2⟩
theorem ActAt.wrote {H:Hp} {l:Addr} {o:HO} {r:Rc} {y:V} (n:y≠.ref l) (h:ActAt H r y):ActAt (upd H l o) r y:=h.elim λ p z=>⟨p,z.1,by rw [upd_ne (λ e=>n (by rw [z.1,e]))];exact z.2⟩
def z6v:Sp:=λ vs H Q _=>∃(l:Addr) (zs:List V) (rs:List Rc) (i m a b:Nat) (os:List Int),vs=[.ref l,.str (z0x m),.int a,.int b]/\H l=some (.lst zs)/\All2 (ActAt H) rs zs/\DInv i rs os/\a < rs.length/\b < rs.length/\Q (.bl (z0j m rs a b)) H
theorem zbw (T:TX (kx w) mg):Fo P w mg base CX0 1 412 y16 ["acts","strictness","one","other"] z6v:=by
 refine (z4z w.params).ok zbd (λ x H Q E h=>?_) (λ D A F s H x Q E G h=>?_)
 ·obtain ⟨l,f,c,i,m,a,b,v,rfl,_⟩:=h;rfl
 ·obtain ⟨l,f,c,i,m,a,b,v,rfl,g,r,I,y,B,h⟩:=h;refine ⟨_,(z02 (ps_if (z08 opEq (pv 1) pe_str (nomark _))
   (z04 (ps_ret (pe_and (z0v z7y (pe_ix ix_seq (pe_ix ix_seq (pv 0) (pv 2) (λ _ _=>rfl)) pe_int (λ _ _=>rfl)) pe_non (nomark _)) (pe_one (z0v op_lt (pe_ix ix_seq (pe_ix ix_seq (pv 0) (pv 2) (λ _ _=>rfl)) pe_int (λ _ _=>rfl)) (pe_ix ix_seq (pe_ix ix_seq (pv 0) (pv 3) (λ _ _=>rfl)) pe_int (λ _ _=>rfl)) (nomark _))))))
   z0e)
   (z04 (ps_ret (pe_and (z0v opEq (pv 1) pe_str (nomark _)) (pe_and (z0v op_lt (pv 2) (pv 3) (nomark _)) (pe_one (z0v opEq (pe_ix ix_seq (pe_ix ix_seq (pv 0) (pv 2) (λ _ _=>rfl)) pe_int (λ _ _=>rfl)) (pe_ix ix_seq (pe_ix ix_seq (pv 0) (pv 3) (λ _ _=>rfl)) pe_int (λ _ _=>rfl)) (nomark _)))))))),?_⟩
  have n:c[a]? = some c[a]:=B0 y;have o:c[b]? = some c[b]:=B0 B;obtain ⟨C,q,d,rfl,p⟩:=z0q r n;obtain ⟨J,t,k,rfl,u⟩:=z0q r o;rw [z41 n o] at h
  match m,h with
  | 0,h=>
   refine ⟨_,rfl,rfl,_,rfl,iteP (decide_eq_true rfl) ?_⟩;refine ⟨_,rfl,_,rfl,.inl ⟨l,f,a,.ref d,rfl,rfl,SqL.of g,z05 q,.inl ⟨d,_,6,endV c[a].e,rfl,rfl,SqL.of p,z05 (j:=6) rfl,rfl,_,rfl,?_⟩⟩⟩;cases re:c[a].e with
   | none=>
    refine iteN (by show ¬ (!decide (V.non=V.non))=true;decide) ?_;have:aheadB 0 c[a] c[b]=false:=by show ltO c[a].e c[b].b=_;rw [re];rfl
    rw [this] at h;exact h
   | some e=>
    refine iteP rfl ?_;refine ⟨_,rfl,_,rfl,.inl ⟨l,f,a,.ref d,rfl,rfl,SqL.of g,z05 q,.inl ⟨d,_,6,.int (e:Nat),rfl,rfl,SqL.of p,z05 (j:=6) (by rw [re];rfl),?_⟩⟩⟩;refine ⟨_,rfl,_,rfl,.inl ⟨l,f,b,.ref k,rfl,rfl,SqL.of g,z05 t,.inl ⟨k,_,5,.int (c[b].b:Nat),rfl,rfl,SqL.of u,z05 (j:=5) rfl,e,c[b].b,rfl,rfl,?_⟩⟩⟩;have:aheadB 0 c[a] c[b]=decide (e < c[b].b):=by show ltO c[a].e c[b].b=_;rw [re];rfl
    rw [this,<-dec_lt] at h;exact h
  | 1,h=>
   rw [I.hands n o] at h;refine ⟨_,rfl,rfl,_,rfl,iteK ?_⟩;refine ⟨_,rfl,rfl,_,rfl,iteP (decide_eq_true rfl) ?_⟩;refine ⟨_,rfl,_,rfl,a,b,rfl,rfl,_,rfl,?_⟩;rw [dec_lt];by_cases z:a < b
   ·refine iteP (decide_eq_true z) ?_;refine ⟨_,rfl,_,rfl,.inl ⟨l,f,a,.ref d,rfl,rfl,SqL.of g,z05 q,.inl ⟨d,_,0,.int c[a].h,rfl,rfl,SqL.of p,z05 (j:=0) rfl,?_⟩⟩⟩;refine ⟨_,rfl,_,rfl,.inl ⟨l,f,b,.ref k,rfl,rfl,SqL.of g,z05 t,.inl ⟨k,_,0,.int c[b].h,rfl,rfl,SqL.of u,z05 (j:=0) rfl,rfl,?_⟩⟩⟩;rw [decide_eq_true z,E9] at h;rw [dec_iI];exact h
   ·refine iteN (by rw [decide_eq_false z];decide) ?_;rw [decide_eq_false z,F7] at h;exact h
  | m + 2,h=>refine ⟨_,rfl,rfl,_,rfl,iteN (show ¬ decide (V.str "bare" = V.str "strict")=true by decide +kernel) ?_⟩;refine ⟨_,rfl,rfl,_,rfl,iteN (show ¬ decide (V.str "bare" = V.str "hands")=true by decide +kernel) ?_⟩;exact h
def z5w (K:b0):Sp:=λ vs H Q _=>∃(t te:Addr) (th:V) (ys:List V) (es:List Ev),vs=[.ref t]/\SqT K H t [th,.ref te]/\SqT K H te ys/\All2 (EvAt K H) es ys/\es.length<=100/\EWf [] es/\
 ∀l zs H',Same H H'->H' l=some (.lst zs)->All2 (ActAt H') (dAll 0 [] es) zs->Q (.ref l) H'
theorem zc7 (T:TX (kx w) mg):Fo P w mg base CX0 1 405 y15 ["tale"] (z5w (kx w)):=by
 refine (z4s w.params).ok sc__law_acts (λ vs H Q E h=>?_) (λ c7 A c8 s H vs Q E hr h=>?_)
 ·obtain ⟨t,U,th,F,C,rfl,_⟩:=h;rfl
 ·obtain ⟨t,U,th,F,C,rfl,st,se,al,hl,wf,q⟩:=h;refine ⟨_,(z02 (ps_set (i:=1) sc__law_acts.nd rfl (U0 rfl) (pe_lst pa_nil))
   (z02 (ps_set (i:=2) sc__law_acts.nd rfl (U0 rfl) z8y)
   (z02 (ps_for K1 rfl (z4e rfl (T.no (za2 _)) (z00 (z0c z1j rfl (T.no (n_len _)) i4 (z00 (pe_ix ix_seq (pv 0) pe_int (λ _ _=>rfl)) pa_nil)) pa_nil)) (z0f (i:=3) sc__law_acts.nd rfl (U0 rfl))
   (z02 (ps_set (i:=4) sc__law_acts.nd rfl (U0 rfl) (pe_ix ix_seq (pe_ix ix_seq (pv 0) pe_int (λ _ _=>rfl)) (pv 3) (λ _ _=>rfl)))
   (z04 (ps_if (z08 opEq (pe_ix ix_seq (pv 4) pe_int (λ _ _=>rfl)) pe_str (nomark _))
   (z02 (z9z (hu_of hr) (pv 2) (pe_ix ix_seq (pv 4) pe_int (λ _ _=>rfl)) (z0c z1j rfl (T.no (n_len _)) i4 (z00 (pv 1) pa_nil)) rfl)
   (z04 (z22 (z18 (pv 1) (z00 (pe_lst (z00 (pe_ix ix_seq (pv 4) pe_int (λ _ _=>rfl)) (z00 (pe_ix ix_seq (pv 4) pe_int (λ _ _=>rfl)) (z00 (pe_ix ix_seq (pv 4) pe_int (λ _ _=>rfl)) (z00 (pe_ix ix_seq (pv 4) pe_int (λ _ _=>rfl)) (z00 pe_non (z00 (pv 3) (z00 pe_non pa_nil)))))))) pa_nil)))))
   (z02 (ps_set (i:=5) sc__law_acts.nd rfl (U0 rfl) (pe_ix ix_seq (pv 1) (zet (pv 2) (pe_ix ix_seq (pv 4) pe_int (λ _ _=>rfl)) ⟨rfl,rfl,rfl,rfl⟩) (λ _ _=>rfl)))
   (z02 (ps_asg (pe_ix ix_seq (pv 4) pe_int (λ _ _=>rfl)) (pg_sub (pv 5) pe_int z6x))
   (z04 (ps_asg (pv 3) (pg_sub (pv 5) pe_int z6x)))))))))
   (z04 (ps_ret (pv 1)))))),?_⟩
  refine ⟨w_0,λ l b0=>?_⟩;intro d a4;have Y:l≠d:=z0b upd_same a4;have a7:H d=none:=by rwa [upd_ne Y.symm] at a4
  have s2:Same H (upd (upd H l (.lst [])) d (.dK [])):=(Same.upd b0).trans (Same.upd a4);have J:upd (upd H l (.lst [])) d (.dK []) l=some (.lst []):=by rw [upd_ne Y];exact upd_same
  have g:upd (upd H l (.lst [])) d (.dK []) d=some (.dK []):=upd_same;generalize upd (upd H l (.lst [])) d (.dK [])=H2 at s2 J g⊢;have c0:=z03 al;have c9:100<=sizeLine:=by decide
  refine ⟨_,rfl,.inr (.inl ⟨t,_,1,.ref U,rfl,rfl,s2.seqT st,z05 (j:=1) rfl,.inl ⟨U,F,rfl,.inr (s2.seqT se),F.length,rfl,by omega,by omega,?_⟩⟩)⟩;refine z5k (lo:=0) (n:=F.length) (λ i σ H'=>∃rs zs kvs os,H' l=some (.lst zs)/\All2 (ActAt H') rs zs/\zs.Nodup/\(∀p,V.ref p∈zs->p≠l/\H p=none)/\H' d=some (.dK kvs)/\kvs.map (·.1)=os.map Sum.inl/\os.length<=i/\rs.length<=i/\(∀h∈os,valV kvs (.inl h)=(lastI h (rs.map Rc.h)).map λ j=>V.int (j:Nat))/\DInv i rs os/\dAll i rs (C.drop i)=dAll 0 [] C/\EWf os (C.drop i)/\Same H H'/\∃x3 x4 x5,σ=[some (.ref t),some (.ref l),some (.ref d),x3,x4,x5])
   ⟨[],[],[],[],J,.nil,.nil,λ _ z=>absurd z o0,g,rfl,A0 _,A0 _,λ _ z=>absurd z o0,.nil,by rw [u4],by rw [u4];exact wf,s2,_,_,_,rfl⟩ ?_ ?_
  ·rintro i σ c hi ⟨rs,zs,kvs,os,el4,ar4,nd,nzl,ed4,ek,ho,hr',hv,I,u,dw,s4,x3,x4,x5,rfl⟩;rw [K8];have b1:i < C.length:=by omega
   have hy:F[i]? = some F[i]:=B0 hi;obtain ⟨e,he,ev⟩:=z09 al hy;obtain ⟨_,ee⟩:=List.getElem?_eq_some_iff.mp he;have dr:C.drop i=e :: C.drop (i + 1):=by rw [j1b b1,ee]
   rw [dr] at u dw;have a5:=EvAt.tups (.of s4) ev;obtain ⟨I1,hI⟩:=I.step dw.1;have c6:i < 100:=E1 b1 hl;have lz:zs.length=rs.length:=z03 ar4;have kl:kvs.length=os.length:=by have:=congrArg u6 ek;simpa using this
   refine g_name ?_;refine ⟨_,rfl,.inr (.inl ⟨t,_,1,.ref U,rfl,rfl,s4.seqT st,z05 (j:=1) rfl,_,rfl,.inr (.inl ⟨U,F,i,F[i],rfl,rfl,s4.seqT se,z05 hy,?_⟩)⟩)⟩;generalize F[i]=y at a5⊢;cases e with
   | beg h n v x=>
    obtain ⟨D,rfl,M⟩:=a5;have c1:h∉os:=dw.1;have b9:(Sum.inl h:Key)∉kvs.map (·.1):=by rw [ek];intro z;obtain ⟨k,K,e⟩:=List.mem_map.mp z;exact c1 (Q3 e ▸ K)
    refine ⟨_,rfl,.inr (.inl ⟨D,_,0,.str "begin",rfl,rfl,M,z05 (j:=0) rfl,rfl,_,rfl,iteP (decide_eq_true rfl) ?_⟩)⟩;refine ⟨_,rfl,.inl ⟨l,zs,rfl,.inl (SqL.of el4),⟨_,rfl,⟨_,rfl,.inr (.inl ⟨D,_,1,.int h,rfl,rfl,M,z05 (j:=1) rfl,d,_,rfl,DPut.k (k:=.inl h) ed4 (B1 (m:=100) (by omega) (by decide)),?_⟩)⟩⟩⟩⟩;have t5:Tups (kx w) c (upd c d (.dK (putK kvs (.inl h) (.int (zs.length:Nat))))):=Tups.dict ed4;have S:=Same.keep (o:=.dK (putK kvs (.inl h) (.int (zs.length:Nat)))) s4 a7;have G:upd c d (.dK (putK kvs (.inl h) (.int (zs.length:Nat)))) l=some (.lst zs):=by rw [upd_ne Y];exact el4
    have a0:upd c d (.dK (putK kvs (.inl h) (.int (zs.length:Nat)))) d=some (.dK (putK kvs (.inl h) (.int (zs.length:Nat)))):=upd_same;have N:All2 (ActAt (upd c d (.dK (putK kvs (.inl h) (.int (zs.length:Nat)))))) rs zs:=z01 (λ a b z=>z.wrote (λ e=>by obtain ⟨p,J,g⟩:=z;rw [J] at e;cases e;rw [ed4] at g;cases g)) ar4;generalize upd c d (.dK (putK kvs (.inl h) (.int (zs.length:Nat))))=H5 at t5 S G a0 N⊢;have O:=t5 _ _ M;refine ⟨_,rfl,.inl ⟨rfl,zs,SqL.of G⟩,?_⟩;refine ⟨_,rfl,.inr (.inl ⟨D,_,1,.int h,rfl,rfl,O,z05 (j:=1) rfl,_,rfl,.inr (.inl ⟨D,_,2,n,rfl,rfl,O,z05 (j:=2) rfl,_,rfl,.inr (.inl ⟨D,_,3,v,rfl,rfl,O,z05 (j:=3) rfl,_,rfl,.inr (.inl ⟨D,_,4,x,rfl,rfl,O,z05 (j:=4) rfl,_,rfl,w_7,λ L Z=>?_⟩)⟩)⟩)⟩)⟩;have W:=Same.upd (o:=.lst [.int h,n,v,x,.non,.int (i:Nat),.non]) Z;have e6:upd H5 L (.lst [.int h,n,v,x,.non,.int (i:Nat),.non]) L=some (.lst [.int h,n,v,x,.non,.int (i:Nat),.non]):=upd_same;have fr :∀z∈zs,z≠.ref L:=λ z hz e=>by obtain ⟨m,hm⟩:=List.mem_iff_getElem?.mp hz;obtain ⟨_,_,p,J,g⟩:=z09 N hm;rw [J] at e;cases e;rw [Z] at g;cases g
    have b2:L≠l:=λ z=>by rw [z,G] at Z;cases Z
    generalize upd H5 L (.lst [.int h,n,v,x,.non,.int (i:Nat),.non])=H6 at W e6⊢;have b8:=W _ _ G;have c5:=W _ _ a0;have b4:=z01 (λ a b z=>ActAt.same W z) N;refine ⟨l,zs,_,rfl,rfl,b8,B1 (m:=100) (by omega) (by decide),?_⟩;refine ⟨rs++[⟨h,n,v,x,.non,i,none⟩],zs++[.ref L],putK kvs (.inl h) (.int (zs.length:Nat)),os++[h],upd_same,?_,?_,?_,?_,?_,?_,?_,?_,I1,(show dAll (i + 1) (dstep i rs (.beg h n v x)) _=_ from u),dw.2,Same.keep (S.trans W) b0,_,_,_,rfl⟩
    ·refine z0y ?_ ⟨L,rfl,by rw [upd_ne b2];exact e6⟩;refine z7i (λ a b R z=>ActAt.wrote (λ e=>(nzl l (e ▸ R)).1 rfl) z) b4
    ·rw [A6];refine ⟨nd,by simp,λ a ha b R=>?_⟩;rw [List.mem_singleton.mp R];exact fr a ha
    ·intro p hz;rcases List.mem_append.mp hz with y|y
     ·exact nzl p y
     ·have e:=List.mem_singleton.mp y;cases e;exact ⟨b2,S.free Z⟩
    ·rw [upd_ne Y.symm];exact c5
    ·rw [z6n b9,j1,j1,ek];rfl
    ·rw [F0];show os.length + 1<=i + 1;omega
    ·rw [F0];show rs.length + 1<=i + 1;omega
    ·intro k K;rw [z1d,j1];show _=j06 _ (lastI k (rs.map Rc.h++[h]));rw [z4h,D0,lz];by_cases z:h=k
     ·rw [if_pos z,if_pos (by rw [z])];rfl
     ·rw [if_neg z,if_neg (λ y=>z (Q3 y).symm)];exact hv k ((List.mem_append.mp K).resolve_right λ y=>z (List.mem_singleton.mp y).symm)
   | fin h a=>
    obtain ⟨D,rfl,M⟩:=a5;have c3:h∈os:=dw.1;obtain ⟨j,hj⟩:=Option.isSome_iff_exists.mp (hI h a rfl);have c4:valV kvs (.inl h)=some (.int (j:Nat)):=by rw [hv h c3,hj];rfl
    have b5:j < rs.length:=by have:=z8r hj;rwa [D0] at this
    have a6:rs[j]? = some rs[j]:=B0 b5;obtain ⟨yj,X,B,rfl,ej⟩:=z0q ar4 a6;refine ⟨_,rfl,.inr (.inl ⟨D,_,0,.str "end",rfl,rfl,M,z05 (j:=0) rfl,rfl,_,rfl,iteK ?_⟩)⟩;refine ⟨_,rfl,_,rfl,d,rfl,.inl ⟨_,.inl ed4⟩,_,rfl,.inr (.inl ⟨D,_,1,.int h,rfl,rfl,M,z05 (j:=1) rfl,kvs,.inl h,.int (j:Nat),ed4,rfl,c4,?_⟩)⟩;have t5:Tups (kx w) c (upd c d (.dK (dropK kvs (.inl h)))):=Tups.dict ed4;have S:=Same.keep (o:=.dK (dropK kvs (.inl h))) s4 a7;have G:upd c d (.dK (dropK kvs (.inl h))) l=some (.lst zs):=by rw [upd_ne Y];exact el4
    have a0:upd c d (.dK (dropK kvs (.inl h))) d=some (.dK (dropK kvs (.inl h))):=upd_same;have N:All2 (ActAt (upd c d (.dK (dropK kvs (.inl h))))) rs zs:=z01 (λ a b z=>z.wrote (λ e=>by obtain ⟨p,J,g⟩:=z;rw [J] at e;cases e;rw [ed4] at g;cases g)) ar4;have a9:B≠d:=λ z=>by rw [z,ed4] at ej;cases ej
    have a8:upd c d (.dK (dropK kvs (.inl h))) B=some (.lst [.int rs[j].h,rs[j].n,rs[j].v,rs[j].x,rs[j].a,.int rs[j].b,endV rs[j].e]):=by rw [upd_ne a9];exact ej
    generalize upd c d (.dK (dropK kvs (.inl h)))=H5 at t5 S G a0 N a8⊢;have O:=t5 _ _ M;refine .inl ⟨l,zs,j,.ref B,rfl,rfl,SqL.of G,z05 X,?_⟩;refine ⟨_,rfl,.inr (.inl ⟨D,_,2,a,rfl,rfl,O,z05 (j:=2) rfl,_,rfl,B,_,4,4,rfl,rfl,a8,rfl,?_⟩)⟩;refine ⟨_,rfl,_,rfl,B,_,6,6,rfl,rfl,upd_same,rfl,?_⟩;obtain ⟨c2,b6⟩:=nzl B (G0 X);have b7:([V.int rs[j].h,rs[j].n,rs[j].v,rs[j].x,rs[j].a,.int rs[j].b,endV rs[j].e].set 4 a).set 6 (.int (i:Nat))=[.int rs[j].h,rs[j].n,rs[j].v,rs[j].x,a,.int rs[j].b,.int (i:Nat)]:=rfl;rw [b7];have hd:dstep i rs (.fin h a)=rs.modify j (λ r=>{ r with a:=a,e:=some i }):=by unfold dstep;dsimp only;rw [hj]
    rw [hd] at I1;have u:dAll (i + 1) (dstep i rs (.fin h a)) (C.drop (i + 1))=_:=u;rw [hd] at u;generalize hH7:upd (upd H5 B (.lst ([V.int rs[j].h,rs[j].n,rs[j].v,rs[j].x,rs[j].a,.int rs[j].b,endV rs[j].e].set 4 a))) B (.lst [.int rs[j].h,rs[j].n,rs[j].v,rs[j].x,a,.int rs[j].b,.int (i:Nat)])=H7;have o7 :∀b,b≠B->H7 b=H5 b:=λ b R=>by rw [<-hH7,upd_ne R,upd_ne R]
    have j7:H7 B=some (.lst [.int rs[j].h,rs[j].n,rs[j].v,rs[j].x,a,.int rs[j].b,.int (i:Nat)]):=by rw [<-hH7];exact upd_same
    refine ⟨rs.modify j (λ r=>{ r with a:=a,e:=some i }),zs,dropK kvs (.inl h),os.filter λ k=>decide (k≠h),by rw [o7 _ c2.symm];exact G,?_,nd,nzl,by rw [o7 _ a9.symm];exact a0,zcg ek,?_,?_,?_,I1,u,dw.2,?_,_,_,_,rfl⟩
    ·refine z0w (by rw [m6];exact z03 N) λ k r y K a1=>?_;rw [L5] at K;obtain ⟨r',a3,a2⟩:=Option.map_eq_some_iff.mp K;obtain ⟨y2,b3,p2,rfl,g⟩:=z0q N a3;rw [a1] at b3;cases b3;by_cases z:j=k
     ·subst z;rw [X] at a1;cases a1;rw [if_pos rfl] at a2;rw [a6] at a3;cases a3;subst a2;exact ⟨B,rfl,j7⟩
     ·rw [if_neg z] at a2;subst a2;refine ⟨p2,rfl,?_⟩;rw [o7 p2 (λ e=>z ?_)]
      ·exact g
      ·subst e;have h1:j < zs.length:=(List.getElem?_eq_some_iff.mp X).1;exact (List.getElem?_inj h1 nd).mp (X.trans a1.symm)
    ·exact C0 (D2 _ _) (G6 ho)
    ·rw [m6];omega
    ·intro k K;obtain ⟨h1,h2⟩:=List.mem_filter.mp K;have h2:k≠h:=of_decide_eq_true h2;rw [zh9 (f:=λ r=>{ r with a:=a,e:=some i }) (λ r=>rfl),zde (λ e=>h2 (Q3 e))];exact hv k h1
    ·intro b o e;rw [o7 b (λ z=>by rw [z,b6] at e;cases e)];exact S b o e
  ·rintro σ H3 ⟨rs,zs,kvs,os,el,ar,_,_,_,_,_,_,_,_,u,_,s3,x3,x4,x5,rfl⟩;have:C.drop F.length=[]:=by rw [c0];exact List.drop_length
   rw [this] at u;have u:rs=dAll 0 [] C:=u;rw [<-u] at q;exact ⟨_,rfl,q l zs H3 s3 el ar⟩
structure DD where
 nm:Str
 k:Str
 vb:Str
 dt:Dt
def RcGd (K:b0) (H:Hp) (ts:List (Str×Str)) (r:Rc) (p:DD):Prop:=r.n=.str p.nm/\r.v=.str p.vb/\(p.nm,p.k)∈ts/\DeedOk p.k p.vb p.dt/\IsDt K H p.dt r.x/\WorthIn H p.dt r.x/\((r.e=none/\r.a=.non)\/(r.e.isSome=true/\AnsV r.a))
theorem RcGd.tt {K:b0} {H H':Hp} {ts:List (Str×Str)} {r:Rc} {p:DD} (t:Tt K H H') (h:RcGd K H ts r p):RcGd K H' ts r p:=⟨h.1,h.2.1,h.2.2.1,h.2.2.2.1,IsDt.mono' t.t _ _ h.2.2.2.2.1,h.2.2.2.2.2.1.tt t,h.2.2.2.2.2.2⟩
theorem zgw {α β:Type} {R:α->β->Prop} {f:α->α} (hf :∀x y,R x y->R (f x) y) :∀{xs:List α} {ys:List β} (j:Nat),All2 R xs ys->All2 R (xs.modify j f) ys
 | _,_,j,.nil=>by cases j<;>exact .nil
 | _,_,0,.cons a r=>.cons (hf _ _ a) r
 | _,_,j + 1,.cons a r=>.cons a (zgw hf j r)
theorem rc_gd {K:b0} {H:Hp} {ts:List (Str×Str)} :∀{es:List Ev} {i:Nat} {rs:List Rc} {ps:List DD},(∀e∈es,EvGd K H ts e)->All2 (RcGd K H ts) rs ps->∃ps',All2 (RcGd K H ts) (dAll i rs es) ps'
 | [],_,_,ps,_,h=>⟨ps,h⟩
 | e :: es,i,rs,ps,g,h=>by
  have b:=g e Q0;have c :∀x∈es,EvGd K H ts x:=λ x t=>g x (Y0 _ t);cases e with
  | beg hd n v x=>obtain ⟨r,k,q,m,p,d,o,s,f,l⟩:=b;exact rc_gd (es:=es) c (z0y (x:=(⟨hd,n,v,x,.non,i,none⟩:Rc)) (y:=(⟨r,k,q,m⟩:DD)) h ⟨p,d,o,s,f,l,.inl ⟨rfl,rfl⟩⟩)
  | fin hd a=>
   have b:AnsV a:=b;show∃ps',All2 _ (dAll (i + 1) (dstep i rs (.fin hd a)) es) ps';unfold dstep;dsimp only;cases lastI hd (rs.map Rc.h) with
   | none=>exact rc_gd (es:=es) c h
   | some j=>exact rc_gd (es:=es) c (zgw (λ x y z=>⟨z.1,z.2.1,z.2.2.1,z.2.2.2.1,z.2.2.2.2.1,z.2.2.2.2.2.1,.inr ⟨rfl,b⟩⟩) j h)
theorem be_all :∀{es:List Ev} {i:Nat} {rs:List Rc},(∀r∈rs,r.b < i/\∀e,r.e=some e->r.b < e)->∀r∈dAll i rs es,∀e,r.e=some e->r.b < e
 | [],_,_,h=>λ r c=>(h r c).2
 | e :: es,i,rs,h=>by
  refine be_all (es:=es) (i:=i + 1) (rs:=dstep i rs e) λ r c=>?_;cases e with
  | beg hd n v x=>
   rcases List.mem_append.mp c with z|z
   ·exact ⟨F1 (h r z).1,(h r z).2⟩
   ·rw [List.mem_singleton.mp z];exact ⟨V1 i,λ e f=>by cases f⟩
  | fin hd a=>
   unfold dstep at c;dsimp only at c;cases hj:lastI hd (rs.map Rc.h) with
   | none=>rw [hj] at c;exact ⟨F1 (h r c).1,(h r c).2⟩
   | some j=>
    rw [hj] at c;obtain ⟨m,g⟩:=List.mem_iff_getElem?.mp c;rw [L5] at g;obtain ⟨q,k,e⟩:=Option.map_eq_some_iff.mp g;have d:=h q (G0 k);by_cases z:j=m
    ·rw [if_pos z] at e;rw [<-e];exact ⟨F1 d.1,λ e f=>by cases f;exact d.1⟩
    ·rw [if_neg z] at e;rw [<-e];exact ⟨F1 d.1,d.2⟩
theorem ziy {es:List Ev} {m n:Nat}:z0j m (dAll 0 [] es) n n=false:=by
 cases h:(dAll 0 [] es)[n]? with
 | none=>unfold z0j;rw [h]
 | some r=>
  rw [z41 h h]
  match m with
  | 0=>
   show ltO r.e r.b=false;cases he:r.e with
   | none=>rfl
   | some e=>have:=be_all (es:=es) (i:=0) (rs:=[]) (λ r a=>absurd a o0) r (G0 h) e he;exact decide_eq_false (by omega)
  | 1=>show (decide (r.h=r.h) && decide (r.b < r.b))=false;rw [decide_eq_false (J3 _),C6]
  | m + 2=>rfl
end
section
noncomputable def nsV (ns:List Nat):List V:=ns.map λ (n:Nat)=>V.int (n:Int)
theorem z3g (ns:List Nat):(nsV ns).length=ns.length:=D0 ..
theorem inV_ns (i:Nat) (ns:List Nat):inV (.int (i:Nat)) (nsV ns)=decide (i∈ns):=by
 unfold inV nsV;rw [j2g,Bool.eq_iff_iff,j8,decide_eq_true_iff];constructor
 ·rintro ⟨n,hn,e⟩;have e:((n:Int))=i:=of_decide_eq_true e;rw [show i=n by omega];exact hn
 ·exact λ h=>⟨i,h,decide_eq_true rfl⟩
theorem z7k (ns:List Nat):(nsV ns).all flatV=true:=by unfold nsV;rw [j2h];exact List.all_eq_true.mpr λ _ _=>rfl
theorem zlo {ns:List Nat} {us:List V} (h:All2 (λ (a:Nat) y=>y=V.int (a:Nat)) ns us):us=nsV ns:=by
 induction h with
 | nil=>rfl
 | cons a r ih=>subst a;rw [ih];rfl
noncomputable def srtN (ns:List Nat):List Nat:=ns.mergeSort λ a b=>decide (a<=b)
theorem z8f (ns:List Nat):(srtN ns).Perm ns:=List.mergeSort_perm ns _
theorem zdk (ns:List Nat):(srtN ns).Pairwise (·<=·):=by have:=j2b (le:=λ a b:Nat=>decide (a<=b)) (λ a b c d e=>decide_eq_true (C0 (of_decide_eq_true d) (of_decide_eq_true e))) (λ a b=>by rcases Nat.le_total a b with h|h<;>simp [h]) ns;exact this.imp λ h=>of_decide_eq_true h
theorem zne {ns':List Int} {xs:List Nat} (p:ns'.Perm (xs.map λ (n:Nat)=>(n:Int))) (s:ns'.Pairwise (·<=·)):ns'.map V.int=nsV (srtN xs):=by
 have e:ns'=(srtN xs).map λ (n:Nat)=>(n:Int):=by refine (p.trans ((z8f xs).symm.map _)).eq_of_pairwise (le:=(·<=·)) (λ _ _ _ _ c d=>Int.le_antisymm c d) s ?_;exact S4 _ (λ a b h=>Int.ofNat_le.mpr h) (zdk xs)
 rw [e];unfold nsV;rw [X2];rfl
theorem idx_eq :∀{l:List Str} {x:Str} {i:Nat},l.Nodup->l[i]? = some x->l.idxOf x=i
 | [],_,_,_,h=>by cases h
 | y :: l,x,i,nd,h=>by
  rw [i6] at nd;rw [List.idxOf_cons];cases i with
  | zero=>rw [C3] at h;cases h;rw [beq_self_eq_true];rfl
  | succ i=>rw [E2] at h;have:¬ y=x:=λ z=>nd.1 (z ▸ G0 h);rw [beq_eq_false_iff_ne.mpr this];show l.idxOf x + 1=_;rw [idx_eq nd.2 h]
noncomputable abbrev Pl:=List Nat×List Sv
noncomputable abbrev Stp:=Nat×V×Pl
noncomputable def ixT (ts:List (Str×Str)) (nm:Str):Nat:=(ts.map (·.1)).idxOf nm
noncomputable def stp (ts:List (Str×Str)) (r:Rc) (p:DD) (n:Nat) (pl:Pl):Option Stp:=match pl.2[ixT ts p.nm]? with
 | some s=>if r.e.isNone || decide ((dz p.k p.vb p.dt s).2=r.a) then some (n,(dz p.k p.vb p.dt s).2,(srtN (pl.1++[n]),pl.2.set (ixT ts p.nm) (dz p.k p.vb p.dt s).1)) else none
 | none=>none
noncomputable def nexAt (c:Nat->Bool) (ts:List (Str×Str)) (rs:List Rc) (ps:List DD) (pl:Pl) (n:Nat):Option Stp:=if c n=true then (match rs[n]?,ps[n]? with|some r,some p=>stp ts r p n pl|_,_=>none) else none
noncomputable def nexT (c:Nat->Bool) (ts:List (Str×Str)) (rs:List Rc) (ps:List DD) (pl:Pl) (i:Nat):List Stp:=(G1 i).filterMap (nexAt c ts rs ps pl)
theorem z92 {c:Nat->Bool} {ts:List (Str×Str)} {rs:List Rc} {ps:List DD} {pl:Pl} {i:Nat}:nexT c ts rs ps pl (i + 1)=nexT c ts rs ps pl i++(nexAt c ts rs ps pl i).toList:=by unfold nexT;rw [F8,List.filterMap_append];congr 1
theorem zln {c:Nat->Bool} {ts:List (Str×Str)} {rs:List Rc} {ps:List DD} {pl:Pl} {i:Nat}:(nexT c ts rs ps pl i).length<=i:=by unfold nexT;exact C0 (j23 _ _) (by rw [O1];exact A0 _)
noncomputable def cO (m:Nat) (rs:List Rc) (ns:List Nat) (n:Nat):Bool:=decide (n∉ns) && decide (∀a∈G1 rs.length,z0j m rs a n=true->a∈ns)
noncomputable def cP (m:Nat) (rs:List Rc) (ns:List Nat) (n:Nat):Bool:=cO m rs ns n && decide (∀b∈G1 rs.length,z0j m rs n b=true->b∉ns)
theorem z25 {m:Nat} {rs:List Rc} {a b:Nat} (h:z0j m rs a b=true):a < rs.length/\b < rs.length:=by
 unfold z0j at h;cases ea:rs[a]? with
 | none=>rw [ea] at h;cases h
 | some r=>
  cases eb:rs[b]? with
  | none=>rw [ea,eb] at h;cases h
  | some q=>exact ⟨(List.getElem?_eq_some_iff.mp ea).1,(List.getElem?_eq_some_iff.mp eb).1⟩
theorem zj8 {i m:Nat} {rs:List Rc} {os:List Int} {a b:Nat} {r:Rc} (I:DInv i rs os) (h:z0j m rs a b=true) (ha:rs[a]? = some r):r.e.isSome=true:=by
 obtain ⟨_,f⟩:=z25 h;have c:rs[b]? = some rs[b]:=B0 f;generalize rs[b]=q at c;rw [z41 ha c] at h
 match m,h with
 | 0,h=>
  have h:ltO r.e q.b=true:=h;cases e:r.e with
  | none=>rw [e] at h;cases h
  | some x=>rfl
 | 1,h=>
  have h:(decide (r.h=q.h) && decide (r.b < q.b))=true:=h;rw [D3,decide_eq_true_iff,decide_eq_true_iff] at h;have d:a < b:=by
   rcases V7 a b with z|z|z
   ·exact z
   ·subst z;rw [ha] at c;cases c;omega
   ·have:=(I.p b a q r z c ha).1;omega
  obtain ⟨x,g,_⟩:=(I.p a b r q d ha c).2 h.1;rw [g];rfl
 | m + 2,h=>cases (show false=true from h)
structure PlOk (ts:List (Str×Str)) (N n:Nat) (pl:Pl):Prop where
 nd:pl.1.Nodup
 lt :∀x∈pl.1,x < N
 so:All2 (λ (t:Str×Str) s=>SvOk n t.2 s) ts pl.2
 nb:n<=4\/n<=pl.1.length
theorem z3b :∀(n:Nat) (ns:List Nat),ns.Nodup->(∀x∈ns,x < n)->ns.length<=n
 | 0,ns,_,h=>by
  cases ns with
  | nil=>exact A0 _
  | cons x r=>exact absurd (h x Q0) (Y3 _)
 | n + 1,ns,nd,h=>by
  have:=z3b n (ns.erase n) (nd.erase n) λ x a=>by have a:=(List.Nodup.mem_erase_iff nd).mp a;have:=h x a.2;omega
  by_cases m:n∈ns
  ·rw [List.length_erase_of_mem m] at this;omega
  ·rw [List.erase_of_not_mem m] at this;omega
theorem PlOk.n63 {ts:List (Str×Str)} {N n j:Nat} {pl:Pl} (h:PlOk ts N n pl) (N63:N<=63) (hj:j < N) (nj:j∉pl.1):n < 63/\pl.1.length < 63:=by
 have:=z3b N (j :: pl.1) (List.nodup_cons.mpr ⟨nj,h.nd⟩) λ x a=>by
  rcases List.mem_cons.mp a with z|z
  ·omega
  ·exact h.lt x z
 rw [Z0] at this;rcases h.nb with z|z<;>omega
end
section
variable {P:Program} {w:S0} {mg:Str->Option Value} {base:Heap}
theorem lk_eq {f:Str} {v:V} {fs:List (Str×V)}:(putF f v fs).lookup f=some v:=by rw [z3c,if_pos rfl]
theorem lk_ne {f g:Str} {v:V} {fs:List (Str×V)} (h:g≠f):(putF f v fs).lookup g=fs.lookup g:=by rw [z3c,if_neg h]
theorem lk_n {f g:Str} {v:V} {fs:List (Str×V)} {o:Option V} (e:fs.lookup g=o) (h:g≠f:=by decide +kernel):(putF f v fs).lookup g=o:=(lk_ne h).trans e
theorem zd2 {x dx:Addr} {o1 o2:HO} {H H':Hp} (hx:H x=none) (hd:H dx=none) (k:Kept x (upd (upd H dx o1) x o2) H'):Same H H':=λ p o e=>by
 have a:p≠x:=λ z=>by rw [z,hx] at e;cases e
 have b:p≠dx:=λ z=>by rw [z,hd] at e;cases e
 exact k p o a (by rw [upd_ne a,upd_ne b];exact e)
theorem z2y {K:b0} {ta tv:TE} {f:Str} {rest:TS} {D:Ends} {σ:L2.St} {H:Hp} (h:tv σ H λ y H1=>ta σ H1 λ x H2=>∃a C dx fs,x=.ref a/\H2 a=some (.ins C dx fs)/\Cls K C/\NoAttr K C f/\fs.length < 1000/\rest D σ (upd H2 a (.ins C dx (putF f y fs)))):tSeq (sFld K ta tv f) rest D σ H:=h
theorem zm9 {K:b0} {ta tv:TE} {f:Str} {D:Ends} {σ:L2.St} {H:Hp} (h:tv σ H λ y H1=>ta σ H1 λ x H2=>∃a C dx fs,x=.ref a/\H2 a=some (.ins C dx fs)/\Cls K C/\NoAttr K C f/\fs.length < 1000/\D.nx σ (upd H2 a (.ins C dx (putF f y fs)))):sFld K ta tv f D σ H:=h
theorem zfb (f:Str) (v:V) :∀fs:List (Str×V),(putF f v fs).length<=fs.length + 1
 | []=>A0 _
 | (g,x) :: r=>by
  unfold putF;split
  ·simp
  ·have:=zfb f v r;simp only [Z0];omega
theorem z1b {K:b0} {x dx C:Addr} {H H1:Hp} {fs:List (Str×V)} {R:L2.St->Hp->Prop} {σ:L2.St} {f:Str} {y:V} {i n:Nat} (k:Kept x H H1) (e:H1 x=some (.ins C dx fs)) (hv:σ[i]? = some (some (.ref x))) (c:Cls K C) (na:NoAttr K C f) (l:fs.length<=n) (hn:n < 100)
  (q :∀H2,Kept x H H2->(∀b o,b≠x->H1 b=some o->H2 b=some o)->H2 x=some (.ins C dx (putF f y fs))->(putF f y fs).length<=n + 1->R σ H2) :
  tVar i σ H1 λ z H2=>∃a C dx fs,z=.ref a/\H2 a=some (.ins C dx fs)/\Cls K C/\NoAttr K C f/\fs.length < 1000/\R σ (upd H2 a (.ins C dx (putF f y fs))):=
 ⟨_,hv,x,C,dx,fs,rfl,e,c,na,by omega,q _ (k.trans .set) (λ b o d g=>by rw [upd_ne d];exact g) upd_same (C0 (zfb f y fs) (by omega))⟩
theorem ins_tt {K:b0} {x C dx:Addr} {fs:List (Str×V)} {H H':Hp} (e:H x=some (.ins C dx fs)) (k:Kept x H H'):Tt K H H':=by
 refine ⟨λ a b h=>?_,λ a b h=>k _ _ (λ z=>by rw [z,e] at h;cases h) h⟩;rcases h with (h|⟨ob,h⟩)|h
 ·exact .inl (.inl (k _ _ (λ z=>by rw [z,e] at h;cases h) h))
 ·exact .inl (.inr ⟨ob,k _ _ (λ z=>by rw [z,e] at h;cases h) h⟩)
 ·exact .inr h
theorem zk7 {ps:List (Nat×Nat)} {q:Nat×Nat->Bool} {f:Nat×Nat->Nat} {us:List V} (h:All2 (λ (i:Nat) y=>∃p,ps[i]? = some p/\y=V.int (f p:Nat)) ((G1 ps.length).filter λ i=>(ps[i]?.map q).getD false) us) :∃as,us=nsV as/\as.length<=ps.length/\∀a,a∈as↔∃p∈ps,q p=true/\f p=a:=by
 refine ⟨((G1 ps.length).filter λ i=>(ps[i]?.map q).getD false).map λ i=>f (ps[i]?.getD (0,0)),?_,?_,λ a=>?_⟩
 ·generalize (G1 ps.length).filter (λ i=>(ps[i]?.map q).getD false)=is at h;induction h with
  | nil=>rfl
  | cons a r ih=>obtain ⟨p,c,b⟩:=a;rw [ih,b,R0,c];rfl
 ·rw [D0];exact C0 (D2 _ _) (by rw [O1];exact A0 _)
 ·rw [List.mem_map];constructor
  ·rintro ⟨i,d,e⟩;obtain ⟨c,b⟩:=List.mem_filter.mp d;have j:=List.mem_range.mp c;have g:ps[i]? = some ps[i]:=B0 j;rw [g] at b e;exact ⟨_,G0 g,b,e⟩
  ·rintro ⟨p,g,c,b⟩;obtain ⟨i,d⟩:=List.mem_iff_getElem?.mp g;refine ⟨i,List.mem_filter.mpr ⟨List.mem_range.mpr (List.getElem?_eq_some_iff.mp d).1,?_⟩,?_⟩
   ·rw [d];exact c
   ·rw [d];exact b
theorem dec_iN (i j:Nat):decide (V.int (i:Int)=V.int (j:Int))=decide (i=j):=decide_eq_decide.mpr ⟨λ e=>by have:=V.int.inj e;omega,λ e=>by rw [e]⟩
def z1f (K:b0):Sp:=λ vs H Q _=>∃(x dx lp:Addr) (n:Nat) (iv kv y:V) (zs:List V) (ps:List (Nat×Nat)) (r:Rc),vs=[.ref x,.int n,y,iv,kv,.ref lp]/\H x=some (.ins 268 dx [])/\RcAt K H r y/\H lp=some (.lst zs)/\All2 (PairAt H) ps zs/\ps.length<=10000/\
 ∀fs la lb as bs H',Kept x H H'->H' x=some (.ins 268 dx fs)->fs.lookup ("number" : Str)=some (.int n)->fs.lookup ("thing" : Str)=some iv->fs.lookup ("kind" : Str)=some kv->fs.lookup ("verb" : Str)=some r.v->fs.lookup ("worth" : Str)=some r.x->fs.lookup ("answer" : Str)=some r.a->fs.lookup ("aheads" : Str)=some (.ref la)->fs.lookup ("behinds" : Str)=some (.ref lb)->fs.lookup ("may_stand" : Str)=none->H' la=some (.lst (nsV as))->H' lb=some (.lst (nsV bs))->(∀a,a∈as↔(a,n)∈ps)->(∀b,b∈bs↔(n,b)∈ps)->as.length<=10000->bs.length<=10000->H la=none->H lb=none->Q .non H'
theorem zby (T:TX (kx w) mg):Fo P w mg base (CXE P w base) 1 258 y01 ["self","number","deed","thing","kind","pairs"] (z1f (kx w)):=by
 refine (z1i w.params).okE z3d (λ vs H Q E h=>?_) (λ b9 A c0 s H vs Q E hr h=>?_)
 ·obtain ⟨x,dx,X,n,iv,kv,y,I,d,r,rfl,_⟩:=h;rfl
 ·obtain ⟨x,dx,X,n,iv,kv,y,I,d,r,rfl,C,⟨p,rfl,sq⟩,L,al,pl,q⟩:=h;refine ⟨_,(z02 (ps_fld (pv 0) (pv 1) rfl)
   (z02 (ps_fld (pv 0) (pv 3) rfl)
   (z02 (ps_fld (pv 0) (pv 4) rfl)
   (z02 (ps_fld (pv 0) (pe_ix ix_seq (pv 2) pe_int (λ _ _=>rfl)) rfl)
   (z02 (ps_fld (pv 0) (pe_ix ix_seq (pv 2) pe_int (λ _ _=>rfl)) rfl)
   (z02 (ps_fld (pv 0) (pe_ix ix_seq (pv 2) pe_int (λ _ _=>rfl)) rfl)
   (z02 (ps_fld (pv 0) (pe_cg (xs:=["ahead","behind"]) (g:=gTup (kx w) 2 (gCons (gName 0) (gCons (gName 1) gNil))) (fr:=[(1,"number")]) (z16 (pv 5)) (λ _ _ _ _ _=>(pg_tup rfl (z07 (pg_cn (N:=["ahead","behind","number"]) 0) (z07 (pg_cn (N:=["ahead","behind","number"]) 1) z0m)))) (λ _ _ _ _ _=>(pf_one (z08 opEq (pv 1) (pv 2) (nomark _)))) (λ _ _ _ _ _=>(pv 0))) rfl)
   (z04 (ps_fld (pv 0) (pe_cg (xs:=["ahead","behind"]) (g:=gTup (kx w) 2 (gCons (gName 0) (gCons (gName 1) gNil))) (fr:=[(1,"number")]) (z16 (pv 5)) (λ _ _ _ _ _=>(pg_tup rfl (z07 (pg_cn (N:=["ahead","behind","number"]) 0) (z07 (pg_cn (N:=["ahead","behind","number"]) 1) z0m)))) (λ _ _ _ _ _=>(pf_one (z08 opEq (pv 0) (pv 2) (nomark _)))) (λ _ _ _ _ _=>(pv 1))) rfl))))))))),?_⟩
  have a3 :∀{H1 W:Hp} {l:Addr},Kept x H H1->Kept x H1 W->l≠x->W l=none->H l=none:=λ {H1 W l} k k' nl hl=>by
   cases z:H l with
   | none=>rfl
   | some o=>rw [k' l o nl (k l o nl z)] at hl;cases hl
  refine z2y ⟨_,rfl,z1b Kept.refl C rfl (z0a _) (z0r _) (n:=0) (A0 _) (by decide) λ H1 e _ e1 c=>?_⟩;refine z2y ⟨_,rfl,z1b e e1 rfl (z0a _) (z21 _) c (by decide) λ W u _ e2 c=>?_⟩;refine z2y ⟨_,rfl,z1b u e2 rfl (z0a _) (z2j _) c (by decide) λ H3 k3 _ e3 c=>?_⟩;have t3:Tt (kx w) H H3:=ins_tt C k3;refine z2y ⟨_,rfl,.inr (.inl ⟨p,_,2,r.v,rfl,rfl,t3.t _ _ sq,z05 (j:=2) rfl,z1b k3 e3 rfl (z0a _) (z2g _) c (by decide) λ H4 k4 _ e4 c=>?_⟩)⟩;refine z2y ⟨_,rfl,.inr (.inl ⟨p,_,3,r.x,rfl,rfl,(ins_tt C k4).t _ _ sq,z05 (j:=3) rfl,z1b k4 e4 rfl (z0a _) (z23 _) c (by decide) λ H5 k5 _ e5 c=>?_⟩)⟩;refine z2y ⟨_,rfl,.inr (.inl ⟨p,_,4,r.a,rfl,rfl,(ins_tt C k5).t _ _ sq,z05 (j:=4) rfl,z1b k5 e5 rfl (z0a _) (z13 _) c (by decide) λ H6 V _ e6 c=>?_⟩)⟩;have a7:X≠x:=λ z=>by rw [z,C] at L;cases L
  have zl:I.length=d.length:=z03 al;have a5 :∀{U:Hp},Kept x H U->All2 (PairAt U) d I:=λ k=>z01 (λ _ _ z=>z.elim λ b y=>⟨b,y.1,(ins_tt (K:=KX w.params) C k).l _ _ y.2⟩) al;refine z2y ?_;refine z2v (K:=KX w.params) (a:=X) (xs:=I) (H1:=H6) (λ i=>(d[i]?.map λ p=>decide (p.2=n)).getD false) (λ i y _=>∃p,d[i]? = some p/\y=.int (((λ p:Nat×Nat=>p.1) p:Nat):Int)) (λ _ _ _ _ _ z=>z) (λ R h=>⟨_,rfl,h⟩) (SqL.of (V _ _ a7 L)) (C0 (m:=10000) (by omega) (by decide)) (λ i hi v U s' hv KT KF e u=>?_) λ F H7 us s7 O a9=>?_
  ·obtain ⟨B,hp,b,rfl,eb⟩:=z09 (a5 V) hv;rw [hp] at e u;refine ⟨b,_,rfl,SqT.of (s' _ _ eb),rfl,_,_,rfl,_,_,rfl,rfl,[some (.int B.1),some (.int B.2)],rfl,rfl,?_⟩;refine ⟨_,rfl,_,rfl,rfl,_,rfl,?_⟩;rw [dec_iN];exact ite2 (λ z=>⟨_,rfl,e z _ _ (Same.refl _) ⟨B,rfl,rfl⟩⟩) λ z=>u (Bool.eq_false_iff.mpr z) _ (Same.refl _)
  rw [zl] at a9;obtain ⟨D,rfl,b8,b4⟩:=zk7 (q:=λ p=>decide (p.2=n)) (f:=λ p=>p.1) a9;have Y:=s7.trans (Same.upd (o:=.lst (nsV D)) O);have b0:upd H7 F (.lst (nsV D)) F=some (.lst (nsV D)):=upd_same;have Z:F≠x:=λ z=>by rw [z,s7 _ _ e6] at O;cases O
  generalize upd H7 F (.lst (nsV D))=H8 at Y b0⊢;refine z1b (V.trans Y.kept) (Y _ _ e6) rfl (z0a _) (z1r _) c (by decide) λ H9 S b5 e9 c=>?_;have b2:=b5 _ _ Z b0;refine zm9 ?_;refine z2v (K:=KX w.params) (a:=X) (xs:=I) (H1:=H9) (λ i=>(d[i]?.map λ p=>decide (p.1=n)).getD false) (λ i y _=>∃p,d[i]? = some p/\y=.int (((λ p:Nat×Nat=>p.2) p:Nat):Int)) (λ _ _ _ _ _ z=>z) (λ R h=>⟨_,rfl,h⟩) (SqL.of (S _ _ a7 L)) (C0 (m:=10000) (by omega) (by decide)) (λ i hi v U s' hv KT KF e u=>?_) λ G a8 us a0 M a6=>?_
  ·obtain ⟨B,hp,b,rfl,eb⟩:=z09 (a5 S) hv;rw [hp] at e u;refine ⟨b,_,rfl,SqT.of (s' _ _ eb),rfl,_,_,rfl,_,_,rfl,rfl,[some (.int B.1),some (.int B.2)],rfl,rfl,?_⟩;refine ⟨_,rfl,_,rfl,rfl,_,rfl,?_⟩;rw [dec_iN];exact ite2 (λ z=>⟨_,rfl,e z _ _ (Same.refl _) ⟨B,rfl,rfl⟩⟩) λ z=>u (Bool.eq_false_iff.mpr z) _ (Same.refl _)
  rw [zl] at a6;obtain ⟨bs,rfl,c1,b6⟩:=zk7 (q:=λ p=>decide (p.1=n)) (f:=λ p=>p.2) a6;have J:=a0.trans (Same.upd (o:=.lst (nsV bs)) M);have a2:upd a8 G (.lst (nsV bs)) G=some (.lst (nsV bs)):=upd_same;have a4:G≠x:=λ z=>by rw [z,a0 _ _ e9] at M;cases M
  generalize upd a8 G (.lst (nsV bs))=H11 at J a2⊢;refine z1b (S.trans J.kept) (J _ _ e9) rfl (z0a _) (z1l _) c (by decide) λ b7 b1 a1 b3 c=>?_;refine q _ F G D bs b7 b1 b3 (lk_n (lk_n (lk_n (lk_n (lk_n (lk_n (lk_n lk_eq))))))) (lk_n (lk_n (lk_n (lk_n (lk_n (lk_n lk_eq)))))) (lk_n (lk_n (lk_n (lk_n (lk_n lk_eq))))) (lk_n (lk_n (lk_n (lk_n lk_eq)))) (lk_n (lk_n (lk_n lk_eq))) (lk_n (lk_n lk_eq)) (lk_n lk_eq) lk_eq (lk_n (lk_n (lk_n (lk_n (lk_n (lk_n (lk_n (lk_n rfl)))))))) (a1 _ _ Z (J _ _ b2)) (a1 _ _ a4 a2) (λ a=>(b4 a).trans ⟨λ ⟨p,h1,h2,h3⟩=>?_,λ h=>⟨_,h,decide_eq_true rfl,rfl⟩⟩) (λ b=>(b6 b).trans ⟨λ ⟨p,h1,h2,h3⟩=>?_,λ h=>⟨_,h,decide_eq_true rfl,rfl⟩⟩) (by omega) (by omega) (a3 V (s7.kept (r:=x)) Z O) (a3 S (a0.kept (r:=x)) a4 M)
  ·rw [<-h3,<-of_decide_eq_true h2];exact h1
  ·rw [<-h3,<-of_decide_eq_true h2];exact h1
def CaAt (H:Hp) (m:Nat) (rs:List Rc) (ts:List (Str×Str)) (n:Nat) (r:Rc) (p:DD) (y:V):Prop:=∃x dx fs la lb as bs,y=.ref x/\H x=some (.ins 268 dx fs)/\fs.lookup ("number" : Str)=some (.int (n:Nat))/\fs.lookup ("thing" : Str)=some (.int (ixT ts p.nm:Nat))/\fs.lookup ("kind" : Str)=some (.str p.k)/\fs.lookup ("verb" : Str)=some r.v/\fs.lookup ("worth" : Str)=some r.x/\fs.lookup ("answer" : Str)=some r.a/\fs.lookup ("aheads" : Str)=some (.ref la)/\fs.lookup ("behinds" : Str)=some (.ref lb)/\fs.lookup ("may_stand" : Str)=none/\H la=some (.lst (nsV as))/\H lb=some (.lst (nsV bs))/\(∀a,a∈as↔z0j m rs a n=true)/\(∀b,b∈bs↔z0j m rs n b=true)/\as.length<=10000/\bs.length<=10000
theorem CaAt.same {H H':Hp} {m:Nat} {rs:List Rc} {ts:List (Str×Str)} {n:Nat} {r:Rc} {p:DD} {y:V} (s:Same H H') (h:CaAt H m rs ts n r p y):CaAt H' m rs ts n r p y:=by obtain ⟨x,u,fs,t,w,e,bs,a,l,j,z,v,g,k,i,o,d,q,b,c,f⟩:=h;exact ⟨x,u,fs,t,w,e,bs,a,s _ _ l,j,z,v,g,k,i,o,d,q,s _ _ b,s _ _ c,f⟩
def z1a (K:b0):Sp:=λ vs H Q _=>∃(y:V) (pa:Addr) (m n:Nat) (rs:List Rc) (ts:List (Str×Str)) (r:Rc) (p:DD) (ns:List Nat),vs=[y,.ref pa]/\CaAt H m rs ts n r p y/\SqT K H pa (nsV ns)/\Q (.bl (cP m rs ns n)) H
theorem z2p (T:TX (kx w) mg):Fo P w mg base CX0 1 265 y00 ["self","done"] (z1a (kx w)):=by
 refine (z1e w.params).ok sc_Candidate_may_stand (λ W H Q E h=>?_) (λ a0 A a1 s H W Q E hr h=>?_)
 ·obtain ⟨y,f,m,n,g,ts,r,p,d,rfl,_⟩:=h;rfl
 ·obtain ⟨y,f,m,n,g,ts,r,p,d,rfl,⟨x,F,fs,N,O,l,bs,rfl,D,f1,f2,f3,f4,f5,f6,Z,Y,f9,L,R,I,J,al,bl⟩,G,q⟩:=h;refine ⟨_,(z02 (ps_if (z08 z1t (pe_fld (pv 0) rfl) (pv 1) (by with_unfolding_all rfl))
   (z04 (ps_ret pe_bl))
   z0e)
   (z02 (ps_for K1 rfl (z16 (pe_fld (pv 0) rfl)) (z0f (i:=2) sc_Candidate_may_stand.nd rfl (U0 rfl))
   (z04 (ps_if (z08 z1h (pv 2) (pv 1) (by with_unfolding_all rfl))
   (z04 (ps_ret pe_bl))
   z0e)))
   (z02 (ps_for K1 rfl (z16 (pe_fld (pv 0) rfl)) (z0f (i:=3) sc_Candidate_may_stand.nd rfl (U0 rfl))
   (z04 (ps_if (z08 z1t (pv 3) (pv 1) (by with_unfolding_all rfl))
   (z04 (ps_ret pe_bl))
   z0e)))
   (z04 (ps_ret pe_bl))))),?_⟩
  refine sq_if ?_;refine ⟨_,rfl,x,_,F,fs,_,rfl,D,z0a _,z0r _,f1,_,rfl,f,_,rfl,.inr G,rfl,z7k _,_,rfl,?_⟩;have q:=λ b (h:b=cP m g d n)=>(show Q (.bl b) H from h ▸ q)
  by_cases z1:n∈d
  ·refine iteP ?_ (q _ ?_)
   ·rw [inV_ns];exact decide_eq_true z1
   ·unfold cP cO;rw [decide_eq_false (λ h=>h z1)];rfl
  refine iteN (λ h=>z1 (of_decide_eq_true (by rw [inV_ns] at h;exact h))) ?_;refine t_nx ?_;have M :∀{l:List Nat} {j:Nat} {y:V},(nsV l)[j]? = some y->∃a,l[j]? = some a/\y=.int (a:Nat):=λ h=>by unfold nsV at h;rw [K0] at h;obtain ⟨a,S,X⟩:=Option.map_eq_some_iff.mp h;exact ⟨a,S,X.symm⟩
  refine ⟨_,rfl,x,_,F,fs,_,rfl,D,z0a _,z1r _,Z,N,rfl,⟨_,SqL.of L⟩,?_⟩;refine z3y (K:=KX w.params) (a:=N) (xs:=nsV l) (λ i σ o=>o=H/\(∀k a,k < i->l[k]? = some a->a∈d)/\∃x2 x3,σ=[some (.ref x),some (.ref f),x2,x3]) ⟨rfl,λ k a c=>absurd c (Y3 _),_,_,rfl⟩ (λ _ σ o _ h=>by rw [h.1];exact SqL.of L) ?_ ?_
  ·rintro j y σ o C ⟨rfl,fj,x2,x3,rfl⟩;obtain ⟨a,t,rfl⟩:=M C;refine g_name ⟨_,rfl,_,rfl,f,_,rfl,.inr G,rfl,z7k _,_,rfl,?_⟩;by_cases z2:a∈d
   ·refine iteN (λ h=>?_) ⟨rfl,λ k v c e=>?_,_,_,rfl⟩
    ·rw [inV_ns,decide_eq_true z2] at h;cases h
    ·by_cases z:k=j
     ·subst z;rw [t] at e;cases e;exact z2
     ·exact fj k v (by omega) e
   ·refine iteP ?_ (q _ ?_)
    ·rw [inV_ns,decide_eq_false z2];rfl
    ·have h:=(I a).mp (G0 t);unfold cP cO;rw [decide_eq_false (p:=∀a∈G1 g.length,z0j m g a n=true->a∈d) (λ B=>z2 (B a (List.mem_range.mpr (z25 h).1) h)),C6,F7]
  rintro σ o ⟨rfl,fj,x2,x3,rfl⟩;refine t_nx ?_;have U:cO m g d n=true:=by unfold cO;rw [D3,decide_eq_true_iff,decide_eq_true_iff];refine ⟨z1,λ a _ h=>?_⟩;obtain ⟨k,c⟩:=List.mem_iff_getElem?.mp ((I a).mpr h);exact fj k a (by rw [z3g];exact (List.getElem?_eq_some_iff.mp c).1) c
  refine ⟨_,rfl,x,_,F,fs,_,rfl,D,z0a _,z1l _,Y,O,rfl,⟨_,SqL.of R⟩,?_⟩;refine z3y (K:=KX w.params) (a:=O) (xs:=nsV bs) (λ i σ u=>u=o/\(∀k a,k < i->bs[k]? = some a->a∉d)/\∃x2 x3,σ=[some (.ref x),some (.ref f),x2,x3]) ⟨rfl,λ k a c=>absurd c (Y3 _),_,_,rfl⟩ (λ _ σ u _ h=>by rw [h.1];exact SqL.of R) ?_ ?_
  ·rintro j y σ u C ⟨rfl,gj,x2,x3,rfl⟩;obtain ⟨a,t,rfl⟩:=M C;refine g_name ⟨_,rfl,_,rfl,f,_,rfl,.inr G,rfl,z7k _,_,rfl,?_⟩;by_cases z2:a∈d
   ·refine iteP ?_ (q _ ?_)
    ·rw [inV_ns];exact decide_eq_true z2
    ·have h:=(J a).mp (G0 t);unfold cP;rw [decide_eq_false (λ B=>B a (List.mem_range.mpr (z25 h).2) h z2),C6]
   ·refine iteN (λ h=>?_) ⟨rfl,λ k v c e=>?_,_,_,rfl⟩
    ·rw [inV_ns] at h;exact z2 (of_decide_eq_true h)
    ·by_cases z:k=j
     ·subst z;rw [t] at e;cases e;exact z2
     ·exact gj k v (by omega) e
  rintro σ u ⟨rfl,gj,x2,x3,rfl⟩;refine t_nx (q _ ?_);unfold cP;rw [U,E9];refine (decide_eq_true λ b _ h=>?_).symm;obtain ⟨k,c⟩:=List.mem_iff_getElem?.mp ((J b).mpr h);exact gj k b (by rw [z3g];exact (List.getElem?_eq_some_iff.mp c).1) c
theorem zg1 {X:Cx} {K:b0} (hK:X.K=K):OpR X (j2 .In) (rIn K false):=hK ▸ z1t
def PlZ (K:b0) (H:Hp) (p:Addr) (pl:Pl):Prop:=∃pa pb vs,SqT K H p [.ref pa,.ref pb]/\SqT K H pa (nsV pl.1)/\SqT K H pb vs/\All2 (StZ K H) pl.2 vs
theorem PlZ.tups {K:b0} {H H':Hp} {p:Addr} {pl:Pl} (t:Tups K H H') (h:PlZ K H p pl):PlZ K H' p pl:=by obtain ⟨g,c,f,a,b,e,d⟩:=h;exact ⟨g,c,f,t _ _ a,t _ _ b,t _ _ e,z01 (λ _ _ z=>StZ.tups t z) d⟩
def StpZ (K:b0) (H:Hp) (s:Stp) (y:V):Prop:=∃b p,y=.ref b/\SqT K H b [.int (s.1:Nat),s.2.1,.ref p]/\PlZ K H p s.2.2
theorem StpZ.tups {K:b0} {H H':Hp} {s:Stp} {y:V} (t:Tups K H H') (h:StpZ K H s y):StpZ K H' s y:=by obtain ⟨b,p,a,c,d⟩:=h;exact ⟨b,p,a,t _ _ c,d.tups t⟩
structure ThW (ts:List (Str×Str)):Prop where
 n6:ts.length<=6
 nd:(ts.map (·.1)).Nodup
 ks :∀t∈ts,t.2∈kinds5
theorem ThOk.thw {ts:List (Str×Str)} (h:ThOk ts):ThW ts:=⟨h.n6,h.nd,h.ks⟩
theorem zgs {H:Hp} {k:Str} (hk:k∈kinds5) :∃v,kl_FIRST_STATES.lookup k=some v/\StZ (kx w) H (zeroK k) v:=by
 have a:SqT (kx w) H 88 []:=.inr ⟨⟨.type "tuple",none,.seq #[] 0,#[]⟩,#[],0,by kernel_rfl,rfl,rfl,by decide,.nil⟩;have b:SqT (kx w) H 89 []:=.inr ⟨⟨.type "tuple",none,.seq #[] 0,#[]⟩,#[],0,by kernel_rfl,rfl,rfl,by decide,.nil⟩;unfold kinds5 at hk;simp only [W0,o0,or_false] at hk;unfold zeroK;rcases hk with rfl|rfl|rfl|rfl|rfl
 ·exact ⟨.int 0,by decide +kernel,by rw [if_neg (by decide +kernel)];rfl⟩
 ·exact ⟨.int 0,by decide +kernel,by rw [if_neg (by decide +kernel)];rfl⟩
 ·exact ⟨.ref 88,by decide +kernel,by rw [if_pos (by decide +kernel)];exact ⟨_,rfl,a⟩⟩
 ·exact ⟨.ref 89,by decide +kernel,by rw [if_pos (by decide +kernel)];exact ⟨_,rfl,b⟩⟩
 ·exact ⟨.int 0,by decide +kernel,by rw [if_neg (by decide +kernel)];rfl⟩
def TaleAt (K:b0) (H:Hp) (t:Addr) (ts:List (Str×Str)) (es:List Ev):Prop:=∃pt te ys,H t=some (.tup [.ref pt,.ref te])/\ThAt H pt ts/\H te=some (.tup ys)/\All2 (EvAt K H) es ys
theorem TaleAt.tt {K:b0} {H H':Hp} {t:Addr} {ts:List (Str×Str)} {es:List Ev} (x:Tt K H H') (h:TaleAt K H t ts es):TaleAt K H' t ts es:=by obtain ⟨pt,f,c,e,a,b,d⟩:=h;exact ⟨pt,f,c,x.l _ _ e,a.tt x,x.l _ _ b,z01 (λ _ _ z=>EvAt.tups x.t z) d⟩
theorem ixT_at {ts:List (Str×Str)} (ok:ThW ts) {t:Str×Str} {i:Nat} (h:ts[i]? = some t):ixT ts t.1=i:=idx_eq ok.nd (by rw [K0,h];rfl)
theorem ixT_of {ts:List (Str×Str)} (ok:ThW ts) {nm k:Str} (h:(nm,k)∈ts):ts[ixT ts nm]? = some (nm,k):=by obtain ⟨i,a⟩:=List.mem_iff_getElem?.mp h;rw [show ixT ts nm=i from ixT_at ok a];exact a
theorem set_sl {K:b0} {σ:L2.St} {H:Hp} {Q:VK} {t1 t2 ti tv tj:TE} {pb:Addr} {vs:List V} {i:Nat} {v:V} (h1 :∀(H':Hp) (R:VK),Same H H'->R (.ref pb) H'->t1 σ H' R) (h2 :∀(H':Hp) (R:VK),Same H H'->R (.ref pb) H'->t2 σ H' R) (hi :∀(H':Hp) (R:VK),Same H H'->R (.int (i:Nat)) H'->ti σ H' R) (hv :∀(H':Hp) (R:VK),Same H H'->R v H'->tv σ H' R) (hj :∀(H':Hp) (R:VK),Same H H'->R (.int ((i:Int) + 1)) H'->tj σ H' R)
  (sq:SqT K H pb vs) (il:i < vs.length) (l9:vs.length<=90) (q :∀p5 H',Same H H'->SqT K H' p5 (vs.set i v)->Q (.ref p5) H') :
  tOp (λ x y H Q=>rCatS K x y H Q\/rCatT K x y H Q) (tOp (λ x y H Q=>rCatS K x y H Q\/rCatT K x y H Q) (tSl (λ x lo hi H Q=>rSlL K x lo hi H Q\/rSlT K x lo hi H Q\/rSlS x lo hi H Q) t1 zf1 (tPart ti)) (tTup (tCons tv tNil))) (tSl (λ x lo hi H Q=>rSlL K x lo hi H Q\/rSlT K x lo hi H Q\/rSlS x lo hi H Q) t2 (tPart tj) zf1) σ H Q:=by
 refine h1 _ _ (Same.refl _) (hi _ _ (Same.refl _) ⟨i,rfl,.inr (.inl ⟨pb,vs,rfl,sq,λ z=>?_,λ e F=>?_⟩)⟩)
 ·have:=z.2;rw [HT.sIx_nat] at this;omega
 have G:cutV vs none (some (i:Int))=vs.take i:=by unfold cutV;rw [HT.sIx_none,HT.sIx_nat,u4,Nat.sub_zero,j0g (by omega)]
 have h:=Same.upd (o:=.tup (cutV vs none (some (i:Int)))) F;have p:upd H e (.tup (cutV vs none (some (i:Int)))) e=some (.tup (vs.take i)):=by rw [upd_same,G]
 generalize upd H e (.tup (cutV vs none (some (i:Int))))=H1 at h p⊢;refine hv _ _ h ⟨w_1,λ u E=>?_⟩;obtain ⟨I,w,r,s⟩:=newA (.tup [v]) E;rw [<-w];refine .inl ⟨e,u,vs.take i,[v],rfl,rfl,SqT.of (r _ _ p),SqT.of s,by simp,C0 (m:=100) (by rw [P3];show _ + 1<=100;omega) (by decide),λ n g B A=>?_⟩;have b:Same H g:=(h.trans r).trans B;refine h2 _ _ b (hj _ _ b ⟨_,rfl,.inr (.inl ⟨pb,vs,rfl,b.seqT sq,λ z=>?_,λ a C=>?_⟩)⟩)
 ·have:=z.1;rw [show (i:Int) + 1=((i + 1:Nat):Int) from rfl,HT.sIx_nat] at this;omega
 have D:cutV vs (some ((i:Int) + 1)) none=vs.drop (i + 1):=by unfold cutV;rw [show (i:Int) + 1=((i + 1:Nat):Int) from rfl,HT.sIx_none,HT.sIx_nat,j0g (by omega)];exact V4 (by rw [b8];exact A0 _)
 have d:=Same.upd (o:=.tup (cutV vs (some ((i:Int) + 1)) none)) C;have j:upd g a (.tup (cutV vs (some ((i:Int) + 1)) none)) a=some (.tup (vs.drop (i + 1))):=by rw [upd_same,D]
 generalize upd g a (.tup (cutV vs (some ((i:Int) + 1)) none))=H4 at d j⊢;have c:vs.take i++[v]++vs.drop (i + 1)=vs.set i v:=by rw [List.set_eq_take_append_cons_drop,if_pos il,K3];rfl
 have f:=d.seqT A;have k:(vs.take i++[v]).length + (vs.drop (i + 1)).length<=sizeLine:=C0 (m:=100) (by rw [<-F0,c,j08];omega) (by decide);by_cases hd:vs.drop (i + 1)=[]
 ·refine .inr ⟨n,a,_,_,rfl,rfl,f,SqT.of j,by simp,k,λ _=>?_,λ z=>absurd hd z⟩;rw [hd,Y1] at c;rw [c] at f;exact q _ _ (b.trans d) f
 ·refine .inl ⟨n,a,_,_,rfl,rfl,f,SqT.of j,hd,k,λ p5 J t l=>?_⟩;rw [c] at l;exact q _ _ ((b.trans d).trans t) l
theorem zic {α β:Type} {R:α->β->Prop} {xs:List α} {ys:List β} {x:α} {y:β} (h:All2 R xs ys) (hx:R x y) :∀i,All2 R (xs.set i x) (ys.set i y):=by
 induction h with
 | nil=>intro i;exact .nil
 | cons a r ih=>
  intro i;cases i with
  | zero=>exact .cons hx r
  | succ i=>exact .cons a (ih i)
noncomputable def stq (ts:List (Str×Str)) (p:DD) (n:Nat) (pl:Pl) (s:Sv):Stp:=(n,(dz p.k p.vb p.dt s).2,(srtN (pl.1++[n]),pl.2.set (ixT ts p.nm) (dz p.k p.vb p.dt s).1))
theorem stp_of {ts:List (Str×Str)} {r:Rc} {p:DD} {n:Nat} {pl:Pl} {s:Sv} (h:pl.2[ixT ts p.nm]? = some s):stp ts r p n pl=if r.e.isNone || decide ((dz p.k p.vb p.dt s).2=r.a) then some (stq ts p n pl s) else none:=by unfold stp;rw [h];rfl
def z9m (K:b0):Sp:=λ vs H Q _=>∃(y:V) (pp:Addr) (m n k N:Nat) (rs:List Rc) (ts:List (Str×Str)) (r:Rc) (p:DD) (pl:Pl),vs=[y,.ref pp]/\CaAt H m rs ts n r p y/\RcGd K H ts r p/\ThW ts/\PlZ K H pp pl/\PlOk ts N k pl/\N<=63/\n < N/\n∉pl.1/\
 ∀s b q H',pl.2[ixT ts p.nm]? = some s->SvOk k p.k s->Same H H'->H' b=some (.tup [.int (n:Nat),(dz p.k p.vb p.dt s).2,.ref q])->StpZ K H' (stq ts p n pl s) (.ref b)->Q (.ref b) H'
theorem zff (T:TX (kx w) mg) (c0:Ca P w mg base "do" ["kind","state","verb","worth"] 5 (sp_do (kx w))):Fo P w mg base CX0 6 319 y1p ["candidate","place"] (z9m (kx w)):=by
 refine (z8h w.params).ok sc_step_of (λ b H Q E h=>?_) (λ c4 A c5 s H b Q E hr h=>?_)
 ·obtain ⟨y,S,m,n,k,N,rs,l,r,p,a,rfl,_⟩:=h;rfl
 ·obtain ⟨y,S,m,n,k,N,rs,l,r,p,a,rfl,⟨x,e,fs,la,lb,as,bs,rfl,d,f1,f2,f3,f4,f5,f6,f7,f8,f9,ea,eb,ma,mb,al,bl⟩,gd,ok,⟨Y,pb,b,sp,sa,sb,sz⟩,J,c1,hn,nn,q⟩:=h;refine ⟨_,(z02 (ps_set (i:=2) sc_step_of.nd rfl (U0 rfl) (pe_fld (pv 0) rfl))
   (z02 (ps_set (i:=3) sc_step_of.nd rfl (U0 rfl) (pe_ix ix_seq (pv 1) pe_int (λ _ _=>rfl)))
   (z02 (ps_set (i:=4) sc_step_of.nd rfl (U0 rfl) (pe_cal c0 (hr.mono (by decide)) rfl (z00 (pe_fld (pv 0) rfl) (z00 (pe_ix ix_seq (pv 3) (pv 2) (λ _ _=>rfl)) (z00 (pe_fld (pv 0) rfl) (z00 (pe_fld (pv 0) rfl) pa_nil))))))
   (z02 (ps_set (i:=5) sc_step_of.nd rfl (U0 rfl) (z0g z0n rfl (T.no (z4n _)) F6 (z00 (z0c z6k rfl (T.no (z8c _)) j1g (z00 (pe_op op_catS (pe_ix ix_seq (pv 1) pe_int (λ _ _=>rfl)) (pe_tup (z00 (pe_fld (pv 0) rfl) pa_nil))) pa_nil)) pa_nil)))
   (z04 (ps_ret (pe_tup (z00 (pe_fld (pv 0) rfl) (z00 (pe_ix ix_seq (pv 4) pe_int (λ _ _=>rfl)) (z00 (pe_tup (z00 (pv 5) (z00 (pe_op (op_catS.or zcz) (pe_op (op_catS.or zcz) (z2x slSeq (pv 3) z5z (z4p (pv 2))) (pe_tup (z00 (pe_ix ix_seq (pv 4) pe_int (λ _ _=>rfl)) pa_nil))) (z2x slSeq (pv 3) (z4p (pe_op opAdd (pv 2) pe_int)) z5z)) pa_nil))) pa_nil)))))))))),?_⟩
  obtain ⟨g1,g2,hm,dk,ix,wi,ga⟩:=gd;have b7:=ixT_of ok hm;obtain ⟨s,U,so⟩:=z0q J.so b7;obtain ⟨v,Z,hz⟩:=z0q sz U;obtain ⟨a9,c2⟩:=J.n63 c1 hn nn;have vl:b.length=a.2.length:=z03 sz;have sl:a.2.length=l.length:=z03 J.so;have it:ixT l p.nm < b.length:=(List.getElem?_eq_some_iff.mp Z).1;rw [g2] at f4;refine ⟨_,rfl,x,_,e,fs,_,rfl,d,z0a _,z21 _,f2,?_⟩;refine g_name (t_nx ?_);refine ⟨_,rfl,.inr (.inl ⟨S,_,1,.ref pb,rfl,rfl,sp,z05 (j:=1) rfl,?_⟩)⟩;refine g_name (t_nx ?_);refine ⟨_,rfl,x,_,e,fs,_,rfl,d,z0a _,z2j _,f3,?_⟩;refine ⟨_,rfl,_,rfl,.inr (.inl ⟨pb,b,_,v,rfl,rfl,sb,z05 Z,?_⟩)⟩;refine ⟨_,rfl,x,_,e,fs,_,rfl,d,z0a _,z2g _,f4,?_⟩;refine ⟨_,rfl,x,_,e,fs,_,rfl,d,z0a _,z23 _,f5,?_⟩;refine do_can (w:=w) (E:=E0) so hz a9 dk ix wi λ p6 L O B e6 b8=>?_;refine g_name (t_nx ?_);refine z0s ?_;refine ⟨_,rfl,.inr (.inl ⟨S,_,0,.ref Y,rfl,rfl,B.seqT sp,z05 (j:=0) rfl,?_⟩)⟩;refine ⟨_,rfl,x,_,e,fs,_,rfl,B _ _ d,z0a _,z0r _,f1,w_1,λ I W=>?_⟩;have r7:=B.trans (Same.upd (o:=.tup [.int (n:Nat)]) W);have u7:=Same.upd (o:=.tup [.int (n:Nat)]) W;have e7:upd O I (.tup [.int (n:Nat)]) I=some (.tup [.int (n:Nat)]):=upd_same;generalize upd O I (.tup [.int (n:Nat)])=H7 at r7 u7 e7⊢;refine ⟨Y,I,nsV a.1,[.int (n:Nat)],rfl,rfl,r7.seqT sa,SqT.of e7,by simp,C0 (m:=100) (by rw [z3g];show _ + 1<=100;omega) (by decide),λ b2 H8 r8 q8=>?_⟩;rw [show nsV a.1++[.int (n:Nat)]=((a.1++[n]).map λ (n:Nat)=>(n:Int)).map V.int by unfold nsV;rw [X2,j1];rfl] at q8;refine ⟨b2,_,rfl,.inr q8,by rw [D0,F0];show _ + 1 < 64;omega,λ l3 c3 b0 pm pw=>?_⟩;rw [zne pm pw];obtain ⟨H9,f,r9,e9⟩:=newA (.lst (nsV (srtN (a.1++[n])))) b0;rw [<-f];refine ⟨l3,_,rfl,.inl ⟨SqL.of e9,λ u b3=>?_⟩⟩;obtain ⟨a4,f,a5,a6⟩:=newA (.tup (nsV (srtN (a.1++[n])))) b3;rw [<-f];refine g_name ?_;have G:Same O a4:=((u7.trans r8).trans r9).trans a5;have F:=B.trans G;refine sq_ret ?_;refine ⟨_,rfl,x,_,e,fs,_,rfl,F _ _ d,z0a _,z0r _,f1,?_⟩;refine ⟨_,rfl,.inr (.inl ⟨p6,_,1,_,rfl,rfl,SqT.of (G _ _ e6),z05 (j:=1) rfl,?_⟩)⟩;refine ⟨_,rfl,zh5 (set_sl (i:=ixT l p.nm) (v:=L) (λ C R g h=>⟨_,rfl,h⟩) (λ C R g h=>⟨_,rfl,h⟩) (λ C R g h=>⟨_,rfl,h⟩) (λ C R g h=>⟨_,rfl,.inr (.inl ⟨p6,_,0,L,rfl,rfl,SqT.of (g _ _ (G _ _ e6)),z05 (j:=0) rfl,h⟩)⟩) (λ C R g h=>⟨_,rfl,.inl ⟨_,1,rfl,rfl,h⟩⟩) (F.seqT sb) it (by have:=ok.n6;omega) λ t X a7 b9=>?_)⟩;refine ⟨w_2,λ c a8=>⟨w_3,λ b6 a1=>?_⟩⟩;have K:=Same.upd (o:=.tup [.ref u,.ref t]) a8;have a2:upd X c (.tup [.ref u,.ref t]) c=some (.tup [.ref u,.ref t]):=upd_same;generalize upd X c (.tup [.ref u,.ref t])=H12 at K a2 a1⊢;obtain ⟨a0,f,M,a3⟩:=newA (.tup [.int (n:Nat),(dz p.k p.vb p.dt s).2,.ref c]) a1;rw [<-f];have D:Same a4 a0:=(a7.trans K).trans M;refine q s b6 c a0 U so (F.trans D) a3 ⟨b6,c,rfl,SqT.of a3,u,t,b.set (ixT l p.nm) L,SqT.of (M _ _ a2),SqT.of (D _ _ a6),(K.trans M).seqT b9,zic (z01 (λ _ _ z=>StZ.tups (.of (F.trans D)) z) sz) (b8.tups (.of (G.trans D))) _⟩
def EndL (rs:List Rc) (es:List Nat):Prop:=es.length<=rs.length/\∀n,n∈es↔∃r,rs[n]? = some r/\r.e.isSome=true
def z2s (K:b0):Sp:=λ vs H Q _=>∃(l:Addr) (zs:List V) (rs:List Rc),vs=[.ref l]/\H l=some (.lst zs)/\All2 (RcAt K H) rs zs/\rs.length<=100/\
 ∀le es H',Same H H'->H' le=some (.lst (nsV es))->EndL rs es->Q (.ref le) H'
theorem z6w (T:TX (kx w) mg):Fo P w mg base CX0 1 324 y08 ["told"] (z2s (kx w)):=by
 refine (z1x w.params).ok z6s (λ F H Q E h=>?_) (λ W A X s H F Q E hr h=>?_)
 ·obtain ⟨l,k,f,rfl,_⟩:=h;rfl
 ·obtain ⟨l,k,f,rfl,J,o,U,q⟩:=h;refine ⟨_,(z04 (ps_ret (pe_cg (xs:=["number","deed"]) (g:=gTup (kx w) 2 (gCons (gName 0) (gCons (gName 1) gNil))) (fr:=[]) (z3r rfl (T.no (z12 _)) (z00 (pv 0) pa_nil)) (λ _ _ _ _ _=>(pg_tup rfl (z07 (pg_cn (N:=["number","deed"]) 0) (z07 (pg_cn (N:=["number","deed"]) 1) z0m)))) (λ _ _ _ _ _=>(pf_one (z08 z7y (pe_ix (z5x (K:=KX w.params) rfl) (pv 1) pe_int (λ _ _=>rfl)) pe_non (nomark _)))) (λ _ _ _ _ _=>(pv 0))))),?_⟩;have t:k.length=f.length:=z03 o;refine sq_ret ?_;refine z93 (K:=KX w.params) (a:=l) (xs:=k) (H1:=H) (λ i=>(f[i]?.map λ r=>r.e.isSome).getD false) (λ i y _=>y=.int (i:Nat)) (λ _ _ _ _ _ z=>z) (λ R h=>⟨_,rfl,h⟩) (SqL.of J) (C0 (m:=100) (by omega) (by decide)) ?_ ?_
  ·intro i S v D d G KT Y b c;obtain ⟨x,L,C,rfl,I⟩:=G;obtain ⟨r,B,p,rfl,M⟩:=z09 o C;rw [B] at b c;refine ⟨L,_,rfl,SqT.of I,rfl,_,_,rfl,_,_,rfl,rfl,[some (.int (i:Nat)),some (.ref p)],rfl,rfl,?_⟩;refine ⟨_,rfl,.inr (.inl ⟨p,_,6,endV r.e,rfl,rfl,d.seqT M,z05 (j:=6) rfl,rfl,_,rfl,?_⟩)⟩;have b:=λ z=>b (show r.e.isSome=true from z);have c:=λ z=>c (show r.e.isSome=false from z);cases re:r.e with
   | none=>exact iteN (by show ¬ (!decide (V.non=V.non))=true;decide) (c (by rw [re];rfl) _ (Same.refl _))
   | some e=>exact iteP rfl ⟨_,rfl,b (by rw [re];rfl) _ _ (Same.refl _) rfl⟩
  intro le D Z d O u;rw [zlo u];refine q le _ _ (d.trans (Same.upd O)) upd_same ⟨?_,λ n=>?_⟩
  ·exact C0 (D2 _ _) (by rw [O1,t];exact A0 _)
  ·rw [List.mem_filter,List.mem_range,t];constructor
   ·rintro ⟨h1,h2⟩;rw [B0 h1] at h2;exact ⟨_,B0 h1,h2⟩
   ·rintro ⟨r,h1,h2⟩;exact ⟨(List.getElem?_eq_some_iff.mp h1).1,by rw [h1];exact h2⟩
def z5t (K:b0):Sp:=λ vs H Q _=>∃(pa le:Addr) (ns es:List Nat),vs=[.ref pa,.ref le]/\SqT K H pa (nsV ns)/\H le=some (.lst (nsV es))/\es.length<=100/\∀b H',Same H H'->(b=true↔∀n∈es,n∈ns)->Q (.bl b) H'
theorem zbk (T:TX (kx w) mg):Fo P w mg base CX0 1 329 y10 ["done","numbers"] (z5t (kx w)):=by
 refine (z50 w.params).ok zb4 (λ G H Q E h=>?_) (λ U A W s H G Q E hr h=>?_)
 ·obtain ⟨x,le,r,o,rfl,_⟩:=h;rfl
 ·obtain ⟨x,le,r,o,rfl,J,L,S,q⟩:=h;refine ⟨_,(z04 (ps_ret (z0c (z46 rfl) rfl (T.no (n_all _)) j36 (z00 (pe_cg (xs:=["number"]) (g:=gName 0) (fr:=[(0,"done")]) (z16 (pv 1)) (λ _ _ _ _ _=>(pg_cn (N:=["number","done"]) 0)) (λ _ _ _ _ _=>pf_nil) (λ _ _ _ _ _=>(z0v (zg1 (K:=KX w.params) rfl) (pv 0) (pv 1) (by with_unfolding_all rfl)))) pa_nil)))),?_⟩;refine sq_ret (e_cb1 ?_);refine z2v (K:=KX w.params) (a:=le) (xs:=nsV o) (H1:=H) (λ _=>true) (λ i y _=>∃n,o[i]? = some n/\y=.bl (decide (n∈r))) (λ _ _ _ _ _ z=>z) (λ R h=>⟨_,rfl,h⟩) (SqL.of L) (C0 (m:=100) (by rw [z3g];omega) (by decide)) ?_ ?_
  ·intro i b v F f l KT X C Y;unfold nsV at l;rw [K0] at l;obtain ⟨n,d,rfl⟩:=Option.map_eq_some_iff.mp l;refine ⟨[some (.int (n:Nat))],rfl,rfl,iteT ?_⟩;refine ⟨_,rfl,_,rfl,x,_,rfl,.inr (f.seqT J),rfl,z7k _,?_⟩;exact C rfl _ _ (Same.refl _) ⟨n,d,by rw [<-inV_ns];rfl⟩
  intro O F p f D c;rw [List.filter_eq_self.mpr (λ _ _=>rfl),z3g] at c;have M:=z03 c;rw [O1] at M;refine ⟨O,p,rfl,SqL.of upd_same,λ y k=>?_,q _ _ (f.trans (Same.upd D)) ?_⟩
  ·obtain ⟨i,b⟩:=List.mem_iff_getElem?.mp k;obtain ⟨j,_,n,_,e⟩:=z09 c b;exact ⟨_,e⟩
  ·rw [U5];constructor
   ·intro h n d;obtain ⟨i,b⟩:=List.mem_iff_getElem?.mp d;have I:=(List.getElem?_eq_some_iff.mp b).1;have B:p[i]? = some p[i]:=B0 (by omega);obtain ⟨j,u,Z,t,e⟩:=z09 c B;rw [Z2 I] at u;cases u;rw [b] at t;cases t;have:=of_decide_eq_true (h _ (G0 B));rw [e] at this;exact of_decide_eq_true (V.bl.inj this)
   ·intro h y k;obtain ⟨i,b⟩:=List.mem_iff_getElem?.mp k;obtain ⟨j,_,n,d,e⟩:=z09 c b;rw [e,decide_eq_true (h n (G0 d))];exact decide_eq_true rfl
theorem zi7 {K:b0} {H:Hp} {ts:List (Str×Str)} {vs:List V} (al:All2 (λ (i:Nat) y=>∃t,ts[i]? = some t/\StZ K H (zeroK t.2) y) (G1 ts.length) vs):All2 (StZ K H) (ts.map λ t=>zeroK t.2) vs:=by have d:=z03 al;rw [O1] at d;refine z0w (by rw [D0,d]) λ i z v e g=>?_;rw [K0] at e;obtain ⟨t,c,rfl⟩:=Option.map_eq_some_iff.mp e;obtain ⟨j,b,h,a,f⟩:=z09 al g;rw [Z2 (List.getElem?_eq_some_iff.mp c).1] at b;cases b;rw [c] at a;cases a;exact f
def z4m (K:b0):Sp:=λ vs H Q _=>∃(t:Addr) (ts:List (Str×Str)) (es:List Ev),vs=[.ref t]/\TaleAt K H t ts es/\ThW ts/\∀p H',Same H H'->PlZ K H' p ([],ts.map λ t=>zeroK t.2)->Q (.ref p) H'
theorem z86 (T:TX (kx w) mg) (c0:Ca P w mg base "first_state" ["kind"] 2 z2e):Fo P w mg base CX0 3 334 y0h ["tale"] (z4m (kx w)):=by
 refine (z2r w.params).ok z91 (λ d H Q E h=>?_) (λ a6 A a7 s H d Q E hr h=>?_)
 ·obtain ⟨t,C,L,rfl,_⟩:=h;rfl
 ·obtain ⟨t,C,L,rfl,⟨pt,te,ys,et,⟨yt,U,o⟩,a4,al⟩,ok,q⟩:=h;refine ⟨_,(z04 (ps_ret (pe_tup (z00 (pe_tup pa_nil) (z00 (z0g z0n rfl (T.no (z4n _)) F6 (z00 (pe_cg (xs:=["name","kind"]) (g:=gTup (kx w) 2 (gCons (gName 0) (gCons (gName 1) gNil))) (fr:=[]) (pi_tup (pe_ix ix_seq (pv 0) pe_int (λ _ _=>rfl))) (λ _ _ _ _ _=>(pg_tup rfl (z07 (pg_cn (N:=["name","kind"]) 0) (z07 (pg_cn (N:=["name","kind"]) 1) z0m)))) (λ _ _ _ _ _=>pf_nil) (λ _ _ _ _ _=>(pe_cal c0 (hr.mono (by decide)) rfl (z00 (pv 1) pa_nil)))) pa_nil)) pa_nil))))),?_⟩;refine sq_ret ?_;refine ⟨w_0,λ B a3=>?_⟩;obtain ⟨I,c,f,F⟩:=newA (.tup []) a3;rw [<-c];refine zh5 (e_cb1 ?_);refine z1u (K:=KX w.params) (a:=pt) (xs:=yt) (H1:=I) (λ _=>true) (λ i y H'=>∃t,C[i]? = some t/\StZ (kx w) H' (zeroK t.2) y) (λ _ _ _ _ s ⟨t,h1,h2⟩=>⟨t,h1,h2.tups (.of s)⟩) (λ R h=>⟨_,rfl,.inr (.inl ⟨t,_,0,.ref pt,rfl,rfl,SqT.of (f _ _ et),z05 (j:=0) rfl,h⟩)⟩) (f.seqT (SqT.of U)) (C0 (m:=6) (by rw [z03 o];exact ok.n6) (by decide)) ?_ ?_
  ·intro i hi v l e k KT KF G k2;obtain ⟨t,D,b,rfl,eb⟩:=z09 o k;have V:=(f.trans e) _ _ eb;obtain ⟨v,k,S⟩:=zgs (w:=w) (H:=l) (ok.ks t (G0 D));refine ⟨b,_,rfl,SqT.of V,rfl,_,_,rfl,_,_,rfl,rfl,[some (.str t.1),some (.str t.2)],rfl,rfl,iteT ?_⟩;exact ⟨_,rfl,t.2,v,rfl,k,G rfl _ _ (Same.refl _) ⟨t,D,S⟩⟩
  intro Y l d e J p;rw [List.filter_eq_self.mpr (λ _ _=>rfl),z03 o] at p;obtain ⟨H5,c,M,O⟩:=newA (.lst d) J;rw [<-c];refine ⟨Y,d,rfl,.inl ⟨SqL.of O,λ u Z=>?_⟩⟩;obtain ⟨H6,c,a2,X⟩:=newA (.tup d) Z;rw [<-c];refine ⟨w_2,λ p0 a1=>?_⟩;obtain ⟨x,c,r,W⟩:=newA (.tup [.ref B,.ref u]) a1;rw [<-c];have n:Same l x:=(M.trans a2).trans r;exact q p0 x ((f.trans e).trans n) ⟨B,u,d,SqT.of W,SqT.of ((e.trans n) _ _ F),SqT.of (r _ _ X),zi7 (z01 (λ _ _ z=>z.elim λ t y=>⟨t,y.1,y.2.tups (.of n)⟩) p)⟩
noncomputable def hide (r:Addr) (H:Hp):Hp:=λ p=>if p=r then none else H p
theorem z2n {r p:Addr} {H:Hp} {o:HO} (n:p≠r) (e:H p=some o):hide r H p=some o:=by unfold hide;rw [if_neg n];exact e
theorem hide_same {r:Addr} {H:Hp}:Same (hide r H) H:=λ p o e=>by
 unfold hide at e;by_cases z:p=r
 ·rw [if_pos z] at e;cases e
 ·rw [if_neg z] at e;exact e
theorem zmj {r p:Addr} {H:Hp} {o:HO} (e:hide r H p=some o):p≠r:=λ z=>by unfold hide at e;rw [if_pos z] at e;cases e
theorem z2b {r:Addr} {H H':Hp} (s:Same H H'):Same (hide r H) (hide r H'):=λ p o e=>z2n (zmj e) (s _ _ (hide_same _ _ e))
theorem z4r {l:Addr} {H:Hp} {o:HO}:hide l (upd H l o)=hide l H:=by
 funext q;unfold hide;by_cases z:q=l
 ·rw [if_pos z,if_pos z]
 ·rw [if_neg z,if_neg z,upd_ne z]
theorem zjm {ts:List (Str×Str)} {f:Str×Str->Str} {us:List V} (h:All2 (λ (i:Nat) y=>∃t,ts[i]? = some t/\y=V.str (f t)) (G1 ts.length) us):us=ts.map λ t=>V.str (f t):=by
 have d:=z03 h;rw [O1] at d;apply L4;intro i;rw [K0];cases hu:us[i]? with
 | none=>rw [y4 (by have:=List.getElem?_eq_none_iff.mp hu;omega)];rfl
 | some y=>obtain ⟨j,a,t,b,c⟩:=z09 h hu;rw [Z2 (by have:=(List.getElem?_eq_some_iff.mp hu).1;omega)] at a;cases a;rw [b,c];rfl
def CaL (H:Hp) (m:Nat) (rs:List Rc) (ts:List (Str×Str)) (ps:List DD) (cs:List V):Prop:=∀n r p y,rs[n]? = some r->ps[n]? = some p->cs[n]? = some y->CaAt H m rs ts n r p y
theorem zlx {a b:V} (ha:AnsV a) (hb:AnsV b):L2.scal a b=true:=by rcases ha with rfl|rfl|⟨i,rfl,_⟩<;>rcases hb with rfl|rfl|⟨j,rfl,_⟩<;>rfl
structure BoF (K:b0) (H:Hp) (m:Nat) (rs:List Rc) (ts:List (Str×Str)) (ps:List DD) (fs:List (Str×V)):Prop where
 cand :∃lc cs,fs.lookup ("candidates" : Str)=some (.ref lc)/\H lc=some (.lst cs)/\cs.length=rs.length/\CaL H m rs ts ps cs
 first :∃p0,fs.lookup ("first" : Str)=some (.ref p0)/\PlZ K H p0 ([],ts.map λ t=>zeroK t.2)
 ended :∃le en,fs.lookup ("ended" : Str)=some (.ref le)/\H le=some (.lst (nsV en))/\EndL rs en
 kinds :∃lk,fs.lookup ("kinds" : Str)=some (.ref lk)/\H lk=some (.lst (ts.map λ t=>V.str t.2))
 nm :∀z:Str,z∈(["steps_from","ends_at","has_place"]:List Str)->fs.lookup z=none
theorem BoF.same {K:b0} {H H':Hp} {m:Nat} {rs:List Rc} {ts:List (Str×Str)} {ps:List DD} {fs:List (Str×V)} (s:Same H H') (h:BoF K H m rs ts ps fs):BoF K H' m rs ts ps fs:=
 ⟨h.cand.elim λ c z=>z.elim λ d y=>⟨c,d,y.1,s _ _ y.2.1,y.2.2.1,λ n r p v a b e=>(y.2.2.2 n r p v a b e).same s⟩,h.first.elim λ p z=>⟨p,z.1,z.2.tups (.of s)⟩,h.ended.elim λ le z=>z.elim λ f y=>⟨le,f,y.1,s _ _ y.2.1,y.2.2⟩,h.kinds.elim λ g z=>⟨g,z.1,s _ _ z.2⟩,h.nm⟩
def z1c (K:b0):Sp:=λ vs H Q _=>∃(x dx t:Addr) (ts:List (Str×Str)) (es:List Ev) (ps:List DD) (m:Nat),vs=[.ref x,.ref t,.str (z0x m)]/\H x=some (.ins 308 dx [])/\TaleAt K H t ts es/\ThW ts/\es.length<=63/\EWf [] es/\All2 (RcGd K H ts) (dAll 0 [] es) ps/\
 ∀fs H',Kept x H H'->H' x=some (.ins 308 dx fs)->BoF K H' m (dAll 0 [] es) ts ps fs->Q .non H'
theorem zke (T:TX (kx w) mg) (c0:Ca P w mg base "has_to" ["tale","strictness"] 2 (z8p (kx w))) (c1:Ca P w mg base "deeds" ["tale"] 1 (z8j (kx w))) (c2:Ca P w mg base "first_place" ["tale"] 3 (z4m (kx w))) (c3:Ca P w mg base "ended_numbers" ["told"] 1 (z2s (kx w))) (c4:Fo P w mg base (CXE P w base) 1 258 y01 ["self","number","deed","thing","kind","pairs"] (z1f (kx w))):Fo P w mg base (CXE P w base) 5 284 y03 ["self","tale","strictness"] (z1c (kx w)):=by
 refine (z35 w.params).okE sc_Board___init__ (λ vs H Q E h=>?_) (λ l1 A l3 s H vs Q E hr h=>?_)
 ·obtain ⟨x,dx,t,u,O,ps,m,rfl,_⟩:=h;rfl
 ·obtain ⟨x,dx,t,u,O,ps,m,rfl,ex,ta,ok,l6,wf,gd,q⟩:=h;refine ⟨_,(z02 (ps_set (i:=3) sc_Board___init__.nd rfl (U0 rfl) (pe_cal c0 (hr.mono (by decide)) rfl (z00 (pv 1) (z00 (pv 2) pa_nil))))
   (z02 (ps_set (i:=4) sc_Board___init__.nd rfl (U0 rfl) (pe_cal c1 (hr.mono (by decide)) rfl (z00 (pv 1) pa_nil)))
   (z02 (ps_fld (pv 0) (pe_cg (xs:=["name","kind"]) (g:=gTup (kx w) 2 (gCons (gName 0) (gCons (gName 1) gNil))) (fr:=[]) (pi_tup (pe_ix ix_seq (pv 1) pe_int (λ _ _=>rfl))) (λ _ _ _ _ _=>(pg_tup rfl (z07 (pg_cn (N:=["name","kind"]) 0) (z07 (pg_cn (N:=["name","kind"]) 1) z0m)))) (λ _ _ _ _ _=>pf_nil) (λ _ _ _ _ _=>(pv 1))) rfl)
   (z02 (ps_fld (pv 0) (pe_cal c2 (hr.mono (by decide)) rfl (z00 (pv 1) pa_nil)) rfl)
   (z02 (ps_fld (pv 0) (pe_cal c3 (hr.mono (by decide)) rfl (z00 (pv 4) pa_nil)) rfl)
   (z02 (ps_fld (pv 0) (pe_lst pa_nil) rfl)
   (z02 (zcd (i:=5) sc_Board___init__.nd rfl (U0 rfl) (xs:=["name","kind"]) (g:=gTup (kx w) 2 (gCons (gName 0) (gCons (gName 1) gNil))) (fr:=[]) rfl (pi_tup (pe_ix ix_seq (pv 1) pe_int (λ _ _=>rfl))) (λ _ z=>absurd z o0) (zd7 rfl) (λ _ z=>absurd z o0) (by decide +kernel) rfl (by decide +kernel) (λ _ _ _ _ _=>(pg_tup rfl (z07 (pg_cn (N:=["name","kind"]) 0) (z07 (pg_cn (N:=["name","kind"]) 1) z0m)))) (λ _ _ _ _ _=>pf_nil) (λ _ _ _ _ _=>(pv 0)))
   (z04 (PS.nox (ps_for K1 rfl (z3r rfl (T.no (z12 _)) (z00 (pv 4) pa_nil)) (pg_tup rfl (z07 (z0f (i:=6) sc_Board___init__.nd rfl (U0 rfl)) (z07 (z0f (i:=7) sc_Board___init__.nd rfl (U0 rfl)) z0m)))
   (z02 (ps_set (i:=8) sc_Board___init__.nd rfl (U0 rfl) (zl4 (pv 5) (z00 (pe_ix ix_seq (pv 7) pe_int (λ _ _=>rfl)) pa_nil)))
   (z04 (z22 (z18 (pe_fld (pv 0) rfl) (z00 (zk8 (zbf _) c4 (hr.mono (by decide)) rfl (T.of (ze2 _)) (z3v _) .nil passN (z00 (pv 6) (z00 (pv 7) (z00 (pv 8) (z00 (pe_ix ix_seq (pe_fld (pv 0) rfl) (pv 8) (λ _ _=>rfl)) (z00 (pv 3) pa_nil)))))) pa_nil))))))))))))))),?_⟩
  obtain ⟨pt,te,ys,et,⟨yt,e6,U⟩,g5,al⟩:=id ta;obtain ⟨dw,os,DI⟩:=DInv.all DInv.nil wf;have rl:(dAll 0 [] O).length<=63:=by have:=z80 (i:=0) (rs:=[]) O;simp only [F4,X5] at this;omega
  refine ⟨_,rfl,_,rfl,t,te,.ref pt,ys,O,m,rfl,SqT.of et,SqT.of g5,al,by omega,dw,λ lp zp H1 s1 l0 d2 ap=>?_⟩;refine g_name (t_nx ?_);refine ⟨_,rfl,t,te,.ref pt,ys,O,rfl,s1.seqT (SqT.of et),s1.seqT (SqT.of g5),z01 (λ _ _ z=>EvAt.tups (.of s1) z) al,by omega,dw,λ lt zt C s2 l5 a0 ar=>?_⟩;refine g_name (t_nx ?_);have W:=s1.trans s2;generalize dAll 0 [] O=rs at *;have zl:zt.length=rs.length:=z03 ar;have pl:=z38 (m:=m) (rs:=rs) rs.length;have pm:rs.length * rs.length<=63 * 63:=a9 rl rl;have h4 :∀{a:Addr} {o:HO} {L:Hp},L x=some (.ins 308 dx [])->L a=some o->(∀d f,o≠.ins 308 d f)->a≠x:=λ e1 e2 n z=>by rw [z,e1] at e2;cases e2;exact n _ _ rfl
  have a8:=W _ _ ex;have j0:lp≠x:=h4 a8 (s2 _ _ d2) λ _ _ z=>by cases z
  have b7:lt≠x:=h4 a8 a0 λ _ _ z=>by cases z
  refine z2y ?_;refine z1u (K:=KX w.params) (a:=pt) (xs:=yt) (H1:=C) (λ _=>true) (λ i y _=>∃t,u[i]? = some t/\y=.str t.2) (λ _ _ _ _ s z=>z) (λ R h=>⟨_,rfl,.inr (.inl ⟨t,_,0,.ref pt,rfl,rfl,SqT.of (W _ _ et),z05 (j:=0) rfl,h⟩)⟩) (W.seqT (SqT.of e6)) (C0 (m:=6) (by rw [z03 U];exact ok.n6) (by decide)) ?_ ?_
  ·intro i hi v H3 s3 hv KT KF k1 k2;obtain ⟨t,ht,b,rfl,eb⟩:=z09 U hv;refine ⟨b,_,rfl,SqT.of ((W.trans s3) _ _ eb),rfl,_,_,rfl,_,_,rfl,rfl,[some (.str t.1),some (.str t.2)],rfl,rfl,iteT ?_⟩;exact ⟨_,rfl,k1 rfl _ _ (Same.refl _) ⟨t,ht,rfl⟩⟩
  intro I H3 us s3 b6 g4;rw [List.filter_eq_self.mpr (λ _ _=>rfl),z03 U] at g4;rw [zjm (f:=λ t=>t.2) g4];have c6:=s3.trans (Same.upd (o:=.lst (u.map λ t=>V.str t.2)) b6);have b9:upd H3 I (.lst (u.map λ t=>V.str t.2)) I=some (.lst (u.map λ t=>V.str t.2)):=upd_same;have e0:I≠x:=λ z=>by rw [z,s3 _ _ a8] at b6;cases b6
  generalize upd H3 I (.lst (u.map λ t=>V.str t.2))=H4 at c6 b9⊢;have s4:=W.trans c6;refine z1b s4.kept (s4 _ _ ex) rfl (z1n _) (z4k _) (n:=0) (A0 _) (by decide) λ H5 k5 g7 e5 X=>?_;refine z2y ?_;refine ⟨_,rfl,t,u,O,rfl,ta.tt (ins_tt ex k5),ok,λ p0 H6 s6 pz=>?_⟩;refine z1b (k5.trans s6.kept) (s6 _ _ e5) rfl (z1n _) (z4j _) X (by decide) λ H7 k7 c7 e7 X=>?_;refine z2y ?_;have b2:Kept x C H7:=(c6.kept.trans g7).trans (s6.kept.trans c7);have j2:Tt (kx w) C H7:=ins_tt a8 b2;refine ⟨_,rfl,lt,zt,rs,rfl,b2 _ _ b7 a0,z01 (λ _ _ z=>RcAt.tups j2.t z) ar,by omega,λ le en H8 F b5 EL=>?_⟩;refine z1b (k7.trans F.kept) (F _ _ e7) rfl (z1n _) (z49 _) X (by decide) λ H9 k9 a1 e9 X=>?_;refine z2y ⟨w_0,λ c Y=>?_⟩;have G:=Same.upd (o:=.lst []) Y;have g0:upd H9 c (.lst []) c=some (.lst []):=upd_same;have b4:c≠x:=λ z=>by rw [z,e9] at Y;cases Y
  generalize upd H9 c (.lst [])=H10 at G g0⊢;refine z1b (k9.trans G.kept) (G _ _ e9) rfl (z1n _) (z15 _) X (by decide) λ c5 d6 a2 e4 X=>?_;have e8:=a2 _ _ b4 g0;have k3:Kept x C c5:=(b2.trans (F.kept.trans a1)).trans (G.kept.trans a2);have d5:Tt (kx w) H c5:=ins_tt ex d6;refine z0s ?_;refine z1u (K:=KX w.params) (a:=pt) (xs:=yt) (H1:=c5) (λ _=>true) (λ i y _=>∃t,u[i]? = some t/\y=.str t.1) (λ _ _ _ _ s z=>z) (λ R h=>⟨_,rfl,.inr (.inl ⟨t,_,0,.ref pt,rfl,rfl,SqT.of (d5.l _ _ et),z05 (j:=0) rfl,h⟩)⟩) (d5.t _ _ (SqT.of e6)) (C0 (m:=6) (by rw [z03 U];exact ok.n6) (by decide)) ?_ ?_
  ·intro i hi v d4 a4 hv KT KF k1 k2;obtain ⟨t,ht,b,rfl,eb⟩:=z09 U hv;refine ⟨b,_,rfl,SqT.of (a4 _ _ (d5.l _ _ eb)),rfl,_,_,rfl,_,_,rfl,rfl,[some (.str t.1),some (.str t.2)],rfl,rfl,iteT ?_⟩;exact ⟨_,rfl,k1 rfl _ _ (Same.refl _) ⟨t,ht,rfl⟩⟩
  intro M d4 us a4 a7 e3;rw [List.filter_eq_self.mpr (λ _ _=>rfl),z03 U] at e3;rw [zjm (f:=λ t=>t.1) e3];have D:=a4.trans (Same.upd (o:=.lst (u.map λ t=>V.str t.1)) a7);have d7:upd d4 M (.lst (u.map λ t=>V.str t.1)) M=some (.lst (u.map λ t=>V.str t.1)):=upd_same;have k8:M≠x:=λ z=>by rw [z,a4 _ _ e4] at a7;cases a7
  have h9:M≠c:=λ z=>by rw [z,a4 _ _ e8] at a7;cases a7
  generalize upd d4 M (.lst (u.map λ t=>V.str t.1))=HB at D d7⊢;refine g_name ?_;have eB:=D _ _ e4;have b8:=D _ _ e8;have kB:Kept x H HB:=d6.trans D.kept;have b3:Kept x C HB:=k3.trans D.kept;have c8:C c=none:=by
   cases z:C c with
   | none=>rfl
   | some o=>have:=((b2.trans (F.kept.trans a1))) _ _ b4 z;rw [Y] at this;cases this
  have i2:H c=none:=W.free c8;have j7:lt≠c:=λ z=>by rw [z,c8] at a0;cases a0
  have i4:lp≠c:=λ z=>by have:=s2 _ _ d2;rw [z,c8] at this;cases this
  have w5:Kept x H4 H5:=g7;have g9:Kept x H4 H9:=(w5.trans (s6.kept.trans c7)).trans (F.kept.trans a1);have h5:I≠c:=λ z=>by have h:=g9 _ _ e0 b9;rw [z,Y] at h;cases h
  have g6:HB I=some (.lst (u.map λ t=>V.str t.2)):=((g9.trans (G.kept.trans a2)).trans D.kept) _ _ e0 b9;refine ⟨_,rfl,lt,zt,rfl,SqL.of (b3 _ _ b7 a0),?_⟩;refine z5o (K:=KX w.params) (a:=lt) (xs:=zt) (λ i σ L=>∃B,KeptL [c] HB L/\L c=some (.lst B)/\B.length=i/\CaL (hide c L) m rs u ps B/\∃x6 x7 x8,σ=[some (.ref x),some (.ref t),some (.str (z0x m)),some (.ref lp),some (.ref lt),some (.ref M),x6,x7,x8])
   ⟨[],KeptL.refl,b8,rfl,λ n r p y _ _ h=>(by cases h),_,_,_,rfl⟩ (λ i σ L h=>?_) ?_ ?_
  ·obtain ⟨B,kk,_⟩:=h;exact SqL.of (kk _ _ (by simp [j7]) (b3 _ _ b7 a0))
  ·rintro i y σ b0 pq hy ⟨B,k13,e13,cl,ca,x6,x7,x8,rfl⟩ hpq;obtain ⟨a5,v_,sp,j1⟩:=newA (.tup [.int i,y]) hpq;rw [<-v_];refine ⟨pq,_,rfl,SqT.of j1,rfl,.int i,_,rfl,y,_,rfl,rfl,?_⟩;have k6:i < rs.length:=by rw [<-zl];exact (List.getElem?_eq_some_iff.mp hy).1
   obtain ⟨r,g8,py,rfl,g3⟩:=z09 ar hy;obtain ⟨J,j8,g1,g2,hm,dk,ix,wi,ga⟩:=z0q gd g8;have mB :∀l∈[c],MutAt HB l:=λ l hl=>by rw [List.mem_singleton.mp hl];exact .inl ⟨_,b8⟩
   have h8:Tt (kx w) C HB:=ins_tt a8 b3;have d3:Tt (kx w) C a5:=(h8.trans (KeptL.tt k13 mB)).trans (.of sp);have a3:KeptL [c] HB a5:=k13.trans sp.keptL;have h6:=d3.t _ _ g3;rw [g1] at h6;have d0:=ixT_of ok hm;have l2:ixT u J.nm < u.length:=(List.getElem?_eq_some_iff.mp d0).1;have d9:(u.map (·.1))[ixT u J.nm]? = some J.nm:=by rw [K0,d0];rfl
   have i8:u.map (λ t=>V.str t.1)=(u.map (·.1)).map V.str:=by rw [X2];rfl
   have c9:=a3 _ _ (by simp [h9]) d7;rw [i8] at c9;refine ⟨_,rfl,.inl ⟨rfl,_,SqL.of c9⟩,_,rfl,.inr (.inl ⟨py,_,1,.str J.nm,rfl,rfl,h6,z05 (j:=1) rfl,M,u.map (·.1),J.nm,ixT u J.nm,rfl,rfl,c9,C0 (m:=6) (by rw [D0];exact ok.n6) (by decide),d9,λ m' l4 e=>?_,?_⟩)⟩
   ·have:=(List.getElem?_inj (List.getElem?_eq_some_iff.mp e).1 ok.nd).mp (e.trans d9.symm);omega
   refine g_name (t_nx ?_);have f0:=a3 _ _ (by simp [b4.symm]) eB;have a6:=sp _ _ e13;have i6:=a3 _ _ (by simp [h5]) g6;have i5:=a3 _ _ (by simp [i4]) (b3 _ _ j0 (s2 _ _ d2));refine ⟨_,rfl,x,_,dx,_,_,rfl,f0,z1n _,z15 _,lk_eq,.inl ⟨rfl,_,SqL.of a6⟩,?_⟩;refine ⟨_,rfl,_,rfl,_,rfl,_,rfl,x,_,dx,_,_,rfl,f0,z1n _,z4k _,lk_n (lk_n (lk_n lk_eq)),?_⟩;refine ⟨_,rfl,.inl ⟨I,_,_,.str J.k,rfl,rfl,SqL.of i6,z05 (by rw [K0,d0];rfl),?_⟩⟩;refine ⟨_,rfl,λ Z dc b1 h0 nc=>?_⟩;have sC:Same a5 (upd (upd a5 dc (.own Z)) Z (.ins 268 dc [])):=(Same.upd h0).trans (Same.upd (by rw [upd_ne nc.symm];exact b1));refine ⟨Z,dc,lp,i,_,_,.ref py,zp,z1o m rs rs.length,r,rfl,upd_same,⟨py,rfl,sC.seqT (d3.t _ _ g3)⟩,sC _ _ i5,z01 (λ _ _ z=>z.elim λ b y=>⟨b,y.1,sC _ _ (d3.l _ _ (s2 _ _ y.2))⟩) ap,by omega,λ fs la lb as bs j4 j3 i7 f1 f2 f3 f4 f5 f6 f7 f8 f9 ea eb ma mb h7 i9 fa fb=>⟨rfl,?_⟩⟩;have d1:Same a5 j4:=zd2 b1 h0 j3;have j6:=d1 _ _ a6;refine ⟨c,B,_,rfl,rfl,j6,B1 (m:=100) (by omega) (by decide),?_⟩;have k0:Z≠c:=λ z=>by rw [z,a6] at b1;cases b1
   have j5:la≠c:=λ z=>by rw [z,sC _ _ a6] at fa;cases fa
   have i3:lb≠c:=λ z=>by rw [z,sC _ _ a6] at fb;cases fb
   refine ⟨B++[.ref Z],(a3.trans d1.keptL).trans (KeptL.set (by simp)),upd_same,by rw [F0];show B.length + 1=_;omega,λ n r' p' y' h1 h2 S=>?_,_,_,_,rfl⟩;rw [z4r];by_cases z:n < B.length
   ·rw [N2 z] at S;exact (ca n r' p' y' h1 h2 S).same (z2b (sp.trans d1))
   ·have hn:n=B.length:=by have:=(List.getElem?_eq_some_iff.mp S).1;rw [F0] at this;have:n < B.length + 1:=this;omega
    rw [hn,F2 (A0 _),Nat.sub_self] at S;cases S;rw [hn,cl] at h1 h2;rw [g8] at h1;rw [j8] at h2;cases h1;cases h2;rw [hn,cl];exact ⟨Z,dc,fs,la,lb,as,bs,rfl,z2n k0 i7,f1,f2,f3,f4,f5,f6,f7,f8,f9,z2n j5 ea,z2n i3 eb,λ a=>(ma a).trans ⟨λ h=>(mem_pairsTo.mp h).2.2,λ h=>mem_pairsTo.mpr ⟨(z25 h).1,(z25 h).2,h⟩⟩,λ b=>(mb b).trans ⟨λ h=>(mem_pairsTo.mp h).2.2,λ h=>mem_pairsTo.mpr ⟨(z25 h).1,(z25 h).2,h⟩⟩,h7,i9⟩
  ·rintro σ b0 ⟨B,k13,e13,cl,ca,x6,x7,x8,rfl⟩;have k4 :∀b o,b≠x->b≠c->H8 b=some o->b0 b=some o:=λ b o n1 n2 e=>k13 _ _ (by simp [n2]) (D _ _ (a2 _ _ n1 (G _ _ (a1 _ _ n1 e))));have d8:le≠x:=λ z=>by rw [z,F _ _ e7] at b5;cases b5
   have i1:le≠c:=λ z=>by have h:=a1 _ _ d8 b5;rw [z,Y] at h;cases h
   have i0 :∀l∈[c],MutAt HB l:=λ l hl=>by rw [List.mem_singleton.mp hl];exact .inl ⟨_,b8⟩
   have j9:Tt (kx w) H6 b0:=((ins_tt (s6 _ _ e5) c7).trans ((Tt.of F).trans ((ins_tt (F _ _ e7) a1).trans ((Tt.of G).trans ((ins_tt (G _ _ e9) a2).trans (.of D)))))).trans (KeptL.tt k13 i0);refine q _ b0 (λ b o nb e=>k13 _ _ (λ z=>by rw [List.mem_singleton.mp z,i2] at e;cases e) (kB b o nb e)) (k13 _ _ (by simp [b4.symm]) eB) ⟨⟨c,B,lk_eq,e13,by omega,λ n r p y h1 h2 S=>(ca n r p y h1 h2 S).same hide_same⟩,⟨p0,lk_n (lk_n lk_eq),pz.tups j9.t⟩,⟨le,en,lk_n lk_eq,k4 _ _ d8 i1 b5,EL⟩,⟨I,lk_n (lk_n (lk_n lk_eq)),k13 _ _ (by simp [h5]) g6⟩,λ z hz=>?_⟩;simp only [W0,o0,or_false] at hz;rcases hz with rfl|rfl|rfl<;>exact (lk_n (lk_n (lk_n (lk_n rfl))))
theorem zlr {α β:Type} {R:α->β->Prop} {xs xs':List α} {ys ys':List β} (h:All2 R xs ys) (h':All2 R xs' ys'):All2 R (xs++xs') (ys++ys'):=by
 induction h with
 | nil=>exact h'
 | cons a r ih=>exact .cons a ih
theorem if_any {tc:TT} {ta tb:TS} {D:Ends} {σ:L2.St} {H:Hp} (R:Hp->Prop) (k :∀H',R H'->ta D σ H') (h:(∀H',R H'->ta D σ H')->tIfS tc ta tb D σ H):tIfS tc ta tb D σ H:=h k
def BoAt (K:b0) (H:Hp) (m:Nat) (rs:List Rc) (ts:List (Str×Str)) (ps:List DD) (b:Addr):Prop:=∃dx fs,H b=some (.ins 308 dx fs)/\BoF K H m rs ts ps fs
theorem BoAt.same {K:b0} {H H':Hp} {m:Nat} {rs:List Rc} {ts:List (Str×Str)} {ps:List DD} {b:Addr} (s:Same H H') (h:BoAt K H m rs ts ps b):BoAt K H' m rs ts ps b:=h.elim λ a z=>z.elim λ fs y=>⟨a,fs,s _ _ y.1,y.2.same s⟩
def z1s (K:b0):Sp:=λ vs H Q _=>∃(b pp:Addr) (m k:Nat) (rs:List Rc) (ts:List (Str×Str)) (ps:List DD) (pl:Pl),vs=[.ref b,.ref pp]/\BoAt K H m rs ts ps b/\All2 (RcGd K H ts) rs ps/\ThW ts/\PlZ K H pp pl/\PlOk ts rs.length k pl/\rs.length<=63/\
 ∀l ys H',Same H H'->H l=none->H' l=some (.lst ys)->All2 (StpZ K H') (nexT (cP m rs pl.1) ts rs ps pl rs.length) ys->Q (.ref l) H'
theorem z4o (T:TX (kx w) mg) (c0:Fo P w mg base CX0 1 265 y00 ["self","done"] (z1a (kx w))) (c1:Ca P w mg base "step_of" ["candidate","place"] 6 (z9m (kx w))):Fo P w mg base CX0 7 291 y02 ["self","place"] (z1s (kx w)):=by
 refine (z1z w.params).ok sc_Board_steps_from (λ vs H Q E h=>?_) (λ a5 A a6 s H vs Q E hr h=>?_)
 ·obtain ⟨b,u,m,k,c,l,B,d,rfl,_⟩:=h;rfl
 ·obtain ⟨b,u,m,k,c,l,B,d,rfl,⟨dx,fs,eb,⟨⟨lc,cs,fc,ec,cl,ca⟩,_,_,_,fn⟩⟩,gd,ok,pz,po,rl,q⟩:=h;refine ⟨_,(z02 (ps_set (i:=2) sc_Board_steps_from.nd rfl (U0 rfl) (pe_lst pa_nil))
   (z02 (ps_for K1 rfl (z16 (pe_fld (pv 0) rfl)) (z0f (i:=3) sc_Board_steps_from.nd rfl (U0 rfl))
   (z04 (ps_if (pt_val (zho (pv 3) (z0a _) (z2m _) c0 (hr.mono (by decide)) (z3e _) .nil pass0 (z00 (pe_ix ix_seq (pv 1) pe_int (λ _ _=>rfl)) pa_nil)) (λ _=>rfl))
   (z02 (ps_set (i:=4) sc_Board_steps_from.nd rfl (U0 rfl) (pe_cal c1 (hr.mono (by decide)) rfl (z00 (pv 3) (z00 (pv 1) pa_nil))))
   (z04 (ps_if (PW.pt (pw_or (z08 op_isN (pe_fld (pv 3) rfl) pe_non (nomark _)) (pw_or1 (z08 opEq (pe_fld (pv 3) rfl) (pe_ix ix_seq (pv 4) pe_int (λ _ _=>rfl)) (nomark _)))))
   (z04 (z22 (z18 (pv 2) (z00 (pv 4) pa_nil))))
   z0e)))
   z0e)))
   (z04 (ps_ret (pv 2))))),?_⟩
  refine ⟨w_0,λ o G=>?_⟩;obtain ⟨H1,v_,L,F⟩:=newA (.lst []) G;rw [<-v_];refine g_name (t_nx ?_);refine ⟨_,rfl,b,_,dx,fs,_,rfl,L _ _ eb,z1n _,z15 _,fc,lc,rfl,⟨_,SqL.of (L _ _ ec)⟩,?_⟩;refine z3y (K:=KX w.params) (a:=lc) (xs:=cs) (λ i σ f=>∃ys,Same H f/\f o=some (.lst ys)/\All2 (StpZ (kx w) f) (nexT (cP m c d.1) l c B d i) ys/\∃x3 x4,σ=[some (.ref b),some (.ref u),some (.ref o),x3,x4])
   ⟨[],L,F,.nil,_,_,rfl⟩ (λ i σ f _ h=>SqL.of (h.choose_spec.1 _ _ ec)) ?_ ?_
  ·rintro i y σ H2 hy ⟨ys,s2,e2,al2,x3,x4,rfl⟩;have J:i < c.length:=by rw [<-cl];exact (List.getElem?_eq_some_iff.mp hy).1
   have D:c[i]? = some c[i]:=B0 J;obtain ⟨p,U,g⟩:=z0q gd D;generalize c[i]=r at D g;have Z:=(ca i r p y D U hy).same s2;obtain ⟨I,pb,vs,sp,sa,sb,sz⟩:=id pz;refine g_name ?_;have a1 :∀{f:Hp} {R:VK},Same H f->R (.ref I) f->tOp (rIx (kx w)) (tVar 1) (tC (.int 0)) [some (.ref b),some (.ref u),some (.ref o),some y,x4] f R:=λ C h=>⟨_,rfl,.inr (.inl ⟨u,_,0,.ref I,rfl,rfl,C.seqT sp,z05 (j:=0) rfl,h⟩)⟩
   have skip:cP m c d.1 i=false\/stp l r p i d=none->∀{x3 x4:Option V} {f:Hp},Same H2 f->∃ys,Same H f/\f o=some (.lst ys)/\All2 (StpZ (kx w) f) (nexT (cP m c d.1) l c B d (i + 1)) ys/\∃x3' x4',[some (.ref b),some (.ref u),some (.ref o),x3,x4]=[some (.ref b),some (.ref u),some (.ref o),x3',x4']:=λ h {x3 x4 f} C=>by
    refine ⟨ys,s2.trans C,C _ _ e2,?_,_,_,rfl⟩;rw [z92,show nexAt (cP m c d.1) l c B d i=none by
     unfold nexAt;rcases h with h|h
     ·rw [h];rfl
     ·rw [D,U];split<;>first|exact h|rfl]
    rw [j3j,Y1];exact z01 (λ _ _ z=>StpZ.tups (.of C) z) al2
   obtain ⟨x,a0,W,la,lb,as,bs,rfl,N,f1,f2,f3,f4,f5,f6,f7,f8,f9,_⟩:=id Z;refine ⟨_,rfl,x,a0,W,rfl,N,f9,a1 s2 ⟨.ref x,I,m,i,c,l,r,p,d.1,rfl,Z,s2.seqT sa,_,rfl,?_⟩⟩;cases hc:cP m c d.1 i with
   | false=>exact iteF (skip (.inl hc) (Same.refl _))
   | true=>
   refine iteT ?_;have ni:i∉d.1:=of_decide_eq_true (Bool.and_eq_true_iff.mp (Bool.and_eq_true_iff.mp hc).1).1;refine ⟨_,rfl,_,rfl,.ref x,u,m,i,k,c.length,c,l,r,p,d,rfl,Z,g.tt (.of s2),ok,pz.tups (.of s2),po,rl,J,ni,λ M b6 q6 S a3 so v e3 a2=>?_⟩;refine g_name (t_nx ?_);have X:=stp_of (r:=r) (n:=i) a3;refine if_any (λ f=>S=f/\stp l r p i d=some (stq l p i d M)) ?_ λ put=>?_;rotate_left
   ·refine t_or ?_;refine ⟨_,rfl,x,_,a0,W,_,rfl,v _ _ N,z0a _,z13 _,f6,rfl,_,rfl,?_⟩;have a4:=dz_ok g.2.2.2.1 so (po.n63 rl J ni).1;rcases g.2.2.2.2.2.2 with ⟨Y,t⟩|⟨Y,t⟩
    ·refine iteP (by rw [t];rfl) (iteT (put _ ⟨rfl,?_⟩));rw [X,Y];rfl
    have na:¬ decide (r.a=V.non)=true:=λ h=>by have:=of_decide_eq_true h;rcases t with t|t|⟨j,t,_⟩<;>(rw [t] at this;cases this)
    have F:r.e.isNone=false:=Option.isNone_eq_false_iff.mpr Y;refine iteN na ?_;refine ⟨_,rfl,x,_,a0,W,_,rfl,v _ _ N,z0a _,z13 _,f6,?_⟩;refine ⟨_,rfl,.inr (.inl ⟨b6,_,1,_,rfl,rfl,SqT.of e3,z05 (j:=1) rfl,zlx t a4.2,_,rfl,?_⟩)⟩;by_cases za:r.a=(dz p.k p.vb p.dt M).2
    ·refine iteP (decide_eq_true za) (put _ ⟨rfl,?_⟩);rw [X,F,F9,decide_eq_true za.symm];rfl
    ·refine iteN (λ h=>za (of_decide_eq_true h)) (skip (.inr ?_) v);rw [X,F,F9,decide_eq_false (λ h=>za h.symm)];rfl
   rintro f ⟨rfl,hst⟩;have O:=v _ _ e2;have yl:ys.length<=i:=by rw [z03 al2];exact zln
   refine ⟨_,rfl,.inl ⟨rfl,_,SqL.of O⟩,_,rfl,o,ys,_,rfl,rfl,O,B1 (m:=100) (by omega) (by decide),?_⟩;have tu:Tups (kx w) S (upd S o (.lst (ys++[.ref b6]))):=Tups.lst O;refine ⟨ys++[.ref b6],Same.keep (s2.trans v) G,upd_same,?_,_,_,rfl⟩;rw [z92,show nexAt (cP m c d.1) l c B d i=some (stq l p i d M) by unfold nexAt;rw [if_pos hc,D,U];exact hst];exact zlr (z01 (λ _ _ z=>(StpZ.tups (.of v) z).tups tu) al2) (.cons (a2.tups tu) .nil)
  ·rintro σ H2 ⟨ys,s2,e2,al2,x3,x4,rfl⟩;rw [cl] at al2;exact ⟨_,rfl,q o ys H2 s2 G e2 al2⟩
noncomputable def svD:Sv->PyData
 | .num i=>.int i
 | .row ns=>.tuple (ns.map T3)
noncomputable def plD (pl:Pl):PyData:=.tuple [.tuple (pl.1.map λ (n:Nat)=>.int (n:Int)),.tuple (pl.2.map svD)]
theorem zfh {K:b0} {H:Hp} :∀ns:List Int,IsPds K H (ns.map T3) (ns.map V.int)
 | []=>rfl
 | n :: ns=>⟨_,_,rfl,rfl,zfh ns⟩
theorem zkd {K:b0} {H:Hp} :∀ns:List Nat,IsPds K H (ns.map λ (n:Nat)=>.int (n:Int)) (nsV ns)
 | []=>rfl
 | n :: ns=>⟨_,_,rfl,rfl,zkd ns⟩
theorem stz_pd {K:b0} {H:Hp} :∀{s:Sv} {v:V},StZ K H s v->IsPd K H (svD s) v
 | .num _,_,h=>h
 | .row ns,_,h=>h.elim λ p z=>⟨p,_,z.1,z.2,zfh ns⟩
theorem zn3 {K:b0} {H:Hp} {ss:List Sv} {vs:List V} (h:All2 (StZ K H) ss vs):IsPds K H (ss.map svD) vs:=by
 induction h with
 | nil=>exact (rfl:([]:List V)=[])
 | cons a r ih=>exact ⟨_,_,rfl,stz_pd a,ih⟩
theorem plz_pd {K:b0} {H:Hp} {p:Addr} {pl:Pl} (h:PlZ K H p pl):IsPd K H (plD pl) (.ref p):=by obtain ⟨f,c,g,a,b,e,d⟩:=h;exact ⟨p,_,rfl,a,_,_,rfl,⟨f,_,rfl,b,zkd _⟩,_,_,rfl,⟨c,_,rfl,e,zn3 d⟩,rfl⟩
theorem z1g {α:Type} {f:α->PyData} :∀{xs:List α},(∀x∈xs,plainP (f x)=true)->z10 (xs.map f)=true
 | [],_=>rfl
 | x :: xs,h=>by show (plainP (f x) && z10 (xs.map f))=true;rw [h x Q0,z1g λ y a=>h y (Y0 _ a)];rfl
theorem z2t {α:Type} {f:α->PyData} {n:Nat} :∀{xs:List α},(∀x∈xs,(f x).depth<=n)->W1 (xs.map f)<=n
 | [],_=>X1 _
 | x :: xs,h=>by have b:=h x Q0;have c:=z2t (f:=f) (n:=n) (xs:=xs) λ y a=>h y (Y0 _ a);show max (f x).depth (W1 (xs.map f))<=n;omega
theorem zga (s:Sv):plainP (svD s)=true/\(svD s).depth<=1:=by
 cases s with
 | num i=>exact ⟨rfl,X1 _⟩
 | row ns=>exact ⟨z1g λ _ _=>rfl,by have:=z2t (f:=T3) (n:=0) (xs:=ns) (λ _ _=>A0 _);simp only [svD,Y6];omega⟩
theorem zkw (pl:Pl):plainP (plD pl)=true/\(plD pl).depth<=3:=by
 have a:z10 (pl.1.map λ (n:Nat)=>T3 (n:Int))=true:=z1g λ _ _=>rfl;have b:z10 (pl.2.map svD)=true:=z1g λ s _=>(zga s).1;have d:=z2t (f:=λ (n:Nat)=>T3 (n:Int)) (n:=0) (xs:=pl.1) (λ _ _=>A0 _);have c:=z2t (f:=svD) (n:=1) (xs:=pl.2) (λ s _=>(zga s).2);refine ⟨?_,?_⟩
 ·show (z10 _ && (z10 _ && true))=true;rw [a,b];rfl
 ·unfold plD;simp only [Y6,W1];omega
theorem zn7 {K:b0} {H:Hp} {c:Nat->Bool} {ts:List (Str×Str)} {rs:List Rc} {ps:List DD} {pl:Pl} {k N i:Nat} (gd:All2 (RcGd K H ts) rs ps) (ok:ThW ts) (po:PlOk ts N k pl) (rl:N<=63) (hN:N=rs.length) (hc :∀n,c n=true->n∉pl.1) (hi:i<=N) :∀s∈nexT c ts rs ps pl i,AnsV s.2.1/\∃n r p sv,n < N/\c n=true/\rs[n]? = some r/\ps[n]? = some p/\pl.2[ixT ts p.nm]? = some sv/\SvOk k p.k sv/\s=stq ts p n pl sv:=by
 intro s b;unfold nexT at b;obtain ⟨n,f,e⟩:=List.mem_filterMap.mp b;have f:=List.mem_range.mp f;unfold nexAt at e;cases h:c n with
 | false=>rw [h] at e;cases e
 | true=>
  have d:rs[n]? = some rs[n]:=B0 (by omega);obtain ⟨p,m,g⟩:=z0q gd d;rw [if_pos h,d,m] at e;generalize rs[n]=r at d g e;have o:=ixT_of ok g.2.2.1;obtain ⟨sv,b,l⟩:=z0q po.so o;have e:stp ts r p n pl=some s:=e;rw [stp_of b] at e;cases hb:r.e.isNone || decide ((dz p.k p.vb p.dt sv).2=r.a) with
  | false=>rw [hb] at e;cases e
  | true=>rw [hb] at e;have e:stq ts p n pl sv=s:=J1 e;have q:=dz_ok g.2.2.2.1 l (po.n63 rl (j:=n) (by omega) (hc n h)).1;rw [<-e];exact ⟨q.2,n,r,p,sv,by omega,h,d,m,b,l,rfl⟩
theorem cP_no {m:Nat} {rs:List Rc} {ns:List Nat} {n:Nat} (h:cP m rs ns n=true):n∉ns:=of_decide_eq_true (Bool.and_eq_true_iff.mp (Bool.and_eq_true_iff.mp h).1).1
theorem new1 {H:Hp} {p:Addr} (o:HO) (h:H p=none) :∃H',H'=upd H p o/\Same H H'/\H' p=some o:=⟨_,rfl,Same.upd h,upd_same⟩
theorem zmz {K:b0} {H:Hp} {m:Nat} {ts:List (Str×Str)} {rs:List Rc} {ps:List DD} {pl:Pl} (gd:All2 (RcGd K H ts) rs ps) (ok:ThW ts) (po:PlOk ts rs.length pl.1.length pl) (rl:rs.length<=63) :∀s∈nexT (cP m rs pl.1) ts rs ps pl rs.length,PlOk ts rs.length s.2.2.1.length s.2.2/\s.2.2.1.length=pl.1.length + 1:=by
 intro s D;obtain ⟨_,n,r,p,C,q,J,M,E,w,N,rfl⟩:=zn7 (c:=cP m rs pl.1) gd ok po rl rfl (λ n h=>cP_no h) (A0 _) s D;have l:=cP_no J;have f:=z8f (pl.1++[n]);have v:(srtN (pl.1++[n])).length=pl.1.length + 1:=by rw [f.length_eq,F0];rfl
 obtain ⟨Q,u,g⟩:=z0q gd M;rw [E] at u;cases u;have B:=dz_ok g.2.2.2.1 N (po.n63 rl q l).1;show PlOk ts rs.length (srtN (pl.1++[n])).length (srtN (pl.1++[n]),pl.2.set (ixT ts p.nm) (dz p.k p.vb p.dt C).1)/\(srtN (pl.1++[n])).length=pl.1.length + 1;refine ⟨⟨?_,λ x G=>?_,?_,.inr (A0 _)⟩,v⟩
 ·refine f.nodup_iff.mpr ?_;rw [A6];exact ⟨po.nd,by simp,λ a I b L e=>l (by rw [<-List.mem_singleton.mp L,<-e];exact I)⟩
 ·rcases List.mem_append.mp (f.mem_iff.mp G) with z|z
  ·exact po.lt x z
  ·rw [List.mem_singleton.mp z];exact q
 ·rw [v];have A:pl.2.length=ts.length:=z03 po.so;refine z0w (by rw [j08,A]) λ i t P j d=>?_;rw [List.getElem?_set] at d;by_cases z:ixT ts p.nm=i
  ·subst z;have F:=ixT_of ok g.2.2.1;rw [F] at j;cases j;rw [if_pos rfl,if_pos (List.getElem?_eq_some_iff.mp w).1] at d;cases d;exact B.1
  ·rw [if_neg z] at d;obtain ⟨O,o,y⟩:=z09 po.so d;rw [j] at o;cases o;exact y.le (B2 _)
theorem zja {c:Nat->Bool} {ts:List (Str×Str)} {rs:List Rc} {ps:List DD} {pl:Pl} {i:Nat} {s:Stp} (h:nexAt c ts rs ps pl i=some s):s.1=i/\c i=true:=by
 unfold nexAt at h;cases e:c i with
 | false=>rw [e] at h;cases h
 | true=>
  rw [if_pos e] at h;refine ⟨?_,rfl⟩;cases hr:rs[i]? with
  | none=>rw [hr] at h;cases h
  | some r=>
   cases hp:ps[i]? with
   | none=>rw [hr,hp] at h;cases h
   | some p=>
    rw [hr,hp] at h;have h:stp ts r p i pl=some s:=h;unfold stp at h;cases hs:pl.2[ixT ts p.nm]? with
    | none=>rw [hs] at h;cases h
    | some sv=>
     rw [hs] at h;dsimp only at h;split at h
     ·cases h;rfl
     ·cases h
theorem zhw {m:Nat} {ts:List (Str×Str)} {rs:List Rc} {ps:List DD} {pl:Pl} (nd:pl.1.Nodup) (lt :∀x∈pl.1,x < rs.length):pl.1.length + (nexT (cP m rs pl.1) ts rs ps pl rs.length).length<=rs.length:=by
 have l :∀i,(((nexT (cP m rs pl.1) ts rs ps pl i).map (·.1)).Nodup/\∀x∈(nexT (cP m rs pl.1) ts rs ps pl i).map (·.1),x < i/\x∉pl.1):=λ i=>by
  induction i with
  | zero=>exact ⟨.nil,λ x c=>absurd c o0⟩
  | succ i ih=>
   rw [z92,j1];cases h:nexAt (cP m rs pl.1) ts rs ps pl i with
   | none=>rw [j3j,S5,Y1];exact ⟨ih.1,λ x c=>⟨F1 (ih.2 x c).1,(ih.2 x c).2⟩⟩
   | some s=>
    obtain ⟨e,j⟩:=zja h;rw [Option.toList_some,R0,S5,e];refine ⟨?_,λ x c=>?_⟩
    ·rw [A6];refine ⟨ih.1,by simp,λ a d b f z=>?_⟩;have:=(ih.2 a d).1;rw [List.mem_singleton.mp f] at z;omega
    ·rcases List.mem_append.mp c with z|z
     ·exact ⟨F1 (ih.2 x z).1,(ih.2 x z).2⟩
     ·rw [List.mem_singleton.mp z];exact ⟨V1 i,cP_no j⟩
 obtain ⟨k,g⟩:=l rs.length;have:=z3b rs.length (pl.1++(nexT (cP m rs pl.1) ts rs ps pl rs.length).map (·.1)) (by
  rw [A6];exact ⟨nd,k,λ a d b f e=>(g b f).2 (e ▸ d)⟩) λ x c=>by
   rcases List.mem_append.mp c with z|z
   ·exact lt x z
   ·exact (g x z).1
 rwa [F0,D0] at this
theorem z5l {α:Type} {f:α->PyData} :∀{xs:List α},(∀x∈xs,keyD (f x)=true)->keyDs (xs.map f)=true
 | [],_=>rfl
 | x :: xs,h=>by show (keyD (f x) && keyDs (xs.map f))=true;rw [h x Q0,z5l λ y a=>h y (Y0 _ a)];rfl
theorem sv_key (s:Sv):keyD (svD s)=true:=by
 cases s with
 | num i=>rfl
 | row ns=>exact z5l λ _ _=>rfl
theorem pl_key (pl:Pl):keyD (plD pl)=true:=by have a:keyDs (pl.1.map λ (n:Nat)=>T3 (n:Int))=true:=z5l λ _ _=>rfl;have b:keyDs (pl.2.map svD)=true:=z5l λ s _=>sv_key s;show (keyDs _ && (keyDs _ && true))=true;rw [a,b];rfl
theorem pl_dep (pl:Pl):(plD pl).depth<=7:=C0 (zkw pl).2 (by decide)
theorem zla (ts:List (Str×Str)) (N:Nat):PlOk ts N 0 ([],ts.map λ t=>zeroK t.2):=⟨.nil,λ _ h=>absurd h o0,by refine z0w (by rw [D0]) λ i t s b a=>?_;rw [K0,b] at a;cases a;exact zbi _,.inl (X1 _)⟩
noncomputable def wkN:Nat->Nat
 | 0=>1
 | n + 1=>1 + (n + 1) * (wkN n + 1)
noncomputable def wkP (N:Nat) (ws:List Pl):Nat:=(ws.map λ pl=>wkN (N - pl.1.length)).sum
theorem zgp {N:Nat} {xs ys:List Pl}:wkP N (xs++ys)=wkP N xs + wkP N ys:=by unfold wkP;rw [j1,List.sum_append]
theorem zep {N:Nat} {x:Pl}:wkP N [x]=wkN (N - x.1.length):=by unfold wkP;simp
theorem zml :∀{a b:Sv},svD a=svD b->a=b
 | .num i,.num j,h=>by injection h with h;rw [h]
 | .num _,.row _,h=>by cases h
 | .row _,.num _,h=>by cases h
 | .row xs,.row c,h=>by
  injection h with h;have:xs=c:=by
   have inj :∀{xs c:List Int},xs.map T3=c.map T3->xs=c:=λ {xs}=>by
    induction xs with
    | nil=>intro c h;cases c with|nil=>rfl|cons y r=>cases h
    | cons x r ih=>
     intro c h;cases c with
     | nil=>cases h
     | cons y s=>rw [R0,R0] at h;injection h with h1 h2;injection h1 with h1;rw [h1,ih h2]
   exact inj h
  rw [this]
theorem zh2 {α β:Type} {f:α->β} (hf :∀a b,f a=f b->a=b) :∀{xs ys:List α},xs.map f=ys.map f->xs=ys
 | [],[],_=>rfl
 | [],_ :: _,h=>by cases h
 | _ :: _,[],h=>by cases h
 | x :: xs,y :: ys,h=>by rw [R0,R0] at h;injection h with h1 h2;rw [hf _ _ h1,zh2 hf h2]
theorem zng {a b:Pl} (h:plD a=plD b):a=b:=by unfold plD at h;injection h with h;injection h with h1 h2;injection h2 with h2 _;injection h1 with h1;injection h2 with h2;have d:a.1=b.1:=zh2 (λ x y z=>by injection z with z;omega) h1;have c:a.2=b.2:=zh2 (λ x y z=>zml z) h2;exact j11 d c
abbrev Oa:=Nat×V
noncomputable abbrev nxT (m:Nat) (ts:List (Str×Str)) (rs:List Rc) (ps:List DD) (pl:Pl):List Stp:=nexT (cP m rs pl.1) ts rs ps pl rs.length
inductive Wk (m:Nat) (ts:List (Str×Str)) (rs:List Rc) (ps:List DD):List Oa->Pl->Prop
 | nil:Wk m ts rs ps [] ([],ts.map λ t=>zeroK t.2)
 | snoc {o:List Oa} {pl:Pl} {s:Stp}:Wk m ts rs ps o pl->s∈nxT m ts rs ps pl->Wk m ts rs ps (o++[(s.1,s.2.1)]) s.2.2
def FullP (rs:List Rc) (pl:Pl):Prop:=∀n r,rs[n]? = some r->r.e.isSome=true->n∈pl.1
theorem zac {m:Nat} {ts:List (Str×Str)} {rs:List Rc} {ps:List DD} {G:Pl->Prop} (h0:G ([],ts.map λ t=>zeroK t.2)) (hs :∀pl,G pl->∀s∈nxT m ts rs ps pl,G s.2.2) :∀{o:List Oa} {pl:Pl},Wk m ts rs ps o pl->G pl
 | _,_,.nil=>h0
 | _,_,.snoc w h=>hs _ (zac h0 hs w) _ h
theorem tn_x {D:Ends} {σ:L2.St} {H:Hp} (h:D.nx σ H):tNext D σ H:=h
theorem ziw {c:TT} {tb:TS} {D:Ends} {σ:L2.St} {H:Hp} (W B:Nat->L2.St->Hp->Prop) (m0:Nat) (w0:W m0 σ H)
  (body :∀m σ H1,B m σ H1->tb { D with nx:=λ σ' H'=>∃m',m' < m/\W m' σ' H',ct:=λ σ' H'=>∃m',m' < m/\W m' σ' H',bk:=D.nx } σ H1)
  (cond :∀m σ H,W m σ H->(∀H1,B m σ H1->∃N:L2.St->Hp->Prop,(∀σ' H',N σ' H'->∃m',m' < m/\W m' σ' H')/\tb { D with nx:=N,ct:=N,bk:=D.nx } σ H1)->c σ H λ b H1=>if b=true then∃N:L2.St->Hp->Prop,(∀σ' H',N σ' H'->∃m',m' < m/\W m' σ' H')/\tb { D with nx:=N,ct:=N,bk:=D.nx } σ H1 else D.nx σ H1):tWhile c tb D σ H:=
 ⟨W,⟨m0,w0⟩,λ m σ H h=>cond m σ H h λ H1 b=>⟨_,λ _ _ z=>z,body m σ H1 b⟩⟩
def KeyI (K:b0) (H:Hp) (G:Pl->Prop) (ks:List (PyData×Addr)):Prop:=∀k∈ks,∃pl,k.1=plD pl/\PlZ K H k.2 pl/\G pl
theorem KeyI.same {K:b0} {H H':Hp} {G:Pl->Prop} {ks:List (PyData×Addr)} (s:Same H H') (h:KeyI K H G ks):KeyI K H' G ks:=λ k b=>(h k b).elim λ a z=>⟨a,z.1,z.2.1.tups (.of s),z.2.2⟩
theorem KeyI.put {K:b0} {H:Hp} {G:Pl->Prop} {ks:List (PyData×Addr)} {pl:Pl} {b:Addr} (h:KeyI K H G ks) (z:PlZ K H b pl) (g:G pl):KeyI K H G (putN ks (plD pl) b):=λ k a=>by
 unfold L2.putN at a;split at a
 ·exact h k a
 ·rcases List.mem_append.mp a with y|y
  ·exact h k y
  ·rw [List.mem_singleton.mp y];exact ⟨pl,rfl,z,g⟩
theorem KeyI.at_ {K:b0} {H:Hp} {G:Pl->Prop} {ks:List (PyData×Addr)} {a:Addr} (r:Rd H a (NsO a ks)) (h:KeyI K H G ks):NsAt K H a ks:=⟨r,λ k c=>by obtain ⟨b,e,z,_⟩:=h k c;rw [e];exact ⟨pl_key b,pl_dep b,plz_pd z⟩⟩
theorem zll {c:TT} {tb rest:TS} {D:Ends} {σ:L2.St} {H:Hp} (h:tWhile c tb { D with nx:=rest D } σ H):tSeq (tWhile c tb) rest D σ H:=h
noncomputable def hid2 (a b:Addr) (H:Hp):Hp:=hide a (hide b H)
theorem z5r {a b:Addr} {H H':Hp} (s:Same H H'):Same (hid2 a b H) (hid2 a b H'):=z2b (z2b s)
theorem hid2_same {a b:Addr} {H:Hp}:Same (hid2 a b H) H:=hide_same.trans hide_same
theorem hid2_b {a b:Addr} {H:Hp} {o:HO}:hid2 a b (upd H b o)=hid2 a b H:=by unfold hid2;rw [z4r]
theorem hid2_a {a b:Addr} {H:Hp} {o:HO}:hid2 a b (upd H a o)=hid2 a b H:=by
 funext p;unfold hid2 hide;by_cases z:p=a
 ·rw [if_pos z,if_pos z]
 ·rw [if_neg z,if_neg z,upd_ne z]
theorem z3j {a b p:Addr} {H:Hp} {o:HO} (n1:p≠a) (n2:p≠b) (e:H p=some o):hid2 a b H p=some o:=z2n n1 (z2n n2 e)
theorem zky {a b:Addr} {H H':Hp} (n1:H a=none) (n2:H b=none) (s:Same H H'):Same H (hid2 a b H'):=λ p o e=>z3j (λ z=>by rw [z,n1] at e;cases e) (λ z=>by rw [z,n2] at e;cases e) (s _ _ e)
theorem zhy {K:b0} {a b:Addr} {H:Hp} {f:Heap->Prop} {xs:List V} (ea:H a=some (.ext f)) (eb:H b=some (.lst xs)):Tups K H (hid2 a b H):=λ p xs h=>by
 rcases h with (h|⟨ob,h⟩)|h
 ·exact .inl (.inl (z3j (λ z=>by rw [z,ea] at h;cases h) (λ z=>by rw [z,eb] at h;cases h) h))
 ·exact .inl (.inr ⟨ob,z3j (λ z=>by rw [z,ea] at h;cases h) (λ z=>by rw [z,eb] at h;cases h) h⟩)
 ·exact .inr h
theorem wk_pos :∀n,1<=wkN n
 | 0=>A0 _
 | n + 1=>by unfold wkN;omega
theorem zjq {N:Nat} :∀ws:List Pl,ws.length<=wkP N ws
 | []=>X1 _
 | w :: ws=>by
  have a:=zjq (N:=N) ws;have c:wkP N (w :: ws)=wkN (N - w.1.length) + wkP N ws:=by
   have:=zgp (N:=N) (xs:=[w]) (ys:=ws)
   rwa [zep] at this
  have b:=wk_pos (N - w.1.length);rw [Z0];omega
theorem zna :∀{n j:Nat},j<=n->j * wkN (n - 1) + j < wkN n
 | 0,j,h=>by rw [Nat.le_zero.mp h];decide
 | n + 1,j,h=>by have:=X6 (wkN n + 1) h;have e:j * (wkN n + 1)=j * wkN n + j:=Nat.mul_succ _ _;show j * wkN n + j < 1 + (n + 1) * (wkN n + 1);omega
theorem zlg {α β:Type} {R:α->β->Prop} {xs:List α} {ys:List β} (h:All2 R xs ys):All2 R xs.reverse ys.reverse:=by
 induction h with
 | nil=>exact .nil
 | cons a r ih=>rw [List.reverse_cons,List.reverse_cons];exact z0y ih a
theorem KeyI.mono {K:b0} {H:Hp} {G G':Pl->Prop} {ks:List (PyData×Addr)} (g :∀pl,G pl->G' pl) (h:KeyI K H G ks):KeyI K H G' ks:=λ k a=>(h k a).elim λ pl z=>⟨pl,z.1,z.2.1,g pl z.2.2⟩
theorem zit {ks:List (PyData×Addr)} {d:PyData} {b:Addr}:d∈(putN ks d b).map (·.1):=by
 unfold L2.putN;split
 ·assumption
 ·rw [j1];exact List.mem_append.mpr (.inr (List.mem_singleton.mpr rfl))
theorem zfv {ks:List (PyData×Addr)} {d e:PyData} {b:Addr} (h:e∈ks.map (·.1)):e∈(putN ks d b).map (·.1):=by
 unfold L2.putN;split
 ·exact h
 ·rw [j1];exact List.mem_append.mpr (.inl h)
def z34 (K:b0):Sp:=λ vs H Q _=>∃(b pp:Addr) (m:Nat) (rs:List Rc) (ts:List (Str×Str)) (ps:List DD) (pl:Pl),vs=[.ref b,.ref pp]/\BoAt K H m rs ts ps b/\rs.length<=63/\PlZ K H pp pl/\∀b H',Same H H'->(b=true↔FullP rs pl)->Q (.bl b) H'
theorem z65 (T:TX (kx w) mg) (c0:Ca P w mg base "holds_all" ["done","numbers"] 1 (z5t (kx w))):Fo P w mg base CX0 2 298 y04 ["self","place"] (z34 (kx w)):=by
 refine (z3h w.params).ok z60 (λ e H Q E h=>?_) (λ M A N s H e Q E D h=>?_)
 ·obtain ⟨b,g,m,k,C,J,f,rfl,_⟩:=h;rfl
 ·obtain ⟨b,g,m,k,C,J,f,rfl,⟨F,fs,I,v⟩,L,⟨i,O,e,G,x,K,sz⟩,q⟩:=h;refine ⟨_,(z04 (ps_ret (pe_cal c0 (D.mono (by decide)) rfl (z00 (pe_ix ix_seq (pv 1) pe_int (λ _ _=>rfl)) (z00 (pe_fld (pv 0) rfl) pa_nil))))),?_⟩;obtain ⟨le,y,o,t,c⟩:=v.ended;refine ⟨_,rfl,.inr (.inl ⟨g,_,0,.ref i,rfl,rfl,G,z05 (j:=0) rfl,?_⟩)⟩;refine ⟨_,rfl,b,_,F,fs,_,rfl,I,z1n _,z49 _,o,?_⟩;refine ⟨i,le,f.1,y,rfl,x,t,by have:=c.1;omega,λ u l p B=>q u l p (B.trans ⟨λ h n r a d=>h n ((c.2 n).mpr ⟨r,a,d⟩),λ h n z=>?_⟩)⟩;obtain ⟨r,a,d⟩:=(c.2 n).mp z;exact h n r a d
def TlP (K:b0) (H:Hp) (t:Addr) (ts:List (Str×Str)) (es:List Ev) (ps:List DD):Prop:=TaleAt K H t ts es/\ThW ts/\es.length<=63/\EWf [] es/\All2 (RcGd K H ts) (dAll 0 [] es) ps/\(dAll 0 [] es).length<=5
theorem TlP.same {K:b0} {H H':Hp} {t:Addr} {ts:List (Str×Str)} {es:List Ev} {ps:List DD} (s:Same H H') (h:TlP K H t ts es ps):TlP K H' t ts es ps:=⟨h.1.tt (.of s),h.2.1,h.2.2.1,h.2.2.2.1,z01 (λ _ _ z=>RcGd.tt (.of s) z) h.2.2.2.2.1,h.2.2.2.2.2⟩
theorem zkx {i:Nat} {rest:TS} {D:Ends} {σ:L2.St} {H:Hp} {tA:TA} {t:Addr} {ts:List (Str×Str)} {es:List Ev} {ps:List DD} {m:Nat} (tp:TlP (kx w) H t ts es ps) (ha :∀R:List V->Hp->Prop,R [.ref t,.str (z0x m)] H->tA σ H R)
  (q :∀x dx fs H1,Same H H1->(dAll 0 [] es).length<=5->ThW ts->All2 (RcGd (kx w) H1 ts) (dAll 0 [] es) ps->H1 x=some (.ins 308 dx fs)->BoF (kx w) H1 m (dAll 0 [] es) ts ps fs->rest D (σ.set i (some (.ref x))) H1):tSeq (tAsg (tMake 308 (z1c (kx w)) [] E0 tA) (gName i)) rest D σ H:=by
 obtain ⟨o,ok,h,n,d,k⟩:=tp;refine ha _ λ x dx a e j=>?_;have l:Same H (upd (upd H dx (.own x)) x (.ins 308 dx [])):=(Same.upd e).trans (Same.upd (by rw [upd_ne j.symm];exact a));have c:Tt (kx w) H (upd (upd H dx (.own x)) x (.ins 308 dx [])):=.of l;refine ⟨x,dx,t,ts,es,ps,m,rfl,upd_same,o.tt c,ok,h,n,z01 (λ _ _ z=>RcGd.tt c z) d,λ fs H1 f g p=>⟨rfl,?_⟩⟩;have b:Same H H1:=zd2 a e f;exact q x dx fs H1 b k ok (z01 (λ _ _ z=>RcGd.tt (.of b) z) d) g p
def OaAt (H:Hp) (o:Oa) (y:V):Prop:=∃p,y=.ref p/\H p=some (.tup [.int (o.1:Nat),o.2])
theorem OaAt.same {H H':Hp} {o:Oa} {y:V} (s:Same H H') (h:OaAt H o y):OaAt H' o y:=h.elim λ p z=>⟨p,z.1,s _ _ z.2⟩
def WtAt (K:b0) (H:Hp) (q:List Oa×Pl) (y:V):Prop:=∃p l p2 xs,y=.ref p/\H p=some (.tup [.ref l,.ref p2])/\H l=some (.lst xs)/\All2 (OaAt H) q.1 xs/\PlZ K H p2 q.2
theorem WtAt.same {K:b0} {H H':Hp} {q:List Oa×Pl} {y:V} (s:Same H H') (h:WtAt K H q y):WtAt K H' q y:=by obtain ⟨p,l,f,d,a,b,g,e,c⟩:=h;exact ⟨p,l,f,d,a,s _ _ b,s _ _ g,z01 (λ _ _ z=>z.same s) e,c.tups (.of s)⟩
theorem zix {α β:Type} {R:α->β->Prop} {xs:List α} {ys:List β} {y:β} (h:All2 R xs (ys++[y])) :∃xr x,xs=xr++[x]/\All2 R xr ys/\R x y:=by
 induction ys generalizing xs with
 | nil=>
  cases h with
  | cons a r=>cases r;exact ⟨[],_,rfl,.nil,a⟩
 | cons z ys ih=>
  cases h with
  | cons a r=>obtain ⟨xr,x,rfl,b,c⟩:=ih r;exact ⟨_ :: xr,x,rfl,.cons a b,c⟩
theorem wkN_5 {n:Nat} (h:n<=5):wkN n<=651:=(by decide :∀n,n < 6->wkN n<=651) n (by omega)
def WqOk (m:Nat) (ts:List (Str×Str)) (rs:List Rc) (ps:List DD) (q:List Oa×Pl):Prop:=PlOk ts rs.length q.2.1.length q.2/\Wk m ts rs ps q.1 q.2/\q.1.length=q.2.1.length
structure Lk (m:Nat) (ts:List (Str×Str)) (rs:List Rc) (ps:List DD) (vis:List Pl) (ds:List PyData):Prop where
 c :∀pl∈vis,¬ FullP rs pl/\∀s∈nxT m ts rs ps pl,plD s.2.2∈ds
def zcn (K:b0):Sp:=λ vs H Q _=>∃(t:Addr) (ts:List (Str×Str)) (es:List Ev) (ps:List DD) (m:Nat),vs=[.ref t,.str (z0x m)]/\TlP K H t ts es ps/\
 (∀H',Same H H'->(∀o pl,Wk m ts (dAll 0 [] es) ps o pl->¬ FullP (dAll 0 [] es) pl)->Q .non H')/\∀l xs o pl H',Same H H'->H' l=some (.lst xs)->All2 (OaAt H') o xs->Wk m ts (dAll 0 [] es) ps o pl->FullP (dAll 0 [] es) pl->Q (.ref l) H'
theorem zie (T:TX (kx w) mg) (c0:Fo P w mg base (CXE P w base) 5 284 y03 ["self","tale","strictness"] (z1c (kx w))) (c1:Fo P w mg base CX0 2 298 y04 ["self","place"] (z34 (kx w))) (c2:Fo P w mg base CX0 7 291 y02 ["self","place"] (z1s (kx w))):Fo P w mg base CX0 8 341 y26 ["tale","strictness"] (zcn (kx w)):=by
 refine (zbm w.params).ok sc_judged (λ vs H Q E h=>?_) (λ j2 A j3 s H vs Q E hr h=>?_)
 ·obtain ⟨t,ts,es,ps,m,rfl,_⟩:=h;rfl
 ·obtain ⟨t,ts,es,ps,m,rfl,tp,qn,q⟩:=h;refine ⟨_,(z02 (ps_set (i:=2) sc_judged.nd rfl (U0 rfl) (zk8 (zlu _) c0 (hr.mono (by decide)) rfl (T.of (znk _)) (z5u _) .nil passN (z00 (pv 0) (z00 (pv 1) pa_nil))))
   (z02 (ps_set (i:=3) sc_judged.nd rfl (U0 rfl) zlk)
   (z02 (ps_set (i:=4) sc_judged.nd rfl (U0 rfl) (pe_lst (z00 (pe_tup (z00 (pe_lst pa_nil) (z00 (pe_fld (pv 2) rfl) pa_nil))) pa_nil)))
   (z02 (zfd K1 (z08 op_gt (z0c z1j rfl (T.no (n_len _)) i4 (z00 (pv 4) pa_nil)) pe_int (nomark _))
   (z02 (ps_set (i:=5) sc_judged.nd rfl (U0 rfl) (zms (pv 4)))
   (z02 (ps_if (pt_val (zho (pv 2) (z1n _) (z6c _) c1 (hr.mono (by decide)) (z77 _) .nil pass0 (z00 (pe_ix ix_seq (pv 5) pe_int (λ _ _=>rfl)) pa_nil)) (λ _=>rfl))
   (z04 (ps_ret (pe_ix ix_seq (pv 5) pe_int (λ _ _=>rfl))))
   z0e)
   (z04 (ps_for K1 rfl (zm4 rfl (T.no (zgf _)) (zho (pv 2) (z1n _) (z4g _) c2 (hr.mono (by decide)) (z4v _) .nil pass0 (z00 (pe_ix ix_seq (pv 5) pe_int (λ _ _=>rfl)) pa_nil))) (pg_tup rfl (z07 (z0f (i:=6) sc_judged.nd rfl (U0 rfl)) (z07 (z0f (i:=7) sc_judged.nd rfl (U0 rfl)) (z07 (z0f (i:=8) sc_judged.nd rfl (U0 rfl)) z0m))))
   (z04 (ps_if (z08 (zi9 hr) (pv 8) (pv 3) (by with_unfolding_all rfl))
   (z02 (zmt hr (pv 3) (pv 8) pe_bl rfl)
   (z04 (z22 (z18 (pv 4) (z00 (pe_tup (z00 (pe_op opAdd (pe_ix ix_seq (pv 5) pe_int (λ _ _=>rfl)) (pe_lst (z00 (pe_tup (z00 (pv 6) (z00 (pv 7) pa_nil))) pa_nil))) (z00 (pv 8) pa_nil))) pa_nil)))))
   z0e)))))))
   (z04 (ps_ret pe_non)))))),?_⟩
  refine zkx tp (λ R h=>⟨_,rfl,_,rfl,h⟩) λ x dx fs S s1 rl ok d3 e1 bf=>?_;have bo:BoAt (kx w) S m (dAll 0 [] es) ts ps x:=⟨dx,fs,e1,bf⟩
  obtain ⟨p0,h8,f6⟩:=bf.first;generalize dAll 0 [] es=rs at rl d3 bo bf qn q;refine z0s ?_;intro f c3;refine g_name ?_;have s2:=Same.upd (o:=NsO f []) c3;have e2:upd S f (NsO f []) f=some (NsO f []):=upd_same;have i8:Same S (hide f (upd S f (NsO f []))):=λ p o e=>z2n (λ z=>by rw [z,c3] at e;cases e) (s2 _ _ e);generalize upd S f (NsO f [])=H2 at s2 e2 i8⊢;refine z0s ?_;refine ⟨w_0,λ K a6=>⟨_,rfl,x,_,dx,fs,_,rfl,(s2.trans (Same.upd a6)) _ _ e1,z1n _,z4j _,h8,w_2,λ J b8=>⟨w_1,λ n U=>?_⟩⟩⟩;refine g_name ?_;have f1:S n=none:=((s2.trans (Same.upd a6)).trans (Same.upd b8)).free U;have D:=Same.upd (o:=.lst []) a6;have q1:=Same.upd (o:=.tup [.ref K,.ref p0]) b8;have q2:=Same.upd (o:=.lst [.ref J]) U;have i2:K≠f:=λ z=>by rw [z,e2] at a6;cases a6
  have i7:J≠f:=λ z=>by rw [z,D _ _ e2] at b8;cases b8
  have d2:f≠n:=λ z=>by rw [<-z,q1 _ _ (D _ _ e2)] at U;cases U
  have h4:K≠n:=λ z=>by rw [<-z,q1 _ _ upd_same] at U;cases U
  have g9:J≠n:=λ z=>by rw [<-z,upd_same] at U;cases U
  have g0:=q2 _ _ (q1 _ _ (upd_same (H:=H2) (a:=K) (o:=.lst [])));have g1:=q2 _ _ (upd_same (H:=upd H2 K (.lst [])) (a:=J) (o:=.tup [.ref K,.ref p0]));have g2:=upd_same (H:=upd (upd H2 K (.lst [])) J (.tup [.ref K,.ref p0])) (a:=n) (o:=.lst [.ref J]);have g3:=q2 _ _ (q1 _ _ (D _ _ e2));have s3:=zky c3 f1 (s2.trans ((D.trans q1).trans q2));generalize upd (upd (upd H2 K (.lst [])) J (.tup [.ref K,.ref p0])) n (.lst [.ref J])=H3 at g0 g1 g2 g3 s3⊢;refine zll (ziw (λ k σ C=>∃ks zs ws vis x5 x6 x7 x8,k=wkP rs.length (ws.map (·.2))/\Same S (hid2 f n C)/\C f=some (NsO f ks)/\C n=some (.lst zs)/\KeyI (kx w) (hid2 f n C) (λ u=>u∈vis\/u∈ws.map (·.2)) ks/\All2 (WtAt (kx w) (hid2 f n C)) ws zs/\(∀q∈ws,WqOk m ts rs ps q)/\Lk m ts rs ps vis (ks.map (·.1))/\(([],ts.map λ t=>zeroK t.2)∈vis\/([],ts.map λ t=>zeroK t.2)∈ws.map (·.2))/\ks.length + wkP rs.length (ws.map (·.2))<=651/\σ=[some (.ref t),some (.str (z0x m)),some (.ref x),some (.ref f),some (.ref n),x5,x6,x7,x8])
   (λ k σ C=>∃ks zs y ws D vis x5 x6 x7 x8,k=wkP rs.length ((ws++[D]).map (·.2))/\Same S (hid2 f n C)/\C f=some (NsO f ks)/\C n=some (.lst (zs++[y]))/\KeyI (kx w) (hid2 f n C) (λ u=>u∈vis\/u∈(ws++[D]).map (·.2)) ks/\All2 (WtAt (kx w) (hid2 f n C)) ws zs/\WtAt (kx w) (hid2 f n C) D y/\(∀q∈ws++[D],WqOk m ts rs ps q)/\Lk m ts rs ps vis (ks.map (·.1))/\(([],ts.map λ t=>zeroK t.2)∈vis\/([],ts.map λ t=>zeroK t.2)∈(ws++[D]).map (·.2))/\ks.length + wkP rs.length ((ws++[D]).map (·.2))<=651/\σ=[some (.ref t),some (.str (z0x m)),some (.ref x),some (.ref f),some (.ref n),x5,x6,x7,x8])
   (wkP rs.length [([],ts.map λ t=>zeroK t.2)]) ⟨[],[.ref J],[([],([],ts.map λ t=>zeroK t.2))],[],_,_,_,_,rfl,s3,g3,g2,λ k hk=>absurd hk o0,.cons ⟨J,K,p0,[],rfl,z3j i7 g9 g1,z3j i2 h4 g0,.nil,f6.tups (.of s3)⟩ .nil,λ u hp=>by rw [List.mem_singleton.mp hp];exact ⟨zla ts _,.nil,rfl⟩,⟨λ _ h=>absurd h o0⟩,.inr (List.mem_singleton.mpr rfl),by show 0 + wkP rs.length [([],ts.map λ t=>zeroK t.2)]<=651;rw [zep,X5];exact wkN_5 (C0 (Nat.sub_le _ _) rl),rfl⟩ ?_ ?_)
  ·rintro k σ H4 ⟨ks,zs,y,ws,⟨o,u⟩,vis,x5,x6,x7,x8,rfl,s4,es4,ew4,ki,aw,⟨p,l,p2,xs,rfl,ep,el,ax,pz⟩,po,lk,fv,kw,rfl⟩;obtain ⟨Y,wk,ol⟩:=po _ (List.mem_append.mpr (.inr (List.mem_singleton.mpr rfl)));change PlOk ts rs.length u.1.length u at Y;change o.length=u.1.length at ol;have po :∀q∈ws,WqOk m ts rs ps q:=λ q hq=>po q (List.mem_append.mpr (.inl hq));have mm :∀{a:Pl},a∈vis\/a∈(ws++[(o,u)]).map (·.2)->a∈u :: vis\/a∈ws.map (·.2):=λ {a} h=>by
    rcases h with h|h
    ·exact .inl (Y0 _ h)
    ·rw [j1] at h;rcases List.mem_append.mp h with h|h
     ·exact .inr h
     ·rw [List.mem_singleton.mp h];exact .inl Q0
   refine z0s ?_;refine ⟨_,rfl,.inl ⟨rfl,_,SqL.of ew4⟩,n,zs++[.ref p],.ref p,rfl,rfl,ew4,by simp,?_⟩;refine g_name ?_;rw [List.dropLast_concat];have h5:hid2 f n (upd H4 n (.lst zs))=hid2 f n H4:=hid2_b;have c9:upd H4 n (.lst zs) f=some (NsO f ks):=by rw [upd_ne d2];exact es4
   have c7:upd H4 n (.lst zs) n=some (.lst zs):=upd_same;generalize upd H4 n (.lst zs)=H5 at h5 c9 c7⊢;rw [<-h5] at s4 ki aw ep el pz ax;have s5:Same S H5:=s4.trans hid2_same;have b4 :∀{C:Hp} {R:VK} {x6 x7 x8:Option V} {j:Nat} {v:V},Same (hid2 f n H5) C->([.ref l,.ref p2]:List V)[j]? = some v->R v C->tOp (rIx (kx w)) (tVar 5) (tC (.int j)) [some (.ref t),some (.str (z0x m)),some (.ref x),some (.ref f),some (.ref n),some (.ref p),x6,x7,x8] C R:=λ s' hj h=>⟨_,rfl,.inr (.inl ⟨p,_,_,_,rfl,rfl,SqT.of (s' _ _ ep),z05 hj,h⟩)⟩
   refine sq_if ?_;refine ⟨_,rfl,x,dx,fs,rfl,s5 _ _ e1,bf.nm _ (by simp),b4 (j:=1) hid2_same rfl ⟨x,p2,m,rs,ts,ps,u,rfl,bo.same s5,by omega,pz.tups (.of hid2_same),λ b6 H6 W e6=>⟨_,rfl,?_⟩⟩⟩;have b0:Same (hid2 f n H5) H6:=hid2_same.trans W;refine ite2 (λ hb=>?_) λ hb=>?_
   ·exact b4 (j:=0) b0 rfl (q l xs o u _ (s1.trans (s5.trans W)) (b0 _ _ el) (z01 (λ _ _ z=>z.same b0) ax) wk (e6.mp hb))
   have nf:¬ FullP rs u:=λ z=>hb (e6.mpr z);refine tn_x (t_nx ?_);have f9:=bo.same (s5.trans W);have i1:=z01 (λ _ _ z=>RcGd.tt (.of (s5.trans W)) z) d3;refine ⟨_,rfl,x,dx,fs,rfl,(s5.trans W) _ _ e1,bf.nm _ (by simp),b4 (j:=1) b0 rfl ⟨x,p2,m,_,rs,ts,ps,u,rfl,f9,i1,ok,pz.tups (.of b0),Y,by omega,λ l7 y7 H7 s7 b5 d4 d1=>⟨l7,y7,rfl,d4,?_⟩⟩⟩;have c8:=W.trans s7;have e9:=c8 _ _ c9;have e5:=c8 _ _ c7;have b3:Same (hid2 f n H5) (hid2 f n H7):=z5r c8;have g7:l7≠f:=λ z=>by rw [z,W _ _ c9] at b5;cases b5
   have f7:l7≠n:=λ z=>by rw [z,W _ _ c7] at b5;cases b5
   have f4:=zlg (z01 (λ _ _ z=>StpZ.tups (zhy e9 e5) z) d1);have nx:=zmz d3 ok Y (by omega) (m:=m);have j0:=zhw (m:=m) (ts:=ts) (ps:=ps) Y.nd Y.lt;have i6:y7.length<=rs.length - u.1.length:=by rw [z03 d1];omega
   have c4:wkN (rs.length - u.1.length - 1)<=651:=wkN_5 (by omega);have g5:wkP rs.length ((ws++[(o,u)]).map (·.2))=wkP rs.length (ws.map (·.2)) + wkN (rs.length - u.1.length):=by rw [j1,zgp];congr 1
   refine zm2 (a:=l7) (xs:=y7) (λ j σ C=>∃ks' zs' ws' jj,jj<=j/\Same (hid2 f n H7) (hid2 f n C)/\C f=some (NsO f ks')/\C n=some (.lst zs')/\KeyI (kx w) (hid2 f n C) (λ a=>a∈u :: vis\/a∈ws'.map (·.2)) ks'/\All2 (WtAt (kx w) (hid2 f n C)) ws' zs'/\(∀q∈ws',WqOk m ts rs ps q)/\(∀d∈ks.map (·.1),d∈ks'.map (·.1))/\(∀s∈(nxT m ts rs ps u).reverse.take j,plD s.2.2∈ks'.map (·.1))/\(([],ts.map λ t=>zeroK t.2)∈u :: vis\/([],ts.map λ t=>zeroK t.2)∈ws'.map (·.2))/\ks'.length<=ks.length + jj/\wkP rs.length (ws'.map (·.2))=wkP rs.length (ws.map (·.2)) + jj * wkN (rs.length - u.1.length - 1)/\∃x6 x7 x8,σ=[some (.ref t),some (.str (z0x m)),some (.ref x),some (.ref f),some (.ref n),some (.ref p),x6,x7,x8])
    ⟨ks,zs,ws,0,A0 _,Same.refl _,e9,e5,(ki.same b3).mono λ a h=>mm h,z01 (λ _ _ z=>z.same b3) aw,po,λ _ h=>h,λ _ h=>absurd h (by rw [o4];exact o0),mm fv,A0 _,by rw [Nat.zero_mul];rfl,_,_,_,rfl⟩ (λ j σ C h=>?_) ?_ ?_
   ·obtain ⟨_,_,_,_,_,h,_⟩:=h;exact hid2_same _ _ (h _ _ (z3j g7 f7 d4))
   ·rintro j y σ X hy ⟨ks',zs',ws',jj,lj,s8,es8,ew8,ki8,aw8,po8,ko8,pr8,fv8,kl8,wk8,x6,x7,x8,rfl⟩;have jl:j < y7.length:=by have:=(List.getElem?_eq_some_iff.mp hy).1;rwa [List.length_reverse] at this
    obtain ⟨B,d5,b9,I,rfl,h6,f5⟩:=z09 f4 hy;have d6:B∈nxT m ts rs ps u:=List.mem_reverse.mp (G0 d5);have c5:=nx B d6;have tk :∀s∈(nxT m ts rs ps u).reverse.take (j + 1),s∈(nxT m ts rs ps u).reverse.take j\/s=B:=λ s F=>by
     rw [S7,d5] at F;rcases List.mem_append.mp F with z|z
     ·exact .inl z
     ·exact .inr (List.mem_singleton.mp z)
    have f3:Same (hid2 f n H7) X:=s8.trans hid2_same;have b1:=f5.tups (.of s8);have j4:jj * wkN (rs.length - u.1.length - 1)<=5 * 651:=a9 (by omega) c4;have zl:zs'.length < 10000:=by have h1:=zjq (N:=rs.length) (ws'.map (·.2));rw [D0] at h1;rw [z03 aw8];omega
    refine ⟨b9,_,rfl,f3.seqT h6,rfl,_,_,rfl,_,_,rfl,_,_,rfl,rfl,?_⟩;have d7:=(ki8.same hid2_same).at_ (.inl es8);have e7:=plz_pd (b1.tups (.of hid2_same));refine ⟨_,rfl,_,rfl,f,I,ks',plD B.2.2,rfl,rfl,d7,pl_key _,pl_dep _,e7,_,rfl,?_⟩;refine ite2 (λ _=>?_) λ h3=>⟨ks',zs',ws',jj,by omega,s8,es8,ew8,ki8,aw8,po8,ko8,λ s F=>?_,fv8,kl8,wk8,_,_,_,rfl⟩
    rotate_left
    ·rcases tk s F with z|z
     ·exact pr8 s z
     ·rw [z];by_cases O:plD B.2.2∈ks'.map (·.1)
      ·exact O
      ·exact absurd (by rw [decide_eq_false O];rfl) h3
    refine ⟨_,rfl,_,rfl,f,I,ks',plD B.2.2,rfl,rfl,rfl,es8,d7,B1 kl8 (E1 (m:=1000) (by omega) (by decide)),pl_key _,pl_dep _,e7,t_nx ?_⟩;have h9:hid2 f n (upd X f (NsO f (putN ks' (plD B.2.2) I)))=hid2 f n X:=hid2_a;have a8:upd X f (NsO f (putN ks' (plD B.2.2) I)) f=some (NsO f (putN ks' (plD B.2.2) I)):=upd_same;have a3:upd X f (NsO f (putN ks' (plD B.2.2) I)) n=some (.lst zs'):=by rw [upd_ne d2.symm];exact ew8
    generalize upd X f (NsO f (putN ks' (plD B.2.2) I))=H9 at h9 a8 a3⊢;rw [<-h9] at s8 ki8 aw8 b1;have e8:Same (hid2 f n H5) (hid2 f n H9):=b3.trans s8;have e0:Same (hid2 f n H5) H9:=e8.trans hid2_same;have g8:=e0 _ _ el;refine ⟨_,rfl,.inl ⟨rfl,_,SqL.of a3⟩,b4 (j:=0) e0 rfl ?_⟩;refine ⟨_,rfl,_,rfl,w_2,λ M a5=>?_⟩;obtain ⟨Ha,va,f2,ea⟩:=new1 (.tup [.int (B.1:Nat),B.2.1]) a5;rw [<-va];refine ⟨w_1,λ h0 g4=>?_⟩;obtain ⟨c6,vb,e4,f8⟩:=new1 (.lst [.ref M]) g4;rw [<-vb];have Z:=f2.trans e4;have xl:xs.length<=5:=by rw [z03 ax,ol];have:=z3b _ _ Y.nd Y.lt;omega
    refine .inr (.inr (.inl ⟨l,h0,xs,[.ref M],rfl,rfl,Z _ _ g8,f8,C0 (m:=100) (by show xs.length + 1<=100;omega) (by decide),λ L a7=>⟨_,rfl,w_2,λ a0 a4=>?_⟩⟩));have b7:=Same.upd (o:=.lst (xs++[.ref M])) a7;have d0:=Same.upd (o:=.tup [.ref L,.ref I]) a4;have d8:=d0 _ _ (upd_same (H:=c6) (a:=L) (o:=.lst (xs++[.ref M])));have e3:=upd_same (H:=upd c6 L (.lst (xs++[.ref M]))) (a:=a0) (o:=.tup [.ref L,.ref I]);have g6:M≠f:=λ z=>by rw [z,a8] at a5;cases a5
    have i3:M≠n:=λ z=>by rw [z,a3] at a5;cases a5
    have h7:L≠f:=λ z=>by rw [z,Z _ _ a8] at a7;cases a7
    have f0:L≠n:=λ z=>by rw [z,Z _ _ a3] at a7;cases a7
    have h2:a0≠f:=λ z=>by rw [z,b7 _ _ (Z _ _ a8)] at a4;cases a4
    have i0:a0≠n:=λ z=>by rw [z,b7 _ _ (Z _ _ a3)] at a4;cases a4
    have d9:=d0 _ _ (b7 _ _ (e4 _ _ ea));have b2:=(Z.trans b7).trans d0;generalize upd (upd c6 L (.lst (xs++[.ref M]))) a0 (.tup [.ref L,.ref I])=H13 at d9 d8 e3 b2⊢;have O:=z5r (a:=f) (b:=n) b2;refine ⟨n,zs',_,rfl,rfl,b2 _ _ a3,E1 zl (by decide),?_⟩;refine ⟨putN ks' (plD B.2.2) I,zs'++[.ref a0],ws'++[(o++[(B.1,B.2.1)],B.2.2)],jj + 1,by omega,?_,by rw [upd_ne d2];exact b2 _ _ a8,upd_same,?_,?_,λ q' hp=>?_,λ d hd=>zfv (ko8 d hd),λ s F=>?_,?_,C0 zhb (by omega),?_,_,_,_,rfl⟩
    ·rw [hid2_b];exact s8.trans O
    ·rw [hid2_b];refine ((ki8.same O).mono λ a h=>h.imp id λ z=>?_).put (b1.tups (.of O)) (.inr ?_)
     ·rw [j1];exact List.mem_append.mpr (.inr (List.mem_singleton.mpr rfl))
     ·rw [j1];exact List.mem_append.mpr (.inl z)
    ·rw [hid2_b];exact z0y (z01 (λ _ _ z=>z.same O) aw8) ⟨a0,L,I,_,rfl,z3j h2 i0 e3,z3j h7 f0 d8,z0y (z01 (λ _ _ z=>z.same (e8.trans O)) ax) ⟨M,rfl,z3j g6 i3 d9⟩,b1.tups (.of O)⟩
    ·rcases List.mem_append.mp hp with z|z
     ·exact po8 q' z
     ·rw [List.mem_singleton.mp z];exact ⟨c5.1,.snoc wk d6,by show (o++[(B.1,B.2.1)]).length=B.2.2.1.length;rw [F0,c5.2];show o.length + 1=_;rw [ol]⟩
    ·rcases tk s F with z|z
     ·exact zfv (pr8 s z)
     ·rw [z];exact zit
    ·exact fv8.imp id λ z=>by rw [j1];exact List.mem_append.mpr (.inl z)
    ·rw [j1,zgp,wk8,Nat.succ_mul];have:wkP rs.length ([(o++[(B.1,B.2.1)],B.2.2)].map (·.2))=wkN (rs.length - u.1.length - 1):=by show wkP rs.length [B.2.2]=_;rw [zep,c5.2,show rs.length - (u.1.length + 1)=rs.length - u.1.length - 1 by omega]
     omega
   ·rintro σ X ⟨ks',zs',ws',jj,lj,s8,es8,ew8,ki8,aw8,po8,ko8,pr8,fv8,kl8,wk8,x6,x7,x8,rfl⟩;have B:=zna (C0 lj i6);rw [show y7.length=(nxT m ts rs ps u).reverse.length by rw [List.length_reverse,z03 d1],Q5] at pr8;refine ⟨wkP rs.length (ws'.map (·.2)),by rw [g5,wk8];omega,ks',zs',ws',u :: vis,_,_,_,_,rfl,(s4.trans b3).trans s8,es8,ew8,ki8,aw8,po8,⟨λ a ha=>?_⟩,fv8,by rw [wk8];omega,rfl⟩;rcases List.mem_cons.mp ha with z|z
    ·rw [z];exact ⟨nf,λ s F=>pr8 s (List.mem_reverse.mpr F)⟩
    ·exact ⟨(lk.c a z).1,λ s F=>ko8 _ ((lk.c a z).2 s F)⟩
  ·rintro k σ H4 ⟨ks,zs,ws,vis,x5,x6,x7,x8,rfl,s4,es4,ew4,ki,aw,po,lk,fv,kw,rfl⟩ body;refine ⟨_,rfl,.inl ⟨n,zs,rfl,.inl (SqL.of ew4),_,_,rfl,rfl,_,rfl,?_⟩⟩;refine ite2 (λ h=>?_) λ h=>?_
   ·have h:(0:Int) < (zs.length:Int):=of_decide_eq_true h;have hz:zs≠[]:=λ z=>by rw [z] at h;exact absurd h (by decide)
    have ez:=(i5 hz).symm;rw [ez] at aw ew4;obtain ⟨wr,D,rfl,J,a2⟩:=zix aw;exact body _ ⟨ks,_,_,wr,D,vis,x5,x6,x7,x8,rfl,s4,es4,ew4,ki,J,a2,po,lk,fv,kw,rfl⟩
   ·have zn:zs=[]:=by
     cases zs with
     | nil=>rfl
     | cons z r=>exact absurd (decide_eq_true (show (0:Int) < ((z :: r).length:Int) by rw [Z0];omega)) h
    subst zn;cases aw;refine qn _ (s1.trans (s4.trans hid2_same)) λ o u wk=>(lk.c u ?_).1;refine zac (G:=λ u=>u∈vis) (fv.resolve_right o0) (λ u hp s F=>?_) wk;obtain ⟨k,hk,e⟩:=List.mem_map.mp ((lk.c u hp).2 s F);obtain ⟨i9,e',_,g⟩:=ki k hk;rw [zng (e.symm.trans e')];exact g.resolve_right o0
theorem zk5 {cs:List V} {bs:List Bool} (h:All2 (λ (b:Bool) y=>y=V.bl b) bs cs):(∀y∈cs,∃b,y=V.bl b)/\(cs.all λ y=>decide (y=.bl true))=bs.all id:=by
 induction h with
 | nil=>exact ⟨(λ y a=>nomatch a),rfl⟩
 | cons e r ih=>
  subst e;refine ⟨λ y a=>?_,?_⟩
  ·rcases List.mem_cons.mp a with rfl|a
   ·exact ⟨_,rfl⟩
   ·exact ih.1 y a
  ·rw [z9,z9,ih.2];congr 1;simp
theorem zcp {bs:List Bool} {cs:List V} {n:Nat} (hb:bs.length=n) (h:All2 (λ i y=>∀b,bs[i]? = some b->y=V.bl b) (G1 n) cs):All2 (λ (b:Bool) y=>y=V.bl b) bs cs:=by
 have e:=z03 h;rw [O1] at e;refine z0w (by omega) λ i b y a f=>?_;obtain ⟨j,c,g⟩:=z09 h f;have d:i < n:=by have:=(List.getElem?_eq_some_iff.mp a).1;omega
 rw [Z2 d] at c;cases c;exact g b a
def IsA (a:V):Prop:=(∃i,a=.int i)\/∃z,a=.str z
theorem AnsV.isA {a:V} (h:AnsV a):IsA a:=by
 rcases h with rfl|rfl|⟨i,rfl,_⟩
 ·exact .inr ⟨_,rfl⟩
 ·exact .inr ⟨_,rfl⟩
 ·exact .inl ⟨_,rfl⟩
noncomputable def stK (st:List (Nat×V)):List (Key×V):=st.map λ s=>(.inl (s.1:Int),s.2)
theorem zl1 {X:Cx} {K:b0} (hK:X.K=K):CallR X (.builtin "len") (λ xs H Q=>(∃p ys,xs=[V.ref p]/\(SqL K H p ys\/SqT K H p ys)/\Q (V.int (ys.length:Nat)) H)\/∃z,xs=[V.str z]/\z.length<=sizeLine/\Q (V.int (z.length:Nat)) H):=hK ▸ z1j
theorem z3i :∀{more acc:List (Key×V)} {k:Key} {v:V},valV (mergeK acc more) k=some v->(k,v)∈more\/valV acc k=some v
 | [],_,_,_,h=>.inr h
 | p :: r,acc,k,v,h=>by
  rcases z3i (more:=r) (acc:=putK acc p.1 p.2) h with z|z
  ·exact .inl (Y0 _ z)
  ·rw [z1d] at z;by_cases e:k=p.1
   ·rw [if_pos e] at z;cases z;exact .inl (by rw [e];exact Q0)
   ·rw [if_neg e] at z;exact .inr z
theorem IsA.scal {a b:V} (ha:IsA a\/a=.non) (hb:IsA b\/b=.non):L2.scal a b=true:=by rcases ha with (⟨i,rfl⟩|⟨i,rfl⟩)|rfl<;>rcases hb with (⟨j,rfl⟩|⟨j,rfl⟩)|rfl<;>rfl
theorem z9f {X:Cx} {K:b0} (hK:X.K=K):OpR X (j2 .NotIn) (rIn K true):=hK ▸ z1h
theorem zci :∀{more acc:List (Key×V)},((acc++more).map (·.1)).Nodup->mergeK acc more=acc++more
 | [],acc,_=>(Y1 _).symm
 | p :: r,acc,h=>by show mergeK (putK acc p.1 p.2) r=_;rw [j1] at h;rw [z6n λ z=>(List.nodup_append.mp h).2.2 _ z _ Q0 rfl,zci (by rw [K3,j1];exact h),K3];rfl
theorem stK_nd {st:List (Nat×V)} (h:(st.map (·.1)).Nodup):((stK st).map (·.1)).Nodup:=by unfold stK;rw [X2,show ((λ x:Key×V=>x.1) ∘ λ s:Nat×V=>((.inl (s.1:Int),s.2):Key×V))=(λ n:Nat=>(.inl (n:Int):Key)) ∘ (λ s:Nat×V=>s.1) from rfl,<-X2];exact S4 _ (λ a b n e=>n (by have:=Q3 e;omega)) h
theorem oas_kv {K:b0} {H:Hp} {st:List Oa} {xs:List V} (h:All2 (OaAt H) st xs):All2 (λ (p:Key×V) y=>∃b,y=.ref b/\SqT K H b [kV p.1,p.2]) (stK st) xs:=by
 induction h with
 | nil=>exact .nil
 | cons a r ih=>exact .cons (a.elim λ b z=>⟨b,z.1,SqT.of z.2⟩) ih
theorem zg3 {st:List Oa} {ws:List V} {n:Nat} (ln:n=st.length) (h:All2 (λ (i:Nat) y=>∃s':Oa,st[i]? = some s'/\y=V.int (s'.1:Int)) (G1 n) ws):ws=nsV (st.map (·.1)):=by
 have d:=z03 h;rw [O1,ln] at d;apply L4;intro i;unfold nsV;rw [K0,K0];cases hw:ws[i]? with
 | none=>rw [y4 (by have:=List.getElem?_eq_none_iff.mp hw;omega)];rfl
 | some y=>obtain ⟨j,a,s',b,c⟩:=z09 h hw;rw [Z2 (by have:=(List.getElem?_eq_some_iff.mp hw).1;omega)] at a;cases a;rw [b,c];rfl
def z9p:Sp:=λ vs H Q _=>∃(p:Addr) (a:V) (k n:Nat),vs=[.ref p,.int n]/\H p=some (.tup [.int (k:Nat),a])/\k < n/\IsA a/\Q (.bl true) H
theorem zfg (T:TX (kx w) mg) (c0:Ca P w mg base "is_tuple_of" ["value","many"] 1 z2a) (c1:Ca P w mg base "is_whole" ["value"] 1 z4w):Fo P w mg base CX0 2 236 y1o ["step","many"] z9p:=by
 refine (z95 w.params).ok zh6 (λ e H Q E h=>?_) (λ f A i s H e Q E c h=>?_)
 ·obtain ⟨p,a,k,n,rfl,_⟩:=h;rfl
 ·obtain ⟨p,a,k,n,rfl,b,g,d,q⟩:=h;refine ⟨_,(z02 (ps_if (PW.pt (pw_or (pt_not (pt_val (pe_cal c0 (c.mono (by decide)) rfl (z00 (pv 0) (z00 pe_int pa_nil))) (λ _=>rfl))) (pw_or (pt_not (pt_val (pe_cal c1 (c.mono (by decide)) rfl (z00 (pe_ix ix_seq (pv 0) pe_int (λ _ _=>rfl)) pa_nil)) (λ _=>rfl))) (pw_or1 (pt_not (zki op_le op_lt pe_int (pe_ix ix_seq (pv 0) pe_int (λ _ _=>rfl)) (pv 1)))))))
   (z04 (ps_ret pe_bl))
   z0e)
   (z04 (ps_ret (pe_or (pe_cal c1 (c.mono (by decide)) rfl (z00 (pe_ix ix_seq (pv 0) pe_int (λ _ _=>rfl)) pa_nil)) (pe_one (z0c z0k rfl (T.no (z0i _)) Y2 (z00 (pe_ix ix_seq (pv 0) pe_int (λ _ _=>rfl)) (z00 (z2i (v:=.ty "str") rfl (T.no (n_str _)) j0e rfl) pa_nil)))))))),?_⟩
  refine ⟨_,rfl,.ref p,_,2,rfl,.inr (.inl ⟨⟨_,b⟩,rfl⟩),_,rfl,?_⟩;rw [show tupOf H (.ref p)=some [.int (k:Nat),a] by unfold tupOf;dsimp only;rw [b]];refine iteN (show ¬ (!decide ((2:Int)=2))=true by decide) ?_;refine ⟨_,rfl,.inr (.inl ⟨p,_,0,.int k,rfl,rfl,SqT.of b,z05 (j:=0) rfl,.int k,"int",rfl,rfl,_,rfl,iteF ?_⟩)⟩;refine ⟨_,rfl,.inr (.inl ⟨p,_,0,.int k,rfl,rfl,SqT.of b,z05 (j:=0) rfl,0,k,rfl,rfl,_,rfl,?_⟩)⟩;refine iteP (decide_eq_true (by omega)) ⟨_,rfl,k,n,rfl,rfl,_,rfl,?_⟩;refine iteN (by rw [decide_eq_true (show (k:Int) < (n:Int) by omega)];decide) ?_;rcases d with ⟨j,rfl⟩|⟨z,rfl⟩
  ·exact ⟨_,rfl,.inr (.inl ⟨p,_,1,.int j,rfl,rfl,SqT.of b,z05 (j:=1) rfl,.int j,"int",rfl,rfl,_,rfl,iteT q⟩)⟩
  ·exact ⟨_,rfl,.inr (.inl ⟨p,_,1,.str z,rfl,rfl,SqT.of b,z05 (j:=1) rfl,.str z,"str",rfl,rfl,_,rfl,iteF ⟨_,rfl,.inr (.inl ⟨p,_,1,.str z,rfl,rfl,SqT.of b,z05 (j:=1) rfl,.str z,"str",_,rfl,rfl,by decide,q⟩)⟩⟩)⟩
noncomputable def getA (st:List (Nat×V)) (n:Nat) (r:Rc):Bool:=r.e.isNone || decide ((valV (stK st) (.inl (n:Int))).getD .non=r.a)
def AllIn (rs:List Rc) (st:List Oa):Prop:=∀n r,rs[n]? = some r->r.e.isSome=true->(n,r.a)∈st
def z7t (K:b0):Sp:=λ vs H Q _=>∃(l o:Addr) (zs xs:List V) (rs:List Rc) (st:List Oa),vs=[.ref l,.ref o]/\H l=some (.lst zs)/\All2 (RcAt K H) rs zs/\rs.length<=100/\(∀r∈rs,r.e.isSome=true->IsA r.a)/\H o=some (.lst xs)/\All2 (OaAt H) st xs/\st.length<=100/\(st.map (·.1)).Nodup/\(∀s∈st,s.1 < rs.length/\IsA s.2)/\
 ∀b H',Same H H'->(b=true↔AllIn rs st)->Q (.bl b) H'
theorem zdv (T:TX (kx w) mg) (c0:Ca P w mg base "is_step" ["step","many"] 2 z9p):Fo P w mg base CX0 3 229 y1e ["told","order"] (z7t (kx w)):=by
 refine (z6e w.params).ok sc_is_order (λ I H Q E h=>?_) (λ b2 A b3 s H I Q E hr h=>?_)
 ·obtain ⟨l,o,U,xs,S,c,rfl,_⟩:=h;rfl
 ·obtain ⟨l,o,U,xs,S,c,rfl,el,ar,b5,ra,M,al,b4,nd,a3,q⟩:=h;have lx:xs.length=c.length:=z03 al;have lz:U.length=S.length:=z03 ar;refine ⟨_,(z02 (ps_if (PW.pt (pw_or (pt_not (pt_val (z0c z0k rfl (T.no (z0i _)) Y2 (z00 (pv 1) (z00 (z2i (v:=.ty "list") rfl (T.no (n_list _)) boot_list rfl) pa_nil))) (λ _=>rfl))) (pw_or1 (pt_not (pt_val (z0c (z46 rfl) rfl (T.no (n_all _)) j36 (z00 (pe_cg (xs:=["step"]) (g:=gName 0) (fr:=[(0,"told")]) (z16 (pv 1)) (λ _ _ _ _ _=>(pg_cn (N:=["step","told"]) 0)) (λ _ _ _ _ _=>pf_nil) (λ _ _ _ _ _=>(pe_cal c0 (hr.mono (by decide)) rfl (z00 (pv 0) (z00 (z0c (zl1 (K:=KX w.params) rfl) rfl (T.no (n_len _)) i4 (z00 (pv 1) pa_nil)) pa_nil))))) pa_nil)) (λ _=>rfl))))))
   (z04 (ps_ret pe_bl))
   z0e)
   (z02 (ps_set (i:=2) sc_is_order.nd rfl (T0 rfl) (z0g (z11 rfl) rfl (T.no (n_dict _)) U7 (z00 (pv 1) pa_nil)))
   (z02 (ps_if (z08 op_lt (z0c z87 rfl (T.no (n_len _)) i4 (z00 (pv 2) pa_nil)) (z0c z1j rfl (T.no (n_len _)) i4 (z00 (pv 1) pa_nil)) (nomark _))
   (z04 (ps_ret pe_bl))
   z0e)
   (z04 (ps_ret (z0c (z46 rfl) rfl (T.no (n_all _)) j36 (z00 (pe_cg (xs:=["number","deed"]) (g:=gTup (kx w) 2 (gCons (gName 0) (gCons (gName 1) gNil))) (fr:=[(2,"answers")]) (z3r rfl (T.no (z12 _)) (z00 (pv 0) pa_nil)) (λ _ _ _ _ _=>(pg_tup rfl (z07 (pg_cn (N:=["number","deed","answers"]) 0) (z07 (pg_cn (N:=["number","deed","answers"]) 1) z0m)))) (λ _ _ _ _ _=>pf_nil) (λ _ _ _ _ _=>(pe_or (z0v op_isN (pe_ix (z5x (K:=KX w.params) rfl) (pv 1) pe_int (λ _ _=>rfl)) pe_non (nomark _)) (pe_one (z0v opEq (zkl (hu_of hr) (pv 2) (pv 0) ⟨rfl,rfl,rfl,rfl⟩) (pe_ix (z5x (K:=KX w.params) rfl) (pv 1) pe_int (λ _ _=>rfl)) (nomark _)))))) pa_nil))))))),?_⟩
  refine sq_if (t_or ?_);refine ⟨_,rfl,_,_,"list",rfl,.inl ⟨⟨_,M⟩,rfl⟩,by decide,_,rfl,iteN (by decide) ?_⟩;refine tB_not (e_cb1 ?_);refine z2v (K:=KX w.params) (a:=o) (xs:=xs) (H1:=H) (λ _=>true) (λ i y _=>∀b,(c.map λ _=>true)[i]? = some b->y=.bl b) (λ _ _ _ _ _ z=>z) (λ R h=>⟨_,rfl,h⟩) (SqL.of M) (C0 (m:=100) (by omega) (by decide)) ?_ ?_
  ·intro i hi v H1 L t KT KF d k2;obtain ⟨B,hd,p,rfl,ep⟩:=z09 al t;refine ⟨[some (.ref p)],rfl,rfl,iteT ?_⟩;obtain ⟨g1,g2⟩:=a3 B (G0 hd);refine ⟨_,rfl,_,rfl,.inl ⟨l,U,rfl,.inl (SqL.of (L _ _ el)),p,B.2,B.1,S.length,by rw [<-lz];rfl,L _ _ ep,g1,g2,?_⟩⟩;refine d rfl _ _ (Same.refl _) λ b u=>?_;rw [K0,hd] at u;cases u;rfl
  intro l1 H1 bs L a8 a1;rw [List.filter_eq_self.mpr (λ _ _=>rfl)] at a1;obtain ⟨c1,X⟩:=zk5 (zcp (by rw [D0,lx]) a1);refine ⟨l1,bs,rfl,SqL.of upd_same,c1,?_⟩;rw [X,j2h,show c.all (id ∘ λ _=>true)=true from List.all_eq_true.mpr λ _ _=>rfl];have J:=L.trans (Same.upd (o:=.lst bs) a8);generalize upd H1 l1 (.lst bs)=H2 at J⊢;refine ⟨_,rfl,iteN (by decide) ?_⟩;have a7:=J _ _ M;have a9:=oas_kv (K:=KX w.params) (z01 (λ _ _ z=>OaAt.same J z) al);refine t_nx ?_;refine ⟨_,rfl,o,xs,stK c,rfl,.inl a7,a9,λ C a4=>?_⟩;have keys:=stK_nd nd;have mk:mergeK [] (stK c)=stK c:=zci keys;have vm :∀{k v},(k,v)∈stK c->valV (stK c) k=some v:=λ h=>by have:=z19 (acc:=[]) keys h;rwa [mk] at this
  have I :∀{k v},valV (stK c) k=some v->(k,v)∈stK c:=λ {k v} h=>(z3i (acc:=[]) (by rw [mk];exact h)).resolve_right λ z=>by cases z
  rw [mk];have F:=J.trans (Same.upd (o:=.dK (stK c)) a4);have O:upd H2 C (.dK (stK c)) C=some (.dK (stK c)):=upd_same;generalize upd H2 C (.dK (stK c))=H3 at F O⊢;have b0:=F _ _ M;refine g_name (t_nx (sq_if ?_));refine ⟨_,rfl,C,_,rfl,O,_,rfl,.inl ⟨o,xs,rfl,.inl (SqL.of b0),_,_,rfl,rfl,_,rfl,?_⟩⟩;have lk:(stK c).length=xs.length:=by unfold stK;rw [D0,lx]
  refine iteN (λ z=>by have:=of_decide_eq_true z;omega) ?_;refine t_nx (sq_ret (e_cb1 ?_));have a6:=z01 (λ _ _ z=>RcAt.tups (.of F) z) ar;refine z93 (K:=KX w.params) (a:=l) (xs:=U) (H1:=H3) (λ _=>true) (λ i y _=>∀b,(S.mapIdx λ n r=>getA c n r)[i]? = some b->y=.bl b) (λ _ _ _ _ _ z=>z) (λ R h=>⟨_,rfl,h⟩) (SqL.of (F _ _ el)) (C0 (m:=100) (by omega) (by decide)) ?_ ?_
  ·intro i hi v Y Z hx KT KF d k2;obtain ⟨x,p0,t,rfl,e0⟩:=hx;obtain ⟨r,a2,p,rfl,sp⟩:=z09 a6 t;have V:=Z.seqT sp;refine ⟨p0,_,rfl,SqT.of e0,rfl,_,_,rfl,_,_,rfl,rfl,[some (.int (i:Nat)),some (.ref p)],rfl,rfl,iteT ?_⟩;have d:KT (.bl (getA c i r)) Y:=d rfl _ _ (Same.refl _) λ b u=>by rw [J4,a2] at u;cases u;rfl
   cases f:r.e with
   | none=>have d:KT (.bl (r.e.isNone || _)) Y:=d;rw [f] at d;exact ⟨_,rfl,.inr (.inl ⟨p,_,6,.non,rfl,rfl,V,by rw [f];exact z05 (j:=6) rfl,rfl,_,rfl,iteP rfl d⟩)⟩
   | some e=>
    have d:KT (.bl (r.e.isNone || _)) Y:=d;rw [f] at d;refine ⟨_,rfl,.inr (.inl ⟨p,_,6,.int e,rfl,rfl,V,by rw [f];exact z05 (j:=6) rfl,rfl,_,rfl,iteN (by simp) ?_⟩)⟩;refine ⟨_,rfl,C,rfl,.inl ⟨_,.inl (Z _ _ O)⟩,_,rfl,_,DGet.k (k:=.inl (i:Int)) (Z _ _ O),_,rfl,.inr (.inl ⟨p,_,4,r.a,rfl,rfl,V,z05 (j:=4) rfl,?_,d⟩)⟩;refine IsA.scal ?_ (.inl (ra r (G0 a2) (by rw [f];rfl)));cases t:valV (stK c) (.inl (i:Int)) with
    | none=>exact .inr rfl
    | some v=>obtain ⟨B,W,e'⟩:=List.mem_map.mp (I t);cases e';exact .inl (a3 B W).2
  intro l5 H5 cs s5 b1 a0;rw [List.filter_eq_self.mpr (λ _ _=>rfl)] at a0;obtain ⟨c1,X⟩:=zk5 (zcp (by rw [List.length_mapIdx,lz]) a0);refine ⟨l5,cs,rfl,SqL.of upd_same,c1,?_⟩;rw [X];refine q _ _ (F.trans (s5.trans (Same.upd b1))) ?_;rw [U5];constructor
  ·intro h n r G f;have this:(r.e.isNone || _)=true:=h (getA c n r) (G0 (i:=n) (by rw [J4,G];rfl));rw [Option.isNone_eq_false_iff.mpr f,F9] at this;have this:=of_decide_eq_true this;cases t:valV (stK c) (.inl (n:Int)) with
   | none=>rw [t] at this;rcases ra r (G0 G) f with ⟨i,ei⟩|⟨i,ei⟩<;>(rw [ei] at this;cases this)
   | some v=>
    rw [t] at this;have this:v=r.a:=this;obtain ⟨B,W,D⟩:=List.mem_map.mp (I t);injection D with D e2;have D:B.1=n:=by have:=Q3 D;omega
    rw [<-this,<-D,<-e2];exact W
  ·intro g b u;obtain ⟨n,G⟩:=List.mem_iff_getElem?.mp u;rw [J4] at G;obtain ⟨r,a5,rfl⟩:=Option.map_eq_some_iff.mp G;show (r.e.isNone || _)=true;cases f:r.e with
   | none=>rfl
   | some e=>rw [vm (List.mem_map.mpr ⟨(n,r.a),g n r a5 (by rw [f];rfl),rfl⟩)];exact decide_eq_true rfl
noncomputable def idK (ns:List Nat):List (Key×V):=ns.mapIdx λ (i n:Nat)=>(.inl (n:Int),.int (i:Int))
theorem zhk (ns:List Nat):(idK ns).map (·.1)=ns.map λ (n:Nat)=>(.inl (n:Int):Key):=by apply L4;intro i;unfold idK;rw [K0,J4,K0];cases ns[i]?<;>rfl
theorem zij {ns:List Nat} (h:ns.Nodup):((idK ns).map (·.1)).Nodup:=by rw [zhk];exact S4 _ (λ a b n e=>n (by have:=Q3 e;omega)) h
theorem zjv {ns:List Nat} (h:ns.Nodup) {i n:Nat} (e:ns[i]? = some n):valV (mergeK [] (idK ns)) (.inl (n:Int))=some (.int (i:Int)):=
 z19 (zij h) (G0 (i:=i) (by unfold idK;rw [J4,e];rfl))
theorem zlm {ns:List Nat} {n:Nat} (h:n∉ns):valV (mergeK [] (idK ns)) (.inl (n:Int))=none:=
 (z2z (λ z=>h (by rw [zhk] at z;obtain ⟨m,a,e⟩:=List.mem_map.mp z;have:=Q3 e;rw [show n=m by omega];exact a))).trans rfl
def keepP (ps:List (Nat×Nat)) (ns:List Nat):Prop:=∀p∈ps,∀i j:Nat,ns[i]? = some p.1->ns[j]? = some p.2->i < j
def z7s (K:b0):Sp:=λ vs H Q _=>∃(lp ln:Addr) (zs:List V) (ps:List (Nat×Nat)) (ns:List Nat),vs=[.ref lp,.ref ln]/\H lp=some (.lst zs)/\All2 (PairAt H) ps zs/\ps.length<=10000/\H ln=some (.lst (nsV ns))/\ns.Nodup/\ns.length<=100/\
 ∀b H',Same H H'->(b=true↔keepP ps ns)->Q (.bl b) H'
theorem zdo (T:TX (kx w) mg):Fo P w mg base CX0 1 241 y1f ["pairs","numbers"] (z7s (kx w)):=by
 refine (z6b w.params).ok sc_keeps_to (λ vs H Q E h=>?_) (λ b7 A b8 s H vs Q E hr h=>?_)
 ·obtain ⟨lp,ln,Y,M,c,rfl,_⟩:=h;rfl
 ·obtain ⟨lp,ln,Y,M,c,rfl,ep,ap,p4,en,nd,b6,q⟩:=h;refine ⟨_,(z02 (ps_set (i:=2) sc_keeps_to.nd rfl (T0 rfl) (z0g (z11 rfl) rfl (T.no (n_dict _)) U7 (z00 (pe_cg (xs:=["place","number"]) (g:=gTup (kx w) 2 (gCons (gName 0) (gCons (gName 1) gNil))) (fr:=[]) (z3r rfl (T.no (z12 _)) (z00 (pv 1) pa_nil)) (λ _ _ _ _ _=>(pg_tup rfl (z07 (pg_cn (N:=["place","number"]) 0) (z07 (pg_cn (N:=["place","number"]) 1) z0m)))) (λ _ _ _ _ _=>pf_nil) (λ _ _ _ _ _=>(pe_tup (z00 (pv 1) (z00 (pv 0) pa_nil))))) pa_nil)))
   (z02 (zcd (i:=3) sc_keeps_to.nd rfl (U0 rfl) (xs:=["pair"]) (g:=gName 0) (fr:=[(2,"stands")]) rfl (z16 (pv 0)) (by intro p d;obtain rfl:=List.mem_singleton.mp d;first|exact ⟨rfl,.inl rfl⟩|exact ⟨rfl,.inr rfl⟩) (zl5 (n:="stands") (by decide +kernel) (λ _=>by first|exact .inl rfl|exact .inr rfl)) (by intro p d;obtain rfl:=List.mem_singleton.mp d;exact ⟨by decide +kernel,by first|exact .inl rfl|exact .inr rfl⟩) (by decide +kernel) rfl (by decide +kernel) (λ _ _ _ _ _=>(pg_cn (N:=["pair","stands"]) 0)) (λ _ _ _ _ _=>(pf_one (PW.pt (pw_and (pt_cmp (pc_din (hu_of hr) (pe_ix (z5x (K:=KX w.params) rfl) (pv 0) pe_int (λ _ _=>rfl)) (pv 1)) (by with_unfolding_all rfl)) (z7u (pt_cmp (pc_din (hu_of hr) (pe_ix (z5x (K:=KX w.params) rfl) (pv 0) pe_int (λ _ _=>rfl)) (pv 1)) (by with_unfolding_all rfl))))))) (λ _ _ _ _ _=>(pv 0)))
   (z04 (ps_ret (z0c (z46 rfl) rfl (T.no (n_all _)) j36 (z00 (pe_cg (xs:=["ahead","behind"]) (g:=gTup (kx w) 2 (gCons (gName 0) (gCons (gName 1) gNil))) (fr:=[(2,"stands")]) (z16 (pv 3)) (λ _ _ _ _ _=>(pg_tup rfl (z07 (pg_cn (N:=["ahead","behind","stands"]) 0) (z07 (pg_cn (N:=["ahead","behind","stands"]) 1) z0m)))) (λ _ _ _ _ _=>pf_nil) (λ _ _ _ _ _=>(z0v op_lt (z2h (hu_of hr) (pv 2) (pv 0) (λ _ _=>rfl)) (z2h (hu_of hr) (pv 2) (pv 1) (λ _ _=>rfl)) (nomark _)))) pa_nil)))))),?_⟩
  have lz:Y.length=M.length:=z03 ap;have lv:(nsV c).length=c.length:=D0 ..;refine zcx ?_;refine z93 (K:=KX w.params) (a:=ln) (xs:=nsV c) (H1:=H) (λ _=>true) (λ i y H'=>∃n b,c[i]? = some n/\y=.ref b/\H' b=some (.tup [.int (n:Int),.int (i:Int)])) (λ _ _ _ _ s ⟨n,b,D,f,t⟩=>⟨n,b,D,f,s _ _ t⟩) (λ R h=>⟨_,rfl,h⟩) (SqL.of en) (C0 (m:=100) (by omega) (by decide)) ?_ ?_
  ·intro i L v H1 s1 hx KT KF U k2;obtain ⟨x,p0,W,rfl,e0⟩:=hx;obtain ⟨n,hn,rfl⟩:=Option.map_eq_some_iff.mp ((K0 ..).symm.trans W);refine ⟨p0,_,rfl,SqT.of e0,rfl,_,_,rfl,_,_,rfl,rfl,[some (.int (i:Nat)),some (.int (n:Int))],rfl,rfl,iteT ?_⟩;exact ⟨_,rfl,_,rfl,w_2,λ p1 b5=>U rfl _ _ (Same.upd b5) ⟨n,p1,hn,rfl,upd_same⟩⟩
  intro J H1 S s1 b3 a3;rw [List.filter_eq_self.mpr (λ _ _=>rfl),lv] at a3;have Z:=Same.upd (o:=.lst S) b3;have f:upd H1 J (.lst S) J=some (.lst S):=upd_same;have a5:All2 (λ (p:Key×V) y=>∃b,y=.ref b/\SqT (kx w) (upd H1 J (.lst S)) b [kV p.1,p.2]) (idK c) S:=by
   have ly:=z03 a3;rw [O1] at ly;refine z0w (by unfold idK;rw [List.length_mapIdx];exact ly) λ i p y d I=>?_;obtain ⟨j,r,n,b,D,f,t⟩:=z09 a3 I;have L:i < c.length:=by rw [<-ly];exact (List.getElem?_eq_some_iff.mp I).1
   rw [Z2 L] at r;cases r;unfold idK at d;rw [J4,D] at d;cases d;exact ⟨b,f,SqT.of (Z _ _ t)⟩
  generalize upd H1 J (.lst S)=H2 at Z f a5⊢;have Z:=s1.trans Z;refine ⟨J,S,idK c,rfl,.inl f,a5,λ C b1=>?_⟩;have s3:=Z.trans (Same.upd (o:=.dK (mergeK [] (idK c))) b1);have t:upd H2 C (.dK (mergeK [] (idK c))) C=some (.dK (mergeK [] (idK c))):=upd_same;generalize upd H2 C (.dK (mergeK [] (idK c)))=H3 at s3 t⊢;refine g_name ?_;have a6 :∀n:Nat,(valV (mergeK [] (idK c)) (.inl (n:Int))).isSome=decide (n∈c):=λ n=>by
   by_cases z:n∈c
   ·obtain ⟨i,L⟩:=List.mem_iff_getElem?.mp z;rw [zjv nd L,decide_eq_true z];rfl
   ·rw [zlm z,decide_eq_false z];rfl
  refine z0s ?_;refine z2v (K:=KX w.params) (a:=lp) (xs:=Y) (H1:=H3) (λ i=>(M[i]?.map λ p=>decide (p.1∈c) && decide (p.2∈c)).getD false) (λ i y _=>Y[i]? = some y) (λ _ _ _ _ _ z=>z) (λ R h=>⟨_,rfl,h⟩) (SqL.of (s3 _ _ ep)) (C0 (m:=10000) (by omega) (by decide)) ?_ ?_
  ·intro i L v H4 s4 W KT KF U k2;obtain ⟨p,d,b,rfl,eb⟩:=z09 ap W;have b0:=(s3.trans s4) _ _ eb;refine ⟨[some (.ref b)],rfl,rfl,?_⟩;rw [d] at U k2;have a0 :∀{n:Nat},DGet H4 C (.int (n:Int)) (valV (mergeK [] (idK c)) (.inl (n:Int))):=λ {n}=>DGet.k (k:=.inl (n:Int)) (s4 _ _ t);refine ⟨_,rfl,.inr (.inl ⟨b,_,0,.int (p.1:Int),rfl,rfl,SqT.of b0,z05 (j:=0) rfl,_,rfl,C,_,rfl,a0,_,rfl,?_⟩)⟩;rw [a6];by_cases F:p.1∈c;rotate_left
   ·exact iteN (by rw [decide_eq_false F];decide) (iteF (k2 (by show (decide _ && _)=false;rw [decide_eq_false F];rfl) _ (Same.refl _)))
   refine iteP (decide_eq_true F) ?_;refine ⟨_,rfl,.inr (.inl ⟨b,_,1,.int (p.2:Int),rfl,rfl,SqT.of b0,z05 (j:=1) rfl,_,rfl,C,_,rfl,a0,_,rfl,?_⟩)⟩;rw [a6];by_cases G:p.2∈c;rotate_left
   ·exact iteN (by rw [decide_eq_false G];decide) (k2 (by show (decide _ && decide _)=false;rw [decide_eq_false G,C6]) _ (Same.refl _))
   refine iteP (decide_eq_true G) ?_;exact ⟨_,rfl,U (by show (decide _ && decide _)=true;rw [decide_eq_true F,decide_eq_true G];rfl) _ _ (Same.refl _) W⟩
  intro l4 H4 bs s4 a4 a2;generalize hjs:(G1 Y.length).filter (λ i=>(M[i]?.map λ p=>decide (p.1∈c) && decide (p.2∈c)).getD false)=js at a2;have s5:=s3.trans (s4.trans (Same.upd (o:=.lst bs) a4));have X:=(s4.trans (Same.upd (o:=.lst bs) a4)) _ _ t;have a9:upd H4 l4 (.lst bs) l4=some (.lst bs):=upd_same;generalize upd H4 l4 (.lst bs)=H5 at s5 X a9⊢;have lb:bs.length=js.length:=z03 a2;have lj:js.length<=Y.length:=by rw [<-hjs];exact C0 (D2 _ _) (by rw [O1];exact A0 _)
  have jp :∀j∈js,∃p,M[j]? = some p/\p.1∈c/\p.2∈c:=λ j r=>by
   rw [<-hjs] at r;have:=(List.mem_filter.mp r).2;cases d:M[j]? with
   | none=>rw [d] at this;cases this
   | some p=>rw [d] at this;have this:=Bool.and_eq_true_iff.mp this;exact ⟨p,rfl,of_decide_eq_true this.1,of_decide_eq_true this.2⟩
  refine g_name ?_;refine sq_ret (e_cb1 ?_);refine z2v (K:=KX w.params) (a:=l4) (xs:=bs) (H1:=H5) (λ _=>true) (λ k y _=>∃(j:Nat) (p:Nat×Nat) (B u:Nat),js[k]? = some j/\M[j]? = some p/\c[B]? = some p.1/\c[u]? = some p.2/\y=.bl (decide (B < u))) (λ _ _ _ _ _ z=>z) (λ R h=>⟨_,rfl,h⟩) (SqL.of a9) (C0 (m:=10000) (by omega) (by decide)) ?_ ?_
  ·intro k O v H6 s6 W KT KF U k2;obtain ⟨j,r,hz⟩:=z09 a2 W;obtain ⟨p,d,m1,m2⟩:=jp j (G0 r);obtain ⟨p',a7,b,rfl,eb⟩:=z09 ap hz;rw [d] at a7;cases a7;have b2:=(s5.trans s6) _ _ eb;obtain ⟨B,F⟩:=List.mem_iff_getElem?.mp m1;obtain ⟨u,G⟩:=List.mem_iff_getElem?.mp m2;refine ⟨b,_,rfl,SqT.of b2,rfl,_,_,rfl,_,_,rfl,rfl,[some (.int (p.1:Int)),some (.int (p.2:Int))],rfl,rfl,iteT ?_⟩;have a0 :∀{n i:Nat},c[i]? = some n->DGet H6 C (.int (n:Int)) (some (.int (i:Int))):=λ {n i} h=>by have:=DGet.k (k:=.inl (n:Int)) (s6 _ _ X);rw [zjv nd h] at this;exact this
   refine ⟨_,rfl,_,rfl,C,_,rfl,a0 F,_,rfl,_,rfl,C,_,rfl,a0 G,_,_,rfl,rfl,?_⟩;refine U rfl _ _ (Same.refl _) ⟨j,p,B,u,r,d,F,G,?_⟩;show V.bl (decide ((B:Int) < (u:Int)))=_;rw [dec_lt]
  intro l6 H6 cs s6 b4 a1;rw [List.filter_eq_self.mpr (λ _ _=>rfl)] at a1;have lc:=z03 a1;rw [O1] at lc;have c1 :∀y∈cs,∃b,y=V.bl b:=λ y I=>by obtain ⟨k,O⟩:=List.mem_iff_getElem?.mp I;obtain ⟨_,_,j,p,B,u,_,_,_,_,e⟩:=z09 a1 O;exact ⟨_,e⟩
  refine ⟨l6,cs,rfl,SqL.of upd_same,c1,?_⟩;refine q _ _ (s5.trans (s6.trans (Same.upd b4))) ?_;rw [U5];have a8 :∀{i j n:Nat},c[i]? = some n->c[j]? = some n->i=j:=λ {i j n} F G=>by
   obtain ⟨J,D⟩:=List.getElem?_eq_some_iff.mp F;obtain ⟨l2,f⟩:=List.getElem?_eq_some_iff.mp G;rcases V7 i j with l|l|l
   ·exact absurd (D.trans f.symm) (List.pairwise_iff_getElem.mp nd i j J l2 l)
   ·exact l
   ·exact absurd (f.trans D.symm) (List.pairwise_iff_getElem.mp nd j i l2 J l)
  constructor
  ·intro h p d i j L r;obtain ⟨m,hm⟩:=List.mem_iff_getElem?.mp d;have mj:m∈js:=by rw [<-hjs];refine List.mem_filter.mpr ⟨List.mem_range.mpr (by rw [lz];exact (List.getElem?_eq_some_iff.mp hm).1),?_⟩;rw [hm];show (decide _ && decide _)=true;rw [decide_eq_true (G0 L),decide_eq_true (G0 r)];rfl
   obtain ⟨k,O⟩:=List.mem_iff_getElem?.mp mj;have kl:k < bs.length:=by rw [lb];exact (List.getElem?_eq_some_iff.mp O).1
   obtain ⟨y,I,j',p',B,u,D,f,t,e4,X⟩:=z0q a1 (Z2 kl);rw [O] at D;cases D;rw [hm] at f;cases f;have:=of_decide_eq_true (h y (G0 I));rw [X] at this;have this:decide (B < u)=true:=by injection this
   rw [a8 L t,a8 r e4];exact of_decide_eq_true this
  ·intro h y I;obtain ⟨k,O⟩:=List.mem_iff_getElem?.mp I;obtain ⟨_,_,j,p,B,u,_,f,t,e4,X⟩:=z09 a1 O;rw [X,decide_eq_true (h p (G0 f) B u t e4)];exact decide_eq_true rfl
noncomputable def z0 (ts:List (Str×Str)) (n:Str):Sv:=match ts.lookup n with|some k=>zeroK k|none=>.num 0
noncomputable def setZ (z:Str->Sv) (n:Str) (s:Sv):Str->Sv:=λ m=>if m=n then s else z m
theorem setZ_same {z:Str->Sv} {n:Str} {s:Sv}:setZ z n s n=s:=if_pos rfl
theorem zjs {z:Str->Sv} {n m:Str} {s:Sv} (h:m≠n):setZ z n s m=z m:=if_neg h
noncomputable def DoneS (ps:List DD):(Str->Sv)->List (Nat×V)->Prop
 | _,[]=>True
 | z,s :: st=>∃p,ps[s.1]? = some p/\(dz p.k p.vb p.dt (z p.nm)).2=s.2/\DoneS ps (setZ z p.nm (dz p.k p.vb p.dt (z p.nm)).1) st
noncomputable def runS (ps:List DD) (z:Str->Sv) (st:List (Nat×V)):Str->Sv:=st.foldl (λ z s=>match ps[s.1]? with|some p=>setZ z p.nm (dz p.k p.vb p.dt (z p.nm)).1|none=>z) z
def StD (K:b0) (H:Hp) (d:Addr) (n:Nat) (ts:List (Str×Str)) (z:Str->Sv):Prop:=∃kvs:List (Key×V),H d=some (.dK kvs)/\kvs.length<=6 + n/\∀t∈ts,SvOk n t.2 (z t.1)/\∃v,valV kvs (.inr t.1)=some v/\StZ K H (z t.1) v
theorem zgz :∀{ts:List (Str×Str)},(ts.map (·.1)).Nodup->∀{n k k':Str},(n,k)∈ts->(n,k')∈ts->k=k'
 | [],_,_,_,_,h,_=>by cases h
 | t :: ts,nd,n,k,k',h1,h2=>by
  rw [R0,i6] at nd;rcases List.mem_cons.mp h1 with z1|z1
  ·rcases List.mem_cons.mp h2 with z2|z2
   ·rw [<-z1] at z2;cases z2;rfl
   ·exact absurd (List.mem_map.mpr ⟨_,z2,rfl⟩) (by rw [<-z1] at nd;exact nd.1)
  ·rcases List.mem_cons.mp h2 with z2|z2
   ·exact absurd (List.mem_map.mpr ⟨_,z1,rfl⟩) (by rw [<-z2] at nd;exact nd.1)
   ·exact zgz nd.2 z1 z2
theorem zdc :∀{ts:List (Str×Str)},(ts.map (·.1)).Nodup->∀{n k:Str},(n,k)∈ts->ts.lookup n=some k
 | [],_,_,_,h=>by cases h
 | (a,b) :: ts,nd,n,k,h=>by
  rw [R0,i6] at nd;rw [d4];rcases List.mem_cons.mp h with z|z
  ·cases z;rw [beq_self_eq_true]
  ·by_cases e:n=a
   ·subst e;exact absurd (List.mem_map.mpr ⟨_,z,rfl⟩) nd.1
   ·rw [beq_eq_false_iff_ne.mpr e];exact zdc nd.2 z
theorem z0_of {ts:List (Str×Str)} (h:ThW ts) {t:Str×Str} (ht:t∈ts):z0 ts t.1=zeroK t.2:=by unfold z0;rw [zdc h.nd (k:=t.2) ht]
theorem StD.tt {K:b0} {H H':Hp} {d:Addr} {n:Nat} {ts:List (Str×Str)} {z:Str->Sv} (t:Tups K H H') (e :∀o,H d=some o->H' d=some o) (h:StD K H d n ts z):StD K H' d n ts z:=by obtain ⟨b,c,l,f⟩:=h;exact ⟨b,e _ c,l,λ u a=>⟨(f u a).1,(f u a).2.elim λ v z=>⟨v,z.1,z.2.tups t⟩⟩⟩
theorem StD.put {K:b0} {H H2:Hp} {d:Addr} {n:Nat} {ts:List (Str×Str)} {z:Str->Sv} {nm k:Str} {v:V} {sv:Sv} {kvs:List (Key×V)} (ok:ThW ts) (s:Same H H2) (ed:H d=some (.dK kvs)) (l:kvs.length<=6 + n) (f :∀t∈ts,SvOk n t.2 (z t.1)/\∃v,valV kvs (.inr t.1)=some v/\StZ K H (z t.1) v) (hm:(nm,k)∈ts) (so:SvOk (n + 1) k sv) (sa:StZ K H2 sv v) :
  StD K (upd H2 d (.dK (putK kvs (.inr nm) v))) d (n + 1) ts (setZ z nm sv):=by
 have b:Tups K H2 (upd H2 d (.dK (putK kvs (.inr nm) v))):=Tups.dict (s _ _ ed);refine ⟨_,upd_same,C0 (z5j _ _ _) (by omega),λ t a=>?_⟩;by_cases e:t.1=nm
 ·have:t.2=k:=zgz ok.nd (n:=nm) (by rw [<-e];exact a) hm;rw [e,setZ_same,this];exact ⟨so,v,by rw [z1d,if_pos rfl],sa.tups b⟩
 ·obtain ⟨c,u,g,h⟩:=f t a;rw [zjs e];exact ⟨c.le (B2 _),u,by rw [z1d,if_neg (λ y=>e (d6 y))];exact g,h.tups ((Tups.of s).trans b)⟩
theorem DoneS.app {ps:List DD} :∀{st st':List (Nat×V)} {z:Str->Sv},DoneS ps z (st++st')↔DoneS ps z st/\DoneS ps (runS ps z st) st'
 | [],st',z=>by show DoneS ps z st'↔True/\_;rw [true_and];rfl
 | s :: st,st',z=>by
  show (∃p,_)↔(∃p,_)/\_;constructor
  ·rintro ⟨p,h1,h2,h3⟩;obtain ⟨a,b⟩:=DoneS.app.mp h3;refine ⟨⟨p,h1,h2,a⟩,?_⟩;unfold runS;rw [X3,h1];exact b
  ·rintro ⟨⟨p,h1,h2,h3⟩,g⟩;unfold runS at g;rw [X3,h1] at g;exact ⟨p,h1,h2,DoneS.app.mpr ⟨h3,g⟩⟩
theorem firsts {K:b0} {H H':Hp} (s:Same H H') {ts:List (Str×Str)} {ys:List V} (al:All2 (λ (i:Nat) y=>∃t b v,ts[i]? = some t/\y=.ref b/\H b=some (.tup [.str t.1,v])/\StZ K H (zeroK t.2) v) (G1 ts.length) ys) :
  ∃kvs:List (Key×V),kvs.map (·.1)=ts.map (λ t=>(.inr t.1:Key))/\All2 (λ (p:Key×V) y=>∃b,y=.ref b/\SqT K H' b [kV p.1,p.2]) kvs ys/\∀t∈ts,∃v,((.inr t.1:Key),v)∈kvs/\StZ K H' (zeroK t.2) v:=by
 have d:=z03 al;rw [O1] at d;have n:All2 (λ (t:Str×Str) y=>∃b v,y=.ref b/\H b=some (.tup [.str t.1,v])/\StZ K H (zeroK t.2) v) ts ys:=z0w d λ i t y l o=>by obtain ⟨j,k,B,b,v,c,g,f,A⟩:=z09 al o;rw [Z2 (List.getElem?_eq_some_iff.mp l).1] at k;cases k;rw [l] at c;cases c;exact ⟨b,v,g,f,A⟩
 clear d al;induction n with
 | nil=>exact ⟨[],rfl,.nil,λ _ h=>absurd h o0⟩
 | @cons t y ts ys a r ih=>
  obtain ⟨kvs,c,g,f⟩:=ih;obtain ⟨b,v,rfl,e,z⟩:=a;refine ⟨(.inr t.1,v) :: kvs,by rw [R0,R0,c],.cons ⟨b,rfl,SqT.of (s _ _ e)⟩ g,λ u w=>?_⟩;rcases List.mem_cons.mp w with e|e
  ·rw [e];exact ⟨v,Q0,z.tups (.of s)⟩
  ·obtain ⟨q,m,x⟩:=f u e;exact ⟨q,Y0 _ m,x⟩
theorem zjk {K:b0} {H H3:Hp} {ts:List (Str×Str)} {ys:List V} (ok:ThW ts) (s3:Same H H3) (al2:All2 (λ (i:Nat) y=>∃t b v,ts[i]? = some t/\y=.ref b/\H b=some (.tup [.str t.1,v])/\StZ K H (zeroK t.2) v) (G1 ts.length) ys) :∃kvs:List (Key×V),All2 (λ (p:Key×V) y=>∃b,y=.ref b/\SqT K H3 b [kV p.1,p.2]) kvs ys/\∀d,H3 d=none->StD K (upd H3 d (.dK (mergeK [] kvs))) d 0 ts (z0 ts):=by
 obtain ⟨kvs,f,n,o⟩:=firsts s3 al2;refine ⟨kvs,n,λ d k=>⟨_,upd_same,?_,λ t c=>?_⟩⟩
 ·have g:=z20 (more:=kvs) (acc:=[]);have j:=congrArg u6 f;rw [D0,D0] at j;have:=ok.n6;rw [F4,X5] at g;omega
 ·obtain ⟨v,l,m⟩:=o t c;rw [z0_of ok c];refine ⟨zbi _,v,z19 ?_ l,m.tups (.of (Same.upd k))⟩;rw [f,show (ts.map λ t=>(Sum.inr t.1:Key))=(ts.map (·.1)).map Sum.inr by rw [X2];rfl];exact S4 _ (λ a b h e=>h (d6 e)) ok.nd
def z58 (K:b0):Sp:=λ vs H Q _=>∃(pt l o:Addr) (zs xs:List V) (ts:List (Str×Str)) (rs:List Rc) (ps:List DD) (st:List (Nat×V)),vs=[.ref pt,.ref l,.ref o]/\ThAt H pt ts/\ThW ts/\H l=some (.lst zs)/\All2 (RcAt K H) rs zs/\All2 (RcGd K H ts) rs ps/\H o=some (.lst xs)/\All2 (OaAt H) st xs/\(∀s∈st,s.1 < rs.length/\IsA s.2)/\st.length<=63/\
 ∀b H',Same H H'->(b=true↔DoneS ps (z0 ts) st)->Q (.bl b) H'
theorem zaj (T:TX (kx w) mg) (c0:Ca P w mg base "first_state" ["kind"] 2 z2e) (c1:Ca P w mg base "do" ["kind","state","verb","worth"] 5 (sp_do (kx w))):Fo P w mg base CX0 6 246 y0p ["things","told","order"] (z58 (kx w)):=by
 refine (z3p w.params).ok sc_is_done_so (λ vs H Q E h=>?_) (λ c6 A c7 s H vs Q E L h=>?_)
 ·obtain ⟨pt,l,o,zs,xs,e,rs,n,f,rfl,_⟩:=h;rfl
 ·obtain ⟨pt,l,o,zs,xs,e,rs,n,f,rfl,th,ok,el,ar,gd,eo,al,gs,c4,q⟩:=h;refine ⟨_,(z02 (ps_set (i:=3) sc_is_done_so.nd rfl (U0 rfl) (z0g (z11 rfl) rfl (T.no (n_dict _)) U7 (z00 (pv 0) pa_nil)))
   (z02 (ps_set (i:=4) sc_is_done_so.nd rfl (U0 rfl) (z0g (z11 rfl) rfl (T.no (n_dict _)) U7 (z00 (pe_cg (xs:=["name","kind"]) (g:=gTup (kx w) 2 (gCons (gName 0) (gCons (gName 1) gNil))) (fr:=[]) (pi_tup (pv 0)) (λ _ _ _ _ _=>(pg_tup rfl (z07 (pg_cn (N:=["name","kind"]) 0) (z07 (pg_cn (N:=["name","kind"]) 1) z0m)))) (λ _ _ _ _ _=>pf_nil) (λ _ _ _ _ _=>(pe_tup (z00 (pv 0) (z00 (pe_cal c0 (L.mono (by decide)) rfl (z00 (pv 1) pa_nil)) pa_nil))))) pa_nil)))
   (z02 (ps_for K1 rfl (z16 (pv 2)) (pg_tup rfl (z07 (z0f (i:=5) sc_is_done_so.nd rfl (U0 rfl)) (z07 (z0f (i:=6) sc_is_done_so.nd rfl (U0 rfl)) z0m)))
   (z02 (ps_set (i:=7) sc_is_done_so.nd rfl (U0 rfl) (pe_ix ix_seq (pv 1) (pv 5) (λ _ _=>rfl)))
   (z02 (ps_set (i:=8) sc_is_done_so.nd rfl (U0 rfl) (pe_cal c1 (L.mono (by decide)) rfl (z00 (z2h (hu_of L) (pv 3) (pe_ix ix_seq (pv 7) pe_int (λ _ _=>rfl)) (λ _ _=>rfl)) (z00 (z2h (hu_of L) (pv 4) (pe_ix ix_seq (pv 7) pe_int (λ _ _=>rfl)) (λ _ _=>rfl)) (z00 (pe_ix ix_seq (pv 7) pe_int (λ _ _=>rfl)) (z00 (pe_ix ix_seq (pv 7) pe_int (λ _ _=>rfl)) pa_nil))))))
   (z02 (ps_if (z08 opNe (pe_ix ix_seq (pv 8) pe_int (λ _ _=>rfl)) (pv 6) (nomark _))
   (z04 (ps_ret pe_bl))
   z0e)
   (z04 (z9z (hu_of L) (pv 4) (pe_ix ix_seq (pv 7) pe_int (λ _ _=>rfl)) (pe_ix ix_seq (pv 8) pe_int (λ _ _=>rfl)) rfl))))))
   (z04 (ps_ret pe_bl))))),?_⟩
  obtain ⟨yt,a3,O⟩:=th;refine ⟨_,rfl,pt,yt,thK e,rfl,.inr a3,zg6 O,λ F b7=>?_⟩;obtain ⟨H1,V,W,Z⟩:=newA (.dK (mergeK [] (thK e))) b7;rw [<-V];refine g_name (t_nx ?_);refine zcx ?_;refine z1u (K:=KX w.params) (a:=pt) (xs:=yt) (H1:=H1) (λ _=>true) (λ i y u=>∃t b v,e[i]? = some t/\y=.ref b/\u b=some (.tup [.str t.1,v])/\StZ (kx w) u (zeroK t.2) v) (λ _ _ _ _ s ⟨t,b,v,h1,h2,h3,h4⟩=>⟨t,b,v,h1,h2,s _ _ h3,h4.tups (.of s)⟩) (λ R h=>⟨_,rfl,h⟩) (W.seqT (SqT.of a3)) (C0 (m:=6) (by rw [z03 O];exact ok.n6) (by decide)) ?_ ?_
  ·intro i hi v H2 G X KT KF k1 k2;obtain ⟨t,ht,b,rfl,eb⟩:=z09 O X;have c2:=(W.trans G) _ _ eb;obtain ⟨v,X,Y⟩:=zgs (w:=w) (H:=H2) (ok.ks t (G0 ht));refine ⟨b,_,rfl,SqT.of c2,rfl,_,_,rfl,_,_,rfl,rfl,[some (.str t.1),some (.str t.2)],rfl,rfl,iteT ?_⟩;exact ⟨_,rfl,_,rfl,t.2,v,rfl,X,w_2,λ p hp=>k1 rfl _ _ (Same.upd hp) ⟨t,p,v,ht,rfl,upd_same,Y.tups (.of (Same.upd hp))⟩⟩
  intro l2 H2 ys G b3 a4;rw [List.filter_eq_self.mpr (λ _ _=>rfl),z03 O] at a4;obtain ⟨H3,V,S,e3⟩:=newA (.lst ys) b3;rw [<-V];obtain ⟨M,b4,sd⟩:=zjk ok S a4;refine ⟨l2,ys,M,rfl,.inl e3,b4,λ d J=>?_⟩;have I:=Same.upd (o:=.dK (mergeK [] M)) J;have b0:=sd d J;have a7:Same H H3:=(W.trans G).trans S;have fd:H d=none:=a7.free J;have b1:H1 d=none:=(G.trans S).free J;have I:=a7.trans I;have k4:upd H3 d (.dK (mergeK [] M)) F=some (.dK (mergeK [] (thK e))):=((G.trans S).trans (Same.upd J)) _ _ Z;have b5:F≠d:=λ z=>by rw [z,b1] at Z;cases Z
  generalize upd H3 d (.dK (mergeK [] M))=H4 at I b0 k4⊢;refine g_name ?_;refine ⟨_,rfl,o,rfl,⟨xs,SqL.of (I _ _ eo)⟩,?_⟩;refine z3y (K:=KX w.params) (a:=o) (xs:=xs) (λ i σ u=>Same H u/\u F=some (.dK (mergeK [] (thK e)))/\StD (kx w) u d i e (runS n (z0 e) (f.take i))/\DoneS n (z0 e) (f.take i)/\∃x5 x6 x7 x8,σ=[some (.ref pt),some (.ref l),some (.ref o),some (.ref F),some (.ref d),x5,x6,x7,x8])
   ⟨I,k4,by rw [o4];exact b0,by rw [o4];trivial,_,_,_,_,rfl⟩ (λ i σ u _ h=>SqL.of (h.1 _ _ eo)) ?_ ?_
  ·rintro i x σ U hx ⟨s5,k5,st5,dn,x5,x6,x7,x8,rfl⟩;obtain ⟨D,a2,b,rfl,eb⟩:=z09 al hx;obtain ⟨hn,ha⟩:=gs D (G0 a2);have hi:i < f.length:=(List.getElem?_eq_some_iff.mp a2).1;obtain ⟨y,hy,p,rfl,sq⟩:=z0q ar (B0 hn);obtain ⟨c,a1,g1,g2,hm,dk,ix,wi,_⟩:=z0q gd (B0 hn);generalize rs[D.1]=r at sq g1 g2 ix wi;have C:=s5.seqT sq;rw [g1,g2] at C;refine ⟨b,_,rfl,SqT.of (s5 _ _ eb),rfl,_,_,rfl,_,_,rfl,rfl,?_⟩;refine ⟨_,rfl,_,rfl,.inl ⟨l,zs,D.1,.ref p,rfl,rfl,SqL.of (s5 _ _ el),z05 hy,?_⟩⟩;have b8:DGet U F (.str c.nm) (some (.str c.k)):=by have:=DGet.k (k:=.inr c.nm) k5;rw [z19 (zbh ok.nd) (List.mem_map.mpr ⟨(c.nm,c.k),hm,rfl⟩)] at this;exact this
   obtain ⟨c5,a0,c3,f5⟩:=st5;obtain ⟨so,v5,b2,sz⟩:=f5 _ hm;have b6:DGet U d (.str c.nm) (some v5):=by have:=DGet.k (k:=.inr c.nm) a0;rw [b2] at this;exact this
   have a8:i < 63:=by omega
   have T5:Tt (kx w) H U:=.of s5;refine ⟨_,rfl,_,rfl,.inr (.inl ⟨p,_,1,.str c.nm,rfl,rfl,C,z05 (j:=1) rfl,F,.str c.k,rfl,b8,?_⟩)⟩;refine ⟨_,rfl,_,rfl,.inr (.inl ⟨p,_,1,.str c.nm,rfl,rfl,C,z05 (j:=1) rfl,d,v5,rfl,b6,?_⟩)⟩;refine ⟨_,rfl,.inr (.inl ⟨p,_,2,.str c.vb,rfl,rfl,C,z05 (j:=2) rfl,?_⟩)⟩;refine ⟨_,rfl,.inr (.inl ⟨p,_,3,r.x,rfl,rfl,C,z05 (j:=3) rfl,?_⟩)⟩;refine do_can (w:=w) (E:=E0) so sz a8 dk (IsDt.mono' T5.t _ _ ix) (wi.tt T5) λ p6 v6 H6 B e6 b9=>?_;have a9:=dz_ok dk so a8;have tk:f.take (i + 1)=f.take i++[D]:=by rw [List.take_succ,a2];rfl
   have rn:runS n (z0 e) (f.take (i + 1))=setZ (runS n (z0 e) (f.take i)) c.nm (dz c.k c.vb c.dt (runS n (z0 e) (f.take i) c.nm)).1:=by rw [tk];unfold runS;rw [K4,X3,List.foldl_nil,a1]
   generalize Y:runS n (z0 e) (f.take i)=z at *;have a5:DoneS n (z0 e) (f.take (i + 1))↔(dz c.k c.vb c.dt (z c.nm)).2=D.2:=by
    rw [tk,DoneS.app,Y];constructor
    ·rintro ⟨_,p',h1,h2,_⟩;rw [a1] at h1;cases h1;exact h2
    ·exact λ h=>⟨dn,c,a1,h,trivial⟩
   refine g_name (t_nx (sq_if ?_));refine ⟨_,rfl,.inr (.inl ⟨p6,_,1,_,rfl,rfl,SqT.of e6,z05 (j:=1) rfl,_,rfl,IsA.scal (.inl a9.2.isA) (.inl ha),_,rfl,?_⟩)⟩;by_cases ea:(dz c.k c.vb c.dt (z c.nm)).2=D.2;rotate_left
   ·refine iteP (by rw [decide_eq_false ea];rfl) (q _ _ (s5.trans B) ⟨λ z=>(by cases z),λ a6=>?_⟩);rw [<-j3b (i + 1) f] at a6;exact absurd (a5.mp (DoneS.app.mp a6).1) ea
   refine iteN (by rw [decide_eq_true ea];decide) ?_;refine t_nx ?_;refine ⟨_,rfl,.inr (.inl ⟨p6,_,0,v6,rfl,rfl,SqT.of e6,z05 (j:=0) rfl,_,rfl,_,rfl,.inr (.inl ⟨p,_,1,.str c.nm,rfl,rfl,B.seqT C,z05 (j:=1) rfl,d,_,rfl,DPut.k (k:=.inr c.nm) (B _ _ a0) (B1 (m:=100) (by omega) (by decide)),?_⟩)⟩)⟩;refine ⟨Same.keep (s5.trans B) fd,by rw [upd_ne b5];exact B _ _ k5,?_,a5.mpr ea,_,_,_,_,rfl⟩;rw [rn];exact StD.put ok B a0 c3 f5 hm a9.1 b9
  ·rintro σ U ⟨s5,k5,st5,dn,x5,x6,x7,x8,rfl⟩;rw [z03 al,Q5] at dn;exact q _ _ s5 ⟨λ _=>dn,λ _=>rfl⟩
theorem e_andV {t u:TE} {σ:L2.St} {H:Hp} {Q:VK} (h:t σ H λ x H1=>∃c,x=.bl c/\if c=true then u σ H1 Q else Q (.bl false) H1):tAndV t u σ H Q:=h
theorem zme {sp:Sp} {E:XK} {t1 t2:TE} {σ:L2.St} {H:Hp} {Q:VK} (h:t1 σ H λ x H1=>t2 σ H1 λ y H2=>sp [x,y] H2 Q E):tCall sp [] E (tCons t1 (tCons t2 tNil)) σ H Q:=h
def ExpP (m:Nat) (ts:List (Str×Str)) (rs:List Rc) (ps:List DD) (st:List Oa):Prop:=AllIn rs st/\keepP (z1o m rs rs.length) (st.map (·.1))/\DoneS ps (z0 ts) st
def z7w (K:b0):Sp:=λ vs H Q _=>∃(t o:Addr) (xs:List V) (ts:List (Str×Str)) (es:List Ev) (ps:List DD) (st:List Oa) (m:Nat),vs=[.ref t,.str (z0x m),.ref o]/\TaleAt K H t ts es/\ThW ts/\es.length<=63/\EWf [] es/\All2 (RcGd K H ts) (dAll 0 [] es) ps/\H o=some (.lst xs)/\All2 (OaAt H) st xs/\(st.map (·.1)).Nodup/\(∀s∈st,s.1 < (dAll 0 [] es).length/\IsA s.2)/\
 ∀b H',Same H H'->(b=true↔ExpP m ts (dAll 0 [] es) ps st)->Q (.bl b) H'
theorem zdn (T:TX (kx w) mg) (c0:Ca P w mg base "has_to" ["tale","strictness"] 2 (z8p (kx w))) (c1:Ca P w mg base "deeds" ["tale"] 1 (z8j (kx w))) (c2:Ca P w mg base "is_order" ["told","order"] 3 (z7t (kx w))) (c3:Ca P w mg base "keeps_to" ["pairs","numbers"] 1 (z7s (kx w))) (c4:Ca P w mg base "is_done_so" ["things","told","order"] 6 (z58 (kx w))):Fo P w mg base CX0 7 224 y1d ["tale","strictness","order"] (z7w (kx w)):=by
 refine (z64 w.params).ok sc_explains (λ vs H Q E h=>?_) (λ b3 A b4 s H vs Q E f h=>?_)
 ·obtain ⟨t,o,xs,F,u,B,c,m,rfl,_⟩:=h;rfl
 ·obtain ⟨t,o,xs,F,u,B,c,m,rfl,⟨pt,te,ys,Z,th,a6,al⟩,ok,b5,wf,gd,V,C,X,O,q⟩:=h;refine ⟨_,(z02 (ps_set (i:=3) sc_explains.nd rfl (U0 rfl) (pe_cal c0 (f.mono (by decide)) rfl (z00 (pv 0) (z00 (pv 1) pa_nil))))
   (z02 (ps_set (i:=4) sc_explains.nd rfl (U0 rfl) (pe_cal c1 (f.mono (by decide)) rfl (z00 (pv 0) pa_nil)))
   (z02 (ps_if (pt_not (pt_val (pe_cal c2 (f.mono (by decide)) rfl (z00 (pv 4) (z00 (pv 2) pa_nil))) (λ _=>rfl)))
   (z04 (ps_ret pe_bl))
   z0e)
   (z04 (ps_ret (pe_and (pe_cal c3 (f.mono (by decide)) rfl (z00 (pv 3) (z00 (pe_cg (xs:=["step"]) (g:=gName 0) (fr:=[]) (z16 (pv 2)) (λ _ _ _ _ _=>(pg_cn (N:=["step"]) 0)) (λ _ _ _ _ _=>pf_nil) (λ _ _ _ _ _=>(pe_ix (z5x (K:=KX w.params) rfl) (pv 0) pe_int (λ _ _=>rfl)))) pa_nil))) (pe_one (pe_cal c4 (f.mono (by decide)) rfl (z00 (pe_ix ix_seq (pv 0) pe_int (λ _ _=>rfl)) (z00 (pv 4) (z00 (pv 2) pa_nil))))))))))),?_⟩
  obtain ⟨dw,os,I⟩:=DInv.all DInv.nil wf;refine ⟨_,rfl,_,rfl,t,te,.ref pt,ys,u,m,rfl,SqT.of Z,SqT.of a6,al,by omega,dw,λ l zs H1 D hl el ap=>?_⟩;refine ⟨_,rfl,t,te,.ref pt,ys,u,rfl,D.seqT (SqT.of Z),D.seqT (SqT.of a6),z01 (λ _ _ z=>EvAt.tups (.of D) z) al,by omega,dw,λ l2 a0 H2 s2 b2 a2 S=>?_⟩;have U:=D.trans s2;have rl:(dAll 0 [] u).length<=63:=by have:=z80 (i:=0) (rs:=[]) u;simp only [F4,X5] at this;omega
  generalize dAll 0 [] u=rs at *;have lz:a0.length=rs.length:=z03 S;have ra :∀r∈rs,r.e.isSome=true->IsA r.a:=λ r f he=>by
   obtain ⟨n,hn⟩:=List.mem_iff_getElem?.mp f;obtain ⟨p,_,_,_,_,_,_,_,g⟩:=z0q gd hn;rcases g with ⟨g,_⟩|⟨_,g⟩
   ·rw [g] at he;cases he
   ·exact g.isA
  have a7:c.length<=63:=by
   have:=z3b rs.length (c.map (·.1)) X λ x hx=>by obtain ⟨k,M,rfl⟩:=List.mem_map.mp hx;exact (O k M).1
   rw [D0] at this;omega
  refine ⟨_,rfl,_,rfl,l2,o,a0,xs,rs,c,rfl,a2,S,by omega,ra,U _ _ V,z01 (λ _ _ z=>z.same U) C,by omega,X,O,λ b H3 W hb=>⟨_,rfl,?_⟩⟩;have G:=U.trans W;cases b with
  | false=>exact iteT (q _ _ G ⟨λ z=>(by cases z),λ z=>hb.mpr z.1⟩)
  | true=>
  refine iteF ?_;have a4 :∀{b:Bool},(b=true↔keepP (z1o m rs rs.length) (c.map (·.1))/\DoneS B (z0 F) c)->(b=true↔ExpP m F rs B c):=λ h=>h.trans ⟨λ z=>⟨hb.mp rfl,z⟩,λ z=>z.2⟩;refine t_nx (sq_ret (e_andV (zme ⟨_,rfl,?_⟩)));have b1:=G _ _ V;have lx:xs.length=c.length:=z03 C;refine z2v (K:=KX w.params) (a:=o) (xs:=xs) (H1:=H3) (λ _=>true) (λ i y _=>∃k,c[i]? = some k/\y=.int (k.1:Int)) (λ _ _ _ _ _ z=>z) (λ R h=>⟨_,rfl,h⟩) (SqL.of b1) (C0 (m:=100) (by omega) (by decide)) ?_ ?_
  ·intro i hi v Y s4 hv KT KF k1 k2;obtain ⟨k,M,b,rfl,eb⟩:=z09 C hv;refine ⟨[some (.ref b)],rfl,rfl,iteT ?_⟩;exact ⟨_,rfl,.inr (.inl ⟨b,_,0,_,rfl,rfl,SqT.of ((G.trans s4) _ _ eb),z05 (j:=0) rfl,k1 rfl _ _ (Same.refl _) ⟨k,M,rfl⟩⟩)⟩
  intro L Y ws s4 a8 a1;rw [List.filter_eq_self.mpr (λ _ _=>rfl)] at a1;have ew:=zg3 lx a1;subst ew;have J:=s4.trans (Same.upd (o:=.lst (nsV (c.map (·.1)))) a8);have e5:upd Y L (.lst (nsV (c.map (·.1)))) L=some (.lst (nsV (c.map (·.1)))):=upd_same;generalize upd Y L (.lst (nsV (c.map (·.1))))=H5 at J e5⊢;have b0:=G.trans J;have t1:Same H1 H5:=(s2.trans W).trans J;have pl:=z38 (m:=m) (rs:=rs) rs.length;have pm:rs.length * rs.length<=63 * 63:=a9 rl rl;refine ⟨l,L,zs,_,c.map (·.1),rfl,t1 _ _ el,z01 (λ _ _ z=>PairAt.same t1 z) ap,by omega,e5,X,by rw [D0];omega,λ b H6 s6 a3=>⟨_,rfl,?_⟩⟩;have d:=b0.trans s6;cases b with
  | false=>exact iteF (q _ _ d (a4 ⟨λ z=>(by cases z),λ z=>a3.mpr z.1⟩))
  | true=>
  refine iteT ?_;have u2:Same H2 H6:=(W.trans J).trans s6;refine ⟨_,rfl,.inr (.inl ⟨t,_,0,.ref pt,rfl,rfl,SqT.of (d _ _ Z),z05 (j:=0) rfl,_,rfl,_,rfl,pt,l2,o,a0,xs,F,rs,B,c,rfl,th.tt (.of (K:=KX w.params) d),ok,u2 _ _ a2,z01 (λ _ _ z=>RcAt.tups (.of u2) z) S,z01 (λ _ _ z=>RcGd.tt (.of d) z) gd,d _ _ V,z01 (λ _ _ z=>OaAt.same d z) C,O,a7,λ b H7 s7 a5=>?_⟩)⟩;exact q _ _ (d.trans s7) (a4 ⟨λ z=>⟨a3.mp rfl,a5.mp z⟩,λ z=>a5.mpr z.2⟩)
end
section
def PwP (m:Nat) (rs:List Rc) (ns:List Nat):Prop:=ns.Pairwise λ a b=>z0j m rs b a=false
theorem zfe {m:Nat} {rs:List Rc} {ns:List Nat} (irr :∀n,z0j m rs n n=false) (lt :∀n∈ns,n < rs.length):keepP (z1o m rs rs.length) ns↔PwP m rs ns:=by
 unfold PwP;rw [j1a];constructor
 ·intro h i j d f g;cases e:z0j m rs ns[j] ns[i] with
  | false=>rfl
  | true=>have:=h (ns[j],ns[i]) (mem_pairsTo.mpr ⟨lt _ (Q4 _),lt _ (Q4 _),e⟩) j i (B0 f) (B0 d);omega
 ·intro h p a i j c b;have a:=(mem_pairsTo.mp a).2.2;obtain ⟨d,c⟩:=List.getElem?_eq_some_iff.mp c;obtain ⟨f,b⟩:=List.getElem?_eq_some_iff.mp b;rcases V7 i j with z|z|z
  ·exact z
  ·subst z;rw [<-c,<-b,irr] at a;cases a
  ·have:=h j i f d z;rw [c,b,a] at this;cases this
structure GoodR (m:Nat) (ts:List (Str×Str)) (rs:List Rc) (ps:List DD) (st:List (Nat×V)):Prop where
 nd:(st.map (·.1)).Nodup
 an :∀s∈st,∀r,rs[s.1]? = some r->r.e.isSome=true->s.2=r.a
 pw:PwP m rs (st.map (·.1))
 dn:DoneS ps (z0 ts) st
theorem GoodR.nil {m:Nat} {ts:List (Str×Str)} {rs:List Rc} {ps:List DD}:GoodR m ts rs ps []:=⟨.nil,λ s h=>(by cases h),.nil,trivial⟩
theorem zi1 {st:List (Nat×V)} (h:(st.map (·.1)).Nodup) {n:Nat} {a b:V} (ha:(n,a)∈st) (hb:(n,b)∈st):a=b:=by
 induction st with
 | nil=>cases ha
 | cons s st ih=>
  rw [R0,i6] at h;rcases List.mem_cons.mp ha with za|za
  ·rcases List.mem_cons.mp hb with zb|zb
   ·rw [<-za] at zb;cases zb;rfl
   ·exact absurd (List.mem_map.mpr ⟨_,zb,rfl⟩) (by rw [<-za] at h;exact h.1)
  ·rcases List.mem_cons.mp hb with zb|zb
   ·exact absurd (List.mem_map.mpr ⟨_,za,rfl⟩) (by rw [<-zb] at h;exact h.1)
   ·exact ih h.2 za zb
end
section
structure PsOk (ts:List (Str×Str)) (rs:List Rc) (ps:List DD):Prop where
 ok:ThW ts
 ln:ps.length=rs.length
 nm :∀(n:Nat) (p:DD),ps[n]? = some p->(p.nm,p.k)∈ts
theorem zfl {ts:List (Str×Str)} (nd:(ts.map (·.1)).Nodup) {i:Nat} {nm k:Str} (hi:ts[i]? = some (nm,k)) {g:Str->Sv} {s:Sv}:(ts.map λ t=>g t.1).set i s=ts.map λ t=>setZ g nm s t.1:=by
 apply L4;intro j;rw [List.getElem?_set,K0,K0,D0];have a:=(List.getElem?_eq_some_iff.mp hi).1;by_cases e:i=j
 ·subst e;rw [if_pos rfl,if_pos a,hi];exact congrArg some setZ_same.symm
 ·rw [if_neg e];cases h:ts[j]? with
  | none=>rfl
  | some t=>
   refine congrArg some (zjs λ z=>e ?_).symm;have b:(ts.map (·.1))[i]? = some nm:=by rw [K0,hi];rfl
   have c:(ts.map (·.1))[j]? = some nm:=by rw [K0,h];exact congrArg some z
   rw [<-idx_eq nd b,<-idx_eq nd c]
theorem zjn {m:Nat} {ts:List (Str×Str)} {rs:List Rc} {ps:List DD} (P:PsOk ts rs ps) {pl:Pl} {g:Str->Sv} (e2:pl.2=ts.map λ t=>g t.1) {s:Stp}:s∈nxT m ts rs ps pl↔∃n r p,cP m rs pl.1 n=true/\rs[n]? = some r/\ps[n]? = some p/\(r.e.isSome=true->(dz p.k p.vb p.dt (g p.nm)).2=r.a)/\s=(n,(dz p.k p.vb p.dt (g p.nm)).2,srtN (pl.1++[n]),ts.map λ t=>setZ g p.nm (dz p.k p.vb p.dt (g p.nm)).1 t.1):=by
 have d :∀n r p,ps[n]? = some p->stp ts r p n pl=if r.e.isNone || decide ((dz p.k p.vb p.dt (g p.nm)).2=r.a) then some (n,(dz p.k p.vb p.dt (g p.nm)).2,srtN (pl.1++[n]),ts.map λ t=>setZ g p.nm (dz p.k p.vb p.dt (g p.nm)).1 t.1) else none:=λ n r p b=>by obtain ⟨i,c⟩:=List.mem_iff_getElem?.mp (P.nm n p b);have j:ixT ts p.nm=i:=idx_eq P.ok.nd (by rw [K0,c];rfl);unfold stp;rw [j,e2,K0,c];show (if (r.e.isNone || decide ((dz p.k p.vb p.dt (g p.nm)).2=r.a))=true then some (n,(dz p.k p.vb p.dt (g p.nm)).2,srtN (pl.1++[n]),(ts.map λ t=>g t.1).set i (dz p.k p.vb p.dt (g p.nm)).1) else none)=_;rw [zfl P.ok.nd c]
 unfold nxT nexT;rw [List.mem_filterMap];constructor
 ·rintro ⟨n,hn,h⟩;unfold nexAt at h;split at h
  ·rename_i hc;split at h
   ·rename_i r p hr b;rw [d n r p b] at h;split at h
    ·rename_i hd;cases h;refine ⟨n,r,p,hc,hr,b,λ f=>?_,rfl⟩;rcases Bool.or_eq_true_iff.mp hd with z|z
     ·cases e:r.e with
      | none=>rw [e] at f;cases f
      | some x=>rw [e] at z;cases z
     ·exact of_decide_eq_true z
    ·cases h
   ·cases h
  ·cases h
 ·rintro ⟨n,r,p,hc,hr,b,ha,rfl⟩;refine ⟨n,List.mem_range.mpr (List.getElem?_eq_some_iff.mp hr).1,?_⟩;unfold nexAt;rw [if_pos hc,hr,b];show stp ts r p n pl=_;rw [d n r p b];refine if_pos (Bool.or_eq_true_iff.mpr ?_);cases e:r.e with
  | none=>exact .inl rfl
  | some x=>exact .inr (decide_eq_true (ha (by rw [e];rfl)))
structure WkI (m:Nat) (ts:List (Str×Str)) (rs:List Rc) (ps:List DD) (o:List Oa) (pl:Pl):Prop where
 mem :∀x,x∈pl.1↔x∈o.map (·.1)
 st:pl.2=ts.map λ t=>runS ps (z0 ts) o t.1
 gd:GoodR m ts rs ps o
 lt :∀n∈o.map (·.1),n < rs.length
theorem zcw {ps:List DD} {z:Str->Sv} {o:List Oa} {s:Oa} {p:DD} (hp:ps[s.1]? = some p):runS ps z (o++[s])=setZ (runS ps z o) p.nm (dz p.k p.vb p.dt (runS ps z o p.nm)).1:=by unfold runS;rw [K4,X3,List.foldl_nil,hp]
theorem zmb {xs:List Nat} {x:Nat}:x∈srtN xs↔x∈xs:=(z8f xs).mem_iff
theorem wk_nil {m:Nat} {ts:List (Str×Str)} {rs:List Rc} {ps:List DD} (P:PsOk ts rs ps):WkI m ts rs ps [] ([],ts.map λ t=>zeroK t.2):=by refine ⟨λ x=>Iff.rfl,?_,GoodR.nil,λ n h=>absurd h o0⟩;exact List.map_congr_left λ t a=>(z0_of P.ok a).symm
theorem zcq {m:Nat} {ts:List (Str×Str)} {rs:List Rc} {ps:List DD} (P:PsOk ts rs ps) :∀{o:List Oa} {pl:Pl},Wk m ts rs ps o pl->WkI m ts rs ps o pl
 | _,_,.nil=>wk_nil P
 | _,_,.snoc (o:=o) (pl:=pl) wk h=>by
  obtain ⟨i,D,f,lt⟩:=zcq P wk;obtain ⟨n,r,p,t,u,q,A,rfl⟩:=(zjn P D).mp h;have B:=(List.getElem?_eq_some_iff.mp u).1;have w:n∉o.map (·.1):=λ z=>cP_no t ((i n).mpr z);have C:=of_decide_eq_true (Bool.and_eq_true_iff.mp t).2;have c:(o++[(n,(dz p.k p.vb p.dt (runS ps (z0 ts) o p.nm)).2)]).map (·.1)=o.map (·.1)++[n]:=by rw [j1];rfl
  refine ⟨λ x=>?_,?_,⟨?_,?_,?_,?_⟩,?_⟩
  ·show x∈srtN (pl.1++[n])↔_;rw [zmb,c,G8,G8,i]
  ·show (ts.map _)=_;rw [zcw (s:=(n,_)) q]
  ·rw [c];exact List.nodup_append.mpr ⟨f.nd,List.nodup_cons.mpr ⟨o0,B7⟩,λ a g b j e=>w (by rw [<-List.mem_singleton.mp j,<-e];exact g)⟩
  ·intro s h v d l;rcases List.mem_append.mp h with z|z
   ·exact f.an s z v d l
   ·rw [List.mem_singleton.mp z] at d⊢;rw [u] at d;cases d;exact A l
  ·unfold PwP;rw [c];refine List.pairwise_append.mpr ⟨f.pw,List.pairwise_singleton _ _,λ a g b j=>?_⟩;rw [List.mem_singleton.mp j];cases e:z0j m rs n a with
   | false=>rfl
   | true=>exact absurd ((i a).mpr g) (C a (List.mem_range.mpr (z25 e).2) e)
  ·exact DoneS.app.mpr ⟨f.dn,p,q,rfl,trivial⟩
  ·rw [c];intro x y;rcases List.mem_append.mp y with z|z
   ·exact lt x z
   ·rw [List.mem_singleton.mp z];exact B
theorem wk_ext {i m:Nat} {ts:List (Str×Str)} {rs:List Rc} {ps:List DD} {os:List Int} (P:PsOk ts rs ps) (I:DInv i rs os) (irr :∀n,z0j m rs n n=false) :∀{o2 o1:List Oa} {pl:Pl},GoodR m ts rs ps (o1++o2)->(∀n∈(o1++o2).map (·.1),n < rs.length)->(∀n r,rs[n]? = some r->r.e.isSome=true->n∈(o1++o2).map (·.1))->Wk m ts rs ps o1 pl->∃pl',Wk m ts rs ps (o1++o2) pl'
 | [],o1,pl,_,_,_,wk=>⟨pl,by rw [Y1];exact wk⟩
 | s :: o2,o1,pl,gd,lt,fu,wk=>by
  obtain ⟨c,D,_,_⟩:=zcq P wk;have d:(o1++s :: o2).map (·.1)=o1.map (·.1)++s.1 :: o2.map (·.1):=by rw [j1];rfl
  have A:s.1 < rs.length:=lt _ (by rw [d];simp);have t:rs[s.1]? = some rs[s.1]:=B0 A;obtain ⟨_,p,x,l,_⟩:=DoneS.app.mp gd.dn;have o:=gd.nd;have f:=gd.pw;unfold PwP at f;rw [d] at o f;obtain ⟨_,E,B⟩:=List.nodup_append.mp o;obtain ⟨_,y,u⟩:=List.pairwise_append.mp f;have w:s∈o1++s :: o2:=List.mem_append.mpr (.inr Q0);have e:s=(s.1,(dz p.k p.vb p.dt (runS ps (z0 ts) o1 p.nm)).2):=j11 rfl l.symm;have j:=Wk.snoc wk ((zjn P D).mpr ⟨s.1,rs[s.1],p,?_,t,x,λ v=>by rw [l];exact gd.an s w _ t v,rfl⟩)
  ·rw [show o1++s :: o2=(o1++[s])++o2 by rw [K3];rfl] at gd lt fu⊢;rw [<-e] at j;exact wk_ext P I irr gd lt fu j
  ·refine Bool.and_eq_true_iff.mpr ⟨Bool.and_eq_true_iff.mpr ⟨decide_eq_true λ z=>?_,decide_eq_true λ a F h=>?_⟩,decide_eq_true λ b _ h z=>?_⟩
   ·exact B _ ((c _).mp z) _ Q0 rfl
   ·have C:=(z25 h).1;have q:rs[a]? = some rs[a]:=B0 C;have g:=fu a _ q (zj8 I h q);rw [d] at g;rcases List.mem_append.mp g with z|z
    ·exact (c a).mpr z
    ·rcases List.mem_cons.mp z with z|z
     ·rw [z,irr] at h;cases h
     ·rw [(List.pairwise_cons.mp y).1 a z] at h;cases h
   ·rw [u b ((c b).mp z) s.1 Q0] at h;cases h
noncomputable def hrd (ps:List DD):(Str->Sv)->List Nat->List Oa
 | _,[]=>[]
 | z,n :: ns=>match ps[n]? with
  | some p=>(n,(dz p.k p.vb p.dt (z p.nm)).2) :: hrd ps (setZ z p.nm (dz p.k p.vb p.dt (z p.nm)).1) ns
  | none=>(n,.non) :: hrd ps z ns
theorem z7r {ps:List DD} :∀{ns:List Nat} {z:Str->Sv},(hrd ps z ns).map (·.1)=ns
 | [],_=>rfl
 | n :: ns,z=>by
  unfold hrd;cases ps[n]? with
  | none=>exact congrArg (n :: ·) z7r
  | some p=>exact congrArg (n :: ·) z7r
theorem zc9 {ps:List DD} :∀{ns:List Nat} {z:Str->Sv} {n:Nat} {p:DD},ps[n]? = some p->hrd ps z (ns++[n])=hrd ps z ns++[(n,(dz p.k p.vb p.dt (runS ps z (hrd ps z ns) p.nm)).2)]
 | [],z,n,p,hp=>by show hrd ps z [n]=_;unfold hrd;rw [hp];rfl
 | a :: ns,z,n,p,hp=>by
  show hrd ps z (a :: (ns++[n]))=_;unfold hrd;cases ha:ps[a]? with
  | none=>show (_ :: hrd ps z (ns++[n]))=_;rw [zc9 hp,show runS ps z ((a,V.non) :: hrd ps z ns)=runS ps z (hrd ps z ns) by unfold runS;rw [X3,ha]];rfl
  | some q=>show (_ :: hrd ps _ (ns++[n]))=_;rw [zc9 hp,show runS ps z ((a,(dz q.k q.vb q.dt (z q.nm)).2) :: hrd ps (setZ z q.nm (dz q.k q.vb q.dt (z q.nm)).1) ns)=runS ps (setZ z q.nm (dz q.k q.vb q.dt (z q.nm)).1) (hrd ps (setZ z q.nm (dz q.k q.vb q.dt (z q.nm)).1) ns) by unfold runS;rw [X3,ha]];rfl
theorem zbg {ps:List DD} :∀{ns:List Nat} {z:Str->Sv},(∀n∈ns,n < ps.length)->DoneS ps z (hrd ps z ns)
 | [],_,_=>trivial
 | n :: ns,z,h=>by have b:=h n Q0;have a:ps[n]? = some ps[n]:=B0 b;generalize ps[n]=p at a;unfold hrd;rw [a];exact ⟨p,a,rfl,zbg λ x c=>h x (Y0 _ c)⟩
theorem hrd_of {ps:List DD} :∀{st:List Oa} {z:Str->Sv},DoneS ps z st->st=hrd ps z (st.map (·.1))
 | [],_,_=>rfl
 | s :: st,z,⟨p,hp,hd,h⟩=>by rw [R0];unfold hrd;rw [hp];show s :: st=(s.1,(dz p.k p.vb p.dt (z p.nm)).2) :: hrd ps _ (st.map (·.1));rw [hd,<-hrd_of h]
def RtP (m:Nat) (rs:List Rc) (st:List Oa):Prop:=(∀n r,rs[n]? = some r->r.e.isSome=true->n∈st.map (·.1))/\(∀s∈st,∀r,rs[s.1]? = some r->r.e.isSome=true->s.2=r.a)/\PwP m rs (st.map (·.1))
noncomputable def oaD (s:Oa):PyData:=match s.2 with
 | .int j=>.tuple [.int (s.1:Nat),.int j]
 | .str z=>.tuple [.int (s.1:Nat),.str z]
 | _=>.none
theorem znh {m:Nat} {ts:List (Str×Str)} {rs:List Rc} {ps:List DD} {st:List Oa} (irr :∀n,z0j m rs n n=false) (nd:(st.map (·.1)).Nodup) (lt :∀n∈st.map (·.1),n < rs.length) (dn:DoneS ps (z0 ts) st):ExpP m ts rs ps st↔RtP m rs st:=
 ⟨λ ⟨h1,h2,_⟩=>⟨λ n r b a=>List.mem_map.mpr ⟨_,h1 n r b a,rfl⟩,λ s c r d a=>zi1 nd (n:=s.1) c (h1 s.1 r d a),(zfe irr lt).mp h2⟩,λ ⟨h1,h2,h3⟩=>⟨λ n r b a=>by obtain ⟨s,c,rfl⟩:=List.mem_map.mp (h1 n r b a);rw [<-h2 s c r b a];exact c,(zfe irr lt).mpr h3,dn⟩⟩
theorem zli {m:Nat} {ts:List (Str×Str)} {rs:List Rc} {ps:List DD} (P:PsOk ts rs ps) {o:List Oa} {pl:Pl} (wk:Wk m ts rs ps o pl) (fu:FullP rs pl):RtP m rs o/\o=hrd ps (z0 ts) (o.map (·.1))/\(o.map (·.1)).Nodup/\∀n∈o.map (·.1),n < rs.length:=by obtain ⟨c,_,a,lt⟩:=zcq P wk;exact ⟨⟨λ n r b d=>(c n).mp (fu n r b d),a.an,a.pw⟩,hrd_of a.dn,a.nd,lt⟩
theorem zkz {i m:Nat} {ts:List (Str×Str)} {rs:List Rc} {ps:List DD} {os:List Int} (P:PsOk ts rs ps) (I:DInv i rs os) (irr :∀n,z0j m rs n n=false) {st:List Oa} (nd:(st.map (·.1)).Nodup) (lt :∀n∈st.map (·.1),n < rs.length) (dn:DoneS ps (z0 ts) st) (h:RtP m rs st) :∃pl,Wk m ts rs ps st pl/\FullP rs pl:=by obtain ⟨pl,a⟩:=wk_ext P I irr (o1:=[]) (o2:=st) ⟨nd,h.2.1,h.2.2,dn⟩ lt h.1 .nil;exact ⟨pl,a,λ n r c b=>((zcq P a).mem n).mpr (h.1 n r c b)⟩
noncomputable def lvl (n:Nat):Nat->List (List Nat)
 | 0=>[[]]
 | k + 1=>(lvl n k).flatMap λ row=>((G1 n).filter λ x=>decide (x∉row)).map λ x=>row++[x]
theorem lvl_mem {n:Nat} :∀{k:Nat} {row:List Nat},row∈lvl n k↔row.Nodup/\(∀x∈row,x < n)/\row.length=k
 | 0,row=>by show row∈[[]]↔_;rw [C7];exact ⟨λ e=>by rw [e];exact ⟨.nil,λ _ h=>absurd h o0,rfl⟩,λ h=>List.length_eq_zero_iff.mp h.2.2⟩
 | k + 1,row=>by
  show row∈List.flatMap _ _↔_;rw [List.mem_flatMap];constructor
  ·rintro ⟨r,hr,h⟩;obtain ⟨x,o,rfl⟩:=List.mem_map.mp h;obtain ⟨i,f⟩:=List.mem_filter.mp o;have f:=of_decide_eq_true f;obtain ⟨a,b,c⟩:=lvl_mem.mp hr;refine ⟨List.nodup_append.mpr ⟨a,List.nodup_cons.mpr ⟨o0,B7⟩,λ y d z j e=>f (by rw [<-List.mem_singleton.mp j,<-e];exact d)⟩,λ y d=>?_,by rw [F0,c];rfl⟩;rcases List.mem_append.mp d with z|z
   ·exact b y z
   ·rw [List.mem_singleton.mp z];exact List.mem_range.mp i
  ·rintro ⟨a,b,c⟩;have g:row≠[]:=λ z=>by rw [z] at c;cases c
   have e:=i5 g;generalize row.dropLast=r at e;generalize row.getLast g=x at e;subst e;obtain ⟨l,_,m⟩:=List.nodup_append.mp a;rw [F0] at c;have c:r.length + 1=k + 1:=c;exact ⟨r,lvl_mem.mpr ⟨l,λ y d=>b y (List.mem_append.mpr (.inl d)),by omega⟩,List.mem_map.mpr ⟨x,List.mem_filter.mpr ⟨List.mem_range.mpr (b x (List.mem_append.mpr (.inr (List.mem_singleton.mpr rfl)))),decide_eq_true λ z=>m x z x (List.mem_singleton.mpr rfl) rfl⟩,rfl⟩⟩
noncomputable def rws (n:Nat):Nat->List (List Nat)
 | 0=>[[]]
 | k + 1=>rws n k++lvl n (k + 1)
theorem rws_mem {n:Nat} :∀{k:Nat} {row:List Nat},row∈rws n k↔row.Nodup/\(∀x∈row,x < n)/\row.length<=k
 | 0,row=>by show row∈[[]]↔_;rw [C7];exact ⟨λ e=>by rw [e];exact ⟨.nil,λ _ h=>absurd h o0,A0 _⟩,λ h=>List.length_eq_zero_iff.mp (by have:=h.2.2;omega)⟩
 | k + 1,row=>by
  show row∈rws n k++lvl n (k + 1)↔_;rw [G8,rws_mem,lvl_mem];constructor
  ·rintro (⟨a,b,c⟩|⟨a,b,c⟩)
   ·exact ⟨a,b,by omega⟩
   ·exact ⟨a,b,by omega⟩
  ·rintro ⟨a,b,c⟩;by_cases e:row.length<=k
   ·exact .inl ⟨a,b,e⟩
   ·exact .inr ⟨a,b,by omega⟩
theorem zfz :∀n,n < 5->∀k,k < 5->(rws n k).length<=65/\(lvl n k).length<=24:=by decide +kernel
end
section
variable {P:Program} {w:S0} {mg:Str->Option Value} {base:Heap}
theorem zl7 {X:Cx} {K:b0} (hK:X.K=K):OpR X (P4 .Add) (rCatS K):=hK ▸ op_catS
def RowAt (K:b0) (H:Hp) (row:List Nat) (y:V):Prop:=∃p,y=.ref p/\SqT K H p (nsV row)
theorem RowAt.tups {K:b0} {H H':Hp} {row:List Nat} {y:V} (t:Tups K H H') (h:RowAt K H row y):RowAt K H' row y:=h.elim λ p z=>⟨p,z.1,t _ _ z.2⟩
theorem zj2 {α β γ:Type} {R:β->γ->Prop} {f:α->β} {xs:List α} {ys:List γ} (h:All2 (λ x y=>R (f x) y) xs ys):All2 R (xs.map f) ys:=by
 induction h with
 | nil=>exact .nil
 | cons a r ih=>exact .cons a ih
theorem zfy {α β:Type} {R:α->β->Prop} {xs xs':List α} {ys ys':List β} (h:All2 R xs ys) (h':All2 R xs' ys'):All2 R (xs++xs') (ys++ys'):=by
 induction h with
 | nil=>exact h'
 | cons a r ih=>exact .cons a ih
theorem zi4 {K:b0} {H:Hp} {r:Addr} {xs:List V} (e:H r=some (.lst xs)):Tups K H (hide r H):=λ a b h=>by
 rcases h with (h|⟨ob,h⟩)|h
 ·exact .inl (.inl (z2n (λ z=>by rw [z,e] at h;cases h) h))
 ·exact .inl (.inr ⟨ob,z2n (λ z=>by rw [z,e] at h;cases h) h⟩)
 ·exact .inr h
noncomputable def onR (n:Nat) (row:List Nat):List (List Nat):=((G1 n).filter λ x=>decide (x∉row)).map λ x=>row++[x]
theorem zmm (n:Nat) (ls:List (List Nat)) (j:Nat):((ls.take j).flatMap (onR n)).length<=(ls.flatMap (onR n)).length:=by have:=congrArg (λ l=>(l.flatMap (onR n)).length) (j3b j ls);simp only [m9,F0] at this;omega
theorem zlw {n j:Nat} {ls:List (List Nat)} {row:List Nat} (h:ls[j]? = some row):(ls.take (j + 1)).flatMap (onR n)=(ls.take j).flatMap (onR n)++onR n row:=by rw [S7,h,m9];congr 1;show [row].flatMap (onR n)=_;rw [List.flatMap_cons,List.flatMap_nil,Y1]
def z6y (K:b0):Sp:=λ vs H Q _=>∃n:Nat,vs=[.int (n:Nat)]/\n<=4/\∀l xs H',Same H H'->H' l=some (.lst xs)->All2 (RowAt K H') (rws n n) xs->Q (.ref l) H'
theorem zbe (T:TX (kx w) mg):Fo P w mg base CX0 1 424 y17 ["many"] (z6y (kx w)):=by
 refine (z54 w.params).ok sc__law_rows (λ vs H Q E h=>?_) (λ b4 A b5 s H vs Q E hr h=>?_)
 ·obtain ⟨n,rfl,_⟩:=h;rfl
 ·obtain ⟨n,rfl,n4,q⟩:=h;refine ⟨_,(z02 (ps_set (i:=1) sc__law_rows.nd rfl (U0 rfl) (pe_lst (z00 (pe_tup pa_nil) pa_nil)))
   (z02 (ps_set (i:=2) sc__law_rows.nd rfl (U0 rfl) (pe_lst (z00 (pe_tup pa_nil) pa_nil)))
   (z02 (ps_for K1 rfl (z4e rfl (T.no (za2 _)) (z00 (pv 0) pa_nil)) (z0f (i:=3) sc__law_rows.nd rfl (U0 rfl))
   (z02 (ps_set (i:=4) sc__law_rows.nd rfl (U0 rfl) (pe_lst pa_nil))
   (z02 (ps_for K1 rfl (z16 (pv 2)) (z0f (i:=5) sc__law_rows.nd rfl (T0 rfl))
   (z04 (z22 (zhc (pv 4) (z00 (pe_cg (xs:=["one"]) (g:=gName 0) (fr:=[(5,"row")]) (z4e rfl (T.no (za2 _)) (z00 (pv 0) pa_nil)) (λ _ _ _ _ _=>(pg_cn (N:=["one","row"]) 0)) (λ _ _ _ _ _=>(pf_one (z08 (z9f (K:=KX w.params) rfl) (pv 0) (pv 1) (by with_unfolding_all rfl)))) (λ _ _ _ _ _=>(pe_op (zl7 (K:=KX w.params) rfl) (pv 1) (pe_tup (z00 (pv 0) pa_nil))))) pa_nil)))))
   (z02 (ps_set (i:=2) sc__law_rows.nd rfl (U0 rfl) (pv 4))
   (z04 (ps_set (i:=1) sc__law_rows.nd rfl (U0 rfl) (pe_op opAdd (pv 1) (pv 2))))))))
   (z04 (ps_ret (pv 1)))))),?_⟩
  refine z0s ?_;refine ⟨w_0,λ v a5=>⟨w_1,λ M a9=>?_⟩⟩;refine g_name ?_;have q0:=Same.upd (o:=.tup []) a5;have X:=Same.upd (o:=.lst [.ref v]) a9;have f0:=X _ _ (upd_same (H:=H) (a:=v) (o:=.tup []));have f1:=upd_same (H:=upd H v (.tup [])) (a:=M) (o:=.lst [.ref v]);have s1:=q0.trans X;generalize upd (upd H v (.tup [])) M (.lst [.ref v])=H1 at f0 f1 s1⊢;refine z0s ?_;refine ⟨w_0,λ u a7=>⟨w_1,λ V a6=>?_⟩⟩;refine g_name ?_;have q2:=Same.upd (o:=.tup []) a7;have q3:=Same.upd (o:=.lst [.ref u]) a6;have f2:=q3 _ _ (upd_same (H:=H1) (a:=u) (o:=.tup []));have f3:=upd_same (H:=upd H1 u (.tup [])) (a:=V) (o:=.lst [.ref u]);have G:=q2.trans q3;generalize upd (upd H1 u (.tup [])) V (.lst [.ref u])=H2 at f2 f3 G⊢;refine ⟨_,rfl,n,rfl,by omega,by omega,?_⟩;refine z5k (lo:=0) (n:=n) (λ k σ c=>∃ar al xr xl,Same H c/\c ar=some (.lst xr)/\All2 (RowAt (kx w) c) (rws n k) xr/\c al=some (.lst xl)/\All2 (RowAt (kx w) c) (lvl n k) xl/\∃x3 x4 x5,σ=[some (.int (n:Nat)),some (.ref ar),some (.ref al),x3,x4,x5])
   ⟨M,V,_,_,s1.trans G,G _ _ f1,.cons ⟨v,rfl,SqT.of (G _ _ f0)⟩ .nil,f3,.cons ⟨u,rfl,SqT.of f2⟩ .nil,_,_,_,rfl⟩ ?_ ?_
  ·rintro k σ r hk ⟨ar,al,xr,xl,s3,er,Ar,el,Al,x3,x4,x5,rfl⟩;rw [K8];refine g_name ?_;refine z0s ?_;refine ⟨w_0,λ lo a2=>?_⟩;refine g_name ?_;have e4:upd r lo (.lst []) lo=some (.lst []):=upd_same;have U:Same r (hide lo (upd r lo (.lst []))):=λ p o e=>z2n (λ z=>by rw [z,a2] at e;cases e) ((Same.upd a2) _ _ e);generalize upd r lo (.lst [])=H4 at e4 U⊢;have k5:k + 1 < 5:=by omega
   have b0:((lvl n k).flatMap (onR n)).length<=24:=(zfz n (by omega) (k + 1) k5).2;have b2:=(zfz n (by omega) k (by omega)).1;refine ⟨_,rfl,al,rfl,⟨xl,SqL.of (hide_same _ _ (U _ _ el))⟩,?_⟩;refine z3y (K:=KX w.params) (a:=al) (xs:=xl) (λ j σ c=>∃zs,Same r (hide lo c)/\c lo=some (.lst zs)/\All2 (RowAt (kx w) (hide lo c)) (((lvl n k).take j).flatMap (onR n)) zs/\∃x3 x5,σ=[some (.int (n:Nat)),some (.ref ar),some (.ref al),x3,some (.ref lo),x5])
    ⟨[],U,e4,by rw [o4];exact .nil,_,_,rfl⟩ (λ j σ c _ h=>SqL.of (hide_same _ _ (h.choose_spec.1 _ _ el))) ?_ ?_
   ·rintro j x σ W hx ⟨zs,s5,e5,d,x3,x5,rfl⟩;obtain ⟨row,a0,p,rfl,sq⟩:=z09 Al hx;refine g_name ?_;have B:Same r W:=s5.trans hide_same;have a4:=B.seqT sq;refine ⟨_,rfl,.inl ⟨rfl,_,SqL.of e5⟩,?_⟩;have b1:row.length<=4:=by have:=(lvl_mem.mp (G0 a0)).2.2;omega
    refine zh8 (S:=Same) (n:=n) (λ x=>decide (x∉row)) (λ x y c=>RowAt (kx w) c (row++[x]) y) (Same.refl _) (λ _ _ _ a b=>a.trans b) (λ _ _=>Same.refl _) (λ _ _ _ _ s z=>z.tups (.of s)) (λ R h=>⟨_,rfl,h⟩) (C0 (m:=4) n4 (by decide)) (λ x b3 I L KT KF O h2=>?_) λ F I l L a1 fa=>?_
    ·refine ⟨[some (.int (x:Nat))],rfl,rfl,?_⟩;have Y:=L.seqT a4;refine ⟨_,rfl,_,rfl,p,nsV row,rfl,.inr Y,rfl,z7k _,_,rfl,?_⟩;rw [inV_ns];by_cases z:x∈row
     ·rw [decide_eq_true z];exact iteF (h2 (decide_eq_false λ y=>y z) _ (Same.refl _))
     ·rw [decide_eq_false z];refine iteT ⟨_,rfl,_,rfl,w_1,λ t ht=>⟨p,t,nsV row,[.int (x:Nat)],rfl,rfl,(Same.upd ht).seqT Y,SqT.of upd_same,λ e=>(by cases e),C0 (m:=5) (by rw [z3g];show row.length + 1<=5;omega) (by decide),λ p' c s' a3=>O (decide_eq_true z) _ _ ((Same.upd ht).trans s') ⟨p',rfl,?_⟩⟩⟩;rw [show nsV (row++[x])=nsV row++[.int (x:Nat)] by unfold nsV;rw [j1];rfl];exact a3
    ·have J:=L.trans (Same.upd (o:=.lst l) a1);have e7:upd I F (.lst l) F=some (.lst l):=upd_same;have D:=z01 (λ _ _ z=>RowAt.tups (.of (Same.upd (o:=.lst l) a1)) z) (zj2 (R:=RowAt (kx w) I) (f:=λ x=>row++[x]) fa);generalize upd I F (.lst l)=H7 at J e7 D⊢;have D:All2 (RowAt (kx w) H7) (onR n row) l:=D;have tk:=zlw (n:=n) a0;have lz:zs.length + l.length<=24:=by have O:=zmm n (lvl n k) (j + 1);rw [tk,F0] at O;rw [z03 d,z03 D];omega
     have Z:=J _ _ e5;refine ⟨lo,F,zs,l,rfl,rfl,Z,e7,C0 lz (by decide),?_⟩;refine ⟨zs++l,?_,upd_same,?_,_,_,rfl⟩
     ·rw [z4r];exact s5.trans (z2b J)
     ·rw [z4r,tk];exact zfy (z01 (λ _ _ z=>RowAt.tups (.of (z2b J)) z) d) (z01 (λ _ _ z=>RowAt.tups (zi4 Z) z) D)
   ·rintro σ W ⟨zs,s5,e5,d,x3,x5,rfl⟩;rw [show xl.length=(lvl n k).length from z03 Al,Q5] at d;have B:Same r W:=s5.trans hide_same;have d:=z01 (λ _ _ z=>RowAt.tups (.of hide_same) z) d;have a8:=B _ _ er;refine t_nx (z0s ?_);refine ⟨_,rfl,?_⟩;refine g_name ?_;refine ⟨_,rfl,_,rfl,.inr (.inr (.inl ⟨ar,lo,xr,zs,rfl,rfl,a8,e5,C0 (m:=89) (by rw [z03 Ar,z03 d];omega) (by decide),λ p6 C=>?_⟩))⟩;refine ⟨p6,lo,xr++zs,zs,s3.trans (B.trans (Same.upd C)),upd_same,zfy (z01 (λ _ _ z=>RowAt.tups (.of (B.trans (Same.upd C))) z) Ar) (z01 (λ _ _ z=>RowAt.tups (.of (Same.upd C)) z) d),(Same.upd C) _ _ e5,z01 (λ _ _ z=>RowAt.tups (.of (Same.upd C)) z) d,_,_,_,rfl⟩
  ·rintro σ r ⟨ar,al,xr,xl,s3,er,Ar,el,Al,x3,x4,x5,rfl⟩;exact ⟨_,rfl,q _ _ _ s3 er Ar⟩
def z5f (K:b0):Sp:=λ vs H Q _=>∃(t l p:Addr) (zs:List V) (ts:List (Str×Str)) (es:List Ev) (rs:List Rc) (ps:List DD) (row:List Nat),vs=[.ref t,.ref l,.ref p]/\TaleAt K H t ts es/\ThW ts/\H l=some (.lst zs)/\All2 (ActAt H) rs zs/\All2 (RcGd K H ts) rs ps/\SqT K H p (nsV row)/\(∀n∈row,n < rs.length)/\row.length<=63/\
 ∀o xs H',Same H H'->H' o=some (.lst xs)->All2 (OaAt H') (hrd ps (z0 ts) row) xs->(∀s∈hrd ps (z0 ts) row,AnsV s.2)->Q (.ref o) H'
theorem zal (T:TX (kx w) mg) (c0:Ca P w mg base "_law_begun" ["kind"] 1 (z2u (kx w))) (c1:Ca P w mg base "_law_does" ["kind","state","verb","worth"] 1 (z29 (kx w))):Fo P w mg base CX0 2 429 y0u ["tale","acts","row"] (z5f (kx w)):=by
 refine (z3l w.params).ok sc__law_heard (λ vs H Q E h=>?_) (λ d5 A d6 s H vs Q E S h=>?_)
 ·obtain ⟨t,l,p,zs,f,es,rs,ps,row,rfl,_⟩:=h;rfl
 ·obtain ⟨t,l,p,zs,f,es,rs,ps,row,rfl,⟨pt,te,ys,et,⟨yt,b3,Y⟩,d4,al⟩,ok,el,aa,gd,sq,lt,d7,q⟩:=h;refine ⟨_,(z02 (ps_set (i:=3) sc__law_heard.nd rfl (U0 rfl) (z0g (z11 rfl) rfl (T.no (n_dict _)) U7 (z00 (pe_cg (xs:=["name","kind"]) (g:=gTup (kx w) 2 (gCons (gName 0) (gCons (gName 1) gNil))) (fr:=[]) (pi_tup (pe_ix ix_seq (pv 0) pe_int (λ _ _=>rfl))) (λ _ _ _ _ _=>(pg_tup rfl (z07 (pg_cn (N:=["name","kind"]) 0) (z07 (pg_cn (N:=["name","kind"]) 1) z0m)))) (λ _ _ _ _ _=>pf_nil) (λ _ _ _ _ _=>(pe_tup (z00 (pv 0) (z00 (pe_cal c0 (S.mono (by decide)) rfl (z00 (pv 1) pa_nil)) pa_nil))))) pa_nil)))
   (z02 (ps_set (i:=4) sc__law_heard.nd rfl (U0 rfl) (pe_lst pa_nil))
   (z02 (ps_for K1 rfl (pi_tup (pv 2)) (z0f (i:=5) sc__law_heard.nd rfl (U0 rfl))
   (z02 (ps_set (i:=6) sc__law_heard.nd rfl (U0 rfl) (pe_ix ix_seq (pv 1) (pv 5) (λ _ _=>rfl)))
   (z02 (ps_set (i:=7) sc__law_heard.nd rfl (U0 rfl) (pe_ix ix_seq (pv 6) pe_int (λ _ _=>rfl)))
   (z02 (ps_asg (pe_cal c1 (S.mono (by decide)) rfl (z00 (z2h (hu_of S) (z0g (z11 rfl) rfl (T.no (n_dict _)) U7 (z00 (pe_ix ix_seq (pv 0) pe_int (λ _ _=>rfl)) pa_nil)) (pv 7) (λ _ _=>rfl)) (z00 (z2h (hu_of S) (pv 3) (pv 7) (λ _ _=>rfl)) (z00 (pe_ix ix_seq (pv 6) pe_int (λ _ _=>rfl)) (z00 (pe_ix ix_seq (pv 6) pe_int (λ _ _=>rfl)) pa_nil))))) (pg_tup rfl (z07 (pg_sub (pv 3) (pv 7) (zc8 (hu_of S))) (z07 (z0f (i:=8) sc__law_heard.nd rfl (U0 rfl)) z0m))))
   (z04 (z22 (z18 (pv 4) (z00 (pe_tup (z00 (pv 5) (z00 (pv 8) pa_nil))) pa_nil))))))))
   (z04 (ps_ret (pv 4)))))),?_⟩
  refine zcx ?_;refine z1u (K:=KX w.params) (a:=pt) (xs:=yt) (H1:=H) (λ _=>true) (λ i y C=>∃t b v,f[i]? = some t/\y=.ref b/\C b=some (.tup [.str t.1,v])/\StZ (kx w) C (zeroK t.2) v) (λ _ _ _ _ s ⟨t,b,v,h1,h2,h3,h4⟩=>⟨t,b,v,h1,h2,s _ _ h3,h4.tups (.of s)⟩) (λ R h=>⟨_,rfl,.inr (.inl ⟨t,_,0,.ref pt,rfl,rfl,SqT.of et,z05 (j:=0) rfl,h⟩)⟩) (SqT.of b3) (C0 (m:=6) (by rw [z03 Y];exact ok.n6) (by decide)) ?_ ?_
  ·intro i hi v H2 Z hv KT KF k1 k2;obtain ⟨t,ht,b,rfl,eb⟩:=z09 Y hv;have d3:=Z _ _ eb;refine ⟨b,_,rfl,SqT.of d3,rfl,_,_,rfl,_,_,rfl,rfl,[some (.str t.1),some (.str t.2)],rfl,rfl,iteT ?_⟩;exact ⟨_,rfl,_,rfl,t.2,rfl,λ u H4 s4 sa=>⟨w_2,λ p hp=>k1 rfl _ _ (s4.trans (Same.upd hp)) ⟨t,p,u,ht,rfl,upd_same,sa.tups (.of (Same.upd hp))⟩⟩⟩
  intro l2 H2 b8 Z c7 b4;rw [List.filter_eq_self.mpr (λ _ _=>rfl),z03 Y] at b4;obtain ⟨H3,v_,s3,e3⟩:=newA (.lst b8) c7;rw [<-v_];obtain ⟨V,c9,sd⟩:=zjk ok s3 b4;refine ⟨l2,b8,V,rfl,.inl e3,c9,λ d hd=>?_⟩;have s4:=Same.upd (o:=.dK (mergeK [] V)) hd;have a7:=sd d hd;have fd:H d=none:=(Z.trans s3).free hd;have a6:Same H (upd H3 d (.dK (mergeK [] V))):=(Z.trans s3).trans s4;generalize upd H3 d (.dK (mergeK [] V))=H4 at s4 a7 a6⊢;refine g_name ?_;refine ⟨w_0,λ le L=>?_⟩;have b0:d≠le:=λ z=>by obtain ⟨kv,e,_⟩:=a7;rw [z,L] at e;cases e
  have b7:=a7.tt (.of (Same.upd (o:=.lst []) L)) (λ o e=>(Same.upd (o:=.lst []) L) _ _ e);have a2:Same H (upd H4 le (.lst [])):=a6.trans (Same.upd L);have fe:H le=none:=a6.free L;have e5:upd H4 le (.lst []) le=some (.lst []):=upd_same;generalize upd H4 le (.lst [])=H5 at b7 a2 e5⊢;refine g_name ?_;refine ⟨_,rfl,p,rfl,⟨_,a2.seqT sq⟩,?_⟩;refine zmx (K:=KX w.params) (a:=p) (xs:=nsV row) (λ i σ C=>∃xs,Same H C/\C le=some (.lst xs)/\StD (kx w) C d i f (runS ps (z0 f) (hrd ps (z0 f) (row.take i)))/\All2 (OaAt (hid2 d le C)) (hrd ps (z0 f) (row.take i)) xs/\(∀s∈hrd ps (z0 f) (row.take i),AnsV s.2)/\∃x5 x6 x7 x8,σ=[some (.ref t),some (.ref l),some (.ref p),some (.ref d),some (.ref le),x5,x6,x7,x8])
   ⟨[],a2,e5,by rw [o4];exact b7,by rw [o4];exact .nil,by rw [o4];exact λ _ h=>absurd h o0,_,_,_,_,rfl⟩ (λ i σ C _ h=>h.choose_spec.1.seqT sq) ?_ ?_
  ·rintro i x σ I hx ⟨xs,s6,e6,st6,ax,ia,x5,x6,x7,x8,rfl⟩;obtain ⟨n,hn,rfl⟩ :∃n,row[i]? = some n/\x=.int (n:Nat):=by unfold nsV at hx;rw [K0] at hx;obtain ⟨a,h1,h2⟩:=Option.map_eq_some_iff.mp hx;exact ⟨a,h1,h2.symm⟩
   have hi:=(List.getElem?_eq_some_iff.mp hn).1;have a8:=lt n (G0 hn);obtain ⟨y,hy,X,rfl,ea⟩:=z0q aa (B0 a8);obtain ⟨c,c4,g1,g2,hm,dk,ix,wi,_⟩:=z0q gd (B0 a8);generalize rs[n]=r at ea g1 g2 ix wi;rw [g1,g2] at ea;have a1:=s6 _ _ ea;refine g_name ?_;refine z0s ?_;refine ⟨_,rfl,_,rfl,.inl ⟨l,zs,n,.ref X,rfl,rfl,SqL.of (s6 _ _ el),z05 hy,?_⟩⟩;refine g_name ?_;refine z0s ?_;refine ⟨_,rfl,.inl ⟨X,_,1,.str c.nm,rfl,rfl,SqL.of a1,z05 (j:=1) rfl,?_⟩⟩;refine g_name ?_;refine ⟨_,rfl,.inr (.inl ⟨t,_,0,.ref pt,rfl,rfl,SqT.of (s6 _ _ et),z05 (j:=0) rfl,pt,yt,thK f,rfl,.inr (s6 _ _ b3),zg6 (z01 (λ _ _ z=>z.elim λ b y=>⟨b,y.1,s6 _ _ y.2⟩) Y),λ G c5=>?_⟩)⟩;have B:=Same.upd (o:=.dK (mergeK [] (thK f))) c5;have dg:DGet (upd I G (.dK (mergeK [] (thK f)))) G (.str c.nm) (some (.str c.k)):=by have:=DGet.k (k:=.inr c.nm) (upd_same (H:=I) (a:=G) (o:=.dK (mergeK [] (thK f))));rw [z19 (zbh ok.nd) (List.mem_map.mpr ⟨(c.nm,c.k),hm,rfl⟩)] at this;exact this
   refine ⟨_,rfl,G,.str c.k,rfl,dg,?_⟩;have c2:=st6.tt (.of B) (λ o e=>B _ _ e);generalize upd I G (.dK (mergeK [] (thK f)))=H8 at B c2⊢;obtain ⟨a0,a3,c6,f8⟩:=c2;obtain ⟨so,v8,d1,sz⟩:=f8 _ hm;have d2:DGet H8 d (.str c.nm) (some v8):=by have:=DGet.k (k:=.inr c.nm) a3;rw [d1] at this;exact this
   have b9:i < 63:=by omega
   have a9:=s6.trans B;have T8:Tt (kx w) H H8:=.of a9;refine ⟨_,rfl,_,rfl,d,v8,rfl,d2,?_⟩;refine ⟨_,rfl,.inl ⟨X,_,2,.str c.vb,rfl,rfl,SqL.of (B _ _ a1),z05 (j:=2) rfl,?_⟩⟩;refine ⟨_,rfl,.inl ⟨X,_,3,r.x,rfl,rfl,SqL.of (B _ _ a1),z05 (j:=3) rfl,?_⟩⟩;have snoc:=zc9 (ns:=row.take i) (z:=z0 f) c4;have a5:=zcw (z:=z0 f) (o:=hrd ps (z0 f) (row.take i)) (s:=(n,(dz c.k c.vb c.dt (runS ps (z0 f) (hrd ps (z0 f) (row.take i)) c.nm)).2)) c4;have tk:row.take (i + 1)=row.take i++[n]:=by rw [S7,hn];rfl
   rw [<-snoc,<-tk] at a5;rw [<-tk] at snoc;generalize runS ps (z0 f) (hrd ps (z0 f) (row.take i))=z at so sz f8 snoc a5;refine ⟨c.k,c.vb,v8,r.x,c.dt,i,_,rfl,so,sz,b9,dk,IsDt.mono' T8.t _ _ ix,wi.tt T8,λ p9 O U M e9 c8=>?_⟩;have c3:=dz_ok dk so b9;refine ⟨p9,_,rfl,SqT.of e9,rfl,O,_,rfl,_,rfl,_,rfl,d,_,rfl,DPut.k (k:=.inr c.nm) (M _ _ a3) (B1 (m:=100) (by omega) (by decide)),_,_,rfl,rfl,?_⟩;have a4:=StD.put ok M a3 c6 f8 hm c3.1 c8;have b5:Same H (upd U d (.dK (putK a0 (.inr c.nm) O))):=Same.keep (a9.trans M) fd;have b1:Same (hid2 d le I) (hid2 d le (upd U d (.dK (putK a0 (.inr c.nm) O)))):=by rw [hid2_a];exact z5r (B.trans M)
   have W:upd U d (.dK (putK a0 (.inr c.nm) O)) le=some (.lst xs):=by rw [upd_ne b0.symm];exact (B.trans M) _ _ e6
   generalize upd U d (.dK (putK a0 (.inr c.nm) O))=H10 at a4 b5 b1 W⊢;refine t_nx ?_;refine ⟨_,rfl,.inl ⟨rfl,_,SqL.of W⟩,?_⟩;refine ⟨_,rfl,_,rfl,w_2,λ D J=>?_⟩;have F:=Same.upd (o:=.tup [.int (n:Nat),(dz c.k c.vb c.dt (z c.nm)).2]) J;have b2:upd H10 D (.tup [.int (n:Nat),(dz c.k c.vb c.dt (z c.nm)).2]) D=_:=upd_same;have np:D≠le:=λ y=>by rw [y,W] at J;cases J
   have d0:D≠d:=λ y=>by obtain ⟨kv,e,_⟩:=a4;rw [y,e] at J;cases J
   generalize upd H10 D (.tup [.int (n:Nat),(dz c.k c.vb c.dt (z c.nm)).2])=H11 at F b2⊢;have b6:=F _ _ W;have xl:xs.length=i:=by rw [z03 ax];have:=congrArg u6 (z7r (ps:=ps) (ns:=row.take i) (z:=z0 f));rw [D0,P3] at this;omega
   refine ⟨le,xs,_,rfl,rfl,b6,B1 (m:=100) (by omega) (by decide),?_⟩;refine ⟨_,Same.keep (b5.trans F) fe,upd_same,?_,?_,?_,_,_,_,_,rfl⟩
   ·rw [a5];exact (a4.tt (.of F) λ o e=>F _ _ e).tt (Tups.lst b6) λ o e=>by rw [upd_ne b0];exact e
   ·rw [snoc,hid2_b];exact z0y (z01 (λ _ _ y=>OaAt.same (b1.trans (z5r F)) y) ax) ⟨D,rfl,z3j d0 np b2⟩
   ·rw [snoc];intro s hs;rcases List.mem_append.mp hs with y|y
    ·exact ia s y
    ·rw [List.mem_singleton.mp y];exact c3.2
  ·rintro σ I ⟨xs,s6,e6,st6,ax,ia,x5,x6,x7,x8,rfl⟩;rw [z3g,Q5] at ax ia;exact ⟨_,rfl,q _ _ _ s6 e6 (z01 (λ _ _ z=>OaAt.same hid2_same z) ax) ia⟩
def z5e:Sp:=λ vs H Q _=>∃(a b:V),vs=[a,b]/\(IsA a\/a=.non)/\IsA b/\Q (.bl (decide (a=b))) H
theorem z9i (T:TX (kx w) mg):Fo P w mg base CX0 1 419 y0t ["one","other"] z5e:=by
 refine (z43 w.params).ok za3 (λ n H Q E h=>?_) (λ u A x s H n Q E B h=>?_)
 ·obtain ⟨a,b,rfl,_⟩:=h;rfl
 ·obtain ⟨a,b,rfl,j,k,q⟩:=h;refine ⟨_,(z04 (ps_ret (pe_and (z0v opEq (z0c z0k rfl (T.no (z0i _)) Y2 (z00 (pv 0) (z00 (z2i (v:=.ty "str") rfl (T.no (n_str _)) j0e rfl) pa_nil))) (z0c z0k rfl (T.no (z0i _)) Y2 (z00 (pv 1) (z00 (z2i (v:=.ty "str") rfl (T.no (n_str _)) j0e rfl) pa_nil))) (nomark _)) (pe_and (pe_not (z0c z0k rfl (T.no (z0i _)) Y2 (z00 (pv 0) (z00 (z2i (v:=.ty "bool") rfl (T.no (n_bool _)) boot_bool rfl) pa_nil)))) (pe_one (z0v opEq (pv 0) (pv 1) (nomark _))))))),?_⟩;have t:=IsA.scal j (.inl k);have m :∃T,TagOf H a T/\instB T "bool" = false/\(instB T "str" = true↔∃z,a=.str z):=by
   rcases j with (⟨i,rfl⟩|⟨z,rfl⟩)|rfl
   ·exact ⟨_,rfl,rfl,by simp [instB]⟩
   ·exact ⟨_,rfl,rfl,by simp [instB]⟩
   ·exact ⟨_,rfl,rfl,by simp [instB]⟩
  have p :∃T,TagOf H b T/\(instB T "str" = true↔∃z,b=.str z):=by
   rcases k with ⟨i,rfl⟩|⟨z,rfl⟩
   ·exact ⟨_,rfl,by simp [instB]⟩
   ·exact ⟨_,rfl,by simp [instB]⟩
  obtain ⟨c,f,o,g⟩:=m;obtain ⟨d,r,l⟩:=p;refine ⟨_,rfl,a,"str",c,rfl,f,by decide,_,rfl,b,"str",d,rfl,r,by decide,rfl,_,rfl,?_⟩;by_cases z:instB c "str" = instB d "str"
  ·refine iteP (by rw [z];exact decide_eq_true rfl) ?_;refine ⟨_,rfl,a,"bool",c,rfl,f,by decide,_,rfl,?_⟩;rw [o];exact ⟨_,rfl,iteT ⟨_,rfl,_,rfl,t,q⟩⟩
  ·refine iteN (λ y=>z (by have:=of_decide_eq_true y;injection this)) ?_;rw [decide_eq_false (λ e=>z (by
    subst e;cases h:instB d "str" with
    | true=>exact g.mpr (l.mp h)
    | false=>
     cases h':instB c "str" with
     | false=>rfl
     | true=>rw [l.mpr (g.mp h')] at h;cases h))] at q
   exact q
theorem cut_to {ys:List V} {m:Nat}:cutV ys none (some (m:Int))=ys.take m:=by
 unfold cutV;rw [HT.sIx_none,HT.sIx_nat,u4,Nat.sub_zero];by_cases h:m<=ys.length
 ·rw [j0g h]
 ·rw [Nat.min_eq_right (by omega),V4 (A0 _),V4 (by omega)]
theorem t_ifS {c:TT} {a b:TS} {D:Ends} {σ:L2.St} {H:Hp} (h:c σ H λ k H1=>if k=true then a D σ H1 else b D σ H1):tIfS c a b D σ H:=h
def z57 (K:b0):Sp:=λ vs H Q _=>∃(l o:Addr) (zs xs:List V) (rs:List Rc) (i m:Nat) (os:List Int) (st:List Oa),vs=[.ref l,.str (z0x m),.ref o]/\H l=some (.lst zs)/\All2 (ActAt H) rs zs/\DInv i rs os/\rs.length<=63/\(∀r∈rs,r.e.isSome=true->IsA r.a)/\H o=some (.lst xs)/\All2 (OaAt H) st xs/\(∀s∈st,IsA s.2)/\(∀n∈st.map (·.1),n < rs.length)/\st.length<=63/\
 ∀b H',Same H H'->(b=true↔RtP m rs st)->Q (.bl b) H'
theorem z98 (T:TX (kx w) mg) (c0:Ca P w mg base "_law_alike" ["one","other"] 1 z5e) (c1:Ca P w mg base "_law_must" ["acts","strictness","one","other"] 1 z6v):Fo P w mg base CX0 2 434 y0v ["acts","strictness","order"] (z57 (kx w)):=by
 refine (z42 w.params).ok sc__law_right (λ vs H Q E h=>?_) (λ b6 A b7 s H vs Q E hr h=>?_)
 ·obtain ⟨l,o,G,xs,f,i,m,os,c,rfl,_⟩:=h;rfl
 ·obtain ⟨l,o,G,xs,f,i0,m,os,c,rfl,el,aa,DI,rl,ra,eo,ax,ia,lt,b5,q⟩:=h;refine ⟨_,(z02 (zcd (i:=3) sc__law_right.nd rfl (U0 rfl) (xs:=["number","heard"]) (g:=gTup (kx w) 2 (gCons (gName 0) (gCons (gName 1) gNil))) (fr:=[]) rfl (z16 (pv 2)) (λ _ z=>absurd z o0) (zd7 rfl) (λ _ z=>absurd z o0) (by decide +kernel) rfl (by decide +kernel) (λ _ _ _ _ _=>(pg_tup rfl (z07 (pg_cn (N:=["number","heard"]) 0) (z07 (pg_cn (N:=["number","heard"]) 1) z0m)))) (λ _ _ _ _ _=>pf_nil) (λ _ _ _ _ _=>(pv 0)))
   (z02 (ps_for K1 rfl (z4e rfl (T.no (za2 _)) (z00 (z0c z1j rfl (T.no (n_len _)) i4 (z00 (pv 0) pa_nil)) pa_nil)) (z0f (i:=4) sc__law_right.nd rfl (T0 rfl))
   (z04 (ps_if (PW.pt (pw_and (z08 z7y (pe_ix ix_seq (pe_ix ix_seq (pv 0) (pv 4) (λ _ _=>rfl)) pe_int (λ _ _=>rfl)) pe_non (nomark _)) (z7u (z08 z1h (pv 4) (pv 3) (by with_unfolding_all rfl)))))
   (z04 (ps_ret pe_bl))
   z0e)))
   (z02 (ps_for K1 rfl (z4e rfl (T.no (za2 _)) (z00 (z0c z1j rfl (T.no (n_len _)) i4 (z00 (pv 2) pa_nil)) pa_nil)) (z0f (i:=5) sc__law_right.nd rfl (U0 rfl))
   (z02 (ps_asg (pe_ix ix_seq (pv 2) (pv 5) (λ _ _=>rfl)) (pg_tup rfl (z07 (z0f (i:=4) sc__law_right.nd rfl (T0 rfl)) (z07 (z0f (i:=6) sc__law_right.nd rfl (U0 rfl)) z0m))))
   (z02 (ps_if (PW.pt (pw_and (z08 z7y (pe_ix ix_seq (pe_ix ix_seq (pv 0) (pv 4) (λ _ _=>rfl)) pe_int (λ _ _=>rfl)) pe_non (nomark _)) (z7u (pt_not (pt_val (pe_cal c0 (hr.mono (by decide)) rfl (z00 (pv 6) (z00 (pe_ix ix_seq (pe_ix ix_seq (pv 0) (pv 4) (λ _ _=>rfl)) pe_int (λ _ _=>rfl)) pa_nil))) (λ _=>rfl))))))
   (z04 (ps_ret pe_bl))
   z0e)
   (z04 (ps_if (z08 (zjy hr) (zh3 (xs:=["one"]) (g:=gName 0) (fr:=[(0,"acts"),(1,"strictness"),(4,"number")]) rfl (z16 (z2x slSeq (pv 3) z5z (z4p (pv 5)))) (by intro p hp;simp only [W0,o0,or_false] at hp;rcases hp with rfl|rfl|rfl<;>first|exact ⟨rfl,.inl rfl⟩|exact ⟨rfl,.inr rfl⟩) (zjo (ns:=["acts","strictness","number"]) (by decide +kernel) (by intro n u k;simp only [W0,o0,or_false] at u;rcases u with rfl|rfl|rfl<;>first|exact .inl rfl|exact .inr rfl)) (by intro p hp;simp only [W0,o0,or_false] at hp;rcases hp with rfl|rfl|rfl<;>exact ⟨by decide +kernel,by first|exact .inl rfl|exact .inr rfl⟩) (by decide +kernel) rfl (by decide +kernel) (λ _ _ _ _ _=>(pg_cn (N:=["one","acts","strictness","number"]) 0)) (λ _ _ _ _ _=>(pf_one (pt_val (pe_cal c1 (hr.mono (by decide)) rfl (z00 (pv 1) (z00 (pv 2) (z00 (pv 3) (z00 (pv 0) pa_nil))))) (λ _=>rfl)))) (λ _ _ _ _ _=>(pv 0))) (pe_lst pa_nil) (nomark _))
   (z04 (ps_ret pe_bl))
   z0e)))))
   (z04 (ps_ret pe_bl))))),?_⟩
  have lz:G.length=f.length:=z03 aa;have lx:xs.length=c.length:=z03 ax;refine z0s ?_;refine z2v (K:=KX w.params) (a:=o) (xs:=xs) (H1:=H) (λ _=>true) (λ i y _=>∃d,c[i]? = some d/\y=.int (d.1:Int)) (λ _ _ _ _ _ z=>z) (λ R h=>⟨_,rfl,h⟩) (SqL.of eo) (C0 (m:=100) (by omega) (by decide)) ?_ ?_
  ·intro i hi v H4 s4 hv KT KF k1 k2;obtain ⟨d,X,b,rfl,eb⟩:=z09 ax hv;exact ⟨b,_,rfl,SqT.of (s4 _ _ eb),rfl,_,_,rfl,_,_,rfl,rfl,[some (.int (d.1:Nat)),some d.2],rfl,rfl,iteT ⟨_,rfl,k1 rfl _ _ (Same.refl _) ⟨d,X,rfl⟩⟩⟩
  intro M H4 ws s4 a9 a0;rw [List.filter_eq_self.mpr (λ _ _=>rfl)] at a0;have ew:=zg3 lx a0;subst ew;have L:=s4.trans (Same.upd (o:=.lst (nsV (c.map (·.1)))) a9);have e5:upd H4 M (.lst (nsV (c.map (·.1)))) M=some (.lst (nsV (c.map (·.1)))):=upd_same;generalize upd H4 M (.lst (nsV (c.map (·.1))))=H5 at L e5⊢;refine g_name ?_;refine ⟨_,rfl,.inl ⟨l,G,rfl,.inl (SqL.of (L _ _ el)),G.length,rfl,by omega,by omega,?_⟩⟩;refine z5k (lo:=0) (n:=G.length) (λ j σ S=>S=H5/\(∀n r,n < j->f[n]? = some r->r.e.isSome=true->n∈c.map (·.1))/\∃x4 x5 x6,σ=[some (.ref l),some (.str (z0x m)),some (.ref o),some (.ref M),x4,x5,x6])
   ⟨rfl,λ n r u=>absurd u (Y3 _),_,_,_,rfl⟩ ?_ ?_
  ·rintro j σ H6 hj ⟨rfl,fj,x4,x5,x6,rfl⟩;rw [K8];refine g_name ?_;have u:j < f.length:=by omega
   have F:f[j]? = some f[j]:=B0 u;obtain ⟨y,hy,O,rfl,Y⟩:=z0q aa F;generalize f[j]=r at F Y;have go :∀n B,n < j + 1->(n=j->B.e.isSome=true->n∈c.map (·.1))->f[n]? = some B->B.e.isSome=true->n∈c.map (·.1):=λ n B D Z x t=>by
    by_cases e:n=j
    ·exact Z e t
    ·exact fj n B (by omega) x t
   refine ⟨_,rfl,_,rfl,.inl ⟨l,G,j,.ref O,rfl,rfl,SqL.of (L _ _ el),z05 hy,.inl ⟨O,_,6,endV r.e,rfl,rfl,SqL.of (L _ _ Y),z05 (j:=6) rfl,rfl,_,rfl,?_⟩⟩⟩;cases re:r.e with
   | none=>refine iteN (by show ¬ (!decide (V.non=V.non))=true;decide) (iteF ⟨rfl,λ n B D x t=>go n B D (λ e _=>?_) x t,_,_,_,rfl⟩);subst e;rw [F] at x;cases x;rw [re] at t;cases t
   | some e=>
   refine iteP rfl ?_;refine ⟨_,rfl,_,rfl,M,_,rfl,.inl (SqL.of e5),rfl,z7k _,_,rfl,?_⟩;rw [inV_ns];by_cases z:j∈c.map (·.1)
   ·rw [decide_eq_true z];exact iteF ⟨rfl,λ n B D x t=>go n B D (λ e _=>by rw [e];exact z) x t,_,_,_,rfl⟩
   ·rw [decide_eq_false z];exact iteT (q _ _ L ⟨λ y=>(by cases y),λ y=>absurd (y.1 j r F (by rw [re];rfl)) z⟩)
  ·rintro σ H6 ⟨rfl,fj,x4,x5,x6,rfl⟩;have fu :∀n r,f[n]? = some r->r.e.isSome=true->n∈c.map (·.1):=λ n r h=>fj n r (by rw [lz];exact (List.getElem?_eq_some_iff.mp h).1) h;clear fj;refine t_nx ?_;refine ⟨_,rfl,.inl ⟨o,xs,rfl,.inl (SqL.of (L _ _ eo)),xs.length,rfl,by omega,by omega,?_⟩⟩;refine z5k (lo:=0) (n:=xs.length) (λ j σ S=>Same H6 S/\(∀(k:Nat) (s:Oa),k < j->c[k]? = some s->(∀r,f[s.1]? = some r->r.e.isSome=true->s.2=r.a)/\∀(C:Nat) (d:Oa),C < k->c[C]? = some d->z0j m f s.1 d.1=false)/\∃x4 x5 x6,σ=[some (.ref l),some (.str (z0x m)),some (.ref o),some (.ref M),x4,x5,x6])
    ⟨Same.refl _,λ n r u=>absurd u (Y3 _),_,_,_,rfl⟩ ?_ ?_
   ·rintro j σ H7 hj ⟨s7,fj,x4,x5,x6,rfl⟩;rw [K8];refine g_name ?_;have I:=L.trans s7;have U:c[j]? = some c[j]:=B0 (by omega);generalize c[j]=sj at U;obtain ⟨y,hy,b,rfl,eb⟩:=z0q ax U;have u:=lt sj.1 (List.mem_map.mpr ⟨sj,G0 U,rfl⟩);have F:f[sj.1]? = some f[sj.1]:=B0 u;obtain ⟨y2,a4,O,rfl,Y⟩:=z0q aa F;have rm:=Q4 u;generalize f[sj.1]=r at F Y rm;have a3 :∀S,Same H7 S->(¬ ((r.e.isSome=true->sj.2=r.a)/\∀(C:Nat) (d:Oa),C < j->c[C]? = some d->z0j m f sj.1 d.1=false))->Q (.bl false) S:=λ S d hb=>q _ _ (I.trans d) ⟨λ z=>(by cases z),λ z=>absurd ⟨z.2.1 sj (G0 U) r F,λ C d J X=>by have pw:=z.2.2;unfold PwP at pw;rw [V9] at pw;obtain ⟨i1,e1⟩:=List.getElem?_eq_some_iff.mp X;obtain ⟨i2,e2⟩:=List.getElem?_eq_some_iff.mp U;have:=List.pairwise_iff_getElem.mp pw C j i1 i2 J;rw [e1,e2] at this;exact this⟩ hb⟩;refine z0s ?_;refine ⟨_,rfl,_,rfl,.inl ⟨o,xs,j,.ref b,rfl,rfl,SqL.of (I _ _ eo),z05 hy,?_⟩⟩;refine ⟨b,_,rfl,SqT.of (I _ _ eb),rfl,_,_,rfl,_,_,rfl,rfl,?_⟩;refine z6p (λ σ1 H8=>H8=H7/\(r.e.isSome=true->sj.2=r.a)/\σ1=[some (.ref l),some (.str (z0x m)),some (.ref o),some (.ref M),some (.int (sj.1:Nat)),some (.int (j:Nat)),some sj.2]) ?_ λ tl=>?_;rotate_left
    ·refine ⟨_,rfl,_,rfl,.inl ⟨l,G,sj.1,.ref O,rfl,rfl,SqL.of (I _ _ el),z05 a4,.inl ⟨O,_,6,endV r.e,rfl,rfl,SqL.of (I _ _ Y),z05 (j:=6) rfl,rfl,_,rfl,?_⟩⟩⟩;cases re:r.e with
     | none=>exact iteN (by show ¬ (!decide (V.non=V.non))=true;decide) (iteF (tl _ _ ⟨rfl,λ z=>(by rw [re] at z;cases z),rfl⟩))
     | some e=>
     refine iteP rfl ?_;refine ⟨_,rfl,_,rfl,_,rfl,.inl ⟨l,G,sj.1,.ref O,rfl,rfl,SqL.of (I _ _ el),z05 a4,.inl ⟨O,_,4,r.a,rfl,rfl,SqL.of (I _ _ Y),z05 (j:=4) rfl,sj.2,r.a,rfl,.inl (ia sj (G0 U)),ra r rm (by rw [re];rfl),_,rfl,?_⟩⟩⟩;by_cases hv2:sj.2=r.a
     ·exact iteN (by rw [decide_eq_true hv2];decide) (tl _ _ ⟨rfl,λ _=>hv2,rfl⟩)
     ·exact iteP (by rw [decide_eq_false hv2];rfl) (a3 _ (Same.refl _) λ z=>hv2 (z.1 (by rw [re];rfl)))
    rintro σ1 H8 ⟨rfl,hv,rfl⟩;refine t_ifS (t_test ?_);have b3:cutV (nsV (c.map (·.1))) none (some (j:Int))=nsV ((c.map (·.1)).take j):=by rw [cut_to];unfold nsV;rw [List.map_take]
    have b4:(nsV ((c.map (·.1)).take j)).length<=sizeLine:=by rw [z3g];exact C0 (m:=63) (by rw [P3,D0];omega) (by decide)
    have a7 :∀{k:Nat} {v:V},(nsV ((c.map (·.1)).take j))[k]? = some v->∃d:Oa,k < j/\c[k]? = some d/\v=.int (d.1:Nat):=λ {k v} h=>by
     unfold nsV at h;rw [K0,List.getElem?_take] at h;split at h
     ·rw [K0,Option.map_map] at h;obtain ⟨d,D,Z⟩:=Option.map_eq_some_iff.mp h;exact ⟨d,by assumption,D,Z.symm⟩
     ·cases h
    refine zf2 (K:=KX w.params) (λ a ys H1=>Same H8 H1/\H1 a=some (.lst ys)/\ys=nsV ((c.map (·.1)).take j)) (λ R h=>⟨_,rfl,_,rfl,_,rfl,.inl ⟨M,_,rfl,SqL.of (s7 _ _ e5),λ p9 b2=>h _ _ _ ⟨Same.upd b2,upd_same,b3⟩⟩⟩) (λ a ys H1 z=>⟨SqL.of z.2.1,by rw [z.2.2];exact b4⟩) (λ k=>(c[k]?.map λ d=>z0j m f sj.1 d.1).getD false) (λ _ _ _=>True) (λ _ _ _ _ _ z=>z) ?_ ?_
    ·rintro a ys H9 ⟨s9,ea9,rfl⟩ k J v H10 s10 hv' KT KF D Z;obtain ⟨d,b8,X,rfl⟩:=a7 hv';rw [X] at D Z;have a2:=I.trans (s9.trans s10);refine ⟨[some (.int (d.1:Nat))],rfl,rfl,?_⟩;refine ⟨_,rfl,_,rfl,_,rfl,_,rfl,l,G,f,_,m,sj.1,d.1,os,rfl,a2 _ _ el,z01 (λ _ _ z=>ActAt.same a2 z) aa,DI,u,lt _ (List.mem_map.mpr ⟨d,G0 X,rfl⟩),_,rfl,?_⟩;by_cases z:z0j m f sj.1 d.1=true
     ·exact iteP z ⟨_,rfl,D z _ _ (Same.refl _) trivial⟩
     ·exact iteN z (Z (by simpa using z) _ (Same.refl _))
    ·rintro a ys H9 ⟨s9,ea9,rfl⟩ l10 H10 us s10 hl10 fa;refine ⟨w_0,λ a8 b1=>?_⟩;have b0:=Same.upd (o:=.lst us) hl10;have a5:=Same.upd (o:=.lst []) b1;refine ⟨l10,a8,us,rfl,rfl,SqL.of (a5 _ _ upd_same),SqL.of upd_same,_,rfl,?_⟩;have a1:=((s9.trans s10).trans b0).trans a5;have lf:=z03 fa;refine ite2 (λ W=>?_) λ W=>?_
     ·have W:=of_decide_eq_true W;refine a3 _ a1 λ z=>W (List.length_eq_zero_iff.mp ?_);rw [lf];refine List.length_eq_zero_iff.mpr (List.filter_eq_nil_iff.mpr λ k J=>?_);rw [List.mem_range,z3g,P3,D0] at J;have a6:c[k]? = some c[k]:=B0 (by omega);rw [a6];show ¬ z0j m f sj.1 c[k].1=true;rw [z.2 k c[k] (by omega) a6];decide
     ·have W:us=[]:=Decidable.byContradiction λ z=>W (decide_eq_true z);refine ⟨s7.trans a1,λ k s J hs=>?_,_,_,_,rfl⟩;by_cases e:k=j
      ·subst e;rw [U] at hs;cases hs;refine ⟨λ B x t=>?_,λ C d x t=>?_⟩
       ·rw [F] at x;cases x;exact hv t
       ·rw [W] at lf;have:=List.filter_eq_nil_iff.mp (List.length_eq_zero_iff.mp lf.symm) C (List.mem_range.mpr (by rw [z3g,P3,D0];have:=(List.getElem?_eq_some_iff.mp t).1;omega));rw [t] at this;exact Bool.eq_false_iff.mpr this
      ·exact fj k s (by omega) hs
   ·rintro σ H7 ⟨s7,fj,x4,x5,x6,rfl⟩;refine t_nx ?_;refine q _ _ (L.trans s7) ⟨λ _=>⟨fu,λ s hs r hr he=>?_,?_⟩,λ _=>rfl⟩
    ·obtain ⟨k,J⟩:=List.mem_iff_getElem?.mp hs;exact (fj k s (by rw [lx];exact (List.getElem?_eq_some_iff.mp J).1) J).1 r hr he
    ·unfold PwP;rw [V9,j1a];intro a b ha hb ab;exact (fj b c[b] (by omega) (B0 hb)).2 a c[a] ab (B0 ha)
theorem znd {X:Cx} {pos:Pos} {tg iter:Expr} {body:List Stmt} {tl:TE} {g:TG} {tb:TS} (hp:PassesOwn (X0 X.prog X.w) X.A X.env X.xe) (hc:X.calm=true) (hi:QE X iter tl) (hg:PG X tg g) (hb:QSs X body tb)
  (hs :∀x,P5 iter X.env x=V2 x:=by intro _;rfl):QS X (.For tg iter body [] pos) (tFor (iList X.K tl) g tb):=⟨ps_for hp hc (z16 hi.run) hg hb.run hs⟩
def OrdAt (H:Hp) (st:List Oa) (y:V):Prop:=∃o xs,y=.ref o/\H o=some (.lst xs)/\All2 (OaAt H) st xs
theorem OrdAt.same {H H':Hp} {st:List Oa} {y:V} (s:Same H H') (h:OrdAt H st y):OrdAt H' st y:=by obtain ⟨o,c,a,b,d⟩:=h;exact ⟨o,c,a,s _ _ b,z01 (λ _ _ z=>z.same s) d⟩
theorem oa_pd {K:b0} {H:Hp} {s:Oa} {y:V} (ha:IsA s.2) (h:OaAt H s y):IsPd K H (oaD s) y:=by
 obtain ⟨n,v⟩:=s;obtain ⟨p,rfl,e⟩:=h;rcases ha with ⟨j,z⟩|⟨j,z⟩
 ·have z:v=.int j:=z;subst z;exact ⟨p,_,rfl,SqT.of e,_,_,rfl,rfl,_,_,rfl,rfl,rfl⟩
 ·have z:v=.str j:=z;subst z;exact ⟨p,_,rfl,SqT.of e,_,_,rfl,rfl,_,_,rfl,rfl,rfl⟩
theorem oas_pd {K:b0} {H:Hp} {st:List Oa} {xs:List V} (ha :∀s∈st,IsA s.2) (h:All2 (OaAt H) st xs):IsPds K H (st.map oaD) xs:=by
 induction h with
 | nil=>rfl
 | cons a r ih=>exact ⟨_,_,rfl,oa_pd (ha _ Q0) a,ih λ s b=>ha s (Y0 _ b)⟩
theorem zeu {s:Oa} (ha:AnsV s.2):plainP (oaD s)=true/\(oaD s).depth<=2:=by
 obtain ⟨n,v⟩:=s;rcases ha with z|z|⟨j,z,_⟩
 ·have z:v=.str "ok":=z;subst z;exact ⟨by show (true && ((j3i (Q1 "ok")).canLay0 && true))=true;decide +kernel,by simp [oaD,Y6,W1]⟩
 ·have z:v=.str "none":=z;subst z;exact ⟨by show (true && ((j3i (Q1 "none")).canLay0 && true))=true;decide +kernel,by simp [oaD,Y6,W1]⟩
 ·have z:v=.int j:=z;subst z;exact ⟨rfl,by simp [oaD,Y6,W1]⟩
noncomputable def ordD (st:List Oa):PyData:=.list (st.map oaD)
theorem ord_pd {K:b0} {H:Hp} {st:List Oa} {y:V} (ha :∀s∈st,IsA s.2) (h:OrdAt H st y):IsPd K H (ordD st) y:=by obtain ⟨o,b,rfl,e,a⟩:=h;exact ⟨o,b,rfl,SqL.of e,oas_pd ha a⟩
theorem zn0 {K:b0} {H:Hp} {sts:List (List Oa)} {ys:List V} (ha :∀st∈sts,∀s∈st,IsA s.2) (h:All2 (OrdAt H) sts ys):IsPds K H (sts.map ordD) ys:=by
 induction h with
 | nil=>rfl
 | cons a r ih=>exact ⟨_,_,rfl,ord_pd (ha _ Q0) a,ih λ s b=>ha s (Y0 _ b)⟩
theorem z5n {st:List Oa} (ha :∀s∈st,AnsV s.2):plainP (ordD st)=true:=z1g λ s a=>(zeu (ha s a)).1
theorem zmf {st:List Oa} (ha :∀s∈st,AnsV s.2):(ordD st).depth<=60:=by have:=z2t (n:=2) λ s a=>(zeu (ha s a)).2;show W1 (st.map oaD) + 1<=60;omega
theorem zi8 {z:Str} (h:z∈(["strict","hands","bare"]:List Str)) :∃m,z=z0x m:=by
 simp only [W0,o0,or_false] at h;rcases h with rfl|rfl|rfl
 ·exact ⟨0,rfl⟩
 ·exact ⟨1,rfl⟩
 ·exact ⟨2,rfl⟩
def sp_law (K:b0):Sp:=λ vs H Q _=>∃(sc:Addr) (ns:List Int),vs=[.ref sc]/\SqL K H sc (ns.map V.int)/\ns.length<=63/\∀H',Q (.bl true) H'
theorem ok_law (T:TX (kx w) mg) (c0:Ca P w mg base "_law_hand" ["script","cell","k"] 1 (z3u (kx w))) (c1:Ca P w mg base "_law_draw" ["hand","limit"] 1 z0z) (c2:Ca P w mg base "_law_tale" ["script","first","hands","most"] 4 (z69 (kx w))) (c3:Ca P w mg base "_law_acts" ["tale"] 1 (z5w (kx w))) (c4:Ca P w mg base "_law_rows" ["many"] 1 (z6y (kx w))) (c5:Ca P w mg base "_law_heard" ["tale","acts","row"] 2 (z5f (kx w))) (c6:Ca P w mg base "_law_right" ["acts","strictness","order"] 2 (z57 (kx w))) (c7:Ca P w mg base "explains" ["tale","strictness","order"] 7 (z7w (kx w))) (c8:Ca P w mg base "judged" ["tale","strictness"] 8 (zcn (kx w))):Fo P w mg base CX0 9 439 fd_law ["script"] (sp_law (kx w)):=by
 refine (F_law w.params).ok sc_law (λ C H Q E h=>?_) (λ i1 A i2 s H C Q E G h=>?_)
 ·obtain ⟨sc,ns,rfl,_⟩:=h;rfl
 ·obtain ⟨sc,ns,rfl,sq,hn,q⟩:=h;refine q_of (z0u (QS.mk (ps_set (i:=1) sc_law.nd rfl (U0 rfl) (pe_cal c0 (G.mono (by decide)) rfl (z00 (pv 0) (z00 (pe_ix ix_seq (pe_op zjr (pv 0) (pe_lst (z00 pe_int pa_nil))) pe_int (λ _ _=>rfl)) (z00 pe_int pa_nil))))))
   (z0u (QS.mk (ps_set (i:=2) sc_law.nd rfl (T0 rfl) (pe_cal c2 (G.mono (by decide)) rfl (z00 (pv 0) (z00 pe_int (z00 (pe_op opAdd pe_int (pe_cal c1 (G.mono (by decide)) rfl (z00 (pv 1) (z00 pe_int pa_nil)))) (z00 pe_int pa_nil)))))))
   (z0u (QS.mk (ps_set (i:=3) sc_law.nd rfl (T0 rfl) (pe_cal c3 (G.mono (by decide)) rfl (z00 (pv 2) pa_nil))))
   (z0u (QS.mk (zcd (i:=4) sc_law.nd rfl (U0 rfl) (xs:=["row"]) (g:=gName 0) (fr:=[(2,"tale"),(3,"acts")]) rfl (z16 (pe_cal c4 (G.mono (by decide)) rfl (z00 (z0c z1j rfl (T.no (n_len _)) i4 (z00 (pv 3) pa_nil)) pa_nil))) (by intro p hp;simp only [W0,o0,or_false] at hp;rcases hp with rfl|rfl<;>first|exact ⟨rfl,.inl rfl⟩|exact ⟨rfl,.inr rfl⟩) (zjo (ns:=["tale","acts"]) (by decide +kernel) (by intro n hn k;simp only [W0,o0,or_false] at hn;rcases hn with rfl|rfl<;>first|exact .inl rfl|exact .inr rfl)) (by intro p hp;simp only [W0,o0,or_false] at hp;rcases hp with rfl|rfl<;>exact ⟨by decide +kernel,by first|exact .inl rfl|exact .inr rfl⟩) (by decide +kernel) rfl (by decide +kernel) (λ _ _ _ _ _=>(pg_cn (N:=["row","tale","acts"]) 0)) (λ _ _ _ _ _=>pf_nil) (λ _ _ _ _ _=>(pe_cal c5 (G.mono (by decide)) rfl (z00 (pv 1) (z00 (pv 2) (z00 (pv 0) pa_nil)))))))
   (z0u (znd K1 rfl (qe_lst (z0l (QE.mk pe_str) (z0l (QE.mk pe_str) (z0l (QE.mk pe_str) qa_nil)))) (z0f (i:=5) sc_law.nd rfl (U0 rfl))
   (z0u (QS.mk (ps_set (i:=6) sc_law.nd rfl (U0 rfl) (pe_lst pa_nil)))
   (z0u (QS.mk (ps_for K1 rfl (z16 (pv 4)) (z0f (i:=7) sc_law.nd rfl (U0 rfl))
   (z02 (ps_set (i:=8) sc_law.nd rfl (U0 rfl) (pe_cal c6 (G.mono (by decide)) rfl (z00 (pv 3) (z00 (pv 5) (z00 (pv 7) pa_nil)))))
   (z02 (ps_set (i:=9) sc_law.nd rfl (U0 rfl) (pe_cal c7 (G.mono (by decide)) rfl (z00 (pv 2) (z00 (pv 5) (z00 (z0g zbo rfl (T.no (n_list _)) boot_list (z00 (pv 7) pa_nil)) pa_nil)))))
   (z02 (ps_if (PW.pt (pw_or (pt_not (pt_val (z0c z0k rfl (T.no (z0i _)) Y2 (z00 (pv 9) (z00 (z2i (v:=.ty "bool") rfl (T.no (n_bool _)) boot_bool rfl) pa_nil))) (λ _=>rfl))) (pw_or1 (z08 opNe (pv 9) (pv 8) (nomark _)))))
   (z04 (ps_ret pe_bl))
   z0e)
   (z04 (ps_if (pt_val (pv 8) (λ _=>rfl))
   (z04 (z22 (z18 (pv 6) (z00 (pv 7) pa_nil))))
   z0e)))))))
   (z0u (QS.mk (ps_set (i:=10) sc_law.nd rfl (U0 rfl) (pe_cal c8 (G.mono (by decide)) rfl (z00 (pv 2) (z00 (pv 5) pa_nil)))))
   (zdd (QS.mk (ps_if (PW.pt (pw_or (PW.pt (pw_and (z08 (zmo G) (pv 6) (pe_lst pa_nil) (nomark _)) (z7u (z08 z7y (pv 10) pe_non (nomark _))))) (pw_or1 (PW.pt (pw_and (z08 (zjy G) (pv 6) (pe_lst pa_nil) (nomark _)) (z7u (z08 (zj5 G) (pv 10) (pv 6) (by with_unfolding_all rfl))))))))
   (z04 (ps_ret pe_bl))
   z0e)))))))
   (zdd (QS.mk (ps_ret pe_bl)))))))) ?_
  have hc :∃c:Int,atI (ns.map V.int++[V.int 0]) 0=some (.int c):=by
   match ns with
   | []=>exact ⟨0,rfl⟩
   | a :: r=>exact ⟨a,z05 (j:=0) rfl⟩
  obtain ⟨c,hc⟩:=hc;refine ⟨_,rfl,_,rfl,w_1,λ l0 h6=>?_⟩;have sA:=Same.upd (o:=.lst [V.int 0]) h6;refine ⟨sc,l0,ns.map V.int,[.int 0],rfl,rfl,sA.seq sq,SqL.of upd_same,by rw [D0];exact C0 (m:=65) (by show ns.length + 1<=65;omega) (by decide),λ l1 h0=>?_⟩;have sB:=sA.trans (Same.upd (o:=.lst (ns.map V.int++[V.int 0])) h0);refine .inl ⟨l1,_,0,.int c,rfl,rfl,SqL.of upd_same,hc,sc,ns,c,0,rfl,sB.seq sq,by decide,by decide,λ r H1 s1 R1 g6=>?_⟩;have s1:=sB.trans s1;have fr:H r=none:=sB.free g6;refine g_name (t_nx ?_);refine ⟨_,rfl,_,rfl,r,4,rfl,R1,by decide,by decide,λ t2 H2 w2 i0 h9=>.inl ⟨1,t2,rfl,rfl,?_⟩⟩;have s2:Same H H2:=z26 s1 (w2.keptL (L:=[r]) (by simp)) (λ l hl=>by rw [List.mem_singleton.mp hl];exact fr);refine ⟨sc,ns,1 + t2,rfl,s2.seq sq,hn,by omega,by omega,λ t pt te F d f H3 s3 et d5 th tok d2 f7 wf eg b4=>?_⟩;refine g_name (t_nx ?_);have b7:TaleAt (kx w) H3 t f d:=⟨pt,te,F,et,th,d5,d2⟩
  obtain ⟨ps,a2⟩:=rc_gd (i:=0) (rs:=[]) (ps:=[]) eg .nil;have ok:=tok.thw;have r4:(dAll 0 [] d).length<=4:=by rw [zka];show 0 + bgN d<=4;omega
  have f8:TlP (kx w) H3 t f d ps:=⟨b7,ok,f7,wf,a2,by omega⟩
  refine ⟨_,rfl,t,te,.ref pt,F,d,rfl,SqT.of et,SqT.of d5,d2,by omega,wf,λ la zs H4 s4 b6 aa=>?_⟩;refine g_name (t_nx ?_);obtain ⟨dw,os,DI⟩:=DInv.all DInv.nil wf;have e3 :∀(m n:Nat),z0j m (dAll 0 [] d) n n=false:=λ m n=>ziy;have f2:=b7.tt (.of s4);have f1:=z01 (λ _ _ z=>RcGd.tt (.of s4) z) a2;have f0:=f8.same s4;have PO:PsOk f (dAll 0 [] d) ps:=⟨ok,z03 a2,λ n p hp=>by obtain ⟨r,_,g⟩:=z09 a2 hp;exact g.2.2.1⟩
  have ra :∀r∈dAll 0 [] d,r.e.isSome=true->IsA r.a:=λ r G he=>by
   obtain ⟨n,hn⟩:=List.mem_iff_getElem?.mp G;obtain ⟨p,_,_,_,_,_,_,_,g⟩:=z0q a2 hn;rcases g with ⟨g,_⟩|⟨_,g⟩
   ·rw [g] at he;cases he
   ·exact g.isA
  have d3 :∀{row:List Nat},row∈rws (dAll 0 [] d).length (dAll 0 [] d).length->row.Nodup/\(∀x∈row,x < (dAll 0 [] d).length)/\row.length<=(dAll 0 [] d).length:=λ h=>rws_mem.mp h;have lz:zs.length=(dAll 0 [] d).length:=z03 aa;have g8:=(zfz (dAll 0 [] d).length (by omega) (dAll 0 [] d).length (by omega)).1;refine z0s ?_;refine zf2 (K:=KX w.params) (λ a xs D=>Same H4 D/\D a=some (.lst xs)/\All2 (RowAt (kx w) D) (rws (dAll 0 [] d).length (dAll 0 [] d).length) xs) (λ R h=>⟨_,rfl,.inl ⟨la,zs,rfl,.inl (SqL.of b6),zs.length,rfl,by omega,λ l xs D s' e' a'=>h _ _ _ ⟨s',e',by rw [lz] at a';exact a'⟩⟩⟩) (λ a xs D z=>⟨SqL.of z.2.1,C0 (m:=65) (by rw [z03 z.2.2];exact g8) (by decide)⟩) (λ _=>true) (λ i y D=>∃row,(rws (dAll 0 [] d).length (dAll 0 [] d).length)[i]? = some row/\OrdAt D (hrd ps (z0 f) row) y/\∀s∈hrd ps (z0 f) row,AnsV s.2) (λ _ _ _ _ s ⟨row,I,B,h3⟩=>⟨row,I,B.same s,h3⟩) ?_ ?_
  ·rintro a xs H5 ⟨s5,e5,a5⟩ i hi v H6 s6 hv KT KF k1 k2;obtain ⟨row,M,p,rfl,h7⟩:=z09 a5 hv;obtain ⟨_,o2,o3⟩:=d3 (G0 M);have b3:=s5.trans s6;refine ⟨[some (.ref p)],rfl,rfl,iteT ?_⟩;exact ⟨_,rfl,_,rfl,_,rfl,t,la,p,zs,f,d,_,ps,row,rfl,f2.tt (.of b3),ok,b3 _ _ b6,z01 (λ _ _ z=>ActAt.same b3 z) aa,z01 (λ _ _ z=>RcGd.tt (.of b3) z) f1,s6.seqT h7,o2,by omega,λ o F H7 s7 S U ia=>k1 rfl _ _ s7 ⟨row,M,⟨o,F,rfl,S,U⟩,ia⟩⟩
  rintro a xs H5 ⟨s5,e5,a5⟩ lo H6 F s6 hlo a4;rw [List.filter_eq_self.mpr (λ _ _=>rfl)] at a4;have lx:xs.length=(rws (dAll 0 [] d).length (dAll 0 [] d).length).length:=z03 a5;have ly:F.length=(rws (dAll 0 [] d).length (dAll 0 [] d).length).length:=by have:=z03 a4;rw [O1] at this;omega
  have a4:All2 (λ row y=>OrdAt H6 (hrd ps (z0 f) row) y/\∀s∈hrd ps (z0 f) row,AnsV s.2) (rws (dAll 0 [] d).length (dAll 0 [] d).length) F:=z0w ly λ k row y I B=>by obtain ⟨j,hj,X,h3,h4⟩:=z09 a4 B;rw [Z2 (by have:=(List.getElem?_eq_some_iff.mp B).1;omega)] at hj;cases hj;rw [I] at h3;cases h3;exact h4
  have q7:=Same.upd (o:=.lst F) hlo;have b0:=(s5.trans s6).trans q7;have e7:upd H6 lo (.lst F) lo=some (.lst F):=upd_same;have d8:=z01 (λ _ _ z=>(⟨OrdAt.same q7 z.1,z.2⟩:OrdAt (upd H6 lo (.lst F)) _ _/\_)) a4;generalize upd H6 lo (.lst F)=H7 at b0 e7 d8⊢;clear a4 e5 a5 s5 s6 hlo q7;have f9:=z01 (λ _ _ z=>ActAt.same b0 z) aa;have g0:=b0 _ _ b6;have f3:=f0.same b0;refine g_name ?_;clear b7 a2 f8 f2 f1 f0 et d5 th d2 eg aa s4 b6 b0;obtain ⟨g5,_,_,_,g3,_⟩:=id f3;generalize hrs:dAll 0 [] d=rs at *;refine ⟨w_3,λ l8 g1=>?_⟩;have q8:=Same.upd (o:=.lst [.str "strict",.str "hands",.str "bare"]) g1;have e8:upd H7 l8 (.lst [.str "strict",.str "hands",.str "bare"]) l8=some (.lst ((["strict","hands","bare"]:List Str).map V.str)):=upd_same;generalize upd H7 l8 (.lst [.str "strict",.str "hands",.str "bare"])=H8 at q8 e8⊢;refine ⟨l8,rfl,⟨_,SqL.of e8⟩,?_⟩;refine z3y (K:=KX w.params) (a:=l8) (xs:=(["strict","hands","bare"]:List Str).map V.str) (λ _ σ D=>Same H8 D/\∃x5 x6 x7 x8 x9 x10,σ=[some (.ref sc),some (.ref r),some (.ref t),some (.ref la),some (.ref lo),x5,x6,x7,x8,x9,x10]) ⟨Same.refl _,_,_,_,_,_,_,rfl⟩ (λ _ σ D _ h=>SqL.of (h.1 _ _ e8)) ?_ ?_;rotate_left
  ·rintro σ H9 ⟨s9,x5,x6,x7,x8,x9,x10,rfl⟩;exact q _
  rintro k y σ H9 hy ⟨s9,x5,x6,x7,x8,x9,x10,rfl⟩;obtain ⟨z,hz,rfl⟩:=List.mem_map.mp (G0 hy);obtain ⟨m,hm⟩:=zi8 hz;subst hm;refine g_name ?_;refine z0s ?_;refine ⟨w_0,λ u e0=>?_⟩;refine g_name ?_;have a1:=q8.trans s9;have e1:upd H9 u (.lst []) u=some (.lst []):=upd_same;have d1:Same H9 (hide u (upd H9 u (.lst []))):=λ p o e=>z2n (λ z=>by rw [z,e0] at e;cases e) ((Same.upd e0) _ _ e);generalize upd H9 u (.lst [])=H10 at e1 d1⊢;refine ⟨_,rfl,lo,rfl,⟨F,SqL.of ((a1.trans (d1.trans hide_same)) _ _ e7)⟩,?_⟩;refine z3y (K:=KX w.params) (a:=lo) (xs:=F) (λ j σ D=>∃C sts,Same H9 (hide u D)/\D u=some (.lst C)/\C.length<=j/\All2 (OrdAt (hide u D)) sts C/\(∀st,st∈sts↔∃row∈(rws rs.length rs.length).take j,st=hrd ps (z0 f) row/\RtP m rs st)/\∃x7 x8 x9 x10,σ=[some (.ref sc),some (.ref r),some (.ref t),some (.ref la),some (.ref lo),some (.str (z0x m)),some (.ref u),x7,x8,x9,x10])
   ⟨[],[],d1,e1,A0 _,.nil,λ st=>⟨λ h=>absurd h o0,λ ⟨row,h,_⟩=>absurd h (by rw [o4];exact o0)⟩,_,_,_,_,rfl⟩ (λ j σ D _ h=>SqL.of ((a1.trans (h.choose_spec.choose_spec.1.trans hide_same)) _ _ e7)) ?_ ?_
  ·rintro j y σ b1 hy ⟨C,sts,s11,e11,vl,Y,ms,x7,x8,x9,x10,rfl⟩;obtain ⟨row,M,⟨o,Z,rfl,S,U⟩,ia⟩:=z09 d8 hy;obtain ⟨o1,o2,o3⟩:=d3 (G0 M);have a0:Same H7 b1:=a1.trans (s11.trans hide_same);have isA :∀s∈hrd ps (z0 f) row,IsA s.2:=λ s W=>(ia s W).isA;have d0:=z7r (ps:=ps) (ns:=row) (z:=z0 f);have lt :∀n∈(hrd ps (z0 f) row).map (·.1),n < rs.length:=by rw [d0];exact o2
   have hl:(hrd ps (z0 f) row).length=row.length:=by have:=congrArg u6 d0;rwa [D0] at this
   have dn:DoneS ps (z0 f) (hrd ps (z0 f) row):=zbg (by rw [PO.ln];exact o2);have nd:((hrd ps (z0 f) row).map (·.1)).Nodup:=by rw [d0];exact o1
   have xi:=znh (e3 m) nd lt dn;have d9 :∀st,(∃X∈(rws rs.length rs.length).take (j + 1),st=hrd ps (z0 f) X/\RtP m rs st)↔(∃X∈(rws rs.length rs.length).take j,st=hrd ps (z0 f) X/\RtP m rs st)\/(st=hrd ps (z0 f) row/\RtP m rs st):=λ st=>by
    rw [S7,M];constructor
    ·rintro ⟨X,I,B⟩;rcases List.mem_append.mp I with z|z
     ·exact .inl ⟨X,z,B⟩
     ·rw [List.mem_singleton.mp z] at B;exact .inr B
    ·rintro (⟨X,I,B⟩|h)
     ·exact ⟨X,List.mem_append.mpr (.inl I),B⟩
     ·exact ⟨row,List.mem_append.mpr (.inr (List.mem_singleton.mpr rfl)),h⟩
   generalize hrd ps (z0 f) row=st at U isA lt hl xi d9 nd;refine g_name ?_;refine z0s ?_;refine ⟨_,rfl,_,rfl,_,rfl,la,o,zs,Z,rs,_,m,os,st,rfl,a0 _ _ g0,z01 (λ _ _ z=>ActAt.same a0 z) f9,DI,by omega,ra,a0 _ _ S,z01 (λ _ _ z=>OaAt.same a0 z) U,isA,lt,by omega,λ b f5 J hb=>?_⟩;refine g_name ?_;refine z0s ?_;refine ⟨_,rfl,_,rfl,_,rfl,o,Z,rfl,.inl (SqL.of ((a0.trans J) _ _ S)),λ a9 a6=>?_⟩;have d6:=(a0.trans J).trans (Same.upd (o:=.lst Z) a6);refine ⟨t,a9,Z,f,d,ps,st,m,rfl,g5.tt (.of d6),ok,f7,wf,by rw [hrs];exact z01 (λ _ _ z=>RcGd.tt (.of d6) z) g3,upd_same,z01 (λ _ _ z=>OaAt.same d6 z) U,nd,λ s W=>⟨by rw [hrs];exact lt _ (List.mem_map.mpr ⟨s,W,rfl⟩),isA s W⟩,λ b2 e9 g4 e2=>?_⟩;rw [hrs] at e2;refine g_name ?_;have bb:b2=b:=by rw [Bool.eq_iff_iff,hb,e2];exact xi
   subst bb;have b8:Same b1 e9:=(J.trans (Same.upd (o:=.lst Z) a6)).trans g4;have d4:=b8 _ _ e11;have f6:=z01 (λ _ _ z=>OrdAt.same (z2b (r:=u) b8) z) Y;have b5:Same H9 (hide u e9):=s11.trans (z2b b8);have h8:o≠u:=λ z=>by have:=a1 _ _ S;rw [z,e0] at this;cases this
   refine sq_if (t_or ?_);refine ⟨_,rfl,.bl b2,"bool",_,rfl,rfl,by decide,_,rfl,?_⟩;refine iteN (by decide) ?_;refine ⟨_,rfl,_,rfl,rfl,_,rfl,?_⟩;refine iteN (by rw [decide_eq_true rfl];decide) ?_;refine tn_x (t_nx ?_);refine ⟨_,rfl,_,rfl,ite2 (λ c9=>?_) λ c9=>?_⟩
   ·refine ⟨_,rfl,.inl ⟨rfl,_,SqL.of d4⟩,?_⟩;refine ⟨_,rfl,u,C,_,rfl,rfl,d4,B1 (m:=100) (by have:=(List.getElem?_eq_some_iff.mp hy).1;omega) (by decide),?_⟩;refine ⟨C++[.ref o],sts++[st],by rw [z4r];exact b5,upd_same,by rw [F0];show C.length + 1<=j + 1;omega,?_,λ g2=>?_,_,_,_,_,rfl⟩
    ·rw [z4r];refine z0y f6 ⟨o,Z,rfl,b5 _ _ (a1 _ _ S),z01 (λ _ _ z=>OaAt.same (a1.trans b5) z) U⟩
    ·rw [d9,G8,ms,C7];exact or_congr Iff.rfl ⟨λ z=>⟨z,by rw [z];exact hb.mp c9⟩,λ z=>z.1⟩
   ·refine ⟨C,sts,b5,d4,by omega,f6,λ g2=>?_,_,_,_,_,rfl⟩;rw [d9,ms];exact ⟨.inl,λ z=>z.resolve_right λ y=>c9 (hb.mpr (by rw [<-y.1];exact y.2))⟩
  ·rintro σ b1 ⟨C,sts,s11,e11,vl,Y,ms,x7,x8,x9,x10,rfl⟩;rw [ly,Q5] at ms;have a0:Same H7 b1:=a1.trans (s11.trans hide_same);have Y:=z01 (λ _ _ z=>OrdAt.same hide_same z) Y;have e4 :∀row∈rws rs.length rs.length,∀s∈hrd ps (z0 f) row,AnsV s.2:=λ row M=>by obtain ⟨i,hi⟩:=List.mem_iff_getElem?.mp M;obtain ⟨y,_,h⟩:=z0q d8 hi;exact h.2
   refine t_nx (z0s ?_);refine ⟨_,rfl,_,rfl,t,f,d,ps,m,rfl,f3.same a0,λ f5 J e6=>?_,λ lt Z o pl f5 J g9 U wk fu=>?_⟩
   ·rw [hrs] at e6;have se:sts=[]:=by
     cases sts with
     | nil=>rfl
     | cons st r=>obtain ⟨row,I,B,h3⟩:=(ms st).mp Q0;obtain ⟨o1,o2,o3⟩:=d3 I;obtain ⟨pl,h4,h5⟩:=zkz PO DI (e3 m) (st:=st) (by rw [B,z7r];exact o1) (by rw [B,z7r];exact o2) (by rw [B];exact zbg (by rw [PO.ln];exact o2)) h3;exact absurd h5 (e6 st pl h4)
    subst se;cases Y;have a3:=J _ _ e11;refine g_name ?_;refine t_ifS (t_or ?_);refine ⟨_,rfl,w_0,λ a9 a6=>?_⟩;have a7:=Same.upd (o:=.lst []) a6;refine ⟨u,a9,[],rfl,rfl,SqL.of (a7 _ _ a3),SqL.of upd_same,_,rfl,?_⟩;refine iteP (decide_eq_true rfl) ?_;refine ⟨_,rfl,rfl,_,rfl,?_⟩;refine iteN (by show ¬ (!decide (V.non=V.non))=true;decide) ?_;refine ⟨_,rfl,w_0,λ d7 b9=>?_⟩;have O:=a7.trans (Same.upd (o:=.lst []) b9);refine ⟨u,d7,[],rfl,rfl,SqL.of (O _ _ a3),SqL.of upd_same,_,rfl,?_⟩;refine iteN (λ z=>of_decide_eq_true z rfl) (iteF ?_);exact ⟨s9.trans ((s11.trans hide_same).trans (J.trans O)),_,_,_,_,_,_,rfl⟩
   ·rw [hrs] at wk fu;obtain ⟨rt,S,nd,f4⟩:=zli PO wk fu;have M:o.map (·.1)∈rws rs.length rs.length:=rws_mem.mpr ⟨nd,f4,z3b _ _ nd f4⟩;have om:o∈sts:=(ms o).mpr ⟨_,M,S,rt⟩;have aA :∀s∈o,AnsV s.2:=by rw [S];exact e4 _ M
    have sA :∀st∈sts,∀s∈st,AnsV s.2:=λ st a8=>by obtain ⟨row,I,B,_⟩:=(ms st).mp a8;rw [B];exact e4 _ I
    have vn:C≠[]:=λ z=>by rw [z] at Y;cases Y;cases om
    have a3:=J _ _ e11;have g7:=z01 (λ _ _ z=>OrdAt.same J z) Y;refine g_name ?_;refine t_ifS (t_or ?_);refine ⟨_,rfl,w_0,λ a9 a6=>?_⟩;have a7:=Same.upd (o:=.lst []) a6;refine ⟨u,a9,C,rfl,rfl,SqL.of (a7 _ _ a3),SqL.of upd_same,_,rfl,?_⟩;refine iteN (λ z=>vn (of_decide_eq_true z)) (iteF ?_);refine ⟨_,rfl,w_0,λ d7 b9=>?_⟩;have O:=a7.trans (Same.upd (o:=.lst []) b9);refine ⟨u,d7,C,rfl,rfl,SqL.of (O _ _ a3),SqL.of upd_same,_,rfl,?_⟩;refine iteP (decide_eq_true vn) ?_;have any:(sts.map ordD).any (λ e=>e.eqv (ordD o))=true:=List.any_eq_true.mpr ⟨ordD o,List.mem_map.mpr ⟨o,om,rfl⟩,(zhe _ _ (z5n aA) (z5n aA)).mpr rfl⟩;refine ⟨_,rfl,_,rfl,ordD o,sts.map ordD,ord_pd (λ s W=>(aA s W).isA) ⟨lt,Z,rfl,O _ _ g9,z01 (λ _ _ z=>OaAt.same O z) U⟩,.inl ⟨u,C,rfl,SqL.of (O _ _ a3),zn0 (λ st a8 s W=>(sA st a8 s W).isA) (z01 (λ _ _ z=>OrdAt.same O z) g7)⟩,z5n aA,z1g λ st a8=>z5n (sA st a8),zmf aA,_,rfl,?_⟩;refine iteN (by show ¬ (!(sts.map ordD).any (λ e=>e.eqv (ordD o)))=true;rw [any];decide) ?_;exact ⟨s9.trans ((s11.trans hide_same).trans (J.trans O)),_,_,_,_,_,_,rfl⟩
end
theorem all_law {P:Program} {w:S0} {mg:Str->Option Value} {base:Heap} (T:TX (kx w) mg):Fo P w mg base CX0 9 439 fd_law ["script"] (sp_law (kx w)):=by have m:=@cal_mk P w (kx w) mg base;have f:=m T (z5s _) (zeq _) (zgx _) (zdq T );have r:=m T (z53 _) (zej _) (zec _) (zb8 T f);have q:=m T (z6z _) (zem _) (zgn _) (zdi T r);have h:=m T (z33 _) (z9e _) (zai _) (z85 T );have d:=m T (z8n _) (zim _) (zii _) (zfm T );have M:=m T (z8t _) (zhv _) (zir _) (zhn T d q h);have E:=m T (z3m _) (z72 _) (zbr _) (z99 T );have G:=m T (z30 _) (z5b _) (zap _) (z94 T );have B:=m T (z1y _) (z3k _) (z75 _) (z6h T );have a1:=m T (z3z _) (z6r _) (zc1 _) (z9q T );have Y:=m T (z44 _) (z62 _) (zax _) (za4 T );have y:=m T (z3o _) (z73 _) (zb3 _) (z9h T );have R:=m T (z2d _) (z4c _) (z8l _) (z7d T );have p:=m T (z27 _) (z4d _) (z8v _) (z7b T );have J:=m T (z40 _) (z61 _) (zcb _) (z9b T );have j:=m T (F_do _) (g_do _) (b_do _) (ok_do T M E G B Y y R p J a1);have i:=m T (z2o _) (za6 _) (zaa _) (z8o T d);have b:=m T (zgt _) (zm5 _) (zmu _) (zko T );have A:=m T (z3n _) (zbj _) (zbv _) (zae T );have x:=m T (z17 _) (z51 _) (z4u _) (z48 T );have k:=m T (zbb _) (zl0 _) (zkq _) (zi5 T b x A);have e:=m T (z55 _) (zdm _) (zef _) (zc0 T );have a:=m T (z4t _) (zeh _) (zdx _) (zau T );have X:=m T (z3t _) (zb5 _) (zbc _) (z9r T a);have I:=m T (z6g _) (zg4 _) (zeo _) (ze4 T a X);have g:=m T (z3w _) (zbp _) (zbx _) (z9y T );have c:=m T (z4y _) (zeb _) (zdy _) (zc2 T );have Q:=m T (z2w _) (z9k _) (za8 _) (z8s T a);have H:=m T (z3q _) (zb6 _) (zav _) (z9a T a c);have z:=m T (z4x _) (ze5 _) (zdr _) (zay T e a Q g H I c);have L:=m T (z4z _) (ze8 _) (ze6 _) (zbw T );have n:=m T (z4s _) (ze7 _) (zdw _) (zc7 T );have a0:=zby (P:=P) (w:=w) (base:=base) T;have V:=z2p (P:=P) (w:=w) (base:=base) T;have O:=m T (z8h _) (zj6 _) (ziq _) (zff T j);have Z:=m T (z1x _) (z79 _) (z7g _) (z6w T );have D:=m T (z50 _) (ze9 _) (zdl _) (zbk T );have l:=m T (z2r _) (zah _) (z96 _) (z86 T i);have F:=zke (P:=P) (w:=w) (base:=base) T k b l Z a0;have s:=z4o (P:=P) (w:=w) (base:=base) T V O;have u:=z65 (P:=P) (w:=w) (base:=base) T D;have v:=m T (zbm _) (zl3 _) (zld _) (zie T F u s);have K:=m T (z95 _) (zj7 _) (zio _) (zfg T h f);have S:=m T (z6e _) (zf9 _) (zfk _) (zdv T K);have C:=m T (z6b _) (zhm _) (zgj _) (zdo T );have t:=m T (z3p _) (zb0 _) (zar _) (zaj T i j);have N:=m T (z64 _) (zex _) (zg0 _) (zdn T k b S C t);have W:=m T (z54 _) (ze3 _) (zed _) (zbe T );have a2:=m T (z3l _) (zbn _) (zb9 _) (zal T g c);have o:=m T (z43 _) (zbt _) (zbl _) (z9i T );have U:=m T (z42 _) (zc5 _) (zb1 _) (z98 T o L);exact ok_law T e a z n W a2 U N v
end K56
open PySem PySem.W PyProof.Rows
set_option maxRecDepth 100000 in
set_option maxHeartbeats 0 in
theorem PySem.Challenge.cw_talejudge_k56_whole_against_all_orders_holds : PySem.Challenge.rw_talejudge_k56_whole_against_all_orders.Holds := by
 w_on;o_law
 refine holds_open (q:=K56.viewX) (loose:=K56.looseX) (Xt:=K56.XtX) (XP:=XL K56.viewX []) (Yf:=Hook.obs K56.HX) (Ya:=Hook.val K56.HX) (YP:=Hook.says K56.HX) (N:=200000) K56.leftX (Hook.of K56.HX) (Hook.keeps K56.HX) (λ s e=>xl_of s (Bool.and_eq_true_iff.mp e).1) XL.keeps (by rfl) (by rfl) (by rfl) (λ s e=>recFacts_of (Bool.and_eq_true_iff.mp e).2) (by rfl) (by assumption) (by decide +kernel) ⟨rfl,rfl,rfl,rfl,rfl,by decide +kernel⟩ ?hw ?hc
 case hw=>w_witness2
 case hc=>
  refine L2.walk_of (l:=PySem.Challenge.rw_talejudge_k56_whole_against_all_orders) (n:=63) (k:=9) (x:="script") (K:=K56.KX) (CX:=λ _=>L2.CX0) (sp:=λ w=>K56.sp_law (K56.KX w.params)) rfl (by decide) rfl ⟨rfl,by decide,by decide,rfl⟩ (λ w h Y=>PySem.W.kIn_of Y) ?F ?S ?C
  case F=>intro w j r h KX G c;have T:=L2.TX.mk' KX G;have f:=c.symm.trans (T.of (K56.g_law _));cases f;exact ⟨K56.fd_law,λ s u=>.of_eq rfl,λ p o m=>K56.all_law T⟩
  case S=>exact λ w H a b d i g=>⟨a,b,rfl,g,d,λ _=>rfl⟩
  case C=>exact λ _ _ _ _ _ z=>z
