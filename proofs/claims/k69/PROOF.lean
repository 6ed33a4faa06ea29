import PyProof.Rows.All
import Wide.All
import OpenK.AllK
import Wide.FinOn
import Lean
import PyProof.EqAt
import PyProof.EqKinds
import PyProof.TupleCall
import Open.Tops
import KE.KIntText
import PyProof.ZipIter
import PyProof.ReprRoads
import PyProof.Draws
import KE.KDictSum
import KE.KSortedM
import OpenK.KRaise
import OpenK.KOwn
import PyProof.ExcBaseAll.ValueError
import KE.KTryMore
import PyProof.NsDelKeeps
import KE.KDictOf
import KE.KEqDict
import PyProof.DictWalks
import PyProof.TupleKey
import PyProof.MinMaxWalk
import KE.KSortTup
import PyProof.StrWalks
import KE.KRevIter
import KE.KListMore
import PyProof.StrLawsTight
import PyProof.StrLawsChain
import PySem.Challenge.RW_talejudge_k69_bad_beginnings
open PySem.W renaming Frag->b0,kia_one->O2,keepIn->V2,findIn->W2,instObj->P3,fnOf->i5,nsIn->S5,callWith_K->X5,plainGet->E6,lookIn->E7,codeIn->F7,plainGet_of->S7,methodObj->t8,hasDictIn->u8,takerIn->X8,isFn->j02,cellsFrom_some->j03,specialIn->j22,plainOver->j23,kitx_list->j24,kitx_dict->j25
open PySem.PyData renaming keyHash->c0,depthAll->K2,int->B3,canLayAll0->y6,strOk->U6,depth->j0c
open PySem.Builtin.Tuple renaming tupleHashOf->o0,tupleExact->J4,tupleItemsOf->A8
open PySem renaming wpAny_bind->t0,Shared->B0,wpAny_pure->L0,Params->N0,World->P0,wpAny->R0,model->C1,reduceHash->J1,starEach->P1,Around->X1,compareOp->C2,OsState->D2,sliceBounds->F2,wpAny_newObj_type->Q2,mainGlobals->S2,treeTable->U2,wpAny_truthy_bool->Y2,sysModules->Z2,eval->d3,wpAny_mono->m3,wpAny_call_entry->u3,wpAny_callSpecial?_slot->E3,boot_len->M3,eqIsQuiet->W3,attributeBase->j4,binaryOp->A4,wpAny_typeNameOfWhole_keyiter->D4,backTo->E4,wpAny_passesOwn->P4,wpAny_holding->R4,foldedSetIterable->T4,mem_of_lookup->U4,NameKind->Y4,wpAny_pyIter_tuple->A5,wpAny_Call_Name_kw->B5,tupleKind->G5,placesWithHash->N5,swapsWith->V5,wpAny_field->c6,callSpecialIfBoundUnlessNone?->d6,importedModules->r6,bootBuiltins->B6,Keyword->L6,tupleKind_room_in1->Q6,wpAny_pyIter_enum->d7,relabel->g7,keywordEach->i7,getItem->m7,behindInMarks->A7,atKey->R7,strKind_is->X7,assignEach->Z7,Paired->a8,IsPart->c8,wpAny_execs_nil->g8,typeNameOfWhole->i8,letOwnedTupleGo->j8,wpAny_setField->K8,firstArgMember->L8,valueAt->P8,codeAny->Q8,wpAny_typeOf->B9,wpAny_pyIter_list->C9,wpAny_dictEntries->D9,holding->E9,codeAny_mono->G9,callerA->K9,backToKw->L9,rawInt->j00,noFill_tuple_add->j01,subscripted->j07,wpAny_dictEpoch->j0i,Within->j0j,standAt->j14,Builtin->j19,wpAny_seqItems->j1b,wpAny_rule->j1c,wpAny_letOwnedTupleGo_enum->j1d,pyNext->j1f,Thread->j1i,ReadsAll->j20
open List renaming not_mem_nil->u0,length_map->F0,length_append->G0,getElem?_eq_getElem->K0,size_toArray->O0,mem_of_getElem?->Q0,length_cons->W0,map_cons->Y0,mem_cons_of_mem->Z0,mem_cons_self->j1,getElem?_map->A1,getElem?_append_left->B1,map_append->E1,mem_append_right->K1,mem_cons->L1,range->N1,getElem?_append_right->O1,replicate->S1,forall_mem_cons->V1,getElem?_cons_succ->W1,append_nil->j2,length_range->E2,getElem?_cons_zero->J2,getElem?_modify->N2,length_filter_le->P2,map_map->T2,length_replicate->i3,take_length->K3,length_take->L3,find?_cons->Q3,take_succ_eq_append_getElem->S3,lookup_cons->X3,filter_cons_of_pos->Y3,filter_cons_of_neg->Z3,filter_cons->d4,map_nil->u4,dropLast_concat_getLast->B4,nodup_append->F4,forIn_cons->Z4,length_modify->d5,take_of_length_le->o5,drop_zero->u5,getElem?_eq_none->L5,length_drop->M5,mem_append_left->Q5,lookup->R5,forIn_nil->m6,filter_append->o6,append_assoc->K6,take_nil->M6,length_filterMap_le->N6,getElem?_take_of_lt->O6,any_cons->P6,getElem?_replicate->V6,ext_getElem->W6,any_eq_true->X6,all_eq_true->Y6,range_succ->L7,of_mem_zip->M7,length_nil->N7,getElem?_range->n8,filterMap_cons->o8,getElem_range->E8,set_eq_take_append_cons_drop->O8,getElem?_inj->S8,foldl_append->U8,ext_getElem?->V8,getElem_mem->Z8,getElem_map->c9,length_set->u9,take_zero->U9,drop_eq_getElem_cons->j05,filterMap_cons_some->j0d,filterMap_cons_none->j0e,pairwise_mergeSort->j13,getElem?_set_self->j16,any_map->j17,getElem?_toArray->j21,length->j27,getElem?_set_ne->j28,dropLast_concat->j29
open Nat renaming le_refl->A0,le_trans->C0,lt_of_lt_of_le->u1,ne_of_lt->G1,lt_of_le_of_lt->R1,lt_succ_of_lt->Y1,zero_le->Z1,lt_succ_self->B2,le_succ->A3,le_of_lt->G3,lt_irrefl->J3,not_lt_zero->R3,ne_of_gt->U3,le_succ_of_le->O4,le_of_eq->C5,succ_le_succ->O5,mul_le_mul_right->T5,zero_add->G7,sub_self->K7,mul_le_mul->b8,le_of_not_lt->m9,min_eq_left->N9,add_assoc->j12
open PySem.Heap renaming get?_push_of_some->D0,lt_size->S0,get?_push_size->X0,size_push->N3,SameBut->z5,get?_update_self->P7,get?_update_other->j18
open Bool renaming false_ne_true->M0,and_eq_true->A2,false_and->W7,true_and->C8,false_eq_true->F8,not_eq_true->j9,and_false->Y9,not_true->j0g,false_or->j0h
open Or renaming inr->U0,inl->V0
open PySem.Value renaming ref->F1,bool->T3,none->Q4,str->K5,isStrOf->C6,int->R6,type->M9,float->j1h
open Option.some renaming inj->Q1
open PySem.NameKind renaming free->T1
open PySem.PassesOwn renaming never->U1
open ForInStep renaming yield->G2
open Pure renaming pure->X2,pure->j10
open PyProof.Rows renaming callWith_type1->j3,boot_isinstance->F3,slot_tuple_getitem->O3,boot_tuple->i4,AllBare->z7,envOfC->Y7,IntsAre->d8,boot_sorted->M8,subscriptTail->Y8,StrsAre->j15,tail_any->j1e,boot_int->j1g,Subscript_->j1j
open False renaming elim->C3
open Ne renaming symm->V3
open PySem.Builtin.SmallTypes renaming nextOf->o4,ownedTupleFields->y4
open PySem.Builtin.Slice renaming slicePlaces->C4,sliceAdjust->P5,sliceApplied->B8
open PySem.F renaming slot_dict_keyiterator_next->G4,slot_tuple_iterator_next->V4,args_tuple_add_2->u6,plainAttrs_list->F6,entry_tuple_add->G6,slot_tuple_add->S6,slot_dict_get->b7,args_dict_keyiterator_next_1->O9,plainAttrs_dict->Q9,args_dict_get_3->R9,entry_dict_keyiterator_next->W9,entry_dict_get->j04,args_tuple_iterator_next_1->j06,slot_dict_pop->j0b,entry_tuple_iterator_next->j0f
open PySem.W.Fast renaming tw16697807410369149715->K4,tw13926502685295537346->L4,tw13383273872528276517->M4,te14364793385576792824->N4,tw4214721358667687652->S4,tw14364793385576792824->Z6
open Classical renaming propDecidable->X4,byContradiction->g9
open PySem.Calls renaming spliced_cons->c5,callWith_builtin->n5,spliced_nil->A6,evalArgs_plain->U7,Name_function_global->P9,call_function_entry->X9
open Int renaming emod_lt_of_pos->j5,toNat_natCast->E5,emod_nonneg->Y5,zero_add->j6,le_refl->z9
open PySem.Heap.SameBut renaming update->F5
open Array renaming length_toList->U5,getElem?_eq_getElem->Z9,getElem?_toList->j1a
open PySem.Builtin.Dict renaming notOrdered->Z5
open PySem.Str renaming ofString->i6
open Option renaming isSome_map->z6,map_some->c7,toList_none->m8,getD_some->R8,map->o9
open PySem.Builtin.Dict_items renaming ownsTuple->o7,isOneOf->Q7,slot0->V7
open Sum.inr renaming inj->B7
open Sum.inl renaming inj->C7
open PySem.Obj renaming mapDictKeys->O7,mapSeq->N8,mapFields->j11
open PUnit renaming unit->z8
open PySem.Around renaming under->G8
open PySem.Code renaming isFrame->W8,frames->j2b
open Decidable renaming byContradiction->d9
open PySem.Heap.IsSliceOf renaming new->A9
open ForIn renaming forIn->F9
open PySem.Paired renaming length->S9
open List.Pairwise renaming nil->V9
open PySem.SeqAt.EqAt renaming str_str->j08,str_int->j09,int_str->j0a
open Prod renaming ext->j26
open PySem.Data renaming fields->j2a
set_option maxRecDepth 100000
set_option maxHeartbeats 0
namespace PySem.W.Fast
noncomputable def tw10153864124556049211:=0
noncomputable def tw3330432219737297428:=0
noncomputable def tw12493825564652879763:=0
noncomputable def tw7519581136329760374:=0
noncomputable def tw12018081520031996197:=0
noncomputable def tw9528923917791537373:=0
noncomputable def tw12088824277989665122:=0
noncomputable def tw2669845740330188624:=0
noncomputable def tw8470834487292795294:=0
noncomputable def tw12281159849477836781:=0
noncomputable def tw15423299554997393945:=0
noncomputable def tw6720595297849799439:=0
noncomputable def tw885096174237117836:=0
noncomputable def tw9945073547464264379:=0
noncomputable def tw9999521587051794367:=0
end PySem.W.Fast
namespace K69
open_shared pre for PySem.Challenge.pw_talejudge_k69_bad_beginnings leaving 43
end K69
set_option maxHeartbeats 200000
-- CHANGE: your row's module here,as the last of these rows
set_option Elab.async false
set_option linter.all false
namespace L2
open PySem PySem.Spec PyProof.Rows
noncomputable abbrev Key:=Sum Int Str
noncomputable def keyIs:Key->Value->Bool
 | .inl k,v=>Value.isInt k v
 | .inr x,v=>C6 x v
noncomputable def keyH (w:P0):Key->Int
 | .inl k=>hashInt k
 | .inr x=>hashStr w x
theorem z0m :∀{k:Key} {v:Value},keyIs k v=true->(∃i t,k=Sum.inl i/\v=R6 i t)\/(∃x t,k=Sum.inr x/\v=K5 x t)
 | .inl i,v,h=>by obtain ⟨t,e⟩:=Value.isInt_shape (k:=i) (v:=v) h;exact .inl ⟨i,t,rfl,e⟩
 | .inr x,v,h=>by obtain ⟨t,e⟩:=Value.isStrOf_shape (x:=x) (v:=v) h;exact .inr ⟨x,t,rfl,e⟩
theorem zga (i:Int) (t:Tok):keyIs (.inl i) (.int i t)=true:=by simp [keyIs,Value.isInt]
theorem zgj (x:Str) (t:Tok):keyIs (.inr x) (.str x t)=true:=by simp [keyIs,C6]
theorem key_ll (a b:Int):decide ((Sum.inl a:Key)=Sum.inl b)=(a == b):=by
 by_cases e:a=b
 ·subst e;simp
 ·have h:¬ (Sum.inl a:Key)=Sum.inl b:=λ q=>e (C7 q);rw [decide_eq_false h];exact (beq_eq_false_iff_ne.mpr e).symm
theorem key_rr (a b:Str):decide ((Sum.inr a:Key)=Sum.inr b)=decide (a=b):=by
 by_cases e:a=b
 ·subst e;simp
 ·have h:¬ (Sum.inr a:Key)=Sum.inr b:=λ q=>e (B7 q);rw [decide_eq_false h,decide_eq_false e]
theorem key_lr (a:Int) (b:Str):decide ((Sum.inl a:Key)=Sum.inr b)=false:=decide_eq_false (λ q=>nomatch q)
theorem key_rl (a:Str) (b:Int):decide ((Sum.inr a:Key)=Sum.inl b)=false:=decide_eq_false (λ q=>nomatch q)
noncomputable def z11 (prog:Program) (w:P0):PySem.KeyKind prog w Key where
 is:=keyIs
 hash:=keyH w
 inj:=λ v a b ha hb=>by
  rcases z0m ha with ⟨i,t,rfl,rfl⟩|⟨x,t,rfl,rfl⟩
  ·rcases z0m hb with ⟨j,u,rfl,e⟩|⟨y,u,rfl,e⟩
   ·injection e with e1 _;rw [e1]
   ·exact nomatch e
  ·rcases z0m hb with ⟨j,u,rfl,e⟩|⟨y,u,rfl,e⟩
   ·exact nomatch e
   ·injection e with e1 _;rw [e1]
 byValue:=λ k v h=>by rcases z0m h with ⟨i,t,rfl,rfl⟩|⟨x,t,rfl,rfl⟩<;>rfl
 pyHash:=λ hv h=>by
  rcases z0m hv with ⟨i,t,rfl,rfl⟩|⟨x,t,rfl,rfl⟩
  ·exact wpAny_pyHash_int h
  ·exact wpAny_pyHash_str h
 eqBool:=λ hu hv h=>by
  rcases z0m hu with ⟨i,t,rfl,rfl⟩|⟨x,t,rfl,rfl⟩
  ·rcases z0m hv with ⟨j,u,rfl,rfl⟩|⟨y,u,rfl,rfl⟩
   ·rw [key_ll] at h;exact wpAny_eqBool_int h
   ·rw [key_lr] at h;exact j0a i t y u _ _ _ _ h
  ·rcases z0m hv with ⟨j,u,rfl,rfl⟩|⟨y,u,rfl,rfl⟩
   ·rw [key_rl] at h;exact j09 x t j u _ _ _ _ h
   ·rw [key_rr] at h;exact wpAny_eqBool_str h
 «strs»:=λ k x t v h=>by
  rcases z0m h with ⟨i,u,rfl,e⟩|⟨y,u,rfl,e⟩
  ·exact nomatch e
  ·injection e with e1 _;subst e1;cases v<;>rfl
theorem zcy (prog:Program) (w:P0) (i:Int) (t:Tok):(z11 prog w).is (.inl i) (.int i t)=true:=zga i t
theorem zd0 (prog:Program) (w:P0) (x:Str) (t:Tok):(z11 prog w).is (.inr x) (.str x t)=true:=zgj x t
inductive V where
 | non|bl (b:Bool)|int (i:Int)|str (x:Str)|byt (b:Array UInt8)|flt (b:UInt64)|ref (a:Addr)|ty (n:String)
 deriving DecidableEq
noncomputable def RelV:V->Value->Prop
 | .non,u=>u=Q4
 | .bl b,u=>u=T3 b
 | .int i,u=>∃t,u=R6 i t
 | .str x,u=>∃t,u=K5 x t
 | .byt b,u=>∃t,u=Value.bytes b t
 | .flt b,u=>∃t,u=j1h b t
 | .ref a,u=>u=F1 a
 | .ty n,u=>u=M9 n
abbrev Vals:List V->List Value->Prop:=a8 RelV
theorem Vals.length {xs:List V} {us:List Value} (r:Vals xs us):xs.length=us.length:=S9 r
theorem Vals.get :∀{xs:List V} {us:List Value} {i:Nat} {x:V},Vals xs us->xs[i]? = some x->∃u,us[i]? = some u/\RelV x u
 | _,_,_,_,.nil,e=>by simp at e
 | _,_,0,_,.cons r _,e=>by simp at e;subst e;exact ⟨_,rfl,r⟩
 | _,_,i + 1,x,.cons _ t,e=>by obtain ⟨u,b,a⟩:=Vals.get (i:=i) (x:=x) t (by simpa using e);exact ⟨u,by simpa using b,a⟩
theorem Vals.set {x:V} {u:Value} (r:RelV x u) :∀{xs:List V} {us:List Value} (i:Nat),Vals xs us->Vals (xs.set i x) (us.set i u)
 | _,_,_,.nil=>.nil
 | _,_,0,.cons _ t=>.cons r t
 | _,_,i + 1,.cons q t=>.cons q (Vals.set r i t)
theorem Vals.append :∀{xs ys:List V} {us ws:List Value},Vals xs us->Vals ys ws->Vals (xs++ys) (us++ws)
 | _,_,_,_,.nil,s=>s
 | _,_,_,_,.cons r t,s=>.cons r (Vals.append t s)
theorem Vals.take :∀{xs:List V} {us:List Value} (n:Nat),Vals xs us->Vals (xs.take n) (us.take n)
 | _,_,0,_=>.nil
 | _,_,_ + 1,.nil=>.nil
 | _,_,n + 1,.cons r t=>.cons r (Vals.take n t)
theorem Vals.drop :∀{xs:List V} {us:List Value} (n:Nat),Vals xs us->Vals (xs.drop n) (us.drop n)
 | _,_,0,r=>r
 | _,_,_ + 1,.nil=>.nil
 | _,_,n + 1,.cons _ t=>Vals.drop n t
noncomputable def RelO:Option V->Option Value->Prop
 | some v,some u=>RelV v u
 | none,none=>True
 | _,_=>False
def KV {κ:Type}:List (κ×V)->List (κ×Value)->Prop:=a8 λ (p:κ×V) (q:κ×Value)=>p.1=q.1/\RelV p.2 q.2
noncomputable def kV:Key->V
 | .inl i=>.int i
 | .inr x=>.str x
inductive HO where
 | lst (xs:List V)
 | tup (xs:List V)
 | dK (kvs:List (Key×V))|dT (kvs:List (List Key×V))
 | set (S:Int->Bool) (n:Nat)
 | ins (C dx:Addr) (fs:List (Str×V))
 | own (x:Addr)
 | xd (fs:List (Str×V))
 | met (f x:Addr)
 | rng (lo hi:Int)
 | frz (o:Obj) (u:HO)
 | tbl (ps:Array Value)
 | ext (φ:Heap->Prop)
noncomputable abbrev Hp:=Addr->Option HO
noncomputable def upd (H:Hp) (a:Addr) (o:HO):Hp:=λ b=>if b=a then some o else H b
theorem upd_same {H:Hp} {a:Addr} {o:HO}:upd H a o a=some o:=by unfold upd;rw [if_pos rfl]
theorem upd_ne {H:Hp} {a b:Addr} {o:HO} (h:b≠a):upd H a o b=H b:=by unfold upd;rw [if_neg h]
theorem ne_of {H:Hp} {a b:Addr} {o u:HO} (h:H a=some o) (h':H b=some u) (d:o≠u):a≠b:=by intro e;subst e;rw [h] at h';exact d (Q1 h')
theorem z07 {H:Hp} {a b:Addr} {o:HO} (h:H a=some o) (h':H b=none):a≠b:=by intro e;subst e;rw [h] at h';cases h'
section
variable (P:Program) (w:P0)
def IsTupN (h:Heap) (a:Addr) (items:Array Value):Prop:=IsTup h a items/\∃o,h.get? a=some o/\o.dict=none
theorem IsTupN.new (h:Heap) (items:Array Value):IsTupN (h.push { cls:=.type "tuple",data:=.seq items }) h.objs.size items:=⟨IsTup.new _ _,_,X0 _ rfl,rfl⟩
noncomputable def ObjOk (H:Hp) (h:Heap) (a:Addr):HO->Prop
 | .lst xs=>xs.length<=sizeLine/\∃(its:List Value) (n:Nat),Vals xs its/\h.get? a=some { cls:=.type "list",data:=.seq its.toArray n }
 | .tup xs=>xs.length<=sizeLine/\∃its:List Value,Vals xs its/\IsTupN h a its.toArray
 | .dK kvs=>kvs.length<=sizeLine/\(a == Z2)=false/\∃vs,KV kvs vs/\h.DictOf (z11 P w) a vs
 | .dT kvs=>kvs.length<=sizeLine/\(a == Z2)=false/\∃xs:List (List Key×Addr×Value),
   a8 (λ (p:List Key×V) (q:List Key×Addr×Value)=>p.1=q.1/\H q.2.1=some (.tup (p.1.map kV))/\RelV p.2 q.2.2) kvs xs/\
   ∃o es ep,h.get? a=some o/\o.ExactDict/\o.data=.dict es ep/\es.toList=xs.map (entryOfKey (G5 (z11 P w)))/\(xs.map (·.1)).Nodup
 | .set S n=>h.SetOf (intKind P w) a S n
 | .ins C dx fs=>H dx=some (.own a)/\fs.length<=1000/\dx≠a/\h.get? a=some (P3 C dx)/\
   ∃mA,h.Ns1 dx mA/\(∀f,RelO (fs.lookup f) (mA f))/\j0j mA (fs.map (·.1))
 | .own _=>∃o,h.get? a=some o
 | .xd fs=>∃mA,h.Ns1 a mA/\∀f,RelO (fs.lookup f) (mA f)
 | .rng lo hi=>∃t u v,h.get? a=some { cls:=.type "range",data:=.fields #[.int lo t,.int hi u,.int 1 v] }
 | .frz o u=>h.get? a=some o/\ObjOk H h a u
 | .tbl ps=>h.get? a=some { cls:=.none,data:=.fields ps }
 | .met f x=>h.get? a=some (t8 (.ref f) (.ref x))
 | .ext φ=>φ h/\(∃o,h.get? a=some o)/\∀h1 h2:Heap,φ h1->(∀o,h1.get? a=some o->h2.get? a=some o)->φ h2
def HOk (H:Hp) (h:Heap):Prop:=∀a o,H a=some o->ObjOk P w H h a o
end
section
variable {P:Program} {w:P0} {H H':Hp} {h h':Heap} {a:Addr} {o:HO}
theorem ObjOk.lt (x:ObjOk P w H h a o):a < h.objs.size:=by
 cases o with
 | lst xs=>obtain ⟨_,_,_,_,e⟩:=x;exact S0 e
 | tup xs=>obtain ⟨_,_,_,p⟩:=x;exact p.1.lt
 | dK kvs=>obtain ⟨_,_,_,_,o,_,_,e,_⟩:=x;exact S0 e
 | dT kvs=>obtain ⟨_,_,_,_,o,_,_,e,_⟩:=x;exact S0 e
 | set S n=>obtain ⟨o,_,_,_,e,_⟩:=x;exact S0 e
 | ins C dx fs=>obtain ⟨_,_,_,e,_⟩:=x;exact S0 e
 | own y=>obtain ⟨_,e⟩:=x;exact S0 e
 | xd fs=>obtain ⟨_,⟨_,_,_,e,_⟩,_⟩:=x;exact S0 e
 | rng lo hi=>obtain ⟨_,_,_,e⟩:=x;exact S0 e
 | frz ob u=>obtain ⟨e,_⟩:=x;exact S0 e
 | tbl ps=>exact S0 (show h.get? a=some _ from x)
 | met f y=>exact S0 (show h.get? a=some _ from x)
 | ext φ=>obtain ⟨_,⟨_,e⟩,_⟩:=x;exact S0 e
theorem Paired.mapP {α β:Type} {F G:α->β->Prop} :∀{l₁:List α} {l₂:List β},a8 F l₁ l₂->(∀a b,F a b->G a b)->a8 G l₁ l₂
 | _,_,.nil,_=>.nil
 | _,_,.cons r t,f=>.cons (f _ _ r) (Paired.mapP t f)
theorem ObjOk.stay (x:ObjOk P w H h a o) (k :∀b u,(b=a\/H b=some (.own a))->h.get? b=some u->h'.get? b=some u)
  (ho :∀b,H b=some (.own a)->H' b=some (.own a)) (ht :∀b xs,H b=some (.tup xs)->H' b=some (.tup xs)):ObjOk P w H' h' a o:=by
 induction o with
 | lst xs=>obtain ⟨z,s,n,r,e⟩:=x;exact ⟨z,s,n,r,k _ _ (.inl rfl) e⟩
 | tup xs=>obtain ⟨z,s,r,⟨g,e,c⟩,G,A,D⟩:=x;exact ⟨z,s,r,⟨g,k _ _ (.inl rfl) e,c⟩,G,k _ _ (.inl rfl) A,D⟩
 | dK kvs=>obtain ⟨z,y,E,r,g,i,j,e,c⟩:=x;exact ⟨z,y,E,r,g,i,j,k _ _ (.inl rfl) e,c⟩
 | dT kvs=>obtain ⟨z,y,xs,r,g,i,j,e,c⟩:=x;exact ⟨z,y,xs,Paired.mapP r λ p q z=>⟨z.1,ht _ _ z.2.1,z.2.2⟩,g,i,j,k _ _ (.inl rfl) e,c⟩
 | set S n=>obtain ⟨g,i,j,t,e,c⟩:=x;exact ⟨g,i,j,t,k _ _ (.inl rfl) e,c⟩
 | ins C dx fs=>obtain ⟨d,z,F,e,l,⟨m,i,j,A,c⟩,r⟩:=x;exact ⟨ho _ d,z,F,k _ _ (.inl rfl) e,l,⟨m,i,j,k _ _ (.inr d) A,c⟩,r⟩
 | own y=>obtain ⟨g,e⟩:=x;exact ⟨g,k _ _ (.inl rfl) e⟩
 | xd fs=>obtain ⟨l,⟨m,i,j,e,c⟩,r⟩:=x;exact ⟨l,⟨m,i,j,k _ _ (.inl rfl) e,c⟩,r⟩
 | rng lo hi=>obtain ⟨t,u,v,e⟩:=x;exact ⟨t,u,v,k _ _ (.inl rfl) e⟩
 | frz g u ih=>obtain ⟨e,q⟩:=x;exact ⟨k _ _ (.inl rfl) e,ih q⟩
 | tbl ps=>have e:h.get? a=some { cls:=.none,data:=.fields ps }:=x;show h'.get? a=some { cls:=.none,data:=.fields ps };exact k a _ (.inl rfl) e
 | met f y=>have e:h.get? a=some (t8 (.ref f) (.ref y)):=x;show h'.get? a=some (t8 (.ref f) (.ref y));exact k a _ (.inl rfl) e
 | ext φ=>obtain ⟨p,⟨o,e⟩,B⟩:=x;exact ⟨B _ _ p λ o q=>k _ _ (.inl rfl) q,⟨o,k _ _ (.inl rfl) e⟩,B⟩
theorem HOk.lt (x:HOk P w H h) (e:H a=some o):a < h.objs.size:=(x a o e).lt
theorem HOk.fresh (x:HOk P w H h) (e:h.objs.size<=a):H a=none:=by
 cases q:H a with
 | none=>rfl
 | some u=>exact absurd (u1 (x.lt q) e) (J3 _)
theorem HOk.kept (x:HOk P w H h) (k :∀b u,h.get? b=some u->h'.get? b=some u):HOk P w H h':=λ a o e=>(x a o e).stay (λ b u _ q=>k b u q) (λ _ q=>q) λ _ _ q=>q
theorem HOk.laid (x:HOk P w H h) (k :∀b u,h.get? b=some u->h'.get? b=some u) (hp:h.objs.size<=a) (new:ObjOk P w (upd H a o) h' a o):HOk P w (upd H a o) h':=λ b u e=>by
 have d:=x.fresh hp;by_cases hb:b=a
 ·subst hb;rw [upd_same] at e;cases e;exact new
 ·rw [upd_ne hb] at e;exact (x b u e).stay (λ c v _ q=>k c v q) (λ c q=>by rw [upd_ne (z07 q d)];exact q) λ c f q=>by rw [upd_ne (z07 q d)];exact q
end
def Rd (H:Hp) (a:Addr) (u:HO):Prop:=H a=some u\/∃o,H a=some (.frz o u)
theorem Rd.ok {P:Program} {w:P0} {H:Hp} {h:Heap} {a:Addr} {u:HO} (r:Rd H a u) (x:HOk P w H h):ObjOk P w H h a u:=by
 rcases r with r|⟨o,r⟩
 ·exact x a u r
 ·obtain ⟨_,q⟩:=x a _ r;exact q
noncomputable def Mut:Option HO->Prop
 | some (.lst _)=>True
 | some (.dK _)=>True
 | some (.dT _)=>True
 | some (.set _ _)=>True
 | some (.ins _ _ _)=>True
 | some (.ext _)=>True
 | _=>False
section
variable {P:Program} {w:P0} {H:Hp} {h h':Heap} {x e:Addr} {o':HO}
theorem HOk.write (ok:HOk P w H h) (mu:Mut (H x)) (he:e=x\/H e=some (.own x)) (k :∀b u,b≠e->h.get? b=some u->h'.get? b=some u) (heo :∃u,h'.get? e=some u)
  (new:ObjOk P w (upd H x o') h' x o'):HOk P w (upd H x o') h':=λ b u q=>by
 have g :∀c y,H c=some (.own y)->c≠x:=λ c y r z=>by subst z;rw [r] at mu;exact mu
 have i :∀c a,H c=some (.tup a)->c≠x:=λ c a r z=>by subst z;rw [r] at mu;exact mu
 by_cases hb:b=x
 ·subst hb;rw [upd_same] at q;cases q;exact new
 ·rw [upd_ne hb] at q;by_cases hbe:b=e
  ·have f:H b=some (.own x):=by
    rcases he with z|z
    ·exact absurd (hbe.trans z) hb
    ·rw [hbe];exact z
   rw [q] at f;cases f;obtain ⟨v,j⟩:=heo;exact ⟨v,by rw [hbe];exact j⟩
  ·refine (ok b u q).stay (λ c v d r=>k c v ?_ r) (λ c r=>by rw [upd_ne (g c b r)];exact r) λ c a r=>by rw [upd_ne (i c a r)];exact r
   rcases d with rfl|d
   ·exact hbe
   ·rintro rfl;rcases he with z|z
    ·exact g c b d z
    ·rw [d] at z;cases z;exact hb rfl
end
structure Un (fs ex:List Addr) (H H':Hp) (h h':Heap):Prop where
 keep :∀b o,h.get? b=some o->H b=none->b∉fs->b∉ex->h'.get? b=some o
 slot :∀b o,h.get? b=some o->H b=none->b∈fs->b∉ex->∃sl,h'.get? b=some { o with slots:=sl }
 free :∀b o,h.get? b=some o->H b=none->b∉ex->H' b=none
 there :∀b o,h.get? b=some o->b∉ex->∃o',h'.get? b=some o'
 tups :∀b xs,H b=some (.tup xs)->H' b=some (.tup xs)
 frzs :∀b o u,H b=some (.frz o u)->H' b=some (.frz o u)
 tbls :∀b ps,H b=some (.tbl ps)->∃more,H' b=some (.tbl (ps++more))
section
variable {fs fs' ex ex':List Addr} {H H1 H2:Hp} {h h1 h2 h':Heap} {a x e:Addr} {o:HO}
theorem Un.any (u:Un fs ex H H1 h h1) {b:Addr} {ob:Obj} (q:h.get? b=some ob) (n:H b=none) (hx:b∉ex) :∃sl,h1.get? b=some { ob with slots:=sl }:=by
 by_cases hb:b∈fs
 ·exact u.slot b ob q n hb hx
 ·exact ⟨ob.slots,u.keep b ob q n hb hx⟩
theorem Un.kept (k :∀b u,h.get? b=some u->h'.get? b=some u):Un fs ex H H h h':=
 ⟨λ b a q _ _ _=>k b a q,λ b a q _ _ _=>⟨a.slots,k b a q⟩,λ _ _ _ n _=>n,λ b a q _=>⟨a,k b a q⟩,λ _ _ q=>q,λ _ _ _ q=>q,λ _ c q=>⟨#[],by rw [q];simp⟩⟩
theorem Un.refl:Un fs ex H H h h:=Un.kept λ _ _ q=>q
theorem Un.laid (k :∀b u,h.get? b=some u->h'.get? b=some u) (hp:h.objs.size<=a) (hn:H a=none):Un fs ex H (upd H a o) h h' where
 keep:=λ b u q _ _ _=>k b u q
 slot:=λ b u q _ _ _=>⟨u.slots,k b u q⟩
 free:=λ b u q n _=>by rw [upd_ne (G1 (u1 (S0 q) hp))];exact n
 there:=λ b u q _=>⟨u,k b u q⟩
 tups:=λ b c q=>by rw [upd_ne (z07 q hn)];exact q
 frzs:=λ b u c q=>by rw [upd_ne (z07 q hn)];exact q
 tbls:=λ b d q=>⟨#[],by rw [upd_ne (z07 q hn),q];simp⟩
theorem Un.write (mu:Mut (H x)) (he:e=x\/H e=some (.own x)) (k :∀b u,b≠e->h.get? b=some u->h'.get? b=some u) (heo :∃u,h'.get? e=some u):Un fs ex H (upd H x o) h h':=by
 have c :∀b,H b=none->b≠x:=λ b n z=>by subst z;rw [n] at mu;exact mu
 have d :∀b,H b=none->b≠e:=λ b n z=>by
  subst z;rcases he with r|r
  ·exact c b n r
  ·rw [n] at r;cases r
 have a :∀b u,H b=some u->¬ Mut (some u)->b≠x:=λ b u q g z=>by subst z;rw [q] at mu;exact g mu
 refine ⟨λ b u q n _ _=>k b u (d b n) q,λ b u q n _ _=>⟨u.slots,k b u (d b n) q⟩,λ b u q n _=>by rw [upd_ne (c b n)];exact n,λ b u q _=>?_,
  λ b f q=>by rw [upd_ne (a b _ q λ z=>z)];exact q,λ b u f q=>by rw [upd_ne (a b _ q λ z=>z)];exact q,λ b i q=>⟨#[],by rw [upd_ne (a b _ q λ z=>z),q];simp⟩⟩
 by_cases hbe:b=e
 ·subst hbe;exact heo
 ·exact ⟨u,k b u hbe q⟩
end
noncomputable def trk (h:Heap) (H:Hp):List Addr:=(N1 h.objs.size).filter λ a=>(H a).isSome
noncomputable def hidT (h:Heap) (H:Hp):Heap:=PySem.W.hideAll h (trk h H)
theorem zgl (h:Heap) (H:Hp):(hidT h H).objs.size=h.objs.size:=PySem.W.hideAll_size _ _
theorem zjg {h:Heap} {H:Hp} {b:Addr} {o:Obj} (e:h.get? b=some o) (n:H b=none):(hidT h H).get? b=some o:=
 PySem.W.hideAll_get _ e λ a=>by have q:(H b).isSome=true:=(List.mem_filter.mp a).2;rw [n] at q;simp at q
theorem zkd {h:Heap} {H:Hp} {b:Addr} {o:Obj} (e:(hidT h H).get? b=some o):h.get? b=some o/\H b=none:=by
 have a:h.get? b=some o:=PySem.W.of_hideAll (trk h H) e;refine ⟨a,?_⟩;cases q:H b with
 | none=>rfl
 | some x=>have c:b∈trk h H:=List.mem_filter.mpr ⟨List.mem_range.mpr (S0 a),by simp [q]⟩;have z:(hidT h H).get? b=none:=PySem.W.hideAll_none (trk h H) c;rw [z] at e;cases e
noncomputable def zkg (g h:Heap) (L:Addr):List (Addr×Obj):=(N1 h.objs.size).filterMap λ a=>if a=L\/(g.get? a).isSome=true then none else (h.get? a).map λ o=>(a,o)
noncomputable def rest (g h:Heap) (L d:Addr):List (Addr×Obj):=(zkg g h L).filter λ p=>decide (p.1≠d)
structure Mod (K:b0) (mg:Str->Option Value) (base:Heap):Prop where
 kin:K.In base
 glob:base.Ns S2 mg
 blt :∃mb,base.Ns builtinsNs mb/\∀x:Str,x≠"__name__"->mb x=B6 x
 nolimit:base.NoLimit
structure Cx where
 prog:Program
 w:P0
 K:b0
 mg:Str->Option Value
 base:Heap
 A:X1
 N:List Str
 s₀:B0
 H₀:Hp
 env:Env
 outer:List Env
 stack:List Env
 ex:List Addr
 fn:Str->Bool
 calm:Bool
 pn:List (Addr×Obj)
 xe:Value->B0->Prop
noncomputable def frs (l:List Env):List Addr:=l.filterMap (·.frame)
noncomputable abbrev Cx.fs (X:Cx):List Addr:=frs X.outer
def Vis (sc:Scope) (x:Str):Prop:=sc.names.lookup x=some .local\/sc.names.lookup x=some .cell\/sc.names.lookup x=some .free
def Loc (sc:Scope) (x:Str):Prop:=sc.names.lookup x=some .local\/sc.names.lookup x=some .cell
def Look (env:Env) (h:Heap) (m:Str->Option Value) (x:Str) (u:Value):Prop:=
 (env.kindOf x=some .local/\m x=some u)\/((env.kindOf x=some .cell\/env.kindOf x=some .free)/\∃c,env.cells.lookup x=some c/\h.IsCell c (some u))
structure Cx.Ok (X:Cx):Prop where
 mod:Mod X.K X.mg X.base
 kind:X.env.scope.kind=.function
 glob:X.env.globals=S2
 blt:X.env.builtins=builtinsNs
 above:X.s₀.heap.objs.size<=X.env.locals
 inj :∀x y c,X.env.cells.lookup x=some c->X.env.cells.lookup y=some c->x=y
 has :∀x,(X.env.kindOf x=some .cell\/X.env.kindOf x=some .free)->∃c,X.env.cells.lookup x=some c
 cab :∀x c,X.fn x=true->X.env.cells.lookup x=some c->X.s₀.heap.objs.size<=c
 hd:X.calm=true->X.A.handled=none
 frames:X.A.frames=some X.stack
 stk:X.stack=X.outer\/(X.stack=X.env :: X.outer/\X.env.frame=some X.env.locals)
 exf :∀b∈X.ex,b≠X.env.locals/\∀x c,X.env.cells.lookup x=some c->c≠b
 bs :∀b o,X.base.get? b=some o->X.s₀.heap.get? b=some o/\X.H₀ b=none
 bsz:X.base.objs.size<=X.s₀.heap.objs.size
 noex :∀b o,X.base.get? b=some o->b∉X.ex
 exfs :∀b∈X.ex,b∉X.fs
 funs:X.s₀.heap.FunFrames X.base X.outer
 frf :∀b∈X.fs,X.H₀ b=none
structure Inv (X:Cx) (pins:List (Addr×Obj)) (σ:List (Option V)) (H:Hp) (s:B0):Prop where
 ok:X.Ok
 os:s.os=X.s₀.os
 bare:z7 s.gens
 base:Un X.fs X.ex X.H₀ H X.s₀.heap s.heap
 loc :∃m,s.heap.Ns X.env.locals m/\∀(i:Nat) (x:Str) (v:V),X.N[i]? = some x->σ[i]? = some (some v)->Vis X.env.scope x->∃u,RelV v u/\Look X.env s.heap m x u
 cell :∀x c,X.env.cells.lookup x=some c->∃v,s.heap.IsCell c v
 free:H X.env.locals=none
 freeC :∀x c,X.env.cells.lookup x=some c->H c=none
 pin :∀p∈X.pn++pins,s.heap.get? p.1=some p.2/\H p.1=none/\p.1≠X.env.locals/\p.1∉X.fs/\∀v,p.2.data≠.cell v
 hok:HOk X.prog X.w H s.heap
 len:σ.length=X.N.length
section
variable {X:Cx} {pins:List (Addr×Obj)} {σ:List (Option V)} {H H':Hp} {s:B0} {h':Heap}
theorem Cx.Ok.nofr (ok:X.Ok) {b:Addr} {o:Obj} (e:X.base.get? b=some o):b∉X.fs:=λ a=>by have:=(ok.funs.mem a).1;rw [e] at this;cases this
theorem Inv.bs (I:Inv X pins σ H s) :∀b o,X.base.get? b=some o->s.heap.get? b=some o/\H b=none:=λ b o e=>⟨I.base.keep b o (I.ok.bs b o e).1 (I.ok.bs b o e).2 (I.ok.nofr e) (I.ok.noex b o e),I.base.free b o (I.ok.bs b o e).1 (I.ok.bs b o e).2 (I.ok.noex b o e)⟩
theorem Inv.bk (I:Inv X pins σ H s) :∀b o,X.base.get? b=some o->s.heap.get? b=some o:=λ b o e=>(I.bs b o e).1
theorem Inv.mod (I:Inv X pins σ H s):Mod X.K X.mg X.base:=I.ok.mod
theorem Inv.kIn (I:Inv X pins σ H s):X.K.In s.heap:=I.ok.mod.kin.keeps I.bk
theorem Inv.lt (I:Inv X pins σ H s):X.env.locals < s.heap.objs.size:=let ⟨_,hn,_⟩:=I.loc;hn.lt
theorem Inv.sz (I:Inv X pins σ H s):X.s₀.heap.objs.size<=s.heap.objs.size:=C0 I.ok.above (G3 I.lt)
theorem Inv.nofs (I:Inv X pins σ H s) {a:Addr} (h:s.heap.objs.size<=a):a∉X.fs:=λ b=>by obtain ⟨_,o,c,_⟩:=I.ok.funs.mem b;exact absurd (u1 (S0 c) (C0 I.sz h)) (J3 _)
theorem Inv.cne (I:Inv X pins σ H s) :∀x c,X.env.cells.lookup x=some c->c≠X.env.locals:=λ x c e z=>by obtain ⟨v,o,a,b⟩:=I.cell x c e;obtain ⟨m,⟨g,h,i,d,f,_⟩,_⟩:=I.loc;rw [z,d] at a;cases a;rw [f] at b;cases b
theorem Inv.funs (I:Inv X pins σ H s):s.heap.FunFrames X.base X.outer:=by
 have all :∀(l:List Env),(∀b∈frs l,b∈X.fs)->X.s₀.heap.FunFrames X.base l->s.heap.FunFrames X.base l:=by
  intro l;induction l with
  | nil=>intro _ _;trivial
  | cons env r ih=>intro f k;obtain ⟨i,⟨L,o,c,h,g,m⟩,j⟩:=k;have a:L∈X.fs:=f L (by unfold frs;rw [o8,c];exact j1);obtain ⟨n,e⟩:=I.base.slot L o g (I.ok.frf L a) a λ z=>I.ok.exfs L z a;exact ⟨i,⟨L,_,c,h,e,m⟩,ih (λ b d=>f b (by unfold frs;rw [o8,c];exact Z0 _ d)) j⟩
 exact all X.outer (λ _ d=>d) I.ok.funs
theorem Inv.stack (I:Inv X pins σ H s):s.heap.FunFrames X.base X.stack:=by
 rcases I.ok.stk with e|⟨e,hf⟩
 ·rw [e];exact I.funs
 ·rw [e];obtain ⟨m,a,_⟩:=I.loc;refine .cons (by rw [I.ok.kind];decide) hf a ?_ I.funs;exact Heap.get?_none_of_le (C0 I.ok.bsz I.ok.above)
theorem Inv.stkSub (I:Inv X pins σ H s) :∀b∈frs X.stack,b∈X.env.locals :: X.fs:=λ b a=>by
 rcases I.ok.stk with e|⟨e,hf⟩
 ·rw [e] at a;exact Z0 _ a
 ·rw [e] at a;unfold frs at a;rw [o8,hf] at a;exact a
theorem Inv.stkFree (I:Inv X pins σ H s) :∀b∈frs X.stack,H b=none:=λ b a=>by
 rcases List.mem_cons.mp (I.stkSub b a) with e|a
 ·rw [e];exact I.free
 ·obtain ⟨_,o,c,_⟩:=I.ok.funs.mem a;exact I.base.free b o c (I.ok.frf b a) λ z=>I.ok.exfs b z a
theorem Inv.step {g':Array GenState} {t':Nat} {d':Drawn} {ch:List Addr} (I:Inv X pins σ H s)
  (hch :∀b∈ch,(b∈X.ex\/X.s₀.heap.objs.size<=b)/\b≠X.env.locals/\(∀x c,X.env.cells.lookup x=some c->c≠b)/\∀p∈X.pn++pins,p.1≠b)
  (keep :∀b o,b≠X.env.locals->b∉X.fs->b∉ch->s.heap.get? b=some o->H b=none->h'.get? b=some o)
  (slot :∀b o,b≠X.env.locals->b∈X.fs->b∉ch->s.heap.get? b=some o->H b=none->∃sl,h'.get? b=some { o with slots:=sl }) (free :∀b o,b∉ch->s.heap.get? b=some o->H b=none->H' b=none)
  (there :∀b o,b∉ch->s.heap.get? b=some o->∃o',h'.get? b=some o')
  (tups :∀b xs,H b=some (.tup xs)->H' b=some (.tup xs)) (frzs :∀b o u,H b=some (.frz o u)->H' b=some (.frz o u)) (tbls :∀b ps,H b=some (.tbl ps)->∃more,H' b=some (.tbl (ps++more)))
  (ns :∀m,s.heap.Ns X.env.locals m->h'.Ns X.env.locals m) (hok:HOk X.prog X.w H' h') (hg:z7 g') :
  Inv X pins σ H' { s with heap:=h',gens:=g',drawn:=d',toks:=t' }:=by
 have D :∀b o,X.s₀.heap.get? b=some o->b≠X.env.locals:=λ b o e=>G1 (u1 (S0 e) I.ok.above);have y :∀b o,X.s₀.heap.get? b=some o->b∉X.ex->b∉ch:=λ b o e a g=>by
  rcases (hch b g).1 with z|z
  ·exact a z
  ·exact absurd (u1 (S0 e) z) (J3 _)
 have F :∀x c,X.env.cells.lookup x=some c->∀v,s.heap.IsCell c v->h'.IsCell c v:=λ x c e v ⟨o,h,A⟩=>by
  have j:c∉ch:=λ z=>(hch c z).2.2.1 x c e rfl;by_cases hc:c∈X.fs
  ·obtain ⟨sl,q⟩:=slot c o (I.cne x c e) hc j h (I.freeC x c e);exact ⟨_,q,A⟩
  ·exact ⟨o,keep c o (I.cne x c e) hc j h (I.freeC x c e),A⟩
 refine ⟨I.ok,I.os,hg,⟨λ b o e n g a=>?_,λ b o e n g a=>?_,λ b o e n a=>?_,λ b o e a=>?_,λ b xs e=>tups b xs (I.base.tups b xs e),λ b o xs e=>frzs b o xs (I.base.frzs b o xs e),λ b ps e=>?_⟩,?_,λ x c e=>?_,?_,λ x c e=>?_,λ p C=>?_,hok,I.len⟩
 ·exact keep b o (D b o e) g (y b o e a) (I.base.keep b o e n g a) (I.base.free b o e n a)
 ·obtain ⟨sl,f⟩:=I.base.slot b o e n g a;obtain ⟨G,t⟩:=slot b _ (D b o e) g (y b o e a) f (I.base.free b o e n a);exact ⟨G,t⟩
 ·obtain ⟨o',f⟩:=I.base.there b o e a;exact free b o' (y b o e a) f (I.base.free b o e n a)
 ·obtain ⟨o',f⟩:=I.base.there b o e a;exact there b o' (y b o e a) f
 ·obtain ⟨K,f⟩:=I.base.tbls b ps e;obtain ⟨L,t⟩:=tbls b _ f;exact ⟨K++L,by rw [t,Array.append_assoc]⟩
 ·obtain ⟨m,N,M⟩:=I.loc;refine ⟨m,ns m N,λ i x v f t J=>?_⟩;obtain ⟨u,r,l⟩:=M i x v f t J;refine ⟨u,r,?_⟩;rcases l with l|⟨k,c,e,z⟩
  ·exact .inl l
  ·exact .inr ⟨k,c,e,F x c e _ z⟩
 ·obtain ⟨v,z⟩:=I.cell x c e;exact ⟨v,F x c e v z⟩
 ·obtain ⟨m,⟨o,_,_,h,_⟩,_⟩:=I.loc;exact free _ o (λ z=>(hch _ z).2.1 rfl) h I.free
 ·obtain ⟨v,o,h,A⟩:=I.cell x c e;exact free c o (λ z=>(hch c z).2.2.1 x c e rfl) h (I.freeC x c e)
 ·obtain ⟨e,n,E,B,d⟩:=I.pin p C;have j:p.1∉ch:=λ z=>(hch p.1 z).2.2.2 p C rfl;exact ⟨keep p.1 p.2 E B j e n,free p.1 p.2 j e n,E,B,d⟩
theorem Inv.un {t':Nat} (I:Inv X pins σ H s) (u:Un X.fs [] H H' s.heap h') (hok:HOk X.prog X.w H' h'):Inv X pins σ H' { s with heap:=h',toks:=t' }:=by obtain ⟨m,⟨o,l,q,d,r⟩,_⟩:=id I.loc;obtain ⟨t,h⟩:=u.any d I.free (by simp);exact I.step (g':=s.gens) (d':=s.drawn) (ch:=[]) (λ _ z=>nomatch z) (λ b o _ a _ e n=>u.keep b o e n a (by simp)) (λ b o _ a _ e n=>u.slot b o e n a (by simp)) (λ b o _ e n=>u.free b o e n (by simp)) (λ b o _ e=>u.there b o e (by simp)) u.tups u.frzs u.tbls (λ p g=>by obtain ⟨k,j,i,c,f⟩:=g;rw [d] at c;cases c;exact ⟨_,j,i,h,f⟩) hok I.bare
theorem Inv.call {g':Array GenState} {t':Nat} {d':Drawn} {ch:List Addr} (I:Inv X pins σ H s) (u:Un (frs X.stack) ch H H' s.heap h') (hok:HOk X.prog X.w H' h') (hg:z7 g')
  (hch :∀b∈ch,(b∈X.ex\/X.s₀.heap.objs.size<=b)/\b≠X.env.locals/\(∀x c,X.env.cells.lookup x=some c->c≠b)/\∀p∈X.pn++pins,p.1≠b) :
  Inv X pins σ H' { s with heap:=h',gens:=g',drawn:=d',toks:=t' }:=by
 obtain ⟨m,⟨o,t,y,g,r⟩,_⟩:=id I.loc;obtain ⟨A,d⟩:=u.any g I.free λ z=>(hch _ z).2.1 rfl;exact I.step (ch:=ch) hch (λ b o d j a e n=>u.keep b o e n (λ z=>(List.mem_cons.mp (I.stkSub b z)).elim d j) a) (λ b o _ _ a e n=>u.any e n a) (λ b o a e n=>u.free b o e n a) (λ b o a e=>u.there b o e a) u.tups u.frzs u.tbls (λ v i=>by obtain ⟨q,l,k,f,h⟩:=i;rw [g] at f;cases f;exact ⟨_,l,k,d,h⟩) hok hg
theorem Inv.turned {t':Nat} {it:Addr} (I:Inv X pins σ H s) (k :∀b o,b≠it->s.heap.get? b=some o->h'.get? b=some o) (hn:H it=none) (hL:it≠X.env.locals)
  (h1:it∈X.ex\/X.s₀.heap.objs.size<=it) (h2 :∀x c,X.env.cells.lookup x=some c->c≠it) (h3 :∀p∈X.pn++pins,p.1≠it):Inv X pins σ H { s with heap:=h',toks:=t' }:=by
 have d :∀b u,H b=some u->b≠it:=λ b u e z=>by rw [z,hn] at e;cases e
 refine I.step (g':=s.gens) (d':=s.drawn) (ch:=[it]) (λ b i=>?_) (λ b o _ _ a e _=>k b o (λ z=>a (by simp [z])) e) (λ b o _ _ a e _=>⟨o.slots,k b o (λ z=>a (by simp [z])) e⟩) (λ _ _ _ _ n=>n)
  (λ b o a e=>⟨o,k b o (λ z=>a (by simp [z])) e⟩) (λ _ _ e=>e) (λ _ _ _ e=>e) (λ b l e=>⟨#[],by rw [e];simp⟩) (λ m f=>?_) (λ b u e=>?_) I.bare
 ·have e:b=it:=by simpa using i
  subst e;exact ⟨h1,hL,h2,h3⟩
 ·obtain ⟨o,h,j,g,r⟩:=f;exact ⟨o,h,j,k _ o (V3 hL) g,r⟩
 ·refine (I.hok b u e).stay (λ c v a q=>k c v ?_ q) (λ _ q=>q) λ _ _ q=>q;rcases a with z|z
  ·rw [z];exact d b u e
  ·exact d c _ z
theorem Inv.tok (I:Inv X pins σ H s) (t:Nat):Inv X pins σ H { s with toks:=t }:=I.un (h':=s.heap) (t':=t) Un.refl I.hok
theorem Inv.kept {t':Nat} (I:Inv X pins σ H s) (k :∀b u,s.heap.get? b=some u->h'.get? b=some u):Inv X pins σ H { s with heap:=h',toks:=t' }:=I.un (Un.kept k) (I.hok.kept k)
theorem Inv.laid {a:Addr} {o:HO} {t':Nat} (I:Inv X pins σ H s) (k :∀b u,s.heap.get? b=some u->h'.get? b=some u) (hp:s.heap.objs.size<=a) (new:ObjOk X.prog X.w (upd H a o) h' a o) :
  Inv X pins σ (upd H a o) { s with heap:=h',toks:=t' }:=I.un (Un.laid k hp (I.hok.fresh hp)) (I.hok.laid k hp new)
theorem Inv.write {x e:Addr} {o:HO} {t':Nat} (I:Inv X pins σ H s) (mu:Mut (H x)) (he:e=x\/H e=some (.own x)) (k :∀b u,b≠e->s.heap.get? b=some u->h'.get? b=some u) (heo :∃u,h'.get? e=some u)
  (new:ObjOk X.prog X.w (upd H x o) h' x o):Inv X pins σ (upd H x o) { s with heap:=h',toks:=t' }:=I.un (Un.write mu he k heo) (I.hok.write mu he k heo new)
theorem Inv.weak {σ':List (Option V)} (I:Inv X pins σ H s) (hl:σ'.length=σ.length) (w :∀(i:Nat) v,σ'[i]? = some (some v)->σ[i]? = some (some v)):Inv X pins σ' H s:=
 ⟨I.ok,I.os,I.bare,I.base,let ⟨m,hn,hl'⟩:=I.loc;⟨m,hn,λ i x v a b c=>hl' i x v a (w i v b) c⟩,I.cell,I.free,I.freeC,I.pin,I.hok,hl.trans I.len⟩
theorem Inv.pins_of {pins':List (Addr×Obj)} (I:Inv X pins σ H s) (h :∀p∈pins',s.heap.get? p.1=some p.2/\H p.1=none/\p.1≠X.env.locals/\p.1∉X.fs/\∀v,p.2.data≠.cell v):Inv X pins' σ H s:=
 ⟨I.ok,I.os,I.bare,I.base,I.loc,I.cell,I.free,I.freeC,λ p a=>(List.mem_append.mp a).elim (λ z=>I.pin p (Q5 _ z)) (h p),I.hok,I.len⟩
theorem ze9 {N:List Str} (hN:N.Nodup) {i j:Nat} {x:Str} (a:N[i]? = some x) (b:N[j]? = some x):i=j:=by obtain ⟨f,c⟩:=List.getElem?_eq_some_iff.mp a;obtain ⟨e,d⟩:=List.getElem?_eq_some_iff.mp b;exact (List.getElem_inj hN).mp (c.trans d.symm)
theorem zgs {M:Model} {A:X1} {E:Value->B0->Prop} {i:Nat} {x:Str} {v:V} {u:Value} {Q:Unit->B0->Prop} (I:Inv X pins σ H s) (hN:X.N.Nodup) (hi:X.N[i]? = some x) (hx:Loc X.env.scope x) (r:RelV v u)
  (h :∀s',Inv X pins (σ.set i (some v)) H s'->(∃a,z5 a s.heap s'.heap/\(a=X.env.locals\/X.env.cells.lookup x=some a))->Q () s') (hf:X.fn x=true\/X.env.scope.names.lookup x=some .local:=by first|exact .inl rfl|exact .inr rfl|assumption):R0 M A (storeName X.env x u) Q E s:=by
 obtain ⟨m,S,Y⟩:=id I.loc;have a6:(X.env.scope.kind == .class || (X.env.scope.kind == .module && X.env.locals != X.env.globals))=false:=by rw [I.ok.kind];rfl
 have a0:i < σ.length:=by rw [I.len];exact (List.getElem?_eq_some_iff.mp hi).1
 have cne:=I.cne;have Z :∀{a:Addr} {C:Heap},(∃o,s.heap.get? a=some o/\H a=none)->z5 a s.heap C->HOk X.prog X.w H C:=λ {a C} ha f b ob e=>by
  obtain ⟨_,_,a1⟩:=ha;refine (I.hok b ob e).stay (λ c G l q=>(f.2 c ?_).trans q) (λ _ q=>q) λ _ _ q=>q;rintro rfl;rcases l with rfl|l
  ·rw [a1] at e;cases e
  ·rw [a1] at l;cases l
 rcases hx with hk|hk
 ·refine wpAny_storeName_local hk S (λ C a5 f=>?_) a6;obtain ⟨oL,_,_,a7,_⟩:=id S;refine h _ ⟨I.ok,I.os,I.bare,⟨λ b o e n B hx=>?_,λ b o e n B hx=>?_,I.base.free,λ b o e hx=>?_,I.base.tups,I.base.frzs,I.base.tbls⟩,⟨_,a5,λ j y T g t P=>?_⟩,λ y c e=>?_,I.free,I.freeC,λ p R=>?_,Z ⟨oL,a7,I.free⟩ f,by simpa using I.len⟩ ⟨_,f,.inl rfl⟩
  ·exact (f.2 b (G1 (u1 (S0 e) I.ok.above))).trans (I.base.keep b o e n B hx)
  ·obtain ⟨U,g⟩:=I.base.slot b o e n B hx;exact ⟨U,(f.2 b (G1 (u1 (S0 e) I.ok.above))).trans g⟩
  ·obtain ⟨J,g⟩:=I.base.there b o e hx;exact ⟨J,(f.2 b (G1 (u1 (S0 e) I.ok.above))).trans g⟩
  ·by_cases hj:j=i
   ·subst hj;rw [hi] at g;cases g;rw [j16 a0] at t;cases t;exact ⟨u,r,.inl ⟨hk,by simp⟩⟩
   ·rw [j28 (V3 hj)] at t;obtain ⟨W,K,q⟩:=Y j y T g t P;refine ⟨W,K,?_⟩;rcases q with ⟨k,e⟩|⟨k,c,e,z⟩
    ·refine .inl ⟨k,?_⟩;have:y≠x:=λ e=>hj (ze9 hN g (e ▸ hi));simp [this,e]
    ·exact .inr ⟨k,c,e,z.sameBut f (cne y c e)⟩
  ·obtain ⟨G,z⟩:=I.cell y c e;exact ⟨G,z.sameBut f (cne y c e)⟩
  ·obtain ⟨e,n,F,L,d⟩:=I.pin p R;exact ⟨(f.2 p.1 F).trans e,n,F,L,d⟩
 ·have O:X.fn x=true:=by
   rcases hf with z|z
   ·exact z
   ·rw [z] at hk;cases hk
  obtain ⟨c,l⟩:=I.ok.has x (.inl hk);obtain ⟨G,z⟩:=I.cell x c l;refine wpAny_storeName_cell I.ok.kind hk l z (λ C a3 f=>?_);obtain ⟨oc,a2,a4⟩:=id z;refine h { s with heap:=C } ⟨I.ok,I.os,I.bare,⟨λ b o e n B hx=>?_,λ b o e n B hx=>?_,I.base.free,λ b o e hx=>?_,I.base.tups,I.base.frzs,I.base.tbls⟩,⟨m,S.sameBut f (V3 (cne x c l)),λ j y T g t P=>?_⟩,λ y D e=>?_,I.free,I.freeC,λ p R=>?_,Z ⟨oc,a2,I.freeC x c l⟩ f,by simpa using I.len⟩ ⟨c,f,.inr l⟩
  ·exact (f.2 b (G1 (u1 (S0 e) (I.ok.cab x c O l)))).trans (I.base.keep b o e n B hx)
  ·obtain ⟨U,g⟩:=I.base.slot b o e n B hx;exact ⟨U,(f.2 b (G1 (u1 (S0 e) (I.ok.cab x c O l)))).trans g⟩
  ·obtain ⟨J,g⟩:=I.base.there b o e hx;exact ⟨J,(f.2 b (G1 (u1 (S0 e) (I.ok.cab x c O l)))).trans g⟩
  ·by_cases hj:j=i
   ·subst hj;rw [hi] at g;cases g;rw [j16 a0] at t;cases t;exact ⟨u,r,.inr ⟨.inl hk,c,l,a3⟩⟩
   ·rw [j28 (V3 hj)] at t;obtain ⟨W,K,q⟩:=Y j y T g t P;refine ⟨W,K,?_⟩;rcases q with q|⟨k,D,e,z'⟩
    ·exact .inl q
    ·refine .inr ⟨k,D,e,z'.sameBut f ?_⟩;rintro rfl;exact hj (ze9 hN g (I.ok.inj _ _ _ e l ▸ hi))
  ·by_cases hcc:D=c
   ·subst hcc;exact ⟨_,a3⟩
   ·obtain ⟨w2,z2⟩:=I.cell y D e;exact ⟨w2,z2.sameBut f hcc⟩
  ·obtain ⟨e,n,F,L,d⟩:=I.pin p R;refine ⟨(f.2 p.1 ?_).trans e,n,F,L,d⟩;intro q;rw [q,a2] at e;have q':oc=p.2:=Q1 e;exact d G (by rw [<-q'];exact a4)
theorem zf9 {M:Model} {A:X1} {E:Value->B0->Prop} {i:Nat} {x:Str} {v:V} {u:Value} {Q:Unit->B0->Prop} (I:Inv X pins σ H s) (hN:X.N.Nodup) (hi:X.N[i]? = some x) (hx:Loc X.env.scope x) (r:RelV v u)
  (h :∀s',Inv X pins (σ.set i (some v)) H s'->Q () s') (hf:X.fn x=true\/X.env.scope.names.lookup x=some .local:=by first|exact .inl rfl|exact .inr rfl|assumption):R0 M A (storeName X.env x u) Q E s:=
 zgs I hN hi hx r (λ s' a _=>h s' a) hf
theorem Inv.call' {s':B0} {ch:List Addr} (I:Inv X pins σ H s) (ho:s'.os=s.os) (u:Un (frs X.stack) ch H H' s.heap s'.heap) (hok:HOk X.prog X.w H' s'.heap) (hg:z7 s'.gens)
  (hch :∀b∈ch,(b∈X.ex\/X.s₀.heap.objs.size<=b)/\b≠X.env.locals/\(∀x c,X.env.cells.lookup x=some c->c≠b)/\∀p∈X.pn++pins,p.1≠b):Inv X pins σ H' s':=by
 obtain ⟨d,g',d',t',a⟩:=s';have e:a=s.os:=ho;subst e;exact I.call (g':=g') (t':=t') (d':=d') u hok hg hch
end
noncomputable abbrev XK:=Value->Option Addr->Hp->Prop
noncomputable abbrev St:=List (Option V)
noncomputable abbrev VK:=V->Hp->Prop
noncomputable abbrev TE:=St->Hp->VK->Prop
noncomputable abbrev TT:=St->Hp->(Bool->Hp->Prop)->Prop
noncomputable abbrev TA:=St->Hp->(List V->Hp->Prop)->Prop
structure Ends where
 nx:St->Hp->Prop
 rt:VK
 bk:St->Hp->Prop:=λ _ _=>False
 ct:St->Hp->Prop:=λ _ _=>False
noncomputable abbrev TS:=Ends->St->Hp->Prop
def EP (X:Cx) (pins:List (Addr×Obj)) (σ:St) (Q:VK) (u:Value) (s':B0):Prop:=∃v H',Inv X pins σ H' s'/\RelV v u/\Q v H'
def TP (X:Cx) (pins:List (Addr×Obj)) (σ:St) (Q:Bool->Hp->Prop) (b:Bool) (s':B0):Prop:=∃H',Inv X pins σ H' s'/\Q b H'
def AP (X:Cx) (pins:List (Addr×Obj)) (σ:St) (Q:List V->Hp->Prop) (us:List Value) (s':B0):Prop:=∃vs H',Inv X pins σ H' s'/\Vals vs us/\Q vs H'
def SP (X:Cx) (pins:List (Addr×Obj)) (D:Ends) (f:Flow) (s':B0):Prop:=
 match f with
 | .next=>∃σ' H',Inv X pins σ' H' s'/\D.nx σ' H'
 | .brk=>∃σ' H',Inv X pins σ' H' s'/\D.bk σ' H'
 | .cont=>∃σ' H',Inv X pins σ' H' s'/\D.ct σ' H'
 | .ret u=>∃v σ' H',Inv X pins σ' H' s'/\RelV v u/\D.rt v H'
def PE (X:Cx) (e:Expr) (t:TE):Prop:=
 ∀(pins:List (Addr×Obj)) (s:B0) (σ:St) (H:Hp) (Q:VK),Inv X pins σ H s->t σ H Q->R0 (C1 X.prog X.w) X.A (d3 e X.env) (EP X pins σ Q) X.xe s
def PT (X:Cx) (e:Expr) (t:TT):Prop:=
 ∀(pins:List (Addr×Obj)) (s:B0) (σ:St) (H:Hp) (Q:Bool->Hp->Prop),Inv X pins σ H s->t σ H Q->R0 (C1 X.prog X.w) X.A (isTrue e X.env (d3 e X.env)) (TP X pins σ Q) X.xe s
def PW (X:Cx) (e:Expr) (t:TT):Prop:=
 ∀(whole:Sem Value) (pins:List (Addr×Obj)) (s:B0) (σ:St) (H:Hp) (Q:Bool->Hp->Prop),Inv X pins σ H s->t σ H Q->R0 (C1 X.prog X.w) X.A (isTrue e X.env whole) (TP X pins σ Q) X.xe s
theorem PW.pt {X:Cx} {e:Expr} {t:TT} (h:PW X e t):PT X e t:=h _
def PA (X:Cx) (es:List Expr) (t:TA):Prop:=
 ∀(pos:Pos) (pins:List (Addr×Obj)) (s:B0) (σ:St) (H:Hp) (Q:List V->Hp->Prop),Inv X pins σ H s->t σ H Q->R0 (C1 X.prog X.w) X.A (spliced (E4 pos (P1 es X.env))) (AP X pins σ Q) X.xe s
def PS (X:Cx) (st:Stmt) (t:TS):Prop:=
 ∀(pins:List (Addr×Obj)) (s:B0) (σ:St) (H:Hp) (D:Ends),Inv X pins σ H s->t D σ H->R0 (C1 X.prog X.w) X.A (exec st X.env) (SP X pins D) X.xe s
def PSs (X:Cx) (st:List Stmt) (t:TS):Prop:=
 ∀(pins:List (Addr×Obj)) (s:B0) (σ:St) (H:Hp) (D:Ends),Inv X pins σ H s->t D σ H->R0 (C1 X.prog X.w) X.A (execs st X.env) (SP X pins D) X.xe s
theorem thn {α:Type} {t:Sem α} {Q Q':α->B0->Prop} {M:Model} {A:X1} {E:Value->B0->Prop} {s:B0} (h:R0 M A t Q E s) (hQ :∀a s,Q a s->Q' a s):R0 M A t Q' E s:=m3 h hQ λ _ _ x=>x
section
variable {X:Cx}
noncomputable def tVar (i:Nat):TE:=λ σ H Q=>∃v,σ[i]? = some (some v)/\Q v H
noncomputable def tC (v:V):TE:=λ _ H Q=>Q v H
theorem pe_var {i:Nat} {x:Str} {pos:Pos} (hN:X.N[i]? = some x) (hv:Vis X.env.scope x) (hd:(x == ("__debug__" : Str))=false:=by decide) (hcd:(x == ("__classdict__" : Str))=false:=by decide):PE X (.Name x pos) (tVar i):=by
 intro g s σ H Q I h;obtain ⟨v,e,h⟩:=h;obtain ⟨m,f,j⟩:=I.loc;obtain ⟨u,r,l⟩:=j i x v hN e hv;have b:EP X g σ Q u s:=⟨v,H,I,r,h⟩
 rcases l with ⟨a,d⟩|⟨a,c,hc,hcell⟩
 ·exact wpAny_Name (wpAny_loadName_local I.ok.kind a f d b) hd
 ·rcases a with a|a
  ·exact wpAny_Name (wpAny_loadName_cell I.ok.kind a hc hcell b) hd
  ·exact wpAny_Name (wpAny_loadName_free I.ok.kind a hc hcell b hcd) hd
theorem pe_int {i j pos}:PE X (.Constant (.int i) j pos) (tC (.int i)):=λ _ _ _ H _ I h=>wpAny_Constant_int ⟨.int i,H,I.tok _,⟨_,rfl⟩,h⟩
theorem pe_bl {b j pos}:PE X (.Constant (.bool b) j pos) (tC (.bl b)):=λ _ _ _ H _ I h=>Constant_bool ⟨.bl b,H,I,rfl,h⟩
theorem pe_non {j pos}:PE X (.Constant .none j pos) (tC .non):=λ _ _ _ H _ I h=>Constant_none ⟨.non,H,I,rfl,h⟩
theorem pe_str {x j pos}:PE X (.Constant (.str x) j pos) (tC (.str x)):=λ _ _ _ H _ I h=>Calls.Constant_str ⟨.str x,H,I.tok _,⟨_,rfl⟩,h⟩
def Gl (X:Cx) (x:Str):Prop:=X.env.kindOf x=some .globalImplicit
theorem zeq {E:Value->B0->Prop} {pins:List (Addr×Obj)} {s:B0} {σ:St} {H:Hp} {x:Str} {u:Value} {pos:Pos} {Q:Value->B0->Prop} (I:Inv X pins σ H s) (hg:Gl X x) (hm:X.mg x=some u) (h:Q u s)
  (hd:(x == ("__debug__" : Str))=false:=by decide):R0 (C1 X.prog X.w) X.A (d3 (.Name x pos) X.env) Q E s:=
 P9 I.ok.kind hg (Calls.loadGlobal_global (by rw [I.ok.glob];exact I.mod.glob.keeps I.bk) hm h) hd
theorem ld_blt {E:Value->B0->Prop} {pins:List (Addr×Obj)} {s:B0} {σ:St} {H:Hp} {x:Str} {u:Value} {pos:Pos} {Q:Value->B0->Prop} (I:Inv X pins σ H s) (hg:Gl X x) (hm:X.mg x=none) (hv:B6 x=some u) (h:Q u s)
  (hn:x≠"__name__":=by decide) (hd:(x == ("__debug__" : Str))=false:=by decide):R0 (C1 X.prog X.w) X.A (d3 (.Name x pos) X.env) Q E s:=by
 obtain ⟨c,b,a⟩:=I.mod.blt;exact P9 I.ok.kind hg (Calls.loadGlobal_builtin (by rw [I.ok.glob];exact I.mod.glob.keeps I.bk) hm (by rw [I.ok.blt];exact b.keeps I.bk) ((a x hn).trans hv) h) hd
theorem z5r {x:Str} {v:V} {u:Value} {pos:Pos} (hg:Gl X x) (hm:X.mg x=some u) (r:RelV v u) (hd:(x == ("__debug__" : Str))=false:=by decide):PE X (.Name x pos) (tC v):=
 λ _ _ _ H _ I h=>zeq I hg hm ⟨v,H,I,r,h⟩ hd
theorem z45 {x:Str} {v:V} {u:Value} {pos:Pos} (hg:Gl X x) (hm:X.mg x=none) (hv:B6 x=some u) (r:RelV v u) (hn:x≠"__name__":=by decide) (hd:(x == ("__debug__" : Str))=false:=by decide):PE X (.Name x pos) (tC v):=
 λ _ _ _ H _ I h=>ld_blt I hg hm hv ⟨v,H,I,r,h⟩ hn hd
variable {a b:Expr} {ta tb:TE} {pos:Pos}
def PC (X:Cx) (op:CmpOp) (a b:Expr) (t:TE):Prop:=
 ∀(pins:List (Addr×Obj)) (s:B0) (σ:St) (H:Hp) (Q:VK),Inv X pins σ H s->t σ H Q->
  R0 (C1 X.prog X.w) X.A (d3 a X.env) (λ v s₁=>R0 (C1 X.prog X.w) X.A (d3 b X.env) (λ u s₂=>R0 (C1 X.prog X.w) X.A (C2 op v u) (EP X pins σ Q) X.xe s₂) X.xe s₁) X.xe s
noncomputable def tB (t:TE):TT:=λ σ H Q=>t σ H λ x H1=>∃c,x=.bl c/\Q c H1
theorem pt_cmp {op:CmpOp} {t:TE} (h:PC X op a b t) (h1:A7 op b=false:=by first|exact nobehind _ (by decide) (by decide)|rfl):PT X (.Compare a [op] [b] pos) (tB t):=by intro f s σ H Q I e;refine wpAny_isTrue_Compare1 (thn (h f s σ H _ I e) λ v j h1=>thn h1 λ u k g=>thn g λ c i ⟨x,H1,I1,r1,q1⟩=>?_) h1;obtain ⟨d,rfl,q⟩:=q1;cases r1;exact Y2 ⟨H1,I1,q⟩
theorem pt_val {e:Expr} {t:TE} (h:PE X e t) (he :∀whole,isTrue e X.env whole=(do let v <-whole;j14 e.pos;E9 [v] (truthy v)):=by intro _;rfl):PT X e (tB t):=by intro b s σ H Q I a;refine isTrue_plain (thn (h b s σ H _ I a) λ v c ⟨x,H1,I1,r1,q1⟩=>?_) (he _);obtain ⟨d,rfl,q⟩:=q1;cases r1;exact Y2 ⟨H1,I1,q⟩
variable {tA tB':TT} {rest:List Expr}
noncomputable def tAnd (t u:TT):TT:=λ σ H Q=>t σ H λ c H1=>if c=true then u σ H1 Q else Q false H1
noncomputable def tOr (t u:TT):TT:=λ σ H Q=>t σ H λ c H1=>if c=true then Q true H1 else u σ H1 Q
noncomputable def tNot (t:TT):TT:=λ σ H Q=>t σ H λ c H1=>Q (!c) H1
theorem z9g (ha:PT X a tA):PW X (.BoolOp .And [a] pos) tA:=by
 intro d b s σ H Q I h;refine isTrue_and (thn (ha b s σ H Q I h) λ c f e=>?_);cases c with
 | true=>exact isTrue_and_nil e
 | false=>exact e
theorem pw_or1 (ha:PT X a tA):PW X (.BoolOp .Or [a] pos) tA:=by
 intro d b s σ H Q I h;refine isTrue_or (thn (ha b s σ H Q I h) λ c f e=>?_);cases c with
 | false=>exact isTrue_or_nil e
 | true=>exact e
theorem pw_and (ha:PT X a tA) (hb:PW X (.BoolOp .And (b :: rest) pos) tB'):PW X (.BoolOp .And (a :: b :: rest) pos) (tAnd tA tB'):=by
 intro e d s σ H Q I h;refine isTrue_and (thn (ha d s σ H _ I h) λ c f ⟨H1,I1,q1⟩=>?_);cases c with
 | true=>exact hb e d f σ H1 Q I1 q1
 | false=>exact ⟨H1,I1,q1⟩
theorem pw_or (ha:PT X a tA) (hb:PW X (.BoolOp .Or (b :: rest) pos) tB'):PW X (.BoolOp .Or (a :: b :: rest) pos) (tOr tA tB'):=by
 intro e d s σ H Q I h;refine isTrue_or (thn (ha d s σ H _ I h) λ c f ⟨H1,I1,q1⟩=>?_);cases c with
 | true=>exact ⟨H1,I1,q1⟩
 | false=>exact hb e d f σ H1 Q I1 q1
theorem pt_not (ha:PT X a tA):PT X (.UnaryOp .Not a pos) (tNot tA):=by intro b s σ H Q I h;exact isTrue_not (ha b s σ H (λ c d=>Q (!c) d) I h)
noncomputable def tAndV (ta tb:TE):TE:=λ σ H Q=>ta σ H λ x H1=>∃c,x=.bl c/\if c=true then tb σ H1 Q else Q (.bl false) H1
noncomputable def tNotV (ta:TE):TE:=λ σ H Q=>ta σ H λ x H1=>∃c,x=.bl c/\Q (.bl (!c)) H1
theorem pe_one {op} {t:TE} (h:PE X a t):PE X (.BoolOp op [a] pos) t:=λ c s σ H Q I b=>BoolOp_one (h c s σ H Q I b)
theorem pe_and (ha:PE X a ta) (hb:PE X (.BoolOp .And (b :: rest) pos) tb):PE X (.BoolOp .And (a :: b :: rest) pos) (tAndV ta tb):=by
 intro e s σ H Q I h;refine BoolOp_and (thn (ha e s σ H _ I h) λ v f ⟨x,H1,I1,r1,d⟩=>?_);obtain ⟨c,rfl,d⟩:=d;cases r1;refine Y2 ?_;cases c with
 | true=>exact hb e f σ H1 Q I1 d
 | false=>exact ⟨.bl false,H1,I1,rfl,d⟩
theorem pe_not (ha:PE X a ta):PE X (.UnaryOp .Not a pos) (tNotV ta):=by intro d s σ H Q I h;refine UnaryOp_ (thn (ha d s σ H _ I h) λ v e ⟨x,H1,I1,r1,b⟩=>?_);obtain ⟨c,rfl,b⟩:=b;cases r1;exact not_of (Y2 ⟨.bl (!c),H1,I1,rfl,b⟩)
noncomputable def tIf (t:TT) (ta tb:TE):TE:=λ σ H Q=>t σ H λ c H1=>if c=true then ta σ H1 Q else tb σ H1 Q
theorem zii {c:Expr} (hc:PT X c tA) (ha:PE X a ta) (hb:PE X b tb):PE X (.IfExp c a b pos) (tIf tA ta tb):=by
 intro e s σ H Q I h;refine wpAny_IfExp (thn (hc e s σ H _ I h) λ d f ⟨H1,I1,q1⟩=>?_);cases d with
 | true=>exact ha e f σ H1 Q I1 q1
 | false=>exact hb e f σ H1 Q I1 q1
end
def SqL (K:b0) (H:Hp) (a:Addr) (xs:List V):Prop:=
 Rd H a (.lst xs)\/
  ∃(o:Obj) (its:Array Value) (n:Nat),K.lookup a=some o/\o.cls=.type "list"/\o.dict=none/\o.data=.seq its n/\its.size<=sizeLine/\Vals xs its.toList
def SqT (K:b0) (H:Hp) (a:Addr) (xs:List V):Prop:=
 Rd H a (.tup xs)\/
  ∃(o:Obj) (its:Array Value) (n:Nat),K.lookup a=some o/\o.cls=.type "tuple"/\o.data=.seq its n/\its.size<=sizeLine/\Vals xs its.toList
noncomputable def absV:Value->Option V
 | .none=>some .non
 | .bool b=>some (.bl b)
 | .int i _=>some (.int i)
 | .str x _=>some (.str x)
 | .bytes b _=>some (.byt b)
 | .float b _=>some (.flt b)
 | .ref a=>some (.ref a)
 | .type n=>some (.ty n)
 | _=>none
theorem RelV.abs {x:V} {u:Value} (r:RelV x u):absV u=some x:=by
 cases x with
 | non=>cases r;rfl
 | bl _=>cases r;rfl
 | int _=>obtain ⟨t,rfl⟩:=r;rfl
 | str _=>obtain ⟨t,rfl⟩:=r;rfl
 | byt _=>obtain ⟨t,rfl⟩:=r;rfl
 | flt _=>obtain ⟨t,rfl⟩:=r;rfl
 | ref _=>cases r;rfl
 | ty _=>cases r;rfl
theorem RelV.inj {x y:V} {u:Value} (r:RelV x u) (q:RelV y u):x=y:=Q1 (r.abs.symm.trans q.abs)
theorem Vals.inj :∀{xs ys:List V} {us:List Value},Vals xs us->Vals ys us->xs=ys
 | _,_,_,.nil,.nil=>rfl
 | _,_,_,.cons r t,.cons r' t'=>by rw [r.inj r',Vals.inj t t']
section
variable {X:Cx} {pins:List (Addr×Obj)} {σ:St} {H:Hp} {s:B0} {a:Addr} {xs ys:List V}
theorem SqL.of {K:b0} (h:H a=some (.lst xs)):SqL K H a xs:=.inl (.inl h)
theorem SqT.of {K:b0} (h:H a=some (.tup xs)):SqT K H a xs:=.inl (.inl h)
theorem Inv.list (I:Inv X pins σ H s) (h:SqL X.K H a xs) :∃its:List Value,Vals xs its/\PlainL s.heap a its.toArray/\xs.length<=sizeLine:=by
 rcases h with h|⟨o,its,n,hk,hc,hd,hs,hz,r⟩
 ·obtain ⟨z,its,n,r,e⟩:=h.ok I.hok;exact ⟨its,r,⟨_,n,e,rfl,rfl,rfl⟩,z⟩
 ·refine ⟨its.toList,r,⟨o,n,I.kIn a o hk,hc,hd,by simpa using hs⟩,?_⟩;have e:=r.length;simp only [U5] at e;omega
theorem Inv.tuple (I:Inv X pins σ H s) (h:SqT X.K H a xs) :∃its:List Value,Vals xs its/\IsTup s.heap a its.toArray/\xs.length<=sizeLine:=by
 rcases h with h|⟨o,its,n,hk,hc,hs,hz,r⟩
 ·obtain ⟨z,its,r,p⟩:=h.ok I.hok;exact ⟨its,r,p.1,z⟩
 ·refine ⟨its.toList,r,⟨o,I.kIn a o hk,hc,n,by simpa using hs⟩,?_⟩;have e:=r.length;simp only [U5] at e;omega
theorem Inv.list_inj (I:Inv X pins σ H s) (h:SqL X.K H a xs) (h':SqL X.K H a ys):xs=ys:=by
 obtain ⟨g,r,⟨o,n,e,_,_,d⟩,_⟩:=I.list h;obtain ⟨i,f,⟨j,k,b,_,_,c⟩,_⟩:=I.list h';rw [e] at b;cases b;rw [d] at c;injection c with d1 _;have:g=i:=by simpa using congrArg Array.toList d1
 subst this;exact r.inj f
theorem Inv.tuple_inj (I:Inv X pins σ H s) (h:SqT X.K H a xs) (h':SqT X.K H a ys):xs=ys:=by
 obtain ⟨g,r,⟨o,e,_,n,d⟩,_⟩:=I.tuple h;obtain ⟨i,f,⟨j,b,_,k,c⟩,_⟩:=I.tuple h';rw [e] at b;cases b;rw [d] at c;injection c with d1 _;have:g=i:=by simpa using congrArg Array.toList d1
 subst this;exact r.inj f
end
noncomputable abbrev Cx.wish (X:Cx) (E:Value->B0->Prop):Cx:={ X with xe:=E }
noncomputable abbrev Cx.nox (X:Cx):Cx:=X.wish λ _ _=>False
theorem Cx.Ok.wish {X:Cx} (ok:X.Ok) (E:Value->B0->Prop):(X.wish E).Ok:=
 ⟨ok.mod,ok.kind,ok.glob,ok.blt,ok.above,ok.inj,ok.has,ok.cab,ok.hd,ok.frames,ok.stk,ok.exf,ok.bs,ok.bsz,ok.noex,ok.exfs,ok.funs,ok.frf⟩
theorem Cx.Ok.unwish {X:Cx} {E:Value->B0->Prop} (ok:(X.wish E).Ok):X.Ok:=
 ⟨ok.mod,ok.kind,ok.glob,ok.blt,ok.above,ok.inj,ok.has,ok.cab,ok.hd,ok.frames,ok.stk,ok.exf,ok.bs,ok.bsz,ok.noex,ok.exfs,ok.funs,ok.frf⟩
section
variable {X:Cx} {pins:List (Addr×Obj)} {σ:St} {H:Hp} {s:B0} {E:Value->B0->Prop}
theorem Inv.wish (I:Inv X pins σ H s) (E:Value->B0->Prop):Inv (X.wish E) pins σ H s:=⟨I.ok.wish E,I.os,I.bare,I.base,I.loc,I.cell,I.free,I.freeC,I.pin,I.hok,I.len⟩
theorem Inv.unwish (I:Inv (X.wish E) pins σ H s):Inv X pins σ H s:=⟨I.ok.unwish,I.os,I.bare,I.base,I.loc,I.cell,I.free,I.freeC,I.pin,I.hok,I.len⟩
theorem SP.unwish {D:Ends} {f:Flow} {s':B0} (h:SP (X.wish E) pins D f s'):SP X pins D f s':=by
 cases f with
 | next=>obtain ⟨a,b,I,q⟩:=h;exact ⟨a,b,I.unwish,q⟩
 | brk=>obtain ⟨a,b,I,q⟩:=h;exact ⟨a,b,I.unwish,q⟩
 | cont=>obtain ⟨a,b,I,q⟩:=h;exact ⟨a,b,I.unwish,q⟩
 | ret u=>obtain ⟨v,a,b,I,r,q⟩:=h;exact ⟨v,a,b,I.unwish,r,q⟩
theorem PSs.nox {st:List Stmt} {t:TS} (h:PSs X.nox st t):PSs X st t:=λ b s σ H D I a=>m3 (h b s σ H D (I.wish _) a) (λ _ _ q=>q.unwish) λ _ _ z=>C3 z
end
section
variable {X:Cx} {st:Stmt} {rest:List Stmt} {t u:TS} {e:Expr} {te:TE} {pos:Pos}
noncomputable def tNext:TS:=λ D σ H=>D.nx σ H
noncomputable def tSeq (t u:TS):TS:=λ D σ H=>t { D with nx:=u D } σ H
theorem z0d:PSs X [] tNext:=λ _ _ σ H _ I h=>g8 ⟨σ,H,I,h⟩
theorem z02 (h1:PS X st t) (h2:PSs X rest u):PSs X (st :: rest) (tSeq t u):=by
 intro a s σ H D I h;refine wpAny_execs_cons (thn (h1 a s σ H { D with nx:=u D } I h) λ f d q=>?_);cases f with
 | next=>obtain ⟨b,c,e,q⟩:=q;exact h2 a d b c D e q
 | ret v=>exact q
 | brk=>exact q
 | cont=>exact q
theorem z04 (h1:PS X st t):PSs X [st] t:=by
 intro a s σ H D I h;refine wpAny_execs_cons (thn (h1 a s σ H D I h) λ f b q=>?_);cases f with
 | next=>exact g8 q
 | ret v=>exact q
 | brk=>exact q
 | cont=>exact q
theorem Inv.quiet {pins:List (Addr×Obj)} {σ:St} {H:Hp} {s:B0} (I:Inv X pins σ H s):interactive X.env=false:=by simp [interactive,I.ok.kind]
noncomputable def tDrop (te:TE):TS:=λ D σ H=>te σ H λ _ H1=>D.nx σ H1
theorem z36 (he:PE X e te) (hs:V5 e none pos.line X.env=X2 false:=by rfl):PS X (.Expr e pos) (tDrop te):=by intro a s σ H D I h;exact wpAny_Expr_any (thn (he a s σ H _ I h) λ v b ⟨x,H1,I1,r1,q1⟩=>⟨σ,H1,I1,q1⟩) I.quiet hs
noncomputable def tRet (te:TE):TS:=λ D σ H=>te σ H D.rt
theorem ps_ret (he:PE X e te):PS X (.Return (some e) pos) (tRet te):=by intro a s σ H D I h;exact wpAny_Return_some (thn (he a s σ H _ I h) λ v b ⟨x,H1,I1,r1,q1⟩=>⟨x,σ,H1,I1,r1,q1⟩)
noncomputable def tIfS (c:TT) (t u:TS):TS:=λ D σ H=>c σ H λ b H1=>if b=true then t D σ H1 else u D σ H1
theorem ps_if {c:Expr} {a b:List Stmt} {tc:TT} (hc:PT X c tc) (ha:PSs X a t) (hb:PSs X b u):PS X (.If c a b pos) (tIfS tc t u):=by
 intro e s σ H D I h;refine wpAny_If (thn (hc e s σ H _ I h) λ d f ⟨H1,I1,q1⟩=>?_);cases d with
 | true=>exact ha e f σ H1 D I1 q1
 | false=>exact hb e f σ H1 D I1 q1
noncomputable def tNever:TS:=λ _ _ _=>False
theorem z7r:PS X st tNever:=λ _ _ _ _ _ _ h=>h.elim
end
noncomputable abbrev TG:=V->St->Hp->(St->Hp->Prop)->Prop
noncomputable abbrev TGs:=List V->St->Hp->(St->Hp->Prop)->Prop
def PG (X:Cx) (target:Expr) (t:TG):Prop:=
 ∀(pins:List (Addr×Obj)) (s:B0) (σ:St) (H:Hp) (v:V) (u:Value) (Q:St->Hp->Prop),Inv X pins σ H s->RelV v u->t v σ H Q->
  R0 (C1 X.prog X.w) X.A (assign target X.env u) (λ _ s'=>∃σ' H',Inv X pins σ' H' s'/\Q σ' H') X.xe s
def PGs (X:Cx) (ts:List Expr) (t:TGs):Prop:=
 ∀(pins:List (Addr×Obj)) (s:B0) (σ:St) (H:Hp) (vs:List V) (us:List Value) (Q:St->Hp->Prop),Inv X pins σ H s->Vals vs us->t vs σ H Q->
  R0 (C1 X.prog X.w) X.A (assignInOrder ((Z7 ts X.env).map (·.2)) us) (λ _ s'=>∃σ' H',Inv X pins σ' H' s'/\Q σ' H') X.xe s
noncomputable abbrev TSet:=V->V->V->Hp->(Hp->Prop)->Prop
def PSet (X:Cx) (t:TSet):Prop:=
 ∀(pins:List (Addr×Obj)) (s:B0) (σ:St) (H:Hp) (o i v:V) (ov iv u:Value) (Q:Hp->Prop),Inv X pins σ H s->RelV o ov->RelV i iv->RelV v u->t o i v H Q->
  R0 (C1 X.prog X.w) X.A (setItem ov iv u) (λ _ s'=>∃H',Inv X pins σ H' s'/\Q H') X.xe s
section
variable {X:Cx} {pos:Pos}
noncomputable def gName (i:Nat):TG:=λ v σ H Q=>Q (σ.set i (some v)) H
theorem z0h {i:Nat} {x:Str} (hN:X.N.Nodup) (hi:X.N[i]? = some x) (hx:Loc X.env.scope x) (hf:X.fn x=true\/X.env.scope.names.lookup x=some .local:=by first|exact .inl rfl|exact .inr rfl|assumption):PG X (.Name x pos) (gName i):=by intro b s σ H v u Q I r h;exact wpAny_assign_Name (zf9 I hN hi hx r (λ c a=>⟨_,H,a,h⟩) hf)
noncomputable def gNil:TGs:=λ vs σ H Q=>vs=[]/\Q σ H
noncomputable def gCons (t:TG) (u:TGs):TGs:=λ vs σ H Q=>∃v r,vs=v :: r/\t v σ H λ σ' H'=>u r σ' H' Q
theorem z10:PGs X [] gNil:=by intro c s σ H a b Q I r h;obtain ⟨e,h⟩:=h;subst e;cases r;exact assignInOrder_nil ⟨σ,H,I,h⟩
theorem z0a {e:Expr} {es:List Expr} {t:TG} {u:TGs} (h1:PG X e t) (h2:PGs X es u)
  (hs:(Z7 (e :: es) X.env).map (·.2)=assign e X.env :: (Z7 es X.env).map (·.2):=by rfl):PGs X (e :: es) (gCons t u):=by
 intro a s σ H d f Q I r h;obtain ⟨v,g,b,h⟩:=h;subst b;cases r with
 | cons r rr=>rw [hs];refine assignInOrder_cons (thn (h1 a s σ H _ _ _ I r h) λ _ c ⟨σ1,H1,I1,q1⟩=>?_);exact h2 a c σ1 H1 _ _ Q I1 rr q1
noncomputable def gTup (K:b0) (n:Nat) (t:TGs):TG:=λ v σ H Q=>∃a xs,v=.ref a/\SqT K H a xs/\xs.length=n/\t xs σ H Q
theorem pg_tup {es:List Expr} {k:Nat} {t:TGs} {n:Nat} (hc:X.calm=true) (h:PGs X es t)
  (hn:(Z7 es X.env).length=n:=by rfl) (hst:(Z7 es X.env).findIdx? (·.1)=none:=by rfl):PG X (.Tuple es k pos) (gTup X.K n t):=by
 intro f s σ H v u Q I r c;obtain ⟨a,p,i,m,l,c⟩:=c;subst i;cases r;obtain ⟨x,d,q,y⟩:=I.tuple m;refine assign_Tuple_tuple (I.ok.hd hc) q (by simp [hn,<-l,d.length]) hst λ w j=>?_;have g:Inv X f σ H { s with heap:=w }:=I.kept (t':=s.toks) λ b o e=>j b o (G1 (S0 e)) e;exact h f _ σ H p _ Q g (by simpa using d) c
noncomputable def gSub (to ti:TE) (t:TSet):TG:=λ v σ H Q=>to σ H λ o H1=>ti σ H1 λ i H2=>t o i v H2 λ H3=>Q σ H3
theorem pg_sub {o i:Expr} {to ti:TE} {t:TSet} (ho:PE X o to) (hi:PE X i ti) (hs:PSet X t)
  (ha :∀v,assign (.Subscript o i pos) X.env v=(do
   let ov <-E9 [v] (d3 o X.env)
   let iv <-E9 [v,ov] (d3 i X.env)
   j14 pos
   E9 [v,ov,iv] (setItem ov iv v)
   release [v,ov,iv] []):=by intro _;rfl):PG X (.Subscript o i pos) (gSub to ti t):=by
 intro a s σ H v u Q I r h;rw [ha];refine t0 (R4 (thn (ho a s σ H _ I h) λ ov b ⟨x,H1,I1,r1,q1⟩=>?_));refine t0 (R4 (thn (hi a b σ H1 _ I1 q1) λ iv c ⟨y,H2,I2,r2,q2⟩=>?_));refine t0 (wpAny_standAt (t0 (R4 (thn (hs a c σ H2 x y v ov iv u _ I2 r1 r2 r q2) λ _ d ⟨H3,I3,q3⟩=>?_))));exact wpAny_release ⟨σ,H3,I3,q3⟩
noncomputable def tAsg (te:TE) (g:TG):TS:=λ D σ H=>te σ H λ x H1=>g x σ H1 D.nx
theorem ps_asg {tg e:Expr} {te:TE} {g:TG} (he:PE X e te) (hg:PG X tg g) (hs:swapsWithSole [tg] e pos.line X.env=X2 false:=by rfl) (hw:swappedStores [tg] e X.env=X2 none:=by rfl)
  (h1:(Z7 [tg] X.env).map (·.2)=[assign tg X.env]:=by rfl):PS X (.Assign [tg] e pos) (tAsg te g):=by
 intro a s σ H D I h;refine wpAny_Assign_stores (thn (he a s σ H _ I h) λ v b ⟨x,H1,I1,r1,q1⟩=>?_) hs hw;rw [h1];exact thn (hg a b σ H1 x v _ I1 r1 q1) λ _ c q=>q
theorem ps_set {i:Nat} {x:Str} {e:Expr} {te:TE} {pos':Pos} (hN:X.N.Nodup) (hi:X.N[i]? = some x) (hx:Loc X.env.scope x) (he:PE X e te) (hs:V5 e (some (.Name x pos')) pos.line X.env=X2 false:=by rfl) (hf:X.fn x=true\/X.env.scope.names.lookup x=some .local:=by first|exact .inl rfl|exact .inr rfl|assumption) :
  PS X (.Assign [.Name x pos'] e pos) (tAsg te (gName i)):=by
 intro a s σ H D I h;refine wpAny_Assign_Name (thn (he a s σ H _ I h) λ v c ⟨y,H1,I1,r1,q1⟩=>?_) hs;exact zf9 I1 hN hi hx r1 (λ d b=>⟨_,H1,b,q1⟩) hf
noncomputable def tWhile (c:TT) (tb:TS):TS:=λ D σ H=>∃W:Nat->St->Hp->Prop,(∃m,W m σ H)/\∀m σ H,W m σ H->
 c σ H λ b H1=>if b=true then∃N:St->Hp->Prop,(∀σ' H',N σ' H'->∃m',m' < m/\W m' σ' H')/\tb { D with nx:=N,ct:=N,bk:=D.nx } σ H1 else D.nx σ H1
theorem zb0 {c:Expr} {body:List Stmt} {tc:TT} {tb:TS} (hp:PassesOwn (C1 X.prog X.w) X.A X.env X.xe) (hc:PT X c tc) (hb:PSs X body tb):PS X (.While c body [] pos) (tWhile tc tb):=by
 intro k s σ H D I h;obtain ⟨W,⟨q,y⟩,x⟩:=h;refine wpAny_While (codeAny_whileLoop (λ n r=>∃σ' H',Inv X k σ' H' r/\W n σ' H') ?_ q ⟨σ,H,I,y⟩);rintro n t ⟨σ1,H1,I1,w1⟩;refine P4 hp (thn (hc k t σ1 H1 _ I1 (x n σ1 H1 w1)) λ b u ⟨H2,I2,e⟩=>?_);cases b with
 | true=>
  obtain ⟨N,p,e⟩:=e;rw [if_pos rfl];refine P4 hp (thn (hb k u σ1 H2 _ I2 e) λ f z g=>?_);cases f with
  | next=>obtain ⟨d,a,o,i⟩:=g;obtain ⟨l,j,m⟩:=p d a i;exact ⟨l,j,d,a,o,m⟩
  | cont=>obtain ⟨d,a,o,i⟩:=g;obtain ⟨l,j,m⟩:=p d a i;exact ⟨l,j,d,a,o,m⟩
  | brk=>exact g
  | ret v=>exact g
 | false=>rw [if_neg M0];exact g8 ⟨σ1,H2,I2,e⟩
end
structure It where
 go:Nat->Hp->Prop
 yld:Nat->Hp->V->Hp->Prop
 stop:Nat->Hp->Prop
def FpOk (X:Cx) (pins:List (Addr×Obj)) (H:Hp) (b:Addr):Prop:=
 H b=none/\b≠X.env.locals/\b∉X.fs/\(b∈X.ex\/X.s₀.heap.objs.size<=b)/\(∀x c,X.env.cells.lookup x=some c->c≠b)/\∀p∈X.pn++pins,p.1≠b
theorem Inv.fpOk {X:Cx} {pins:List (Addr×Obj)} {σ:St} {H H':Hp} {s:B0} {b:Addr} (I:Inv X pins σ H s) (hb:s.heap.objs.size<=b) (hn:H' b=none):FpOk X pins H' b:=by
 refine ⟨hn,U3 (u1 I.lt hb),I.nofs hb,.inr (C0 I.sz hb),λ x c e z=>?_,λ p a z=>?_⟩
 ·obtain ⟨v,q⟩:=I.cell x c e;exact absurd (u1 q.lt (by rw [z];exact hb)) (J3 _)
 ·exact absurd (u1 (S0 (I.pin p a).1) (by rw [z];exact hb)) (J3 _)
structure Turn (P:Program) (w:P0) (K:b0) (tg:Expr) (J:It) (fp:List Addr) (it:Addr) (tn:Nat->Heap->Prop):Prop where
 mem:it∈fp
 obj :∀i h,tn i h->∀b∈fp,∃o,h.get? b=some o/\∀v,o.data≠.cell v
 keep :∀i h h',tn i h->(∀b∈fp,∀o,h.get? b=some o->h'.get? b=some o)->tn i h'
 item :∀(X:Cx),X.prog=P->X.w=w->X.K=K->X.calm=true->∀(i:Nat) (pins:List (Addr×Obj)) (s:B0) (σ:St) (H:Hp) (E:Value->B0->Prop),Inv X pins σ H s->(∀b∈fp,FpOk X pins H b)->tn i s.heap->J.go i H->
  R0 (C1 P w) X.A (j1f (.ref it)) (λ r s1=>∃u,r=some u/\
   R0 (C1 P w) X.A (j8 tg (.ref it) u) (λ _ s2=>∃x H',Inv X pins σ H' s2/\RelV x u/\J.yld i H x H'/\tn (i + 1) s2.heap/\∀b∈fp,H' b=none) E s1) E s
 done :∀(X:Cx),X.prog=P->X.w=w->X.K=K->X.calm=true->∀(i:Nat) (pins:List (Addr×Obj)) (s:B0) (σ:St) (H:Hp) (E:Value->B0->Prop),Inv X pins σ H s->(∀b∈fp,FpOk X pins H b)->tn i s.heap->J.stop i H->
  R0 (C1 P w) X.A (j1f (.ref it)) (λ r s1=>r=none/\Inv X pins σ H s1) E s
 self :∀(A:X1) (i:Nat) (s:B0) (Q:Value->B0->Prop) (E:Value->B0->Prop),tn i s.heap->Q (.ref it) s->R0 (C1 P w) A (pyIter (.ref it)) Q E s
noncomputable abbrev TI:=St->Hp->(It->Hp->Prop)->Prop
def PIE (X:Cx) (pins:List (Addr×Obj)) (σ:St) (tg:Expr) (R:It->Hp->Prop) (itv:Value) (s2:B0):Prop:=
 ∃(it:Addr) (fp:List Addr) (tn:Nat->Heap->Prop) (J:It) (H':Hp),itv=.ref it/\Inv X pins σ H' s2/\Turn X.prog X.w X.K tg J fp it tn/\tn 0 s2.heap/\(∀b∈fp,FpOk X pins H' b)/\R J H'
def PI (X:Cx) (tg iter:Expr) (wi:TI):Prop:=
 ∀(pins:List (Addr×Obj)) (s:B0) (σ:St) (H:Hp) (R:It->Hp->Prop),Inv X pins σ H s->wi σ H R->
  R0 (C1 X.prog X.w) X.A (d3 iter X.env) (λ v s1=>R0 (C1 X.prog X.w) X.A (pyIter v) (PIE X pins σ tg R) X.xe s1) X.xe s
theorem go_of {M:Model} {A:X1} {E:Value->B0->Prop} {s:B0} {tg:Expr} {it:Addr} {u:Value} {o:Obj} {n:String} {vs:Array Value} {Q:Unit->B0->Prop} (ho:s.heap.get? it=some o) (hc:o.cls=.type n) (hd:o.data=.fields vs)
    (hn:["enumerate","zip","dict_itemiterator","dict_reverseitemiterator","odict_iterator","itertools.zip_longest","itertools.pairwise"].contains n=false) (hQ:Q () s):R0 M A (j8 tg (.ref it) u) Q E s:=by
  unfold j8;cases tg<;>first
    | exact L0 hQ
    | (cases u<;>first
        | exact L0 hQ
        | (refine t0 (wpAny_load ho ?_)
           rw [hc,hd];show R0 M A (if (["enumerate","zip","dict_itemiterator","dict_reverseitemiterator","odict_iterator","itertools.zip_longest","itertools.pairwise"].contains n && vs[0]? == some (j00 _))=true then _ else _) Q E s;rw [if_neg (by intro h;rw [hn,W7] at h;cases h)];exact L0 hQ))
noncomputable def Itl (K:b0) (a:Addr):It:=
 ⟨λ i H=>∃xs x,SqL K H a xs/\xs[i]? = some x,λ i H x H'=>H'=H/\∀xs,SqL K H a xs->xs[i]? = some x,λ i H=>∃xs,SqL K H a xs/\xs.length<=i⟩
noncomputable def Itt (K:b0) (a:Addr):It:=
 ⟨λ i H=>∃xs x,SqT K H a xs/\xs[i]? = some x,λ i H x H'=>H'=H/\∀xs,SqT K H a xs->xs[i]? = some x,λ i H=>∃xs,SqT K H a xs/\xs.length<=i⟩
noncomputable def Itr (lo:Int) (n:Nat):It:=⟨λ i _=>i < n,λ i H x H'=>H'=H/\x=.int (lo + i),λ i _=>n<=i⟩
theorem zh0 {P:Program} {w:P0} {K:b0} {tg:Expr} (a it:Addr):Turn P w K tg (Itl K a) [it] it (λ i h=>h.IsListIter it a i) where
 mem:=by simp
 obj:=λ i h f b g=>by
  have e:b=it:=by simpa using g
  subst e;obtain ⟨o,e,c,d⟩:=f;exact ⟨o,e,λ v z=>by rw [d] at z;cases z⟩
 keep:=λ i h m f k=>f.at λ o e=>k it (by simp) o e
 item:=by intro X F D A M i L s σ H E I l f r;subst F D A;obtain ⟨W,x,j,n⟩:=r;obtain ⟨U,y,p,V⟩:=I.list j;obtain ⟨u,Q,R⟩:=y.get n;obtain ⟨B,C,T,G,q,t⟩:=l it (by simp);refine wpAny_pyNext_list_item f p.isList (x:=u) (by simpa using Q) λ m J Y=>?_;have N:Inv X L σ H { s with heap:=m }:=I.turned (t':=s.toks) (λ b o g e=>(Y.2 b g).trans e) B C G q t;obtain ⟨o,e,c,d⟩:=id J;exact ⟨u,rfl,go_of (s:={ s with heap:=m }) e c d (by decide) ⟨x,H,N,R,⟨rfl,λ ys O=>by rw [I.list_inj O j];exact n⟩,J,λ b g=>(l b g).1⟩⟩
 done:=by intro X F D A M i L s σ H E I l f r;subst F D A;obtain ⟨W,j,n⟩:=r;obtain ⟨U,y,p,V⟩:=I.list j;obtain ⟨B,C,T,G,q,t⟩:=l it (by simp);have Z:=y.length;exact wpAny_pyNext_list_end (I.ok.hd M) f p.isList (by simp;omega) λ m S=>⟨rfl,I.turned (t':=s.toks) (λ b o g e=>S b o g e) B C G q t⟩
 self:=λ _ _ _ _ _ f h=>wpAny_pyIter_listiter f h
theorem zfc {P:Program} {w:P0} {K:b0} {tg:Expr} (a it:Addr):Turn P w K tg (Itt K a) [it] it (λ i h=>h.IsTupleIter it a i) where
 mem:=by simp
 obj:=λ i h f b g=>by
  have e:b=it:=by simpa using g
  subst e;obtain ⟨o,e,c,d⟩:=f;exact ⟨o,e,λ v z=>by rw [d] at z;cases z⟩
 keep:=λ i h m f k=>f.at λ o e=>k it (by simp) o e
 item:=by intro X G F A N i M s σ H E I l f r;subst G F A;obtain ⟨W,x,j,n⟩:=r;obtain ⟨D,y,p,V⟩:=I.tuple j;obtain ⟨u,R,S⟩:=y.get n;obtain ⟨B,C,U,J,q,t⟩:=l it (by simp);refine wpAny_pyNext_tuple_item f (show s.heap.IsTuple a D.toArray from p) (x:=u) (by simpa using R) λ m L Y=>?_;have O:Inv X M σ H { s with heap:=m }:=I.turned (t':=s.toks) (λ b o g e=>(Y.2 b g).trans e) B C J q t;obtain ⟨o,e,c,d⟩:=id L;exact ⟨u,rfl,go_of (s:={ s with heap:=m }) e c d (by decide) ⟨x,H,O,S,⟨rfl,λ ys Q=>by rw [I.tuple_inj Q j];exact n⟩,L,λ b g=>(l b g).1⟩⟩
 done:=by intro X G F A N i M s σ H E I l f r;subst G F A;obtain ⟨W,j,n⟩:=r;obtain ⟨D,y,p,V⟩:=I.tuple j;obtain ⟨B,C,U,J,q,t⟩:=l it (by simp);have Z:=y.length;exact wpAny_pyNext_tuple_end (I.ok.hd N) f (show s.heap.IsTuple a D.toArray from p) (by simp;omega) λ m T=>⟨rfl,I.turned (t':=s.toks) (λ b o g e=>T b o g e) B C J q t⟩
 self:=λ _ _ _ _ _ f h=>wpAny_pyIter_tupleiter f h
theorem zfj {P:Program} {w:P0} {K:b0} {tg:Expr} (it:Addr) (lo:Int) (n:Nat):Turn P w K tg (Itr lo n) [it] it (λ i h=>IsRangeIter h it (lo + (i:Nat) * 1) ((n:Int) - (i:Nat)) 1) where
 mem:=by simp
 obj:=λ i h a b c=>by
  have e:b=it:=by simpa using c
  subst e;exact ⟨_,a,λ v z=>by have M:j2a _=Data.cell v:=z;cases M⟩
 keep:=λ i h f a k=>k it (by simp) _ a
 item:=by intro X x u m p i C s σ H E I d a j;subst x u m;obtain ⟨q,r,L,y,g,l⟩:=d it (by simp);have W:=Walks.range (prog:=X.prog) (w:=X.w) (I.ok.hd p) it lo 1 n;refine W.item i s _ _ j a λ v f A F B J=>?_;obtain ⟨t,rfl⟩:=F;have D:Inv X C σ H { s with heap:=f,toks:=A }:=I.turned (λ b o c e=>J b o (by simpa using c) e) q r y g l;refine ⟨_,rfl,go_of (s:={ s with heap:=f,toks:=A }) (n:="range_iterator") B rfl rfl (by decide) ⟨.int (lo + i),H,D,⟨t,?_⟩,⟨rfl,rfl⟩,B,λ b c=>(d b c).1⟩⟩;rw [Int.mul_one]
 done:=by intro X x u m p i C s σ H E I d a j;subst x u m;obtain ⟨q,r,L,y,g,l⟩:=d it (by simp);exact wpAny_pyNext_range_end (I.ok.hd p) a (by have:n<=i:=j;omega) λ f G=>⟨rfl,I.turned (t':=s.toks) (λ b o c e=>G b o c e) q r y g l⟩
 self:=λ _ _ _ _ _ a h=>wpAny_pyIter_rangeiter a h
section
variable {X:Cx} {tg:Expr}
noncomputable def iList (K:b0) (tl:TE):TI:=λ σ H R=>tl σ H λ x H1=>∃a,x=.ref a/\(∃xs,SqL K H1 a xs)/\R (Itl K a) H1
noncomputable def iTup (K:b0) (tl:TE):TI:=λ σ H R=>tl σ H λ x H1=>∃a,x=.ref a/\(∃xs,SqT K H1 a xs)/\R (Itt K a) H1
theorem z49 {l:Expr} {tl:TE} (hl:PE X l tl):PI X tg l (iList X.K tl):=by
 intro f s σ H R I h;refine thn (hl f s σ H _ I h) λ v c ⟨x,H1,I1,r1,q1⟩=>?_;obtain ⟨a,e,⟨m,d⟩,q⟩:=q1;subst e;cases r1;obtain ⟨j,i,p,k⟩:=I1.list d;refine C9 p.isList ?_;refine ⟨c.heap.objs.size,[c.heap.objs.size],_,_,H1,rfl,I1.kept (t':=c.toks) λ b o e=>D0 _ e,zh0 a _,⟨_,X0 _ rfl,rfl,rfl⟩,λ b g=>?_,q⟩;have e:b=c.heap.objs.size:=by simpa using g
 subst e;exact I1.fpOk (A0 _) (I1.hok.fresh (A0 _))
theorem pi_tup {l:Expr} {tl:TE} (hl:PE X l tl):PI X tg l (iTup X.K tl):=by
 intro f s σ H R I h;refine thn (hl f s σ H _ I h) λ v c ⟨x,H1,I1,r1,q1⟩=>?_;obtain ⟨a,e,⟨m,d⟩,q⟩:=q1;subst e;cases r1;obtain ⟨g,j,p,k⟩:=I1.tuple d;refine A5 (show c.heap.IsTuple a g.toArray from p) ?_;refine ⟨c.heap.objs.size,[c.heap.objs.size],_,_,H1,rfl,I1.kept (t':=c.toks) λ b o e=>D0 _ e,zfc a _,⟨_,X0 _ rfl,rfl,rfl⟩,λ b i=>?_,q⟩;have e:b=c.heap.objs.size:=by simpa using i
 subst e;exact I1.fpOk (A0 _) (I1.hok.fresh (A0 _))
theorem zj3 {pins:List (Addr×Obj)} {σ:St} {H:Hp} {s:B0} {R:It->Hp->Prop} {E:Value->B0->Prop} {lo hi:Int} {t u v:Tok} {tk:Nat} (I:Inv X pins σ H s) (h1:-(2 ^ 62)<=lo) (h2:lo < 2 ^ 62) (h3:-(2 ^ 62)<=hi) (h4:hi < 2 ^ 62)
  (q:R (Itr lo (hi - lo).toNat) H):R0 (C1 X.prog X.w) X.A (pyIter (.ref s.heap.objs.size)) (PIE X pins σ tg R) E { s with heap:=s.heap.push { cls:=.type "range",data:=.fields #[.int lo t,.int hi u,.int 1 v] },toks:=tk }:=by
 refine wpAny_pyIter_range (IsRange.new ..) (small_one h1 h2 h3 h4) ?_;have a:Inv X pins σ H { s with heap:=s.heap.push { cls:=.type "range",data:=.fields #[.int lo t,.int hi u,.int 1 v] },toks:=tk }:=I.kept λ b o e=>D0 _ e;refine ⟨(s.heap.push { cls:=.type "range",data:=.fields #[.int lo t,.int hi u,.int 1 v] }).objs.size,[(s.heap.push { cls:=.type "range",data:=.fields #[.int lo t,.int hi u,.int 1 v] }).objs.size],_,_,H,rfl,
  a.kept (t':=tk) λ b o e=>D0 _ e,zfj _ lo (hi - lo).toNat,?_,λ b f=>?_,q⟩
 ·have c:lo + ((0:Nat):Int) * 1=lo:=by simp
  have d:(((hi - lo).toNat:Nat):Int) - ((0:Nat):Int)=Builtin.Range.rangeSize lo hi 1:=by rw [rangeSize_one];split<;>omega
  show IsRangeIter _ _ (lo + ((0:Nat):Int) * 1) ((((hi - lo).toNat:Nat):Int) - ((0:Nat):Int)) 1;rw [c,d];exact X0 _ rfl
 ·have e:b=(s.heap.push { cls:=.type "range",data:=.fields #[.int lo t,.int hi u,.int 1 v] }).objs.size:=by simpa using f
  subst e;exact a.fpOk (A0 _) (a.hok.fresh (A0 _))
noncomputable def iRng1 (ta:TA):TI:=λ σ H R=>ta σ H λ vs H1=>∃j:Int,vs=[.int j]/\-(2 ^ 62)<=j/\j < 2 ^ 62/\R (Itr 0 j.toNat) H1
theorem z23 {a:Expr} {ta:TA} {p pos:Pos} (hg:Gl X "range") (hm:X.mg "range" = none) (ha:PA X [a] ta) (hs:P1 [a] X.env=[(false,d3 a X.env)]:=by rfl):PI X tg (.Call (.Name "range" p) [a] [] pos) (iRng1 ta):=by
 intro d s σ H R I h;refine Call_ (ld_blt I hg hm boot_range (j3 (thn (ha pos d s σ H _ I h) λ f g ⟨vs,H1,I1,r1,b⟩=>?_) hs rfl));obtain ⟨j,e,b,c,q⟩:=b;subst e;cases r1 with
 | cons r rr=>cases rr;obtain ⟨t,rfl⟩:=r;exact call_range_1 (zj3 I1 (by omega) (by omega) b c (by simpa using q))
noncomputable def tFor (wi:TI) (g:TG) (tb:TS):TS:=λ D σ H=>wi σ H λ J H1=>∃W:Nat->Nat->St->Hp->Prop,(∃m,W 0 m σ H1)/\∀i m σ H,W i m σ H->
 (J.stop i H/\D.nx σ H)\/(J.go i H/\∃N:St->Hp->Prop,(∀σ' H',N σ' H'->∃m',m' < m/\W (i + 1) m' σ' H')/\∀x H',J.yld i H x H'->g x σ H' λ σ2 H2=>tb { D with nx:=N,ct:=N,bk:=D.nx } σ2 H2)
noncomputable def pinsAt (fp:List Addr) (h:Heap):List (Addr×Obj):=fp.filterMap λ b=>(h.get? b).map λ o=>(b,o)
theorem z46 {fp:List Addr} {h:Heap} {b:Addr} {o:Obj} (hb:b∈fp) (e:h.get? b=some o):(b,o)∈pinsAt fp h:=List.mem_filterMap.mpr ⟨b,hb,by rw [e];rfl⟩
theorem zci {fp:List Addr} {h:Heap} {p:Addr×Obj} (hp:p∈pinsAt fp h):p.1∈fp/\h.get? p.1=some p.2:=by
 obtain ⟨b,a,e⟩:=List.mem_filterMap.mp hp;cases q:h.get? b with
 | none=>rw [q] at e;cases e
 | some o=>rw [q] at e;have c:(b,o)=p:=Q1 e;subst c;exact ⟨a,q⟩
theorem Inv.pinned {pins:List (Addr×Obj)} {σ:St} {H:Hp} {s:B0} {fp:List Addr} (I:Inv X pins σ H s) (hf :∀b∈fp,FpOk X pins H b) (ho :∀b∈fp,∃o,s.heap.get? b=some o/\∀v,o.data≠.cell v):Inv X (pins++pinsAt fp s.heap) σ H s:=
 I.pins_of λ p g=>(List.mem_append.mp g).elim (λ z=>I.pin p (K1 _ z)) λ z=>by obtain ⟨c,e⟩:=zci z;obtain ⟨f,h,i,_⟩:=hf p.1 c;obtain ⟨o,a,d⟩:=ho p.1 c;rw [e] at a;cases a;exact ⟨e,f,h,i,d⟩
theorem Inv.unpinned {pins pl:List (Addr×Obj)} {σ:St} {H:Hp} {s:B0} (I:Inv X (pins++pl) σ H s):Inv X pins σ H s:=I.pins_of λ p a=>I.pin p (K1 _ (Q5 _ a))
theorem ps_for {iter:Expr} {body:List Stmt} {wi:TI} {g:TG} {tb:TS} {pos:Pos} (hp:PassesOwn (C1 X.prog X.w) X.A X.env X.xe) (hc:X.calm=true) (hi:PI X tg iter wi) (hg:PG X tg g) (hb:PSs X body tb)
  (hs :∀x,T4 iter X.env x=X2 x:=by intro _;rfl):PS X (.For tg iter body [] pos) (tFor wi g tb):=by
 intro l s σ H D I h;refine wpAny_For (thn (hi l s σ H _ I h) λ v s1 h1=>thn h1 λ a3 s2 V=>?_) hs;obtain ⟨it,p,B,J,P,e,M,T,a2,F,W,⟨S,w0⟩,a1⟩:=V;subst e
 -- what stays true of the iterator's objects through the loop
 have y :∀{H':Hp},(∀b∈p,H' b=none)->∀b∈p,FpOk X l H' b:=λ R b hb=>⟨R b hb,(F b hb).2⟩
 refine codeAny_forLoop_any (λ n C=>∃i σ' H',Inv X l σ' H' C/\B i C.heap/\(∀b∈p,H' b=none)/\W i n σ' H') ?_ S ⟨0,σ,P,M,a2,λ b hb=>(F b hb).1,w0⟩;rintro n z ⟨i,σ3,H3,I3,st3,fr3,w3⟩;rcases a1 i n σ3 H3 w3 with ⟨a0,U⟩|⟨go,N,hN,step⟩
 ·refine P4 hp (thn (T.done X rfl rfl rfl hc i l z σ3 H3 X.xe I3 (y fr3) st3 a0) λ r K ⟨hr,I4⟩=>?_);subst hr;exact g8 ⟨σ3,H3,I4,U⟩
 ·refine P4 hp (thn (T.item X rfl rfl rfl hc i l z σ3 H3 X.xe I3 (y fr3) st3 go) λ r K ⟨u,hr,h4⟩=>?_);subst hr;refine P4 hp (thn h4 λ _ G ⟨x,H5,I5,r5,y5,st5,fr5⟩=>?_);have Z:=I5.pinned (y fr5) (T.obj _ _ st5);refine P4 hp (thn (hg _ G σ3 H5 x u _ Z r5 (step x H5 y5)) λ _ Y ⟨σ6,H6,I6,q6⟩=>?_);refine P4 hp (thn (hb _ Y σ6 H6 _ I6 q6) λ f t k=>?_);have E :∀{a:St} {c:Hp},Inv X (l++pinsAt p G.heap) a c t->N a c->∃m,m < n/\∃i σ' H',Inv X l σ' H' t/\B i t.heap/\(∀b∈p,H' b=none)/\W i m σ' H':=λ {a c} j q=>by obtain ⟨m',O,Q⟩:=hN a c q;refine ⟨m',O,i + 1,a,c,j.unpinned,T.keep _ _ _ st5 λ b hb o e=>(j.pin (b,o) (K1 _ (K1 _ (z46 hb e)))).1,λ b hb=>?_,Q⟩;obtain ⟨o,e,d⟩:=T.obj _ _ st5 b hb;exact (j.pin (b,o) (K1 _ (K1 _ (z46 hb e)))).2.1
  cases f with
  | next=>obtain ⟨a,c,j,q⟩:=k;exact E j q
  | cont=>obtain ⟨a,c,j,q⟩:=k;exact E j q
  | brk=>obtain ⟨a,c,j,k⟩:=k;exact ⟨a,c,j.unpinned,k⟩
  | ret v=>obtain ⟨x7,a,c,j,L,k⟩:=k;exact ⟨x7,a,c,j.unpinned,L,k⟩
end
theorem z85 {K:b0} {a:Addr} {xs:List V} {g:TG} {tb:TS} {D:Ends} {σ:St} {H:Hp} (Pv:Nat->St->Hp->Prop) (h0:Pv 0 σ H) (hl :∀i σ H,i<=xs.length->Pv i σ H->SqL K H a xs)
  (hs :∀i x σ H,xs[i]? = some x->Pv i σ H->g x σ H λ σ2 H2=>tb { D with nx:=Pv (i + 1),ct:=Pv (i + 1),bk:=D.nx } σ2 H2) (hd :∀σ H,Pv xs.length σ H->D.nx σ H) :
  ∃W:Nat->Nat->St->Hp->Prop,(∃m,W 0 m σ H)/\∀i m σ H,W i m σ H->
   ((Itl K a).stop i H/\D.nx σ H)\/((Itl K a).go i H/\∃N:St->Hp->Prop,(∀σ' H',N σ' H'->∃m',m' < m/\W (i + 1) m' σ' H')/\∀x H',(Itl K a).yld i H x H'->g x σ H' λ σ2 H2=>tb { D with nx:=N,ct:=N,bk:=D.nx } σ2 H2):=by
 refine ⟨λ i m σ H=>m=xs.length - i/\i<=xs.length/\Pv i σ H,⟨xs.length,by simp,Z1 _,h0⟩,?_⟩;rintro i m σ H ⟨rfl,hi,p⟩;have q:=hl i σ H hi p;by_cases hlt:i < xs.length
 ·refine .inr ⟨⟨xs,xs[i],q,by simp [hlt]⟩,Pv (i + 1),λ σ' H' b=>⟨xs.length - (i + 1),by omega,rfl,hlt,b⟩,λ x H' y=>?_⟩;obtain ⟨e,y⟩:=y;subst e;exact hs i x σ _ (y xs q) p
 ·have e:i=xs.length:=by omega
  subst e;exact .inl ⟨⟨xs,q,A0 _⟩,hd σ H p⟩
theorem z39 {lo:Int} {n:Nat} {g:TG} {tb:TS} {D:Ends} {σ:St} {H:Hp} (Pv:Nat->St->Hp->Prop) (h0:Pv 0 σ H)
  (hs :∀i σ H,i < n->Pv i σ H->g (.int (lo + i)) σ H λ σ2 H2=>tb { D with nx:=Pv (i + 1),ct:=Pv (i + 1),bk:=D.nx } σ2 H2) (hd :∀σ H,Pv n σ H->D.nx σ H) :
  ∃W:Nat->Nat->St->Hp->Prop,(∃m,W 0 m σ H)/\∀i m σ H,W i m σ H->
   ((Itr lo n).stop i H/\D.nx σ H)\/((Itr lo n).go i H/\∃N:St->Hp->Prop,(∀σ' H',N σ' H'->∃m',m' < m/\W (i + 1) m' σ' H')/\∀x H',(Itr lo n).yld i H x H'->g x σ H' λ σ2 H2=>tb { D with nx:=N,ct:=N,bk:=D.nx } σ2 H2):=by
 refine ⟨λ i m σ H=>m=n - i/\i<=n/\Pv i σ H,⟨n,by simp,Z1 _,h0⟩,?_⟩;rintro i m σ H ⟨rfl,hi,p⟩;by_cases hlt:i < n
 ·refine .inr ⟨hlt,Pv (i + 1),λ σ' H' a=>⟨n - (i + 1),by omega,rfl,hlt,a⟩,λ x H' y=>?_⟩;obtain ⟨e,y⟩:=y;subst e y;exact hs i σ _ hlt p
 ·have e:i=n:=by omega
  subst e;exact .inl ⟨A0 _,hd σ H p⟩
noncomputable abbrev R2:=V->V->Hp->VK->Prop
def OpR (X:Cx) (f:Value->Value->Sem Value) (r:R2):Prop:=
 ∀(pins:List (Addr×Obj)) (s:B0) (σ:St) (H:Hp) (x y:V) (v u:Value) (Q:VK),Inv X pins σ H s->RelV x v->RelV y u->r x y H Q->
  R0 (C1 X.prog X.w) X.A (f v u) (EP X pins σ Q) X.xe s
def UnR (X:Cx) (f:Value->Sem Value) (r:V->Hp->VK->Prop):Prop:=
 ∀(pins:List (Addr×Obj)) (s:B0) (σ:St) (H:Hp) (x:V) (v:Value) (Q:VK),Inv X pins σ H s->RelV x v->r x H Q->
  R0 (C1 X.prog X.w) X.A (f v) (EP X pins σ Q) X.xe s
def CallR (X:Cx) (f:Value) (r:List V->Hp->VK->Prop):Prop:=
 ∀(pins:List (Addr×Obj)) (s:B0) (σ:St) (H:Hp) (xs:List V) (us:List Value) (Q:VK),Inv X pins σ H s->Vals xs us->r xs H Q->
  R0 (C1 X.prog X.w) X.A (call f us) (EP X pins σ Q) X.xe s
noncomputable def tOp (r:R2) (ta tb:TE):TE:=λ σ H Q=>ta σ H λ x H1=>tb σ H1 λ y H2=>r x y H2 Q
noncomputable def tUn (r:V->Hp->VK->Prop) (ta:TE):TE:=λ σ H Q=>ta σ H λ x H1=>r x H1 Q
noncomputable def rI (C:Int->Int->Prop) (g:Int->Int->V):R2:=λ x y H Q=>∃i j,x=.int i/\y=.int j/\C i j/\Q (g i j) H
noncomputable def rI0 (g:Int->Int->V):R2:=λ x y H Q=>∃i j,x=.int i/\y=.int j/\Q (g i j) H
def rU (g:Int->V):V->Hp->VK->Prop:=λ x H Q=>∃i,x=.int i/\Q (g i) H
section
variable {X:Cx} {a b c:Expr} {ta tb tc:TE} {pos:Pos}
theorem binT (ha:PE X a ta) (hb:PE X b tb) {pins:List (Addr×Obj)} {s:B0} {σ:St} {H:Hp} {R:V->V->Hp->Prop} (I:Inv X pins σ H s)
  (h:ta σ H λ x H1=>tb σ H1 λ y H2=>R x y H2) {Q:Value->B0->Prop} {f:Value->Value->Sem Value}
  (hf :∀v u s2 x y H2,Inv X pins σ H2 s2->RelV x v->RelV y u->R x y H2->R0 (C1 X.prog X.w) X.A (f v u) Q X.xe s2) :
  R0 (C1 X.prog X.w) X.A (d3 a X.env) (λ v s₁=>R0 (C1 X.prog X.w) X.A (d3 b X.env) (λ u s₂=>R0 (C1 X.prog X.w) X.A (f v u) Q X.xe s₂) X.xe s₁) X.xe s:=by
 refine thn (ha pins s σ H _ I h) λ v c ⟨x,H1,I1,r1,q1⟩=>?_;refine thn (hb pins c σ H1 _ I1 q1) λ u s2 ⟨y,H2,I2,r2,q2⟩=>?_;exact hf v u s2 x y H2 I2 r1 r2 q2
theorem pe_op {op:Operator} {r:R2} (ho:OpR X (A4 op) r) (ha:PE X a ta) (hb:PE X b tb):PE X (.BinOp a op b pos) (tOp r ta tb):=by intro f s σ H Q I h;exact wpAny_BinOp (binT ha hb I h λ v u i x y c g e d q=>ho f i σ c x y v u Q g e d q)
theorem pe_un {op:UnaryOp} {r:V->Hp->VK->Prop} (ho:UnR X (unaryOp op) r) (ha:PE X a ta):PE X (.UnaryOp op a pos) (tUn r ta):=by intro b s σ H Q I h;exact UnaryOp_ (thn (ha b s σ H _ I h) λ v c ⟨x,H1,I1,r1,q1⟩=>ho b c σ H1 x v Q I1 r1 q1)
theorem opI {f:Value->Value->Sem Value} {C:Int->Int->Prop} {g:Int->Int->Int}
  (rule :∀(i j:Int) (t u:Tok) (s:B0) (Q:Value->B0->Prop) (E:Value->B0->Prop),C i j->Q (.int (g i j) s.toks) { s with toks:=s.toks + 1 }->R0 (C1 X.prog X.w) X.A (f (.int i t) (.int j u)) Q E s) :
  OpR X f (rI C λ i j=>.int (g i j)):=by
 intro e s σ H x y v u Q I b a h;obtain ⟨i,j,rfl,rfl,c,q⟩:=h;obtain ⟨t,rfl⟩:=b;obtain ⟨d,rfl⟩:=a;exact rule i j t d s _ _ c ⟨.int (g i j),H,I.tok _,⟨_,rfl⟩,q⟩
theorem opI0 {f:Value->Value->Sem Value} {g:Int->Int->Int}
  (rule :∀(i j:Int) (t u:Tok) (s:B0) (Q:Value->B0->Prop) (E:Value->B0->Prop),Q (.int (g i j) s.toks) { s with toks:=s.toks + 1 }->R0 (C1 X.prog X.w) X.A (f (.int i t) (.int j u)) Q E s) :
  OpR X f (rI0 λ i j=>.int (g i j)):=by
 intro d s σ H x y v u Q I b a h;obtain ⟨i,j,rfl,rfl,q⟩:=h;obtain ⟨t,rfl⟩:=b;obtain ⟨c,rfl⟩:=a;exact rule i j t c s _ _ ⟨.int (g i j),H,I.tok _,⟨_,rfl⟩,q⟩
theorem opB0 {f:Value->Value->Sem Value} {g:Int->Int->Bool}
  (rule :∀(i j:Int) (t u:Tok) (s:B0) (Q:Value->B0->Prop) (E:Value->B0->Prop),Q (.bool (g i j)) s->R0 (C1 X.prog X.w) X.A (f (.int i t) (.int j u)) Q E s) :
  OpR X f (rI0 λ i j=>.bl (g i j)):=by
 intro d s σ H x y v u Q I b a h;obtain ⟨i,j,rfl,rfl,q⟩:=h;obtain ⟨t,rfl⟩:=b;obtain ⟨c,rfl⟩:=a;exact rule i j t c s _ _ ⟨.bl (g i j),H,I,rfl,q⟩
def CPow (i j:Int):Prop:=0<=j/\j<=1000000/\i.natAbs < 2 ^ 64
def CMul (i j:Int):Prop:=(-(2 ^ 64) < i/\i < 2 ^ 64)\/(-(2 ^ 64) < j/\j < 2 ^ 64)
theorem CMul.ok {i j:Int} (h:CMul i j):IntMulOk i j:=by
 rcases h with ⟨b,a⟩|⟨b,a⟩
 ·exact .of_left (intBits_le_64 b a)
 ·exact .of_right (intBits_le_64 b a)
theorem op_add:OpR X (A4 .Add) (rI0 λ i j=>.int (i + j)):=opI0 λ _ _ _ _ _ _ _ q=>add_int q
theorem op_sub:OpR X (A4 .Sub) (rI0 λ i j=>.int (i - j)):=opI0 λ _ _ _ _ _ _ _ q=>sub_int q
theorem op_mul:OpR X (A4 .Mult) (rI CMul λ i j=>.int (i * j)):=opI λ _ _ _ _ _ _ _ a q=>mul_int q a.ok
theorem op_mod:OpR X (A4 .Mod) (rI (λ _ j=>0 < j) λ i j=>.int (i % j)):=opI λ i j _ _ _ _ _ a q=>by have b:(0:Int) < j:=a;exact mod_int' (by omega) (by rw [Int.fmod_eq_emod_of_nonneg i (by omega)];exact q)
theorem op_pow:OpR X (A4 .Pow) (rI CPow λ i j=>.int (i ^ j.toNat)):=opI λ _ _ _ _ _ _ _ a q=>pow_int_small a.1 a.2.1 a.2.2 q
theorem unI {f:Value->Sem Value} {g:Int->Int}
  (rule :∀(i:Int) (t:Tok) (s:B0) (Q:Value->B0->Prop) (E:Value->B0->Prop),Q (.int (g i) s.toks) { s with toks:=s.toks + 1 }->R0 (C1 X.prog X.w) X.A (f (.int i t)) Q E s) :
  UnR X f (rU λ i=>.int (g i)):=by
 intro b s σ H x v Q I a h;obtain ⟨i,rfl,q⟩:=h;obtain ⟨t,rfl⟩:=a;exact rule i t s _ _ ⟨.int (g i),H,I.tok _,⟨_,rfl⟩,q⟩
theorem un_neg:UnR X (unaryOp .USub) (rU λ i=>.int (-i)):=unI λ _ _ _ _ _ q=>neg_int q
end
noncomputable def scal:V->V->Bool
 | .non,.non=>true | .non,.int _=>true | .int _,.non=>true | .non,.bl _=>true | .bl _,.non=>true | .non,.str _=>true | .str _,.non=>true
 | .int _,.int _=>true | .bl _,.bl _=>true | .str _,.str _=>true | .byt _,.byt _=>true
 | .int _,.str _=>true | .str _,.int _=>true | .bl _,.str _=>true | .str _,.bl _=>true
 | _,_=>false
noncomputable def rEq:R2:=λ x y H Q=>scal x y=true/\Q (.bl (decide (x=y))) H
noncomputable def rNe:R2:=λ x y H Q=>scal x y=true/\Q (.bl (!decide (x=y))) H
theorem zi4 {i j:Int}:decide (V.int i=V.int j)=(i == j):=by rw [Bool.eq_iff_iff];simp
theorem dec_bl {i j:Bool}:decide (V.bl i=V.bl j)=(i == j):=by rw [Bool.eq_iff_iff];simp
theorem zi0 {i j:Str}:decide (V.str i=V.str j)=(i == j):=by rw [Bool.eq_iff_iff];simp
theorem zho {i j:Array UInt8}:decide (V.byt i=V.byt j)=(i.toList == j.toList):=by rw [Bool.eq_iff_iff];cases i;cases j;simp
section
variable {X:Cx} {a b c:Expr} {ta tb tc:TE} {pos:Pos}
theorem fin_bl {pins:List (Addr×Obj)} {σ:St} {H:Hp} {s:B0} {Q:VK} {k k':Bool} (I:Inv X pins σ H s) (q:Q (.bl k) H) (e:k=k'):EP X pins σ Q (.bool k') s:=by subst e;exact ⟨.bl k,H,I,rfl,q⟩
theorem op_eq:OpR X (C2 .Eq) rEq:=by
 intro e s σ H x y v u Q I d a h;obtain ⟨c,q⟩:=h;cases x with
 | non=>
  cases d;cases y with
  | non=>cases a;exact PySem.EqNone.eq_none_none (fin_bl I q (by simp))
  | bl j=>cases a;exact PySem.EqNone.eq_none_bool (fin_bl I q (by simp))
  | int j=>obtain ⟨b,rfl⟩:=a;exact PySem.EqNone.eq_none_int (fin_bl I q (by simp))
  | str j=>obtain ⟨b,rfl⟩:=a;exact PySem.EqNone.eq_none_str (fin_bl I q (by simp))
  | _=>exact absurd (show false=true from c) M0
 | bl i=>
  cases d;cases y with
  | non=>cases a;exact PySem.EqNone.eq_bool_none (fin_bl I q (by simp))
  | bl j=>cases a;exact eq_bool (fin_bl I q dec_bl)
  | str j=>obtain ⟨b,rfl⟩:=a;exact PySem.EqMixed.eq_bool_str (fin_bl I q (by simp))
  | _=>exact absurd (show false=true from c) M0
 | int i=>
  obtain ⟨t,rfl⟩:=d;cases y with
  | non=>cases a;exact PySem.EqNone.eq_int_none (fin_bl I q (by simp))
  | int j=>obtain ⟨b,rfl⟩:=a;exact eq_int (fin_bl I q zi4)
  | str j=>obtain ⟨b,rfl⟩:=a;exact PySem.EqMixed.eq_int_str (fin_bl I q (by simp))
  | _=>exact absurd (show false=true from c) M0
 | str i=>
  obtain ⟨t,rfl⟩:=d;cases y with
  | non=>cases a;exact PySem.EqNone.eq_str_none (fin_bl I q (by simp))
  | bl j=>cases a;exact PySem.EqMixed.eq_str_bool (fin_bl I q (by simp))
  | int j=>obtain ⟨b,rfl⟩:=a;exact PySem.EqMixed.eq_str_int (fin_bl I q (by simp))
  | str j=>obtain ⟨b,rfl⟩:=a;exact eq_str (fin_bl I q zi0)
  | _=>exact absurd (show false=true from c) M0
 | byt i=>
  obtain ⟨t,rfl⟩:=d;cases y with
  | byt j=>obtain ⟨b,rfl⟩:=a;exact PySem.W.eq_bytes (fin_bl I q zho)
  | _=>exact absurd (show false=true from c) M0
 | _=>cases y<;>exact absurd (show false=true from c) M0
theorem op_ne:OpR X (C2 .NotEq) rNe:=by
 intro e s σ H x y v u Q I d a h;obtain ⟨c,q⟩:=h;cases x with
 | non=>
  cases d;cases y with
  | non=>cases a;exact PySem.EqNone.ne_none_none (fin_bl I q (by simp))
  | bl j=>cases a;exact PySem.EqNone.ne_none_bool (fin_bl I q (by simp))
  | int j=>obtain ⟨b,rfl⟩:=a;exact PySem.EqNone.ne_none_int (fin_bl I q (by simp))
  | str j=>obtain ⟨b,rfl⟩:=a;exact PySem.EqNone.ne_none_str (fin_bl I q (by simp))
  | _=>exact absurd (show false=true from c) M0
 | bl i=>
  cases d;cases y with
  | non=>cases a;exact PySem.EqNone.ne_bool_none (fin_bl I q (by simp))
  | bl j=>cases a;exact ne_bool (fin_bl I q (congrArg not dec_bl))
  | str j=>obtain ⟨b,rfl⟩:=a;exact PySem.EqMixed.ne_bool_str (fin_bl I q (by simp))
  | _=>exact absurd (show false=true from c) M0
 | int i=>
  obtain ⟨t,rfl⟩:=d;cases y with
  | non=>cases a;exact PySem.EqNone.ne_int_none (fin_bl I q (by simp))
  | int j=>obtain ⟨b,rfl⟩:=a;exact ne_int (fin_bl I q (congrArg not zi4))
  | str j=>obtain ⟨b,rfl⟩:=a;exact PySem.EqMixed.ne_int_str (fin_bl I q (by simp))
  | _=>exact absurd (show false=true from c) M0
 | str i=>
  obtain ⟨t,rfl⟩:=d;cases y with
  | non=>cases a;exact PySem.EqNone.ne_str_none (fin_bl I q (by simp))
  | bl j=>cases a;exact PySem.EqMixed.ne_str_bool (fin_bl I q (by simp))
  | int j=>obtain ⟨b,rfl⟩:=a;exact PySem.EqMixed.ne_str_int (fin_bl I q (by simp))
  | str j=>obtain ⟨b,rfl⟩:=a;exact ne_str (fin_bl I q (congrArg not zi0))
  | _=>exact absurd (show false=true from c) M0
 | byt i=>
  obtain ⟨t,rfl⟩:=d;cases y with
  | byt j=>obtain ⟨b,rfl⟩:=a;exact PySem.W.ne_bytes (fin_bl I q (congrArg not zho))
  | _=>exact absurd (show false=true from c) M0
 | _=>cases y<;>exact absurd (show false=true from c) M0
theorem op_lt:OpR X (C2 .Lt) (rI0 λ i j=>.bl (decide (i < j))):=opB0 λ _ _ _ _ _ _ _ q=>lt_int q
theorem op_le:OpR X (C2 .LtE) (rI0 λ i j=>.bl (decide (i<=j))):=opB0 λ _ _ _ _ _ _ _ q=>le_int q
theorem op_gt:OpR X (C2 .Gt) (rI0 λ i j=>.bl (decide (j < i))):=opB0 λ _ _ _ _ _ _ _ q=>gt_int q
theorem op_isN:OpR X (C2 .Is) (λ x y H Q=>y=.non/\Q (.bl (decide (x=.non))) H):=by
 intro c s σ H x y v u Q I a b h;obtain ⟨rfl,q⟩:=h;cases b;refine is_none_gen (fin_bl I q ?_);cases x<;>first
  | (cases a;rfl)
  | (obtain ⟨t,rfl⟩:=a;rfl)
theorem z77:OpR X (C2 .IsNot) (λ x y H Q=>y=.non/\Q (.bl (!decide (x=.non))) H):=by
 intro c s σ H x y v u Q I a b h;obtain ⟨rfl,q⟩:=h;cases b;refine isnot_none_gen (fin_bl I q ?_);cases x<;>first
  | (cases a;rfl)
  | (obtain ⟨t,rfl⟩:=a;rfl)
theorem OpR.or {f:Value->Value->Sem Value} {r r':R2} (h:OpR X f r) (h':OpR X f r'):OpR X f (λ x y H Q=>r x y H Q\/r' x y H Q):=by
 intro c s σ H x y v u Q I b a q;rcases q with q|q
 ·exact h c s σ H x y v u Q I b a q
 ·exact h' c s σ H x y v u Q I b a q
theorem nomark (b:Expr) {op:CmpOp} (h:op≠.In:=by decide) (h2:op≠.NotIn:=by decide):A7 op b=false:=by
 have a:(op == CmpOp.In)=false:=by cases op<;>first|rfl|exact absurd rfl h
 have c:(op == CmpOp.NotIn)=false:=by cases op<;>first|rfl|exact absurd rfl h2
 cases b<;>simp [A7,a,c]
theorem z0r {op:CmpOp} {r:R2} (ho:OpR X (C2 op) r) (ha:PE X a ta) (hb:PE X b tb) (hm:A7 op b=false):PE X (.Compare a [op] [b] pos) (tOp r ta tb):=by intro f s σ H Q I h;exact wpAny_Compare1 (binT ha hb I h λ v u i x y c g e d q=>ho f i σ c x y v u Q g e d q) hm
noncomputable def tTest (t:TE):TT:=λ σ H Q=>t σ H λ x H'=>∃k,x=.bl k/\Q k H'
theorem z08 {op:CmpOp} {r:R2} (ho:OpR X (C2 op) r) (ha:PE X a ta) (hb:PE X b tb) (hm:A7 op b=false):PT X (.Compare a [op] [b] pos) (tTest (tOp r ta tb)):=by
 intro d s σ H Q I h;refine wpAny_isTrue_Compare1 (thn (ha d s σ H _ I h) λ v f ⟨x,H1,I1,r1,q1⟩=>thn (hb d f σ H1 _ I1 q1) λ u g ⟨y,H2,I2,r2,q2⟩=>thn (ho d g σ H2 x y v u _ I2 r1 r2 q2) λ c i ⟨z,H3,I3,r3,k,e,q3⟩=>?_) hm;subst e;cases r3;exact Y2 ⟨H3,I3,q3⟩
noncomputable def tChain (r r':R2) (ta tb tc:TE):TE:=λ σ H Q=>ta σ H λ x H1=>tb σ H1 λ y H2=>r x y H2 λ z H3=>∃k,z=.bl k/\
 (if k=true then tc σ H3 λ w' H4=>r' y w' H4 Q else Q (.bl false) H3)
theorem zj9 {op op':CmpOp} {r r':R2} (ho:OpR X (C2 op) r) (ho':OpR X (C2 op') r') (ha:PE X a ta) (hb:PE X b tb) (hc:PE X c tc)
  (hm:lastMarks [op,op'] [b,c]=false:=by with_unfolding_all rfl):PE X (.Compare a [op,op'] [b,c] pos) (tChain r r' ta tb tc):=by
 intro f s σ H Q I h;refine Compare_chain (thn (ha f s σ H _ I h) λ v j ⟨x,H1,I1,r1,q1⟩=>chain_link (thn (hb f j σ H1 _ I1 q1) λ u l ⟨y,H2,I2,r2,q2⟩=>thn (ho f l σ H2 x y v u _ I2 r1 r2 q2) λ d m ⟨z,H3,I3,r3,k,e,q3⟩=>?_)) hm;subst e;cases r3;refine Y2 ?_;cases k with
 | false=>exact ite_ff ⟨.bl false,H3,I3,rfl,q3⟩
 | true=>exact ite_tt (chain_last (thn (hc f m σ H3 _ I3 q3) λ i g ⟨z',H4,I4,r4,q4⟩=>ho' f g σ H4 y z' u i Q I4 r2 r4 q4))
theorem ziz {op op':CmpOp} {r r':R2} (ho:OpR X (C2 op) r) (ho':OpR X (C2 op') r') (ha:PE X a ta) (hb:PE X b tb) (hc:PE X c tc)
  (hm:lastMarks [op,op'] [b,c]=false:=by with_unfolding_all rfl):PT X (.Compare a [op,op'] [b,c] pos) (tTest (tChain r r' ta tb tc)):=by
 intro f s σ H Q I h;refine isTrue_chain (thn (ha f s σ H _ I h) λ v m ⟨x,H1,I1,r1,q1⟩=>test_link (thn (hb f m σ H1 _ I1 q1) λ u n ⟨y,H2,I2,r2,q2⟩=>thn (ho f n σ H2 x y v u _ I2 r1 r2 q2) λ d i ⟨z,H3,I3,r3,k,e,q3⟩=>?_)) hm;subst e;cases r3;refine Y2 ?_;cases k with
 | false=>obtain ⟨q,o,j⟩:=q3;cases o;exact ite_ff ⟨H3,I3,j⟩
 | true=>refine ite_tt (test_last (thn (hc f i σ H3 _ I3 q3) λ l g ⟨z',H4,I4,r4,q4⟩=>thn (ho' f g σ H4 y z' u l _ I4 r2 r4 q4) λ p t ⟨z2,H5,I5,r5,k2,e2,q5⟩=>?_));subst e2;cases r5;exact Y2 ⟨H5,I5,q5⟩
theorem line63:(sizeLine:Nat) < 2 ^ 63:=by rw [sizeLine_eq];decide
theorem op_add_str:OpR X (A4 .Add) (λ x y H Q=>∃i j,x=.str i/\y=.str j/\i.length + j.length<=sizeLine/\Q (.str (i++j)) H):=by intro e s σ H x y v u Q I b a h;obtain ⟨i,j,rfl,rfl,d,q⟩:=h;obtain ⟨t,rfl⟩:=b;obtain ⟨c,rfl⟩:=a;exact add_str (λ c f=>⟨.str (i++j),H,I.tok _,⟨_,rfl⟩,q⟩) d
theorem vals1 {x:V} {us:List Value} (r:Vals [x] us) :∃u,us=[u]/\RelV x u:=by
 cases r with
 | cons r1 r2=>cases r2;exact ⟨_,rfl,r1⟩
theorem vals2 {x y:V} {us:List Value} (r:Vals [x,y] us) :∃u w',us=[u,w']/\RelV x u/\RelV y w':=by
 cases r with
 | cons r1 r2=>
  cases r2 with
  | cons r3 r4=>cases r4;exact ⟨_,_,rfl,r1,r3⟩
theorem zgk (hc:X.calm=true):CallR X (.builtin "max") (λ xs H Q=>∃i j,xs=[.int i,.int j]/\Q (.int (if j > i then j else i)) H):=by
 intro c s σ H xs b Q I r h;obtain ⟨i,j,rfl,q⟩:=h;obtain ⟨u,a,rfl,⟨t,rfl⟩,⟨f,rfl⟩⟩:=vals2 r;refine max_two_ints (I.ok.hd hc) λ d e k=>⟨_,H,I.kept k,?_,q⟩
 by_cases hj:j > i
 ·rw [if_pos hj,if_pos hj];exact ⟨_,rfl⟩
 ·rw [if_neg hj,if_neg hj];exact ⟨_,rfl⟩
theorem zgv (hc:X.calm=true):CallR X (.builtin "min") (λ xs H Q=>∃i j,xs=[.int i,.int j]/\Q (.int (if j < i then j else i)) H):=by
 intro c s σ H xs b Q I r h;obtain ⟨i,j,rfl,q⟩:=h;obtain ⟨u,a,rfl,⟨t,rfl⟩,⟨f,rfl⟩⟩:=vals2 r;refine min_two_ints (I.ok.hd hc) λ d e k=>⟨_,H,I.kept k,?_,q⟩
 by_cases hj:j < i
 ·rw [if_pos hj,if_pos hj];exact ⟨_,rfl⟩
 ·rw [if_neg hj,if_neg hj];exact ⟨_,rfl⟩
theorem call_int1:CallR X (.type "int") (λ xs H Q=>(∃i,xs=[.int i]/\Q (.int i) H)\/∃k,xs=[.bl k]/\Q (.int (if k then 1 else 0)) H):=by
 intro c s σ H xs b Q I r h;rcases h with ⟨i,rfl,q⟩|⟨k,rfl,q⟩
 ·obtain ⟨u,rfl,t,rfl⟩:=vals1 r;exact call_int_int ⟨.int i,H,I,⟨_,rfl⟩,q⟩
 ·obtain ⟨u,rfl,a⟩:=vals1 r;cases a;exact call_int_bool ⟨.int (if k then 1 else 0),H,I.tok _,⟨_,rfl⟩,q⟩
end
structure ObjM (h:Heap) (x dx C:Addr) (mA:Str->Option Value):Prop where
 obj:h.get? x=some (P3 C dx)
 ns:h.Ns1 dx mA
 ne:dx≠x
theorem zg7 {h:Heap} {dx:Addr} {mA:Str->Option Value} (n:h.Ns1 dx mA) :∃od,h.get? dx=some od/\∀name,E7 name od=some (mA name):=by
 obtain ⟨o,b,l,c,j,i,_,d⟩:=n;refine ⟨o,c,λ name=>?_⟩;have e:=d name;unfold nsFind findBy at e;rw [<-Array.find?_toList] at e;unfold E7;rw [j];dsimp only;split
 ·rename_i y q;rw [q] at e;exact congrArg some e
 ·rename_i q;rw [q] at e;have a:b.toList.any (·.refKey)=false:=by rw [List.any_eq_false];intro y f;obtain ⟨z,t,k⟩:=i y (Array.mem_toList_iff.mp f);simp [DictEntry.refKey,k]
  have g:¬ b.toList.any (·.refKey)=true:=by rw [a];exact M0
  rw [if_neg g];exact congrArg some e
theorem ObjM.look {h:Heap} {x dx C:Addr} {mA:Str->Option Value} (I:ObjM h x dx C mA) :∃od,PySem.W.InstAt h x (P3 C dx) C (some od)/\∀name,E7 name od=some (mA name):=
 let ⟨od,ho,hl⟩:=zg7 I.ns
 ⟨od,⟨I.obj,rfl,rfl,ho⟩,hl⟩
section
variable {prog:Program} {w:P0} {A:X1} {E:Value->B0->Prop} {s:B0} {K:b0} {x dx C f:Addr} {mA:Str->Option Value} {name:Str} {v:Value}
theorem zjz {expr:Bool} {Q:Value->B0->Prop} (X:K.In s.heap) (I:ObjM s.heap x dx C mA) (hg:E6 K C name=true) (hh:u8 K C=true)
  (ha:W2 K (.ref C) name=some none) (hv:mA name=some v) (hv':PySem.W.handedIn v=true) (h:Q v { s with toks:=s.toks + 1 }) :
  R0 (C1 prog w) A (getAttr (.ref x) name expr) Q E s:=by
 obtain ⟨b,J,a⟩:=I.look;exact PySem.W.get_value X J (S7 hg).1 (PySem.W.findObj_own hh ha rfl (by rw [a,hv])) hv' h
theorem zim {pl:Sem Bool} {Q:Value×List Value->B0->Prop} (X:K.In s.heap) (I:ObjM s.heap x dx C mA) (hg:E6 K C name=true)
  (hf:W2 K (.ref C) name=some (some (.ref f))) (ht:j02 K (.ref f)=true) (hv:mA name=none) (h:Q (.ref f,[.ref x]) s) :
  R0 (C1 prog w) A (getMethod (.ref x) name pl) Q E s:=by
 obtain ⟨a,J,b⟩:=I.look;exact PySem.W.method_fn X J (S7 hg).1 (S7 hg).2 hf (beq_iff_eq.mp ht) (by show (E7 name a).map (·.isSome)=some false;rw [b,hv];rfl) h
theorem zjx {ns:List Str} {Q:Unit->B0->Prop} (X:K.In s.heap) (I:ObjM s.heap x dx C mA)
  (hs:W2 K (.ref C) "__setattr__" = some (some (.builtin "object.__setattr__"))) (hp:j23 K C=true) (ht:X8 K C name=some none) (hh:u8 K C=true)
  (hw:j0j mA ns) (hsz:ns.length<=sizeLine)
  (h :∀h',ObjM h' x dx C (λ y=>if y=name then some v else mA y)->z5 dx s.heap h'->Q () { s with heap:=h',toks:=s.toks + 2 }) :
  R0 (C1 prog w) A (setAttr (.ref x) name v) Q E s:=by
 obtain ⟨n,J,o⟩:=I.look;refine PySem.W.set_plain X J hs (PySem.W.osa_open (s:={ s with toks:=s.toks + 1 }) (r:=none) X J hp ht λ b=>?_);obtain ⟨m,j,i⟩:=PySem.W.any_some hh;have e:s.heap.get? x=some ⟨.ref C,some dx,.plain,#[]⟩:=I.obj;refine t0 (L0 (t0 (t0 (wpAny_loadPart e (t0 (PySem.W.Looks.here (s:={ s with toks:=s.toks + 1 }) (PySem.W.looks_clsIn X j) ?_))))));rw [i];refine L0 (a:=some dx) (t0 (L0 (t0 ?_)));refine wpAny_nsSet1 (s:={ s with toks:=s.toks + 1 }) I.ns λ h' d c=>?_;obtain ⟨l,p,q,k,f,g⟩:=d.count (PySem.Within.cons name v hw);refine t0 (wpAny_lookBehind k (by rw [f];exact pastItsLine_dict (C0 g (by rw [W0];omega))) ?_);exact L0 (h _ ⟨(c.2 _ (V3 I.ne)).trans I.obj,d,I.ne⟩ c)
theorem zil {R:Result->B0->Prop} {vs:List Value} {kw:List (Str×Value)} (X:K.In s.heap) (hm:PySem.W.makesIn K C=true)
  (hi:W2 K (.ref C) "__init__" = some (some (.ref f))) (hf:PySem.W.typeIn K (.ref f)=some (.type "function"))
  (h:Q8 (C1 prog w) (A.under (.builtin "type.__call__" ⟨.ref C :: vs,kw⟩)) (.call (.ref f) ⟨.ref (s.heap.objs.size + 1) :: vs,kw⟩) (PySem.W.InitBack (s.heap.objs.size + 1) R)
   { s with heap:=(s.heap.push PySem.W.emptyDict).push (P3 C s.heap.objs.size) }) :
  Q8 (C1 prog w) A (.call (.ref C) ⟨vs,kw⟩) R s:=by
 obtain ⟨b,g,d,t,c⟩:=s;exact PySem.W.make_core (PySem.W.makes_of X hm) (PySem.W.looks_findIn X hi) (λ a=>PySem.W.bind_fn X a hf) (.inl rfl) h
end
noncomputable def putF (f:Str) (v:V):List (Str×V)->List (Str×V)
 | []=>[(f,v)]
 | (g,x) :: r=>if g=f then (g,v) :: r else (g,x) :: putF f v r
theorem z38 (f g:Str) (v:V) :∀fs:List (Str×V),(putF f v fs).lookup g=if g=f then some v else fs.lookup g
 | []=>by
  show R5 g [(f,v)]=_;by_cases h:g=f
  ·have a:(g == f)=true:=beq_iff_eq.mpr h;simp only [R5,a,if_pos h]
  ·have a:(g == f)=false:=beq_eq_false_iff_ne.mpr h;simp only [R5,a,if_neg h]
 | (k,x) :: r=>by
  have b:=z38 f g v r;rw [show putF f v ((k,x) :: r)=(if k=f then (k,v) :: r else (k,x) :: putF f v r) from rfl];by_cases hk:k=f
  ·rw [if_pos hk];by_cases h:g=k
   ·have a:(g == k)=true:=beq_iff_eq.mpr h;simp only [R5,a,if_pos (h.trans hk)]
   ·have a:(g == k)=false:=beq_eq_false_iff_ne.mpr h;simp only [R5,a,if_neg (λ e:g=f=>h (e.trans hk.symm))]
  ·rw [if_neg hk];by_cases h:g=k
   ·have a:(g == k)=true:=beq_iff_eq.mpr h;simp only [R5,a,if_neg (λ e:g=f=>hk (h.symm.trans e))]
   ·have a:(g == k)=false:=beq_eq_false_iff_ne.mpr h;simp only [R5,a];exact b
theorem z7i (f:Str) (v:V) :∀fs:List (Str×V),f∈(putF f v fs).map (·.1)/\∀g,g∈fs.map (·.1)->g∈(putF f v fs).map (·.1)
 | []=>⟨by simp [putF],λ g h=>by simp at h⟩
 | (k,x) :: r=>by
  obtain ⟨b,a⟩:=z7i f v r;rw [show putF f v ((k,x) :: r)=(if k=f then (k,v) :: r else (k,x) :: putF f v r) from rfl];by_cases hk:k=f
  ·rw [if_pos hk];subst hk;exact ⟨by simp,λ g h=>by simpa using h⟩
  ·rw [if_neg hk];refine ⟨?_,λ g h=>?_⟩
   ·rw [Y0];exact Z0 _ b
   ·rw [Y0] at h⊢;rcases List.mem_cons.mp h with e|e
    ·exact List.mem_cons.mpr (.inl e)
    ·exact Z0 _ (a g e)
theorem z76 (f:Str) (v:V) :∀fs:List (Str×V),(putF f v fs).length<=fs.length + 1
 | []=>by simp [putF]
 | (k,x) :: r=>by
  have a:=z76 f v r;rw [show putF f v ((k,x) :: r)=(if k=f then (k,v) :: r else (k,x) :: putF f v r) from rfl];by_cases hk:k=f
  ·rw [if_pos hk,W0,W0];omega
  ·rw [if_neg hk,W0,W0];omega
theorem RelO.some_of {v:V} {o:Option Value} (r:RelO (some v) o) :∃u,o=some u/\RelV v u:=by
 cases o with
 | none=>exact (show False from r).elim
 | some u=>exact ⟨u,rfl,r⟩
theorem RelO.none_of {o:Option Value} (r:RelO none o):o=none:=by
 cases o with
 | none=>rfl
 | some u=>exact (show False from r).elim
theorem zg5 {v:V} {u:Value} (r:RelV v u):PySem.W.handedIn u=true:=by
 cases v with
 | non=>cases (show u=Q4 from r);rfl
 | bl b=>cases (show u=T3 b from r);rfl
 | int i=>obtain ⟨t,e⟩:=(show∃t,u=R6 i t from r);cases e;rfl
 | str x=>obtain ⟨t,e⟩:=(show∃t,u=K5 x t from r);cases e;rfl
 | byt b=>obtain ⟨t,e⟩:=(show∃t,u=Value.bytes b t from r);cases e;rfl
 | flt b=>obtain ⟨t,e⟩:=(show∃t,u=j1h b t from r);cases e;rfl
 | ref a=>cases (show u=F1 a from r);rfl
 | ty n=>cases (show u=M9 n from r);rfl
section
variable {P:Program} {w:P0} {H H':Hp} {h h':Heap} {a C dx:Addr} {fs fs':List (Str×V)}
theorem zcl (hok:HOk P w H h) (e:H a=some (.ins C dx fs)) :∃mA,ObjM h a dx C mA/\(∀f,RelO (fs.lookup f) (mA f))/\j0j mA (fs.map (·.1))/\fs.length<=1000/\H dx=some (.own a):=by
 obtain ⟨d,z,c,b,mA,n,r,q⟩:=(show ObjOk P w H h a (.ins C dx fs) from hok a _ e)
 exact ⟨mA,⟨b,n,c⟩,r,q,z,d⟩
end
structure Cls (K:b0) (C:Addr):Prop where
 pg:E6 K C Str.empty=true
 hd:u8 K C=true
 po:j23 K C=true
 sa:W2 K (.ref C) "__setattr__" = some (some (.builtin "object.__setattr__"))
theorem Cls.get {K:b0} {C:Addr} (c:Cls K C) (f:Str):E6 K C f=true:=c.pg
def NoAttr (K:b0) (C:Addr) (f:Str):Prop:=W2 K (.ref C) f=some none
theorem NoAttr.taker {K:b0} {C:Addr} {f:Str} (n:NoAttr K C f):X8 K C f=some none:=by unfold X8;rw [show W2 K (.ref C) f=some none from n];rfl
structure Con (K:b0) (C:Addr) (f:Str) (v:V) (u:Value):Prop where
 at_:W2 K (.ref C) f=some (some u)
 rel:RelV v u
 get:j22 K u "__get__" = some none
 cp:PySem.W.copiedNames.contains f=false
structure Meth (K:b0) (C:Addr) (m:Str) (f:Addr):Prop where
 at_:W2 K (.ref C) m=some (some (.ref f))
 fn:j02 K (.ref f)=true
 kp:V2 K (.ref f)=true
section
variable {X:Cx} {pins:List (Addr×Obj)} {σ:St} {H:Hp} {s:B0} {a C dx:Addr} {fs:List (Str×V)} {f:Str} {v:V} {A:X1} {E:Value->B0->Prop}
theorem zf1 {b:Bool} {Q:Value->B0->Prop} (I:Inv X pins σ H s) (e:H a=some (.ins C dx fs)) (c:Cls X.K C) (n:NoAttr X.K C f) (l:fs.lookup f=some v)
  (h :∀u s',Inv X pins σ H s'->RelV v u->Q u s'):R0 (C1 X.prog X.w) A (getAttr (.ref a) f b) Q E s:=by
 obtain ⟨i,O,r,_,_,_⟩:=zcl I.hok e;obtain ⟨u,g,d⟩:=RelO.some_of (v:=v) (o:=i f) (by rw [<-l];exact r f);exact zjz I.kIn O (c.get f) c.hd n g (zg5 d) (h u _ (I.tok _) d)
theorem zfh {m:Str} {g:Addr} {pl:Sem Bool} {Q:Value×List Value->B0->Prop} (I:Inv X pins σ H s) (e:H a=some (.ins C dx fs)) (c:Cls X.K C) (k:Meth X.K C m g) (l:fs.lookup m=none)
  (h:Q (.ref g,[.ref a]) s):R0 (C1 X.prog X.w) A (getMethod (.ref a) m pl) Q E s:=by
 obtain ⟨d,O,r,_,_,_⟩:=zcl I.hok e;have b:d m=none:=RelO.none_of (by rw [<-l];exact r m);exact zim I.kIn O (c.get m) k.at_ k.fn b h
theorem zef {y:V} {u:Value} {Q:Unit->B0->Prop} (I:Inv X pins σ H s) (e:H a=some (.ins C dx fs)) (c:Cls X.K C) (n:NoAttr X.K C f) (hl:fs.length < 1000) (ry:RelV y u)
  (h :∀s',Inv X pins σ (upd H a (.ins C dx (putF f y fs))) s'->Q () s'):R0 (C1 X.prog X.w) A (setAttr (.ref a) f u) Q E s:=by
 obtain ⟨k,O,r,j,_,i⟩:=zcl I.hok e;have B:(fs.map (·.1)).length<=sizeLine:=by rw [F0,sizeLine_eq];omega
 refine zjx I.kIn O c.sa c.po n.taker c.hd j B λ m d p=>h _ ?_;have t :∃o,m.get? dx=some o:=let ⟨o,_,_,e',_⟩:=d.ns;⟨o,e'⟩;refine I.write (x:=a) (e:=dx) (by rw [e];exact True.intro) (.inr i) (λ b q v z=>(p.2 b v).trans z) t ?_;refine ⟨by rw [upd_ne O.ne];exact i,?_,O.ne,d.obj,_,d.ns,λ g=>?_,λ g l=>?_⟩
 ·have:=z76 f y fs;omega
 ·show RelO ((putF f y fs).lookup g) (if g=f then some u else k g);rw [z38];by_cases q:g=f
  ·rw [if_pos q,if_pos q];exact ry
  ·rw [if_neg q,if_neg q];exact r g
 ·by_cases q:g=f
  ·rw [q];exact (z7i f y fs).1
  ·refine (z7i f y fs).2 g (j g λ z=>l ?_);show (if g=f then some u else k g)=none;rw [if_neg q];exact z
theorem Inv.made (I:Inv X pins σ H s):Inv X pins σ (upd (upd H s.heap.objs.size (.own (s.heap.objs.size + 1))) (s.heap.objs.size + 1) (.ins C s.heap.objs.size []))
  { s with heap:=(s.heap.push PySem.W.emptyDict).push (P3 C s.heap.objs.size) }:=by
 have c:(s.heap.push PySem.W.emptyDict).get? s.heap.objs.size=some PySem.W.emptyDict:=X0 s.heap rfl;have h:((s.heap.push PySem.W.emptyDict).push (P3 C s.heap.objs.size)).get? (s.heap.objs.size + 1)=some (P3 C s.heap.objs.size):=by
  have:=X0 (s.heap.push PySem.W.emptyDict) (o:=P3 C s.heap.objs.size) rfl
  rwa [N3] at this
 have i:(s.heap.push PySem.W.emptyDict).Ns s.heap.objs.size (λ _=>none):=⟨PySem.W.emptyDict,#[],_,c,rfl,(λ e j=>absurd j (by simp)),λ _=>rfl⟩
 have f:=I.laid (a:=s.heap.objs.size) (o:=.own (s.heap.objs.size + 1)) (h':=s.heap.push PySem.W.emptyDict) (t':=s.toks) (λ b u q=>D0 _ q) (A0 _) ⟨_,c⟩;refine f.laid (a:=s.heap.objs.size + 1) (o:=.ins C s.heap.objs.size []) (t':=s.toks) (λ b u q=>D0 _ q) (C5 (N3 _ _)) ?_;have d:s.heap.objs.size≠s.heap.objs.size + 1:=G1 (B2 _);refine ⟨by rw [upd_ne d,upd_same],Z1 _,d,h,λ _=>none,(Heap.Ns1.of_empty i).at λ o q=>D0 _ q,λ _=>True.intro,λ y g=>absurd rfl g⟩
theorem zkm {prog:Program} {w:P0} {env:Env} {e:Expr} {f:Str} {pos:Pos} {s:B0} {Q:Value->B0->Prop} (hb:j4 e f env (d3 e env)=d3 e env)
  (h:R0 (C1 prog w) A (d3 e env) (λ o s₁=>R0 (C1 prog w) A (getAttr o f true) Q E s₁) E s):R0 (C1 prog w) A (d3 (.Attribute e f pos) env) Q E s:=
 Attribute_any_ h (by rw [arm_eval_Attribute,hb])
end
noncomputable def tFld (K:b0) (ta:TE) (f:Str):TE:=λ σ H Q=>ta σ H λ x H1=>∃a C dx fs v,x=.ref a/\H1 a=some (.ins C dx fs)/\Cls K C/\NoAttr K C f/\fs.lookup f=some v/\Q v H1
noncomputable def sFld (K:b0) (ta tv:TE) (f:Str):TS:=λ D σ H=>tv σ H λ y H1=>ta σ H1 λ x H2=>∃a C dx fs,x=.ref a/\H2 a=some (.ins C dx fs)/\Cls K C/\NoAttr K C f/\fs.length < 1000/\
 D.nx σ (upd H2 a (.ins C dx (putF f y fs)))
section
variable {X:Cx} {o e value:Expr} {f:Str} {pos pos' tpos:Pos} {ta tv:TE}
theorem pe_fld (he:PE X e ta) (hb:j4 e f X.env (d3 e X.env)=d3 e X.env):PE X (.Attribute e f pos) (tFld X.K ta f):=by intro d s σ H Q I h;refine zkm hb (thn (he d s σ H _ I h) λ u j ⟨x,H1,I1,rx,a,C,dx,fs,v,ex,ea,c,n,l,q⟩=>?_);subst ex;obtain rfl:u=F1 a:=rx;exact zf1 I1 ea c n l λ i k g b=>⟨v,H1,g,b,q⟩
theorem ps_fld (ha:PE X o ta) (hv:PE X value tv) (hs:V5 value (some (.Attribute o f pos')) pos.line X.env=X2 false):PS X (.Assign [.Attribute o f pos'] value pos) (sFld X.K ta tv f):=by intro b s σ H D I h;refine plainObj_wpAny_Assign_Attribute (thn (hv b s σ H _ I h) λ u g ⟨y,H1,I1,ry,q⟩=>thn (ha b g σ H1 _ I1 q) λ e i ⟨x,H2,I2,rx,a,C,dx,fs,ex,ea,c,n,l,q2⟩=>?_) hs;subst ex;obtain rfl:e=F1 a:=rx;exact zef I2 ea c n l ry λ j d=>⟨σ,_,d,q2⟩
end
section
variable {X:Cx} {pins:List (Addr×Obj)} {σ:St} {H:Hp} {s:B0} {A:X1} {E:Value->B0->Prop} {Q:Value->B0->Prop} {c:Value} {b:Bool}
inductive TyOf (K:b0) (H:Hp):V->Value->Prop where
 | non:TyOf K H .non (.type "NoneType")
 | bl (x:Bool):TyOf K H (.bl x) (.type "bool")
 | int (i:Int):TyOf K H (.int i) (.type "int")
 | str (x:Str):TyOf K H (.str x) (.type "str")
 | flt (x:UInt64):TyOf K H (.flt x) (.type "float")
 | lst {a:Addr} {xs:List V} (e:H a=some (.lst xs)):TyOf K H (.ref a) (.type "list")
 | frz {a:Addr} {o:Obj} {xs:List V} (e:H a=some (.frz o (.lst xs))):TyOf K H (.ref a) (.type "list")
 | tup {a:Addr} {xs:List V} (e:H a=some (.tup xs)):TyOf K H (.ref a) (.type "tuple")
 | dK {a:Addr} {kvs:List (Key×V)} (e:H a=some (.dK kvs)):TyOf K H (.ref a) (.type "dict")
 | dT {a:Addr} {kvs:List (List Key×V)} (e:H a=some (.dT kvs)):TyOf K H (.ref a) (.type "dict")
 | ins {a C dx:Addr} {fs:List (Str×V)} (e:H a=some (.ins C dx fs)) (cl:Cls K C) (ha:W2 K (.ref C) "__class__" = some (some (.builtin "object.__class__")))
   (hn:j22 K (.builtin "object.__class__") "__get__" = some (some (.builtin "getset_descriptor.__get__"))) (htk:PySem.W.takesIn K (.builtin "object.__class__")=some true)
   (hm:PySem.W.mroIn K C (.type "object")=some true):TyOf K H (.ref a) (.ref C)
theorem zhm {x:V} {u t:Value} (I:Inv X pins σ H s) (rx:RelV x u) (ty:TyOf X.K H x t) (e:PySem.W.kitOne X.K t c=some b) (h :∀tk,Q (.bool b) { s with toks:=tk }) :
  R0 (C1 X.prog X.w) A (call (.builtin "isinstance") [u,c]) Q E s:=by
 cases ty with
 | non=>cases (show u=Q4 from rx);exact O2 PySem.W.kitx_none I.kIn True.intro e (λ z=>nomatch z) h
 | bl y=>cases (show u=T3 y from rx);exact O2 PySem.W.kitx_bool I.kIn True.intro e (λ z=>nomatch z) h
 | int i=>obtain ⟨t,q⟩:=(show∃t,u=R6 i t from rx);cases q;exact O2 PySem.W.kitx_int I.kIn True.intro e (λ z=>nomatch z) h
 | str y=>obtain ⟨t,q⟩:=(show∃t,u=K5 y t from rx);cases q;exact O2 PySem.W.kitx_str I.kIn True.intro e (λ z=>nomatch z) h
 | flt y=>obtain ⟨t,q⟩:=(show∃t,u=j1h y t from rx);cases q;exact O2 PySem.W.kitx_float I.kIn True.intro e (λ z=>nomatch z) h
 | @lst a f ea=>
  cases (show u=F1 a from rx);obtain ⟨_,_,n,_,d⟩:=(show ObjOk X.prog X.w H s.heap a (.lst f) from I.hok a _ ea)
  exact O2 j24 I.kIn ⟨_,d,rfl⟩ e (λ z=>nomatch z) h
 | @frz a ob f ea=>
  cases (show u=F1 a from rx);obtain ⟨_,_,_,n,_,d⟩:=(show ObjOk X.prog X.w H s.heap a (.frz ob (.lst f)) from I.hok a _ ea)
  exact O2 j24 I.kIn ⟨_,d,rfl⟩ e (λ z=>nomatch z) h
 | @tup a f ea=>
  cases (show u=F1 a from rx);obtain ⟨_,_,_,p,_⟩:=(show ObjOk X.prog X.w H s.heap a (.tup f) from I.hok a _ ea)
  obtain ⟨o,d,g,_⟩:=p;exact O2 PySem.W.kitx_tuple I.kIn ⟨o,d,g⟩ e (λ z=>nomatch z) h
 | @dK a kvs ea=>
  cases (show u=F1 a from rx);obtain ⟨_,_,l,_,p⟩:=(show ObjOk X.prog X.w H s.heap a (.dK kvs) from I.hok a _ ea)
  obtain ⟨o,j,k,d,g,_⟩:=p;exact O2 j25 I.kIn ⟨o,d,g.1⟩ e (λ z=>nomatch z) h
 | @dT a kvs ea=>
  cases (show u=F1 a from rx);obtain ⟨_,_,f,_,o,j,k,d,g,_⟩:=(show ObjOk X.prog X.w H s.heap a (.dT kvs) from I.hok a _ ea)
  exact O2 j25 I.kIn ⟨o,d,g.1⟩ e (λ z=>nomatch z) h
 | @ins a C dx fs ea cl ha hn htk hm=>cases (show u=F1 a from rx);obtain ⟨m,O,_⟩:=zcl I.hok ea;obtain ⟨r,J,_⟩:=O.look;exact O2 (PySem.W.kitx_own (cl.get _) cl.hd ha hn htk hm) I.kIn J e (λ z=>nomatch z) h
end
structure Room (k:Nat) (A:X1):Prop where
 hd:A.handled=none
 dp:A.depth + 3 * k + 5 < recursionLimit
 un:A.units + 16 * k + 200 < cLine
 gd:A.guards=some []
theorem Room.mono {j k:Nat} {A:X1} (r:Room k A) (h:j<=k):Room j A:=⟨r.hd,by have:=r.dp;omega,by have:=r.un;omega,r.gd⟩
theorem Room.deeper {k:Nat} {A:X1} (r:Room (k + 1) A) (env:Env):Room k (A.deeper env):=
 ⟨r.hd,by have:=r.dp;show A.depth + 1 + 3 * k + 5 < _;omega,by have:=r.un;show A.units + 3 + 16 * k + 200 < _;omega,r.gd⟩
theorem zdw {A:X1} {C:Addr} {us:List Value} {kw:List (Str×Value)}:(A.under (.builtin "type.__call__" ⟨.ref C :: us,kw⟩)).depth=A.depth + 1:=by first|rfl|simp [G8,Code.weight,Code.isCreation,Code.isGuard,Code.isCaller,j2b,W8,guardIds]
theorem zfq {A:X1} {C:Addr} {us:List Value} {kw:List (Str×Value)}:(A.under (.builtin "type.__call__" ⟨.ref C :: us,kw⟩)).units=A.units + 1:=by first|rfl|simp [G8,Code.cUnits,j2b,W8]
theorem Room.make {k:Nat} {A:X1} (r:Room (k + 1) A) (C:Addr) (us:List Value) (kw:List (Str×Value)):Room k (A.under (.builtin "type.__call__" ⟨.ref C :: us,kw⟩)):=
 ⟨r.hd,by have:=r.dp;rw [zdw];omega,by have:=r.un;rw [zfq];omega,by have h:=r.gd;first|exact h|simp [G8,h,Code.weight,Code.isCreation,Code.isGuard,Code.isCaller,j2b,W8,guardIds]⟩
theorem Room.depth {k:Nat} {A:X1} (r:Room k A):A.depth < recursionLimit:=by have:=r.dp;omega
theorem Room.units {k:Nat} {A:X1} (r:Room k A):A.units + 64 < cLine:=by have:=r.un;omega
noncomputable def tNil:TA:=λ _ H Q=>Q [] H
noncomputable def tCons (ta:TE) (tr:TA):TA:=λ σ H Q=>ta σ H λ x H1=>tr σ H1 λ xs H2=>Q (x :: xs) H2
section
variable {X:Cx} {e:Expr} {es:List Expr} {te:TE} {t:TA} {pos:Pos}
theorem pa_nil:PA X [] tNil:=λ _ _ _ _ H Q I h=>A6 ⟨[],H,I,.nil,h⟩
theorem z00 (ha:PE X e te) (hr:PA X es t) (hs:P1 (e :: es) X.env=(false,d3 e X.env) :: P1 es X.env:=by rfl):PA X (e :: es) (tCons te t):=by intro a b s σ H Q I h;rw [hs];show R0 _ _ (spliced ((false,d3 e X.env) :: E4 a (P1 es X.env))) _ _ s;refine c5 (thn (ha b s σ H _ I h) λ u c ⟨x,H1,I1,r1,q1⟩=>?_);exact thn (hr a b c σ H1 _ I1 q1) λ d f ⟨xs,H2,I2,r2,q2⟩=>⟨x :: xs,H2,I2,.cons r1 r2,q2⟩
noncomputable def tTup (t:TA):TE:=λ σ H Q=>t σ H λ xs H1=>xs.length<=sizeLine/\∀p,H1 p=none->Q (.ref p) (upd H1 p (.tup xs))
noncomputable def tLst (t:TA):TE:=λ σ H Q=>t σ H λ xs H1=>xs.length<=sizeLine/\∀p,H1 p=none->Q (.ref p) (upd H1 p (.lst xs))
theorem pe_tup {x1} (h:PA X es t):PE X (.Tuple es x1 pos) (tTup t):=by intro g s σ H Q I c;refine wpAny_Tuple_spliced (thn (h pos g s σ H _ I c) λ d a ⟨xs,H1,I1,r,z,q⟩=>⟨by rw [<-r.length];exact z,?_⟩);have f:H1 a.heap.objs.size=none:=I1.hok.fresh (A0 _);refine ⟨.ref a.heap.objs.size,upd H1 a.heap.objs.size (.tup xs),I1.laid (t':=a.toks) (λ b u e=>D0 _ e) (A0 _) ?_,rfl,q _ f⟩;exact ⟨z,d,r,IsTupN.new _ _⟩
theorem pe_lst (h:PA X es t):PE X (.List es pos) (tLst t):=by intro g s σ H Q I c;refine wpAny_List_spliced (thn (h pos g s σ H _ I c) λ d a ⟨xs,H1,I1,r,z,q⟩=>⟨by rw [<-r.length];exact z,?_⟩);have f:H1 a.heap.objs.size=none:=I1.hok.fresh (A0 _);refine ⟨.ref a.heap.objs.size,upd H1 a.heap.objs.size (.lst xs),I1.laid (t':=a.toks) (λ b u e=>D0 _ e) (A0 _) ?_,rfl,q _ f⟩;exact ⟨z,d,0,r,X0 _ rfl⟩
end
noncomputable abbrev Sp:=List V->Hp->VK->XK->Prop
noncomputable abbrev CXT:=List Env->Hp->B0->XK->Value->B0->Prop
structure Env0 (P:Program) (w:P0) (K:b0) (mg:Str->Option Value) (base:Heap) (A:X1) (outer:List Env) (s:B0) (H:Hp):Prop where
 frames:A.frames=some outer
 mod:Mod K mg base
 bs :∀b o,base.get? b=some o->s.heap.get? b=some o/\H b=none
 bsz:base.objs.size<=s.heap.objs.size
 funs:s.heap.FunFrames base outer
 frf :∀b∈frs outer,H b=none
 hok:HOk P w H s.heap
 bare:z7 s.gens
def CE (outer:List Env) (P:Program) (w:P0) (H:Hp) (s:B0) (Q:VK) (u:Value) (s':B0):Prop:=
 ∃v H',s'.os=s.os/\z7 s'.gens/\Un (frs outer) [] H H' s.heap s'.heap/\HOk P w H' s'.heap/\RelV v u/\Q v H'
def CR (CX:CXT) (outer:List Env) (P:Program) (w:P0) (H:Hp) (s:B0) (Q:VK) (E:XK) (r:Result) (s':B0):Prop:=
 match r with
 | .ok (.ret u)=>CE outer P w H s Q u s'
 | .ok _=>False
 | .error e=>CX outer H s E e s'
structure FnOk (P:Program) (w:P0) (K:b0) (mg:Str->Option Value) (base:Heap) (CX:CXT) (k:Nat) (f:Addr) (fd:FuncData) (ps:List Str) (sp:Sp):Prop where
 len :∀vs H Q E,sp vs H Q E->vs.length=ps.length
 run :∀(A:X1) (outer:List Env) (s:B0) (H:Hp) (args:Args) (us:List Value) (vs:List V) (Q:VK) (E:XK),Room k A->Env0 P w K mg base A outer s H->BindsTo s fd args (ps.zip us)->Vals vs us->sp vs H Q E->
  Q8 (C1 P w) A (.call (.ref f) args) (CR CX outer P w H s Q E) s
theorem Env0.make {P:Program} {w:P0} {K:b0} {mg:Str->Option Value} {base:Heap} {A:X1} {outer:List Env} {s:B0} {H:Hp} (e:Env0 P w K mg base A outer s H) (C:Addr) (us:List Value) (kw:List (Str×Value)) :
  Env0 P w K mg base (A.under (.builtin "type.__call__" ⟨.ref C :: us,kw⟩)) outer s H:=⟨by first|exact e.frames|(simpa [G8,Code.envs,W8,pushEnvs] using e.frames),e.mod,e.bs,e.bsz,e.funs,e.frf,e.hok,e.bare⟩
section
variable {X:Cx} {pins:List (Addr×Obj)} {σ:St} {H:Hp} {s s':B0}
theorem Inv.env0 (I:Inv X pins σ H s):Env0 X.prog X.w X.K X.mg X.base X.A X.stack s H:=
 ⟨I.ok.frames,I.ok.mod,I.bs,C0 I.ok.bsz I.sz,I.stack,I.stkFree,I.hok,I.bare⟩
theorem Inv.after {Q:VK} {u:Value} (I:Inv X pins σ H s) (h:CE X.stack X.prog X.w H s Q u s'):EP X pins σ Q u s':=by obtain ⟨v,c,j,e,un,a,r,q⟩:=h;obtain ⟨f,g,d,t,i⟩:=s';obtain rfl:i=s.os:=j;exact ⟨v,c,I.call (h':=f) (g':=g) (d':=d) (t':=t) (ch:=[]) un a e (λ b z=>absurd z (by simp)),r,q⟩
end
noncomputable def tCall (sp:Sp) (dvs:List V) (E:XK) (t:TA):TE:=λ σ H Q=>t σ H λ vs H1=>sp (vs++dvs) H1 Q E
noncomputable def tMeth (C:Addr) (m:Str) (sp:Sp) (dvs:List V) (E:XK) (ta:TE) (t:TA):TE:=λ σ H Q=>ta σ H λ x H1=>∃a dx fs,x=.ref a/\H1 a=some (.ins C dx fs)/\fs.lookup m=none/\
 t σ H1 λ vs H2=>sp (x :: (vs++dvs)) H2 Q E
noncomputable def tMake (C:Addr) (sp:Sp) (dvs:List V) (E:XK) (t:TA):TE:=λ σ H Q=>t σ H λ vs H1=>∀x dx,H1 x=none->H1 dx=none->dx≠x->
 sp (.ref x :: (vs++dvs)) (upd (upd H1 dx (.own x)) x (.ins C dx [])) (λ v H2=>v=.non/\Q (.ref x) H2) E
def Binds (K:b0) (fd:FuncData) (ps:List Str) (ds:List Value):Prop:=
 ∀(s:B0) (us:List Value),K.In s.heap->(us++ds).length=ps.length->BindsTo s fd ⟨us,[]⟩ (ps.zip (us++ds))
theorem Binds.all {K:b0} {fd:FuncData} {ps:List Str} (h :∀us:List Value,us.length=ps.length->bindArgs fd ⟨us,[]⟩=X2 (ps.zip us)):Binds K fd ps []:=λ s us _ a=>by rw [j2] at a⊢;exact .of_eq (h us a)
def Passes (CX:CXT) (X:Cx) (E:XK):Prop:=∀(pins:List (Addr×Obj)) (σ:St) (H:Hp) (s:B0) (e:Value) (s':B0),Inv X pins σ H s->CX X.stack H s E e s'->X.xe e s'
section
variable {X:Cx} {CX:CXT} {k:Nat} {f C:Addr} {fd:FuncData} {ps:List Str} {sp:Sp} {dvs:List V} {ds:List Value} {E:XK} {x m:Str} {p pos apos:Pos} {e o:Expr} {es:List Expr} {ta:TE} {t:TA}
theorem run_fn {pins:List (Addr×Obj)} {σ:St} {H:Hp} {s:B0} {Q:VK} {us:List Value} {vs:List V} (F:FnOk X.prog X.w X.K X.mg X.base CX k f fd ps sp) (hr:Room k X.A) (hb:Binds X.K fd ps ds) (hd:Vals dvs ds) (hx:Passes CX X E)
  (I:Inv X pins σ H s) (r:Vals vs us) (h:sp (vs++dvs) H Q E):R0 (C1 X.prog X.w) X.A (call (.ref f) us) (EP X pins σ Q) X.xe s:=by
 have b:Vals (vs++dvs) (us++ds):=r.append hd;have d:(us++ds).length=ps.length:=by rw [<-b.length];exact F.len _ _ _ _ h
 refine wpAny_call (G9 (F.run X.A X.stack s H ⟨us,[]⟩ (us++ds) (vs++dvs) Q E hr I.env0 (hb s us I.kIn d) b h) λ r c a=>?_);cases r with
 | error e=>exact hx pins σ H s e c I a
 | ok fl=>
  cases fl with
  | ret u=>exact I.after a
  | next=>exact C3 a
  | brk=>exact C3 a
  | cont=>exact C3 a
theorem zkn (F:FnOk X.prog X.w X.K X.mg X.base CX k f fd ps sp) (hr:Room k X.A) (hg:Gl X x) (hm:X.mg x=some (.ref f)) (hk:V2 X.K (.ref f)=true) (hb:Binds X.K fd ps ds) (hd:Vals dvs ds) (hx:Passes CX X E)
  (ha:PA X (e :: es) t) (hdb:(x == ("__debug__" : Str))=false:=by decide) (he:P1 (e :: es) X.env=(false,d3 e X.env) :: P1 es X.env:=by rfl) (hpl:(E4 pos (P1 es X.env)).any (·.1)=false:=by rfl) :
  PE X (.Call (.Name x p) (e :: es) [] pos) (tCall sp dvs E t):=by
 intro a s σ H Q I h;refine B5 (zeq I hg hm ?_ hdb);refine X5 (h₀:=X.base) I.ok.mod.kin hk (thn (ha pos a s σ H _ I h) λ b c ⟨vs,H1,I1,r,q⟩=>⟨I1.kIn,?_⟩) he hpl;exact run_fn F hr hb hd hx I1 r q
theorem zfa {pl:Sem Bool} (he:PE X o ta) (c:Cls X.K C) (hm:Meth X.K C m f) (F:FnOk X.prog X.w X.K X.mg X.base CX k f fd ps sp) (hr:Room k X.A) (hb:Binds X.K fd ps ds) (hd:Vals dvs ds) (hx:Passes CX X E) (ha:PA X (e :: es) t)
  (hst:P1 (e :: es) X.env=(false,d3 e X.env) :: P1 es X.env:=by rfl) (hpl:(E4 pos (P1 es X.env)).any (·.1)=false:=by rfl)
  (ht:d3 (.Call (.Attribute o m apos) (e :: es) [] pos) X.env=(do
   let ov <-d3 o X.env
   j14 apos.atName
   let (f,first) <-E9 [ov] (getMethod ov m pl)
   callWith pos f first (E4 pos (P1 (e :: es) X.env)) (L9 pos (i7 [] X.env))):=by rfl) :
  PE X (.Call (.Attribute o m apos) (e :: es) [] pos) (tMeth C m sp dvs E ta t):=by
 intro b s σ H Q I h;refine PySem.W.methodCall_KW (pl:=pl) (thn (he b s σ H _ I h) λ u d ⟨x,H1,I1,rx,a,dx,fs,ex,ea,l,q⟩=>?_) ht;subst ex;obtain rfl:u=F1 a:=rx;refine zfh I1 ea c hm l ?_;refine X5 (first:=[.ref a]) (h₀:=X.base) I.ok.mod.kin hm.kp (thn (ha pos b d σ H1 _ I1 q) λ us g ⟨vs,H2,I2,r,q2⟩=>⟨I2.kIn,?_⟩) hst hpl;exact run_fn (us:=.ref a :: us) (vs:=.ref a :: vs) F hr hb hd hx I2 (.cons rfl r) q2
structure Mk (K:b0) (C f:Addr):Prop where
 makes:PySem.W.makesIn K C=true
 init:W2 K (.ref C) "__init__" = some (some (.ref f))
 fn:j02 K (.ref f)=true
 kp:V2 K (.ref C)=true
theorem zj1 {pins:List (Addr×Obj)} {σ:St} {H:Hp} {s:B0} {Q:VK} {us:List Value} {vs:List V} (M:Mk X.K C f) (F:FnOk X.prog X.w X.K X.mg X.base CX k f fd ps sp) (hr:Room (k + 1) X.A) (hb:Binds X.K fd ps ds) (hd:Vals dvs ds)
  (hx:Passes CX X E) (I:Inv X pins σ H s) (r:Vals vs us)
  (h :∀x dx,H x=none->H dx=none->dx≠x->sp (.ref x :: (vs++dvs)) (upd (upd H dx (.own x)) x (.ins C dx [])) (λ v H2=>v=.non/\Q (.ref x) H2) E) :
  R0 (C1 X.prog X.w) X.A (call (.ref C) us) (EP X pins σ Q) X.xe s:=by
 have c:=h (s.heap.objs.size + 1) s.heap.objs.size (I.hok.fresh (A3 _)) (I.hok.fresh (A0 _)) (G1 (B2 _));have b:=Inv.made (C:=C) I;have d:Vals (V.ref (s.heap.objs.size + 1) :: (vs++dvs)) (F1 (s.heap.objs.size + 1) :: (us++ds)):=.cons rfl (r.append hd);have o:(F1 (s.heap.objs.size + 1) :: us++ds).length=ps.length:=by have e:=d.length;rw [F.len _ _ _ _ c] at e;exact e.symm
 refine wpAny_call (zil (f:=f) I.kIn M.makes M.init (beq_iff_eq.mp M.fn) (G9 (F.run _ X.stack _ _ ⟨F1 (s.heap.objs.size + 1) :: us,[]⟩ (F1 (s.heap.objs.size + 1) :: (us++ds)) _ _ E (hr.make C us [])
  (b.env0.make C us []) (hb _ (F1 (s.heap.objs.size + 1) :: us) b.kIn o) d c) λ r m a=>?_))
 cases r with
 | error e=>exact hx pins σ _ _ e m b a
 | ok fl=>
  cases fl with
  | ret u=>obtain ⟨v,j,g,i,l,n⟩:=b.after a;subst l;exact ⟨i,⟨V.ref (s.heap.objs.size + 1),j,g,rfl,n⟩⟩
  | next=>exact C3 a
  | brk=>exact C3 a
  | cont=>exact C3 a
theorem zi1 (M:Mk X.K C f) (F:FnOk X.prog X.w X.K X.mg X.base CX k f fd ps sp) (hr:Room (k + 1) X.A) (hg:Gl X x) (hm:X.mg x=some (.ref C)) (hb:Binds X.K fd ps ds) (hd:Vals dvs ds) (hx:Passes CX X E)
  (ha:PA X (e :: es) t) (hdb:(x == ("__debug__" : Str))=false:=by decide) (he:P1 (e :: es) X.env=(false,d3 e X.env) :: P1 es X.env:=by rfl) (hpl:(E4 pos (P1 es X.env)).any (·.1)=false:=by rfl) :
  PE X (.Call (.Name x p) (e :: es) [] pos) (tMake C sp dvs E t):=by
 intro a s σ H Q I h;refine B5 (zeq I hg hm ?_ hdb);refine X5 (h₀:=X.base) I.ok.mod.kin M.kp (thn (ha pos a s σ H _ I h) λ b c ⟨vs,H1,I1,r,q⟩=>⟨I1.kIn,?_⟩) he hpl;exact zj1 M F hr hb hd hx I1 r q
end
section
variable {X:Cx} {CX:CXT} {k:Nat} {f C:Addr} {fd:FuncData} {ps ks:List Str} {sp:Sp} {E:XK} {x m:Str} {p pos apos kpos:Pos} {e o:Expr} {es:List Expr} {kws:List L6} {te ta:TE} {t tk:TA} {nm:Option Str}
structure KBinds (K:b0) (fd:FuncData) (ps ks:List Str) (g:List Value->List Value->List Value) (gV:List V->List V->List V):Prop where
 to :∀(s:B0) (us ws:List Value),K.In s.heap->(g us ws).length=ps.length->BindsTo s fd ⟨us,ks.zip ws⟩ (ps.zip (g us ws))
 rel :∀{vs:List V} {us:List Value} {zs:List V} {ws:List Value},Vals vs us->Vals zs ws->Vals (gV vs zs) (g us ws)
variable {g:List Value->List Value->List Value} {gV:List V->List V->List V}
end
structure FnScope (N P:List Str) (sc:Scope):Prop where
 kind:sc.kind=.function
 co:sc.isCoroutine=false
 gen:sc.isGenerator=false
 nd:N.Nodup
 pre:N.take P.length=P
 par :∀x∈P,sc.names.lookup x=some .local\/sc.names.lookup x=some .cell
 nofree :∀y∈sc.names,y.2≠.free
theorem zbx {kindOf:Str->Option Y4} {x:Str} :∀{binds:List (Str×Value)} {m:Str->Option Value},(∀v,(x,v)∉binds)->bindL kindOf binds m x=m x
 | [],_,_=>rfl
 | (n,v) :: r,m,h=>by
  unfold bindL;rw [zbx λ w a=>h w (Z0 _ a)];split
  ·have:x≠n:=by rintro rfl;exact h v j1
   simp [this]
  ·rfl
theorem zc9 {kindOf:Str->Option Y4} {x:Str} :∀{binds:List (Str×Value)} {m:Str->Option Value},(∀v,(x,v)∉binds)->bindC kindOf binds m x=m x
 | [],_,_=>rfl
 | (n,v) :: r,m,h=>by
  unfold bindC;rw [zc9 λ w a=>h w (Z0 _ a)];split
  ·rfl
  ·have:x≠n:=by rintro rfl;exact h v j1
   simp [this]
theorem zcm {kindOf:Str->Option Y4} {x:Str} {v:Value} :∀{P:List Str} {vs:List Value} {i:Nat} {m:Str->Option Value},P.Nodup->P[i]? = some x->vs[i]? = some v->kindOf x=some .local->
  bindL kindOf (P.zip vs) m x=some v
 | [],_,_,_,_,h,_,_=>by simp at h
 | _ :: _,[],_,_,_,_,h,_=>by simp at h
 | p :: P,w :: vs,0,m,nd,h1,h2,hk=>by simp at h1 h2;subst h1;subst h2;show bindL kindOf ((p,w) :: P.zip vs) m p=_;unfold bindL;rw [zbx λ v a=>(List.nodup_cons.mp nd).1 (M7 a).1,if_pos hk];simp
 | p :: P,w :: vs,i + 1,m,nd,h1,h2,hk=>by show bindL kindOf ((p,w) :: P.zip vs) m x=_;unfold bindL;exact zcm (i:=i) (List.nodup_cons.mp nd).2 (by simpa using h1) (by simpa using h2) hk
theorem zcc {kindOf:Str->Option Y4} {x:Str} {v:Value} :∀{P:List Str} {vs:List Value} {i:Nat} {m:Str->Option Value},P.Nodup->P[i]? = some x->vs[i]? = some v->kindOf x≠some .local->
  bindC kindOf (P.zip vs) m x=some v
 | [],_,_,_,_,h,_,_=>by simp at h
 | _ :: _,[],_,_,_,_,h,_=>by simp at h
 | p :: P,w :: vs,0,m,nd,h1,h2,hk=>by simp at h1 h2;subst h1;subst h2;show bindC kindOf ((p,w) :: P.zip vs) m p=_;unfold bindC;rw [zc9 λ v a=>(List.nodup_cons.mp nd).1 (M7 a).1,if_neg hk];simp
 | p :: P,w :: vs,i + 1,m,nd,h1,h2,hk=>by show bindC kindOf ((p,w) :: P.zip vs) m x=_;unfold bindC;exact zcc (i:=i) (List.nodup_cons.mp nd).2 (by simpa using h1) (by simpa using h2) hk
noncomputable def start (N:List Str) (vs:List V):St:=vs.map some++S1 (N.length - vs.length) none
noncomputable def cxOf (CX:CXT) (P:Program) (w:P0) (K:b0) (mg:Str->Option Value) (base:Heap) (N:List Str) (qual:Str) (scope:Scope) (f:Addr) (cd:Value) (A:X1) (outer:List Env) (s:B0) (H:Hp) (E:XK):Cx where
 prog:=P
 w:=w
 K:=K
 mg:=mg
 base:=base
 A:=A.deeper (Y7 qual scope s.heap.objs.size f cd)
 N:=N
 s₀:=s
 H₀:=H
 env:=Y7 qual scope s.heap.objs.size f cd
 outer:=outer
 stack:=Y7 qual scope s.heap.objs.size f cd :: outer
 ex:=[]
 calm:=true
 fn:=λ _=>true
 pn:=[]
 xe:=λ e s'=>R0 (C1 P w) (A.deeper (Y7 qual scope s.heap.objs.size f cd)) («leaving» (Y7 qual scope s.heap.objs.size f cd) e) (λ _ s''=>CX outer H s E e s'') (λ e' s''=>CX outer H s E e' s'') s'
theorem zdq {sc:Scope} {n:Nat} {x:Str} (h:sc.names.lookup x=some .cell) :∃c,(cellsFrom n sc.names []).lookup x=some c:=by have q:=j03 sc.names n [] (.inl h);exact Option.isSome_iff_exists.mp q
theorem zgy {CX:CXT} {P:Program} {w:P0} {K:b0} {mg:Str->Option Value} {base:Heap} {N ps:List Str} {qual:Str} {scope:Scope} {f:Addr} {cd:Value} {A:X1} {outer:List Env} {s s1:B0} {H:Hp} {E:XK} {us:List Value} {vs:List V}
  (S:FnScope N ps scope) (hd:A.handled=none) (e0:Env0 P w K mg base A outer s H) (hl:vs.length=ps.length) (r:Vals vs us)
  (x:InCallC s s.heap.objs.size (bindL (Y7 qual scope s.heap.objs.size f cd).kindOf (ps.zip us) λ _=>none) (cellsFrom (s.heap.objs.size + 1) scope.names []) (bindC (Y7 qual scope s.heap.objs.size f cd).kindOf (ps.zip us) λ _=>none) s1) :
  Inv (cxOf CX P w K mg base N qual scope f cd A outer s H E) [] (start N vs) H s1:=by
 have I:ps.length<=N.length:=by have:=congrArg j27 S.pre;rw [L3] at this;omega
 obtain ⟨m,G,rfl,B⟩:=x.done;have o :∀b:Addr,b∉(cxOf CX P w K mg base N qual scope f cd A outer s H E).ex:=λ b z=>absurd (show b∈([]:List Addr) from z) (by simp);refine ⟨⟨e0.mod,S.kind,rfl,rfl,A0 _,λ y z c m d=>?_,λ y g=>?_,λ y c _ h=>?_,λ _=>hd,Around.frames_deeper e0.frames,.inr ⟨rfl,rfl⟩,λ b z=>absurd z (o b),e0.bs,e0.bsz,λ b _ _=>o b,λ b z=>absurd z (o b),e0.funs,e0.frf⟩,
  rfl,e0.bare,Un.kept B,⟨_,x.toInCall.ns,λ i y v m d J=>?_⟩,λ y c h=>⟨_,x.cell y c h⟩,e0.hok.fresh (A0 _),λ y c h=>?_,λ p j=>absurd (show p∈([]:List (Addr×Obj)) from j) (by simp),e0.hok.kept B,?_⟩
 ·exact name_of_addr x.apart (U4 m) (U4 d)
 ·have g:scope.names.lookup y=some .cell\/scope.names.lookup y=some .free:=g;rcases g with g|g
  ·exact zdq g
  ·exact absurd rfl (S.nofree _ (U4 g))
 ·exact G3 (x.above y c (U4 h))
 ·have l:i < vs.length:=by
   unfold start at d;by_cases l:i < vs.length
   ·exact l
   ·rw [O1 (by simpa using l)] at d;rw [V6] at d;split at d<;>cases d
  have D:vs[i]? = some v:=by
   unfold start at d;rw [B1 (by simpa using l),A1] at d;cases e:vs[i]? with
   | none=>rw [e] at d;cases d
   | some a=>rw [e] at d;cases d;rfl
  obtain ⟨u,t,F⟩:=r.get D;have j:ps[i]? = some y:=by rw [<-S.pre,O6 (by omega)];exact m
  have C:ps.Nodup:=by rw [<-S.pre];exact S.nd.sublist (List.take_sublist _ _)
  refine ⟨u,F,?_⟩;rcases S.par y (Q0 j) with k|k
  ·exact .inl ⟨k,zcm C j t k⟩
  ·obtain ⟨c,e⟩:=zdq (n:=s.heap.objs.size + 1) k;refine .inr ⟨.inl k,c,e,?_⟩;have q:=x.cell y c e;rw [zcc C j t (by show scope.names.lookup y≠_;rw [k];decide)] at q;exact q
 ·exact e0.hok.fresh (G3 (x.above y c (U4 h)))
 ·unfold start;show _=N.length;rw [G0,F0,i3];omega
theorem fn_of {CX:CXT} {P:Program} {w:P0} {K:b0} {mg:Str->Option Value} {base:Heap} {k:Nat} {f:Addr} {name qual:Str} {params:Arguments} {body:List Stmt} {scope:Scope} {dV kV doc pm cdv ct oc:Value} {an od:Option Addr}
  {osl:Array (Option Value)} {N ps:List Str} {sp:Sp} (lk:K.lookup f=some ⟨oc,od,.func (i5 name qual params body scope dV kV doc pm an cdv ct),osl⟩) (hcd:F7 K cdv qual=true) (S:FnScope N ps scope)
  (len :∀vs H Q E,sp vs H Q E->vs.length=ps.length)
  (hbody :∀(A:X1) (outer:List Env) (s:B0) (H:Hp) (vs:List V) (Q:VK) (E:XK),Room k (A.deeper (Y7 qual scope s.heap.objs.size f cdv))->sp vs H Q E->
   ∃t,PSs (cxOf CX P w K mg base N qual scope f cdv A outer s H E) body t/\t { nx:=λ _ H'=>Q .non H',rt:=Q } (start N vs) H) :
  FnOk P w K mg base CX (k + 1) f (i5 name qual params body scope dV kV doc pm an cdv ct) ps sp:=by
 refine ⟨len,λ A outer s H R p vs Q E g c M r j=>?_⟩;have z:=len _ _ _ _ j;have KX:K.In s.heap:=c.mod.kin.keeps λ b o e=>(c.bs b o e).1;have C:s.heap.NoLimit:=c.mod.nolimit.keeps λ b o e=>(c.bs b o e).1;have G :∀y∈ps.zip p,scope.names.lookup y.1=some .local\/(scope.names.lookup y.1=some .cell/\((cellsFrom (s.heap.objs.size + 1) scope.names []).lookup y.1).isSome=true):=λ ⟨n,v⟩ hy=>by
  rcases S.par n (M7 hy).1 with q|q
  ·exact .inl q
  ·exact .inr ⟨q,j03 _ _ _ (.inl q)⟩
 refine codeAny_call_function g.depth (KX _ _ lk) rfl S.co S.gen rfl (PySem.W.codeRec_of KX hcd) (M _ _ _ _ ?_);refine wpAny_newFunctionEnv_cells S.kind G λ O F l x=>?_;subst F;refine ⟨C.keeps x.toInCall.keep,codeAny_func ?_⟩;obtain ⟨t,L,B⟩:=hbody A outer s H vs Q E (g.deeper _) j;have I:Inv (cxOf CX P w K mg base N qual scope f cdv A outer s H E) [] (start N vs) H l:=zgy S g.hd c z r x;refine m3 (L [] l (start N vs) H _ I B) (λ D i a=>?_) λ e i a=>a;have m :∀{d:St} {H':Hp} {v:V} {u:Value},Inv (cxOf CX P w K mg base N qual scope f cdv A outer s H E) [] d H' i->RelV v u->Q v H'->CE outer P w H s Q u i:=
  λ {d H' v u} J h q=>⟨v,H',J.os,J.bare,J.base,J.hok,h,q⟩
 cases D with
 | ret u=>obtain ⟨v,d,H',J,h,q⟩:=a;exact m J h q
 | next=>obtain ⟨d,H',J,q⟩:=a;exact m (v:=V.non) (u:=Q4) J rfl q
 | brk=>obtain ⟨_,_,_,q⟩:=a;exact C3 q
 | cont=>obtain ⟨_,_,_,q⟩:=a;exact C3 q
section
variable {X:Cx} {x:Str} {p pos:Pos} {e:Expr} {es:List Expr} {t:TA} {id T:String} {r:List V->Hp->VK->Prop}
noncomputable def tCB (r:List V->Hp->VK->Prop) (t:TA):TE:=λ σ H Q=>t σ H λ vs H1=>r vs H1 Q
theorem z0c (hc:CallR X (.builtin id) r) (hg:Gl X x) (hm:X.mg x=none) (hv:B6 x=some (.builtin id)) (ha:PA X (e :: es) t) (hn:x≠"__name__":=by decide) (hdb:(x == ("__debug__" : Str))=false:=by decide)
  (he:P1 (e :: es) X.env=(false,d3 e X.env) :: P1 es X.env:=by rfl) (hpl:(E4 pos (P1 es X.env)).any (·.1)=false:=by rfl):PE X (.Call (.Name x p) (e :: es) [] pos) (tCB r t):=by
 intro a s σ H Q I h;refine B5 (ld_blt I hg hm hv ?_ hn hdb);exact PyProof.Rows.callWith_builtin1 (thn (ha pos a s σ H _ I h) λ b c ⟨vs,H1,I1,r1,q1⟩=>hc a c σ H1 vs b Q I1 r1 q1) he hpl
theorem z0p (hc:CallR X (.type T) r) (hg:Gl X x) (hm:X.mg x=none) (hv:B6 x=some (.type T)) (ha:PA X (e :: es) t) (hn:x≠"__name__":=by decide) (hdb:(x == ("__debug__" : Str))=false:=by decide)
  (he:P1 (e :: es) X.env=(false,d3 e X.env) :: P1 es X.env:=by rfl) (hpl:(E4 pos (P1 es X.env)).any (·.1)=false:=by rfl):PE X (.Call (.Name x p) (e :: es) [] pos) (tCB r t):=by
 intro a s σ H Q I h;refine B5 (ld_blt I hg hm hv ?_ hn hdb);exact j3 (thn (ha pos a s σ H _ I h) λ b c ⟨vs,H1,I1,r1,q1⟩=>hc a c σ H1 vs b Q I1 r1 q1) he hpl
end
end L2
namespace HT
open PySem PyProof.Rows
section
variable {prog:Program} {w:P0} {A:X1} {E:Value->B0->Prop} {s:B0}
theorem cat_tup {t b:Addr} {vs ws:List Value} {Q:Value->B0->Prop} (ht:IsTup s.heap t vs.toArray) (hb:IsTup s.heap b ws.toArray) (hv:vs≠[])
  (h1:ws=[]->Q (.ref t) s) (h2:ws≠[]->Q (.ref s.heap.objs.size) { s with heap:=s.heap.push { cls:=.type "tuple",data:=.seq (vs++ws).toArray } })
  (hsz:vs.length + ws.length<=sizeLine):R0 (C1 prog w) A (A4 .Add (.ref t) (.ref b)) Q E s:=by
 obtain ⟨⟨cls,j,data,m⟩,a,i,n,k⟩:=id ht;obtain ⟨⟨p,l,o,d⟩,c,f,h,g⟩:=id hb;simp only at i k f g;subst i k f g;have e:vs.toArray++ws.toArray=(vs++ws).toArray:=by simp
 by_cases hw:ws=[]
 ·exact concat_meets ⟨_,a,rfl⟩ ⟨_,c,rfl⟩ j01 seq_tuple_add S6 G6 (u6 _ _)
   (tuple_addW1 t b vs.toArray ws.toArray n h j l m d (by simpa using hv) (by simp [hw])) ⟨a,c,h1 hw⟩
 ·refine concat_meets ⟨_,a,rfl⟩ ⟨_,c,rfl⟩ j01 seq_tuple_add S6 G6 (u6 _ _)
   (tuple_addW2 t b vs.toArray ws.toArray n h j l m d (by simpa using hv) (by simpa using hw) (by rw [O0,O0];exact hsz)) ⟨a,c,?_⟩
  rw [e];exact h2 hw
noncomputable def sIx (n d:Nat):Option Int->Nat
 | none=>d
 | some v=>if v < 0 then (v + (n:Int)).toNat else min v.toNat n
theorem sIx_none (n d:Nat):sIx n d none=d:=rfl
theorem sIx_nat (n d k:Nat):sIx n d (some (k:Int))=min k n:=by show (if (k:Int) < 0 then ((k:Int) + (n:Int)).toNat else min (k:Int).toNat n)=min k n;rw [if_neg (by omega),E5]
theorem sIx_le (n d:Nat) (hd:d<=n) (o:Option Int):sIx n d o<=n:=by
 cases o with
 | none=>exact hd
 | some v=>
  show (if v < 0 then (v + (n:Int)).toNat else min v.toNat n)<=n;by_cases hv:v < 0
  ·rw [if_pos hv];omega
  ·rw [if_neg hv];exact Nat.min_le_right _ _
theorem zhq (v:Int) (n d:Nat):(if v < 0 then max (v + (n:Int)) 0 else min v (n:Int))=((sIx n d (some v):Nat):Int):=by
 show (if v < 0 then max (v + (n:Int)) 0 else min v (n:Int))=(((if v < 0 then (v + (n:Int)).toNat else min v.toNat n):Nat):Int);by_cases hv:v < 0
 ·simp only [if_pos hv];omega
 ·simp only [if_neg hv];omega
theorem zg3 (lo hi:Option Int) (n:Nat):P5 lo hi 1 (n:Int)=(((sIx n 0 lo:Nat):Int),((sIx n n hi:Nat):Int)):=by
 have a:¬ ((1:Int) < 0):=by omega
 unfold P5;simp only [a,if_false];refine j26 ?_ ?_
 ·cases lo with
  | none=>rfl
  | some v=>exact zhq v n 0
 ·cases hi with
  | none=>rfl
  | some v=>exact zhq v n n
theorem zdl (i j:Nat):C4 (i:Int) (j:Int) 1=j - i:=by
 unfold C4;have a:(1:Int) > 0:=by omega
 simp only [a,if_true,Int.ediv_one];split<;>omega
theorem z99 {v:Value} {o:Option Int} {Q:Option Int->B0->Prop} (p:c8 v o) (h:Q o s):R0 (C1 prog w) A (Builtin.Slice.slicePartIndex v) Q E s:=by
 cases p with
 | none=>exact slicePart_none h
 | int i t=>exact slicePart_int h
theorem z2y {sl:Addr} {vl vu:Value} {lo hi:Option Int} {n:Nat} {Q:Int×Int×Nat->B0->Prop} (hs:s.heap.IsSliceOf sl vl vu .none) (pl:c8 vl lo) (pu:c8 vu hi)
  (h:Q (((sIx n 0 lo:Nat):Int),1,sIx n n hi - sIx n 0 lo) s):R0 (C1 prog w) A (B8 (.ref sl) (X2 (n:Int))) Q E s:=by
 obtain ⟨c,a,d,b⟩:=id hs;unfold B8 Builtin.Slice.sliceFields;refine t0 (t0 (c6 a b (x:=vl) rfl (t0 (c6 a b (x:=vu) rfl (t0 (c6 a b (x:=.none) rfl (L0 ?_)))))));refine t0 (slicePart_none ?_);show R0 _ _ (if ((1:Int) == 0)=true then _ else _) _ _ s;rw [if_neg (by decide)];refine t0 (z99 pl (t0 (z99 pu (t0 (L0 ?_)))));show R0 _ _ (match P5 lo hi 1 (n:Int) with|(lo,hi)=>X2 (lo,(1:Int),C4 lo hi 1)) _ _ s;rw [zg3 lo hi n];show R0 _ _ (X2 (((sIx n 0 lo:Nat):Int),(1:Int),C4 ((sIx n 0 lo:Nat):Int) ((sIx n n hi:Nat):Int) 1)) _ _ s;rw [zdl];exact L0 h
theorem ziq (xs:Array Value) (i k:Nat):((N1 k).filterMap λ (m:Nat)=>xs[((i:Int) + (m:Int) * 1).toNat]?).toArray=((xs.toList.drop i).take k).toArray:=by
 have e:(λ (m:Nat)=>xs[((i:Int) + (m:Int) * 1).toNat]?)=λ m=>xs[i + m]?:=by
  funext m;have:((i:Int) + (m:Int) * 1).toNat=i + m:=by omega
  rw [this]
 rw [e];have:=pick_run xs i k;rw [List.filterMap_map] at this;have a:((λ x=>xs[x]?) ∘ λ x=>i + x)=λ m=>xs[i + m]?:=rfl;rw [a] at this;rw [this]
theorem getItem_tuple_cut {t sl:Addr} {items:Array Value} {vl vu:Value} {lo hi:Option Int} {Q:Value->B0->Prop} (ht:IsTup s.heap t items) (hs:s.heap.IsSliceOf sl vl vu .none) (pl:c8 vl lo) (pu:c8 vu hi)
  (hw:¬ (sIx items.size 0 lo=0/\sIx items.size items.size hi=items.size))
  (h:Q (.ref s.heap.objs.size) { s with heap:=s.heap.push { cls:=.type "tuple",data:=.seq ((items.toList.drop (sIx items.size 0 lo)).take (sIx items.size items.size hi - sIx items.size 0 lo)).toArray } })
  (hsz:items.size<=sizeLine):R0 (C1 prog w) A (m7 (.ref t) (.ref sl)) Q E s:=by
 have a:sizeOk (.seq ((items.toList.drop (sIx items.size 0 lo)).take (sIx items.size items.size hi - sIx items.size 0 lo)).toArray):=by show ((items.toList.drop (sIx items.size 0 lo)).take (sIx items.size items.size hi - sIx items.size 0 lo)).toArray.size<=sizeLine;rw [O0,L3,M5,U5];omega
 have g:sIx items.size items.size hi<=items.size:=sIx_le _ _ (A0 _) hi;obtain ⟨e,c,b,k⟩:=id hs;have d:s.TypeIs (.ref sl) "slice":=⟨e,c,b⟩
 unfold m7
 try with_reducible refine R4 ?_
 first|refine t0 (L0 ?_)|skip
 refine t0 (wpAny_sequenceKey ht.typeIs (by decide) ?_);refine t0 (E3 (name:=i6 "__getitem__") ht.typeIs O3
  (u3 O3 ht.typeIs entry_tuple_getitem ?_ (args_tuple_getitem _ _)))
 show R0 _ _ (A8 (.ref t) >>= _) _ _ s;refine t0 (tupleItemsOf_ ht ?_);refine t0 (B9 d ?_);rw [if_pos (by decide)];refine t0 (z2y hs pl pu ?_);have f:¬ ((((sIx items.size 0 lo:Nat):Int) == 0 && (1:Int) == 1 && (sIx items.size items.size hi - sIx items.size 0 lo) == items.size)=true):=by intro q;rw [A2,A2] at q;have i:((sIx items.size 0 lo:Nat):Int)=0:=eq_of_beq q.1.1;have j:sIx items.size items.size hi - sIx items.size 0 lo=items.size:=eq_of_beq q.2;exact hw ⟨by omega,by omega⟩
 show R0 _ _ (if (((sIx items.size 0 lo:Nat):Int) == 0 && (1:Int) == 1 && (sIx items.size items.size hi - sIx items.size 0 lo) == items.size)=true then _ else _) _ _ s;rw [if_neg f,ziq];first
  | exact t0 (m:=J4 _) (Q2 (L0 ⟨_,rfl,L0 h⟩) a)
  | exact t0 (m:=J4 _) (Q2 (t0 (L0 (L0 ⟨_,rfl,L0 h⟩))) a)
  | exact t0 (t0 (m:=J4 _) (Q2 (L0 (L0 ⟨_,rfl,L0 h⟩)) a))
  | exact t0 (t0 (m:=J4 _) (Q2 (L0 ⟨_,rfl,L0 h⟩) a))
end
end HT
namespace L2
open PySem PySem.Spec PyProof.Rows
noncomputable abbrev TO:=St->Hp->(Option Int->Hp->Prop)->Prop
def PO (X:Cx) (e:Option Expr) (t:TO):Prop:=
 ∀(pins:List (Addr×Obj)) (s:B0) (σ:St) (H:Hp) (Q:Option Int->Hp->Prop),Inv X pins σ H s->t σ H Q->
  R0 (C1 X.prog X.w) X.A (evalPart e X.env) (λ u s'=>∃o H',Inv X pins σ H' s'/\c8 u o/\Q o H') X.xe s
noncomputable def zee:TO:=λ _ H Q=>Q none H
noncomputable def tPart (t:TE):TO:=λ σ H Q=>t σ H λ x H1=>∃i,x=.int i/\Q (some i) H1
theorem zad {ns:List Int} :∀{us:List Value},Vals (ns.map V.int) us->d8 us ns:=by
 induction ns with
 | nil=>intro us r;rw [u4] at r;cases r;exact .nil
 | cons n ns ih=>
  intro us r;rw [Y0] at r;cases r with
  | cons r1 r2=>obtain ⟨t,e⟩:=r1;subst e;exact .cons n t (ih r2)
section
variable {X:Cx} {e:Expr} {te:TE} {lo hi:Option Expr} {tl th:TO} {pos p2:Pos}
theorem z2p:PO X none zee:=by intro a s σ H Q I h;rw [evalPart_none];exact L0 ⟨none,H,I,.none,h⟩
theorem z1k (h:PE X e te):PO X (some e) (tPart te):=by intro b s σ H Q I a;rw [evalPart_some];refine thn (h b s σ H _ I a) λ u c ⟨x,H1,I1,r1,q1⟩=>?_;obtain ⟨i,rfl,q⟩:=q1;obtain ⟨t,rfl⟩:=r1;exact ⟨some i,H1,I1,.int i t,q⟩
def SlR (X:Cx) (r:V->Option Int->Option Int->Hp->VK->Prop):Prop:=
 ∀(pins:List (Addr×Obj)) (s:B0) (σ:St) (H:Hp) (x:V) (v vl vu:Value) (lo hi:Option Int) (sl:Addr) (Q:VK),Inv X pins σ H s->RelV x v->s.heap.IsSliceOf sl vl vu .none->c8 vl lo->c8 vu hi->r x lo hi H Q->
  ∃T id,typeLookup (.type T) "__getitem__" = X2 (some (.builtin id))/\s.TypeIs v T/\R0 (C1 X.prog X.w) X.A (m7 v (.ref sl)) (EP X pins σ Q) X.xe s
theorem SlR.or {r r':V->Option Int->Option Int->Hp->VK->Prop} (h:SlR X r) (h':SlR X r'):SlR X (λ x lo hi H Q=>r x lo hi H Q\/r' x lo hi H Q):=by
 intro d s σ H x v e g lo hi i Q I b a c f q;rcases q with q|q
 ·exact h d s σ H x v e g lo hi i Q I b a c f q
 ·exact h' d s σ H x v e g lo hi i Q I b a c f q
noncomputable def tSl (r:V->Option Int->Option Int->Hp->VK->Prop) (te:TE) (tl th:TO):TE:=λ σ H Q=>te σ H λ x H1=>tl σ H1 λ l H2=>th σ H2 λ u H3=>r x l u H3 Q
theorem z1g {r:V->Option Int->Option Int->Hp->VK->Prop} (hr:SlR X r) (he:PE X e te) (hl:PO X lo tl) (hu:PO X hi th):PE X (.Subscript e (.Slice lo hi none p2) pos) (tSl r te tl th):=by intro c s σ H Q I h;refine j1j (thn (he c s σ H _ I h) λ v j ⟨x,H1,I1,r1,q1⟩=>?_);refine wpAny_Slice (thn (hl c j σ H1 _ I1 q1) λ f k ⟨l,H2,I2,pl,q2⟩=>thn (hu c k σ H2 _ I2 q2) λ d a ⟨u,H3,I3,pu,q3⟩=>?_);rw [evalPart_none];refine L0 ?_;have g:Inv X c σ H3 { a with heap:=a.heap.push { cls:=.type "slice",data:=.fields #[f,d,.none] } }:=I3.kept (t':=a.toks) λ b o q=>D0 _ q;obtain ⟨T,id,m,n,i⟩:=hr c { a with heap:=a.heap.push { cls:=.type "slice",data:=.fields #[f,d,.none] } } σ H3 x v f d l u a.heap.objs.size Q g r1 (A9 ..) pl pu q3;show R0 (C1 X.prog X.w) X.A (Y8 e (.Slice lo hi none p2) v (.ref a.heap.objs.size)) (EP X c σ Q) X.xe { a with heap:=a.heap.push { cls:=.type "slice",data:=.fields #[f,d,.none] } };exact j1e (ops:=[.ref a.heap.objs.size,v]) n m i (by with_unfolding_all rfl)
noncomputable def cutV (xs:List V) (lo hi:Option Int):List V:=(xs.drop (HT.sIx xs.length 0 lo)).take (HT.sIx xs.length xs.length hi - HT.sIx xs.length 0 lo)
theorem z7c (xs:List V) (lo hi:Option Int):(cutV xs lo hi).length<=xs.length:=by unfold cutV;rw [L3,M5];omega
def rSlT (K:b0):V->Option Int->Option Int->Hp->VK->Prop:=λ x lo hi H Q=>∃a xs,x=.ref a/\SqT K H a xs/\
 ¬ (HT.sIx xs.length 0 lo=0/\HT.sIx xs.length xs.length hi=xs.length)/\∀p,H p=none->Q (.ref p) (upd H p (.tup (cutV xs lo hi)))
theorem sl_tup:SlR X (rSlT X.K):=by
 intro w s σ H x v A y d e z Q I k m l n h;obtain ⟨a,c,rfl,j,t,q⟩:=h;cases k;obtain ⟨p,r,i,g⟩:=I.tuple j;have f:p.toArray.size=c.length:=by rw [O0];exact r.length.symm
 refine ⟨"tuple",_,PyProof.Rows.slot_tuple_getitem.lookup,i.typeIs,?_⟩;refine HT.getItem_tuple_cut i m l n (by rw [f];exact t) ?_ (by rw [f];exact g);rw [f];refine ⟨.ref s.heap.objs.size,_,I.laid (t':=s.toks) (o:=.tup (cutV c d e)) (λ b u q=>D0 _ q) (A0 _) ?_,rfl,q _ (I.hok.fresh (A0 _))⟩;exact ⟨C0 (z7c c d e) g,_,(r.drop (HT.sIx c.length 0 d)).take (HT.sIx c.length c.length e - HT.sIx c.length 0 d),IsTupN.new _ _⟩
noncomputable def rCatT (K:b0):R2:=λ x y H Q=>∃a b xs ys,x=.ref a/\y=.ref b/\SqT K H a xs/\SqT K H b ys/\xs≠[]/\xs.length + ys.length<=sizeLine/\
 (ys=[]->Q (.ref a) H)/\(ys≠[]->∀p,H p=none->Q (.ref p) (upd H p (.tup (xs++ys))))
theorem Vals.nil_iff {xs:List V} {us:List Value} (r:Vals xs us):us=[]↔xs=[]:=by
 cases r with
 | nil=>simp
 | cons _ _=>simp
theorem z9j:OpR X (A4 .Add) (rCatT X.K):=by intro C s σ H x y v u Q I i n h;obtain ⟨a,b,p,l,rfl,rfl,j,t,f,e,m,g⟩:=h;cases i;cases n;obtain ⟨D,d,r,_⟩:=I.tuple j;obtain ⟨B,c,k,_⟩:=I.tuple t;refine HT.cat_tup r k (λ z=>f (d.nil_iff.mp z)) (λ z=>⟨.ref a,H,I,rfl,m (c.nil_iff.mp z)⟩) (λ z=>?_) (by rw [<-d.length,<-c.length];exact e);refine ⟨.ref s.heap.objs.size,_,I.laid (t':=s.toks) (o:=.tup (p++l)) (λ b A q=>D0 _ q) (A0 _) ?_,rfl,g (λ w=>z (c.nil_iff.mpr w)) _ (I.hok.fresh (A0 _))⟩;exact ⟨by rw [G0];exact e,_,d.append c,IsTupN.new _ _⟩
end
noncomputable def ixN (n:Nat) (i:Int):Option Nat:=if 0<=i then (if i < n then some i.toNat else none) else if -(n:Int)<=i then some (i + n).toNat else none
noncomputable def atI {α:Type} (xs:List α) (i:Int):Option α:=(ixN xs.length i).bind λ j=>xs[j]?
theorem zhz {n:Nat} {i:Int} {j:Nat} (h:ixN n i=some j):seqIndex? i n=some j/\j < n/\-(n:Int)<=i/\i < n:=by
 unfold ixN at h;by_cases h0:0<=i
 ·rw [if_pos h0] at h;by_cases h1:i < n
  ·rw [if_pos h1] at h;have e:i.toNat=j:=Q1 h;exact ⟨by rw [seqIndex_of h0 h1,e],by omega,by omega,h1⟩
  ·rw [if_neg h1] at h;cases h
 ·rw [if_neg h0] at h;by_cases h1:-(n:Int)<=i
  ·rw [if_pos h1] at h;have e:(i + n).toNat=j:=Q1 h;exact ⟨by rw [seqIndex_neg (by omega) h1,e],by omega,h1,by omega⟩
  ·rw [if_neg h1] at h;cases h
theorem zfv {α:Type} {xs:List α} {i:Int} {v:α} (h:atI xs i=some v) :∃j,seqIndex? i xs.length=some j/\xs[j]? = some v/\j < xs.length/\-(xs.length:Int)<=i/\i < xs.length:=by
 unfold atI at h;cases e:ixN xs.length i with
 | none=>rw [e] at h;cases h
 | some j=>rw [e] at h;obtain ⟨c,b,a,d⟩:=zhz e;exact ⟨j,c,h,b,a,d⟩
theorem z05 {α:Type} {xs:List α} {j:Nat} {v:α} (h:xs[j]? = some v):atI xs (j:Int)=some v:=by
 have a:j < xs.length:=(List.getElem?_eq_some_iff.mp h).1;have e:ixN xs.length (j:Int)=some j:=by unfold ixN;rw [if_pos (by omega),if_pos (by omega)];simp
 unfold atI;rw [e];exact h
def zi7 (b:Expr):Prop:=∀o i,j07 b false o i=operate [o,i] (m7 o i)
def IxR (X:Cx) (r:R2):Prop:=
 ∀(value slice:Expr) (pins:List (Addr×Obj)) (s:B0) (σ:St) (H:Hp) (x y:V) (v u:Value) (Q:VK),Inv X pins σ H s->RelV x v->RelV y u->r x y H Q->
  j07 slice false v u=operate [v,u] (m7 v u)->R0 (C1 X.prog X.w) X.A (Y8 value slice v u) (EP X pins σ Q) X.xe s
def MtR (X:Cx) (id:String) (r:V->List V->Hp->VK->Prop):Prop:=
 ∀(pins:List (Addr×Obj)) (s:B0) (σ:St) (H:Hp) (x:V) (xs:List V) (v:Value) (us:List Value) (Q:VK),Inv X pins σ H s->RelV x v->Vals xs us->r x xs H Q->
  R0 (C1 X.prog X.w) X.A (call (.builtin id) (v :: us)) (EP X pins σ Q) X.xe s
section
variable {X:Cx} {a b:Expr} {ta tb:TE} {pos:Pos}
theorem IxR.or {r r':R2} (h:IxR X r) (h':IxR X r'):IxR X (λ x y H Q=>r x y H Q\/r' x y H Q):=by
 intro d e f s σ H x y v u Q I c a q b;rcases q with q|q
 ·exact h d e f s σ H x y v u Q I c a q b
 ·exact h' d e f s σ H x y v u Q I c a q b
theorem pe_ix {r:R2} (hr:IxR X r) (ha:PE X a ta) (hb:PE X b tb) (hs:zi7 b):PE X (.Subscript a b pos) (tOp r ta tb):=by intro f s σ H Q I h;exact j1j (binT ha hb I h λ v u i x y c g e d q=>hr a b f i σ c x y v u Q g e d q (hs _ _))
noncomputable def rIxL (K:b0):R2:=λ x y H Q=>∃p xs i v,x=.ref p/\y=.int i/\SqL K H p xs/\atI xs i=some v/\Q v H
noncomputable def rIxT (K:b0):R2:=λ x y H Q=>∃p xs i v,x=.ref p/\y=.int i/\SqT K H p xs/\atI xs i=some v/\Q v H
noncomputable def rIxS:R2:=λ x y H Q=>∃z i c,x=.str z/\y=.int i/\z.length<=sizeLine/\atI z.cps.toList i=some c/\Q (.str ⟨#[c]⟩) H
theorem ix_list:IxR X (rIxL X.K):=by
 intro L G e s σ H x y v u Q I k E h d;obtain ⟨p,N,i,z,rfl,rfl,n,B,q⟩:=h;cases k;obtain ⟨t,rfl⟩:=E;obtain ⟨C,r,b,M⟩:=I.list n;obtain ⟨j,a,o,O,l,D⟩:=zfv B;obtain ⟨w,g,F⟩:=r.get o;have m:=r.length;have J:=line63;have f:EP X e σ Q w s:=⟨z,H,I,F,q⟩
 by_cases h0:0<=i
 ·have c:i.toNat=j:=by rw [seqIndex_of h0 D] at a;exact Q1 a
  exact item_listR b.isList h0 (by omega) (by rw [c];simpa using g) f d
 ·have c:(i + (C.toArray.size:Int)).toNat=j:=by rw [seqIndex_neg (by omega) l] at a;rw [O0,<-m];exact Q1 a
  exact subscriptTail_builtinR (x:=w) b.isList.typeIs slot_list_getitem.lookup
   (wpAny_getItem_list_neg (Q:=λ r A=>r=w/\EP X e σ Q r A) b.isList (by omega) (by rw [O0]<;>omega) (by omega) (by rw [c];simpa using g) ⟨rfl,f⟩) d
theorem ix_tup:IxR X (rIxT X.K):=by
 intro F D b s σ H x y v u Q I c n h f;obtain ⟨p,M,i,z,rfl,rfl,e,l,q⟩:=h;cases c;obtain ⟨t,rfl⟩:=n;obtain ⟨G,r,a,J⟩:=I.tuple e;obtain ⟨j,B,g,N,C,L⟩:=zfv l;obtain ⟨w,A,o⟩:=r.get g;have d:=r.length;have E:=line63;have m:EP X b σ Q w s:=⟨z,H,I,o,q⟩
 exact subscriptTail_builtinR (x:=w) a.typeIs slot_tuple_getitem.lookup
  (getItem_tuple (j:=j) (Q:=λ r k=>r=w/\EP X b σ Q r k) a (by omega) (by omega) (by rw [O0,<-d];exact B) (by simpa using A) ⟨rfl,m⟩) f
theorem ix_str:IxR X rIxS:=by
 intro w p A s σ H x y v u Q I d n h g;obtain ⟨z,i,c,rfl,rfl,B,l,q⟩:=h;obtain ⟨t,rfl⟩:=d;obtain ⟨D,rfl⟩:=n;obtain ⟨j,a,k,C,e,m⟩:=zfv l;have f:z.cps.toList.length=z.length:=by simp [Str.length]
 rw [f] at a e m;have r:=line63;exact j1e (typeIs_str s z t) slot_str_getitem.lookup (getItem_str (c:=c) (by have b:decide (i < -(2 ^ 63:Int))=false:=decide_eq_false (by omega);have o:decide (i ≥ 2 ^ 63)=false:=decide_eq_false (by omega);rw [b,o,Bool.or_false]) (by rw [a];simpa using k) ⟨.str ⟨#[c]⟩,H,I.tok _,⟨_,rfl⟩,q⟩) g
noncomputable def rIx (K:b0):R2:=λ x y H Q=>rIxL K x y H Q\/rIxT K x y H Q\/rIxS x y H Q
theorem ix_seq:IxR X (rIx X.K):=ix_list.or (ix_tup.or ix_str)
theorem zf7 (its:List Value) (n j:Nat) (u:Value):N8 (·.setIfInBounds j u) { cls:=.type "list",data:=.seq its.toArray n }={ cls:=.type "list",data:=.seq (its.set j u).toArray n }:=by simp [N8]
theorem Inv.lst {pins:List (Addr×Obj)} {σ:St} {H:Hp} {s:B0} {p:Addr} {xs:List V} (I:Inv X pins σ H s) (h:H p=some (.lst xs)) :
  ∃(its:List Value) (n:Nat),Vals xs its/\s.heap.get? p=some { cls:=.type "list",data:=.seq its.toArray n }/\xs.length<=sizeLine:=by
 obtain ⟨z,its,n,r,e⟩:=I.hok p _ h;exact ⟨its,n,r,e,z⟩
theorem Inv.lstUpd {pins:List (Addr×Obj)} {σ:St} {H:Hp} {s:B0} {p:Addr} {xs ys:List V} {its its':List Value} {n n':Nat} {f:Obj->Obj} (I:Inv X pins σ H s) (h:H p=some (.lst xs))
  (ho:s.heap.get? p=some { cls:=.type "list",data:=.seq its.toArray n }) (hf:f { cls:=.type "list",data:=.seq its.toArray n }={ cls:=.type "list",data:=.seq its'.toArray n' }) (r:Vals ys its') (hz:ys.length<=sizeLine) (t:Nat) :
  Inv X pins σ (upd H p (.lst ys)) { s with heap:=s.heap.update p f,toks:=t }:=by
 have e:(s.heap.update p f).get? p=some { cls:=.type "list",data:=.seq its'.toArray n' }:=by rw [P7 f ho (by rw [hf]<;>rfl),hf]
 refine I.write (x:=p) (e:=p) (by rw [h];trivial) (.inl rfl) (λ b u a q=>(j18 _ _ (V3 a)).trans q) ⟨_,e⟩ ?_;exact ⟨hz,its',n',r,e⟩
def rSetL:V->V->V->Hp->(Hp->Prop)->Prop:=λ o i v H Q=>∃p xs k j,o=.ref p/\i=.int k/\H p=some (.lst xs)/\ixN xs.length k=some j/\Q (upd H p (.lst (xs.set j v)))
theorem z4y:PSet X rSetL:=by
 intro z s σ H o i v G D u Q I x C y h;obtain ⟨p,B,k,j,rfl,rfl,f,w,q⟩:=h;cases x;obtain ⟨t,rfl⟩:=C;obtain ⟨l,n,r,d,A⟩:=I.lst f;obtain ⟨a,F,m,e⟩:=zhz w;have b:=r.length;have E:=line63;have g:Inv X z σ (upd H p (.lst (B.set j v))) { s with heap:=s.heap.update p (N8 (·.setIfInBounds j u)) }:=
  I.lstUpd f d (zf7 l n j u) (r.set y j) (by rw [u9];exact A) s.toks
 by_cases h0:0<=k
 ·have c:k.toNat=j:=by rw [seqIndex_of h0 e] at a;exact Q1 a
  exact PySem.W.ki_setAt d h0 (by omega) (by rw [O0,<-b];exact e) (by rw [c];exact ⟨_,g,q⟩)
 ·have c:(k + (l.toArray.size:Int)).toNat=j:=by rw [seqIndex_neg (by omega) m] at a;rw [O0,<-b];exact Q1 a
  exact PySem.W.ki_setBack d (by omega) (by rw [O0,<-b];exact m) (by omega) (by rw [c];exact ⟨_,g,q⟩)
theorem zbi (lo hi:Option Int) (n:Nat):(F2 lo hi none n).1=((HT.sIx n 0 lo:Nat):Int)/\(F2 lo hi none n).2.1=((HT.sIx n n hi:Nat):Int)/\(F2 lo hi none n).2.2=1:=by
 refine ⟨?_,?_,rfl⟩
 ·cases lo with
  | none=>simp [F2,HT.sIx]
  | some i=>
   simp only [F2,HT.sIx,Option.getD_none,show (1:Int) > 0 by decide,if_true];by_cases h:i < 0
   ·simp only [h,if_true]<;>omega
   ·simp only [h,if_false]<;>omega
 ·cases hi with
  | none=>simp [F2,HT.sIx]
  | some i=>
   simp only [F2,HT.sIx,Option.getD_none,show (1:Int) > 0 by decide,if_true];by_cases h:i < 0
   ·simp only [h,if_true]<;>omega
   ·simp only [h,if_false]<;>omega
theorem z9c (its:List Value) (lo hi:Option Int):slicePick its.toArray lo hi none=((its.drop (HT.sIx its.length 0 lo)).take (HT.sIx its.length its.length hi - HT.sIx its.length 0 lo)).toArray:=by obtain ⟨c,b,a⟩:=zbi lo hi its.toArray.size;unfold slicePick;rw [c,b,a];simp only [sliceRange_one,pick_run,O0]<;>rfl
def rSlL (K:b0):V->Option Int->Option Int->Hp->VK->Prop:=λ x lo hi H Q=>∃a xs,x=.ref a/\SqL K H a xs/\∀p,H p=none->Q (.ref p) (upd H p (.lst (cutV xs lo hi)))
theorem sl_list:SlR X (rSlL X.K):=by intro t s σ H x v z u d e y Q I i k j m h;obtain ⟨a,c,rfl,g,q⟩:=h;cases i;obtain ⟨w,r,f,n⟩:=I.list g;have l:=r.length;refine ⟨"list",_,slot_list_getitem.lookup,f.isList.typeIs,?_⟩;refine wpAny_getItem_list_slice f.isList k j m .none (by simp) ?_ (by rw [O0]<;>omega);rw [z9c,<-l];refine ⟨.ref s.heap.objs.size,_,I.laid (t':=s.toks) (o:=.lst (cutV c d e)) (λ b p q=>D0 _ q) (A0 _) ?_,rfl,q _ (I.hok.fresh (A0 _))⟩;exact ⟨C0 (z7c c d e) n,_,0,(r.drop (HT.sIx c.length 0 d)).take (HT.sIx c.length c.length e - HT.sIx c.length 0 d),X0 _ rfl⟩
noncomputable def flatV:V->Bool
 | .non=>true
 | .bl _=>true
 | .int _=>true
 | .str _=>true
 | _=>false
noncomputable def eqV:V->V->Bool
 | .non,.non=>true
 | .bl a,.bl b=>a == b
 | .bl a,.int b=>(if a then 1 else 0) == b
 | .int a,.bl b=>a == (if b then 1 else 0)
 | .int a,.int b=>a == b
 | .str a,.str b=>a == b
 | _,_=>false
theorem eqAt_V {A:X1} {s:B0} {y x:V} {u v:Value} (ry:RelV y u) (rx:RelV x v) (fy:flatV y=true) (fx:flatV x=true):SeqAt.EqAt A s u v (eqV y x):=by
 cases y with
 | non=>
  cases ry;cases x with
  | non=>cases rx;exact SeqAt.EqAt.same _
  | bl b=>cases rx;exact SeqAt.EqAt.none_bool b
  | int b=>obtain ⟨t,rfl⟩:=rx;exact SeqAt.EqAt.none_int b t
  | str b=>obtain ⟨t,rfl⟩:=rx;exact SeqAt.EqAt.none_str b t
  | _=>exact absurd (show false=true from fx) M0
 | bl a=>
  cases ry;cases x with
  | non=>cases rx;exact SeqAt.EqAt.bool_none a
  | bl b=>cases rx;exact SeqAt.EqAt.bool_bool a b
  | int b=>obtain ⟨t,rfl⟩:=rx;exact SeqAt.EqAt.bool_int a b t
  | str b=>obtain ⟨t,rfl⟩:=rx;exact SeqAt.EqAt.bool_str a b t
  | _=>exact absurd (show false=true from fx) M0
 | int a=>
  obtain ⟨c,rfl⟩:=ry;cases x with
  | non=>cases rx;exact SeqAt.EqAt.int_none a c
  | bl b=>cases rx;exact SeqAt.EqAt.int_bool a c b
  | int b=>obtain ⟨t,rfl⟩:=rx;exact SeqAt.EqAt.int_int a c b t
  | str b=>obtain ⟨t,rfl⟩:=rx;exact j0a a c b t
  | _=>exact absurd (show false=true from fx) M0
 | str a=>
  obtain ⟨c,rfl⟩:=ry;cases x with
  | non=>cases rx;exact SeqAt.EqAt.str_none a c
  | bl b=>cases rx;exact SeqAt.EqAt.str_bool a c b
  | int b=>obtain ⟨t,rfl⟩:=rx;exact j09 a c b t
  | str b=>obtain ⟨t,rfl⟩:=rx;exact j08 a c b t
  | _=>exact absurd (show false=true from fx) M0
 | _=>exact absurd (show false=true from fy) M0
noncomputable def eqU (x:V) (u:Value):Bool:=match u with
 | .none=>eqV .non x
 | .bool b=>eqV (.bl b) x
 | .int i _=>eqV (.int i) x
 | .str z _=>eqV (.str z) x
 | _=>false
theorem eqU_of {x y:V} {u:Value} (r:RelV y u) (f:flatV y=true):eqU x u=eqV y x:=by
 cases y with
 | non=>cases r;rfl
 | bl b=>cases r;rfl
 | int i=>obtain ⟨t,rfl⟩:=r;rfl
 | str z=>obtain ⟨t,rfl⟩:=r;rfl
 | _=>exact absurd (show false=true from f) M0
theorem z9k {x:V} :∀{xs:List V} {us:List Value},Vals xs us->xs.all flatV=true->us.any (eqU x)=xs.any λ y=>eqV y x
 | _,_,.nil,_=>rfl
 | y :: xs,u :: us,.cons r t,f=>by rw [List.all_cons,A2] at f;rw [P6,P6,eqU_of r f.1,z9k t f.2]
theorem z64 {A:X1} {s:B0} {x:V} {v:Value} (rx:RelV x v) (fx:flatV x=true) :∀{xs:List V} {us:List Value},Vals xs us->xs.all flatV=true->∀u∈us,SeqAt.EqAt A s u v (eqU x u)
 | _,_,.nil,_=>λ u a=>by cases a
 | y :: xs,u :: us,.cons r t,f=>λ b a=>by
  rw [List.all_cons,A2] at f;rcases List.mem_cons.mp a with rfl|a
  ·rw [eqU_of r f.1];exact eqAt_V r rx f.1 fx
  ·exact z64 rx fx t f.2 b a
noncomputable def inV (x:V) (xs:List V):Bool:=xs.any λ y=>eqV y x
noncomputable def rIn (K:b0) (neg:Bool):R2:=λ x y H Q=>∃p xs,y=.ref p/\(SqL K H p xs\/SqT K H p xs)/\flatV x=true/\xs.all flatV=true/\Q (.bl (if neg then !inV x xs else inV x xs)) H
theorem z1l:OpR X (C2 .In) (rIn X.K false):=by
 intro j s σ H x y v u Q I e i h;obtain ⟨p,k,rfl,a,f,fs,q⟩:=h;cases i;rcases a with a|a
 ·obtain ⟨b,r,c,g⟩:=I.list a;refine SeqAt.in_listAt (eqU x) c.isList (λ w d=>z64 e f r fs w (by simpa using d)) ⟨.bl _,H,I,rfl,?_⟩;rw [show b.toArray.any (eqU x)=b.any (eqU x) by simp,z9k r fs];exact q
 ·obtain ⟨b,r,c,g⟩:=I.tuple a;refine SeqAt.in_tupleAt (eqU x) c (λ w d=>z64 e f r fs w (by simpa using d)) ⟨.bl _,H,I,rfl,?_⟩;rw [show b.toArray.any (eqU x)=b.any (eqU x) by simp,z9k r fs];exact q
theorem z15:OpR X (C2 .NotIn) (rIn X.K true):=by
 intro j s σ H x y v u Q I e i h;obtain ⟨p,k,rfl,a,f,fs,q⟩:=h;cases i;rcases a with a|a
 ·obtain ⟨b,r,c,g⟩:=I.list a;refine SeqAt.notIn_listAt (eqU x) c.isList (λ w d=>z64 e f r fs w (by simpa using d)) ⟨.bl _,H,I,rfl,?_⟩;rw [show b.toArray.any (eqU x)=b.any (eqU x) by simp,z9k r fs];exact q
 ·obtain ⟨b,r,c,g⟩:=I.tuple a;refine SeqAt.notIn_tupleAt (eqU x) c (λ w d=>z64 e f r fs w (by simpa using d)) ⟨.bl _,H,I,rfl,?_⟩;rw [show b.toArray.any (eqU x)=b.any (eqU x) by simp,z9k r fs];exact q
theorem call_len_seq:CallR X (.builtin "len") (λ xs H Q=>∃p ys,xs=[.ref p]/\(SqL X.K H p ys\/SqT X.K H p ys)/\Q (.int ys.length) H):=by
 intro k s σ H xs i Q I r h;obtain ⟨p,ys,rfl,a,q⟩:=h;obtain ⟨u,rfl,e⟩:=vals1 r;cases e;have j:=line63;rcases a with a|a
 ·obtain ⟨f,c,d,g⟩:=I.list a;have b:=c.length;exact Calls.call_len_list d.isList (by simp only [O0]<;>omega) ⟨.int ys.length,H,I.tok _,⟨s.toks + 1,by rw [O0,b]⟩,q⟩
 ·obtain ⟨f,c,d,g⟩:=I.tuple a;have b:=c.length;exact len_tuple d (by simp only [O0]<;>omega) ⟨.int ys.length,H,I.tok _,⟨s.toks + 1,by rw [O0,b]⟩,q⟩
theorem zb6:CallR X (.builtin "len") (λ xs H Q=>∃z,xs=[.str z]/\z.length<=sizeLine/\Q (.int z.length) H):=by intro c s σ H xs a Q I r h;obtain ⟨z,rfl,d,q⟩:=h;obtain ⟨u,rfl,t,rfl⟩:=vals1 r;have b:=line63;exact len_str (by omega) ⟨.int z.length,H,I.tok _,⟨_,rfl⟩,q⟩
theorem CallR.or {f:Value} {r r':List V->Hp->VK->Prop} (h:CallR X f r) (h':CallR X f r'):CallR X f (λ xs H Q=>r xs H Q\/r' xs H Q):=by
 intro b s σ H xs a Q I c q;rcases q with q|q
 ·exact h b s σ H xs a Q I c q
 ·exact h' b s σ H xs a Q I c q
theorem z0j:CallR X (.type "tuple") (λ xs H Q=>∃p ys,xs=[.ref p]/\((SqL X.K H p ys/\∀l,H l=none->Q (.ref l) (upd H l (.tup ys)))\/(SqT X.K H p ys/\Q (.ref p) H))):=by
 intro j s σ H xs v Q I r h;obtain ⟨p,ys,rfl,h⟩:=h;obtain ⟨u,rfl,m⟩:=vals1 r;cases m;rcases h with ⟨f,q⟩|⟨f,q⟩
 ·obtain ⟨g,c,d,k⟩:=I.list f;have x:=c.length;refine call_tuple_list d.isList (λ a t=>?_) (by simp only [O0]<;>omega);have i:Inv X j σ H { s with heap:=a }:=I.kept (t':=s.toks) t;have n:Inv X j σ (upd H a.objs.size (.tup ys)) { s with heap:=a.push { cls:=.type "tuple",data:=.seq g.toArray } }:=
   i.laid (t':=s.toks) (λ b o e=>D0 _ e) (A0 _) (show ObjOk X.prog X.w _ _ _ (.tup ys) from ⟨k,g,c,IsTupN.new _ _⟩)
  exact ⟨.ref a.objs.size,_,n,rfl,q _ (i.hok.fresh (A0 _))⟩
 ·obtain ⟨g,c,d,k⟩:=I.tuple f;exact call_tuple_same d ⟨.ref p,H,I,rfl,q⟩
def tyV (K:b0) (T:String) (x:V) (H:Hp):Prop:=match x with
 | .str _=>T = "str"
 | .int _=>T = "int"
 | .ref p=>(T = "list"/\∃xs,SqL K H p xs)\/(T = "tuple"/\∃o,K.lookup p=some o/\o.cls=.type "tuple"/\o.dict=none)\/
   (T = "dict"/\((∃kvs,H p=some (.dK kvs))\/∃kvs,H p=some (.dT kvs)))\/(T = "set"/\∃S n,H p=some (.set S n))
 | _=>False
theorem tyV_is {pins:List (Addr×Obj)} {σ:St} {H:Hp} {s:B0} {T:String} {x:V} {v:Value} (I:Inv X pins σ H s) (r:RelV x v) (ty:tyV X.K T x H) :
  s.TypeIs v T/\∀a,v=.ref a->∃ob,s.heap.get? a=some ob/\ob.dict=none:=by
 cases x with
 | str z=>obtain ⟨t,rfl⟩:=r;cases (show T = "str" from ty);exact ⟨typeIs_str s z t,λ _ e=>nomatch e⟩
 | int i=>obtain ⟨t,rfl⟩:=r;cases (show T = "int" from ty);exact ⟨typeIs_int s i t,λ _ e=>nomatch e⟩
 | ref p=>
  cases r;rcases ty with ⟨rfl,l,j⟩|⟨rfl,o,b,hc,g⟩|⟨rfl,b⟩|⟨rfl,S,n,b⟩
  ·obtain ⟨m,_,h,_⟩:=I.list j;refine ⟨h.isList.typeIs,λ a e=>?_⟩;cases e;obtain ⟨o,n,e,c,g,_⟩:=h;exact ⟨o,e,g⟩
  ·refine ⟨⟨o,I.kIn p o b,hc⟩,λ a e=>?_⟩;cases e;exact ⟨o,I.kIn _ o b,g⟩
  ·have z :∃o,s.heap.get? p=some o/\o.ExactDict:=by
    rcases b with ⟨k,b⟩|⟨k,b⟩
    ·obtain ⟨_,_,_,_,o,_,_,e,d,_⟩:=I.hok p _ b;exact ⟨o,e,d⟩
    ·obtain ⟨_,_,_,_,o,_,_,e,d,_⟩:=I.hok p _ b;exact ⟨o,e,d⟩
   obtain ⟨o,e,d⟩:=z;refine ⟨⟨o,e,d.1⟩,λ a f=>?_⟩;cases f;exact ⟨o,e,d.2.1⟩
  ·obtain ⟨o,_,_,_,e,d,_⟩:=I.hok p _ b;refine ⟨⟨o,e,d.1⟩,λ a f=>?_⟩;cases f;exact ⟨o,e,d.2.1⟩
 | _=>exact C3 ty
noncomputable def tBM0 (K:b0) (T:String) (r:V->List V->Hp->VK->Prop) (to:TE):TE:=λ σ H Q=>to σ H λ x H1=>tyV K T x H1/\r x [] H1 Q
noncomputable def tBM (K:b0) (T:String) (r:V->List V->Hp->VK->Prop) (to:TE) (t:TA):TE:=λ σ H Q=>to σ H λ x H1=>tyV K T x H1/\t σ H1 λ xs H2=>r x xs H2 Q
variable {o e:Expr} {es:List Expr} {to:TE} {t:TA} {name:Str} {apos cpos:Pos} {T id:String} {r:V->List V->Hp->VK->Prop}
theorem pe_bm0 (pa:PlainAttrs T) (slot:Slot T name id) (hty:typeOf (.builtin id)=X2 (.type "method_descriptor")) (hm:MtR X id r) (ho:PE X o to)
  (hbase:j4 o name X.env (d3 o X.env)=d3 o X.env:=by rfl) (hline:(apos.endLine == cpos.line)=true:=by rfl):PE X (.Call (.Attribute o name apos) [] [] cpos) (tBM0 X.K T r to):=by
 intro a s σ H Q I h;refine wpAny_Call_method0_late hbase hline (thn (ho a s σ H _ I h) λ v c ⟨x,H1,I1,r1,ty,q1⟩=>?_);obtain ⟨d,b⟩:=tyV_is I1 r1 ty;exact ⟨T,id,pa,slot,hty,d,b,n5 rfl (PySem.evalArgs_none (hm a c σ H1 x [] v [] Q I1 r1 .nil q1))⟩
theorem pe_bm (pa:PlainAttrs T) (slot:Slot T name id) (hty:typeOf (.builtin id)=X2 (.type "method_descriptor")) (hm:MtR X id r) (ho:PE X o to) (ha:PA X (e :: es) t)
  (hbase:j4 o name X.env (d3 o X.env)=d3 o X.env:=by rfl)
  (hfew:((E4 cpos (P1 (e :: es) X.env)).all (λ x=>!x.1) && (L9 cpos (i7 [] X.env)).all (λ x=>x.1.isSome)
   && decide ((e :: es).length + ([]:List L6).length + (if ([]:List L6).isEmpty then 0 else 1) < 30))=true:=by rfl)
  (hline:(apos.endLine == cpos.line)=true:=by rfl) (hs:P1 (e :: es) X.env=(false,d3 e X.env) :: P1 es X.env:=by rfl) (hplain:(E4 cpos (P1 es X.env)).any (·.1)=false:=by rfl) :
  PE X (.Call (.Attribute o name apos) (e :: es) [] cpos) (tBM X.K T r to t):=by
 intro a s σ H Q I h;refine wpAny_Call_method_late hbase hfew hline rfl (thn (ho a s σ H _ I h) λ v f ⟨x,H1,I1,r1,ty,q1⟩=>?_);obtain ⟨i,d⟩:=tyV_is I1 r1 ty;refine ⟨T,id,pa,slot,hty,i,d,?_⟩;have b:=ha cpos a f σ H1 _ I1 q1;rw [hs] at b⊢;refine n5 (by show (false || (E4 cpos (P1 es X.env)).any (·.1))=false;rw [hplain]<;>rfl) (U7 ?_);exact thn b λ c g ⟨vs,H2,I2,r2,q2⟩=>hm a g σ H2 x vs v c Q I2 r1 r2 q2
end
def MtM (X:Cx) (id:String) (r:V->List V->Hp->VK->Prop):Prop:=
 ∀(pins:List (Addr×Obj)) (s:B0) (σ:St) (H:Hp) (x:V) (xs:List V) (v:Value) (us:List Value) (Q:VK),Inv X pins σ H s->RelV x v->Vals xs us->r x xs H Q->
  R0 (C1 X.prog X.w) X.A (call (.builtin id) (v :: us)) (EP X pins σ Q) X.xe s
theorem Vals.one :∀{x:V} {us:List Value},Vals [x] us->∃u,us=[u]/\RelV x u
 | _,_,.cons r .nil=>⟨_,rfl,r⟩
theorem Vals.zero :∀{us:List Value},Vals [] us->us=[]
 | _,.nil=>rfl
theorem Vals.dropLast {xs:List V} {us:List Value} (h:Vals xs us):Vals xs.dropLast us.dropLast:=by
 induction h with
 | nil=>exact .nil
 | cons r t ih=>
  cases t with
  | nil=>exact .nil
  | cons q t'=>exact .cons r ih
theorem zdn {α:Type} (l:List α):l.eraseIdx (l.length - 1)=l.dropLast:=by
 induction l with
 | nil=>rfl
 | cons a r ih=>
  cases r with
  | nil=>rfl
  | cons b r=>
   have e:(a :: b :: r).length - 1=((b :: r).length - 1) + 1:=by have d:(a :: b :: r).length=r.length + 2:=rfl;have c:(b :: r).length=r.length + 1:=rfl;omega
   rw [e,List.eraseIdx_cons_succ,ih]
   all_goals rfl
section
variable {X:Cx} {pins:List (Addr×Obj)} {σ:St} {H:Hp} {s:B0} {l b:Addr} {xs ys zs:List V}
theorem Inv.lset {its its':List Value} {n:Nat} {f:Array Value->Array Value} {t':Nat} (I:Inv X pins σ H s) (hH:H l=some (.lst xs))
  (e:s.heap.get? l=some { cls:=.type "list",data:=.seq its.toArray n }) (hf:f its.toArray=its'.toArray) (hv:Vals ys its') (hz:ys.length<=sizeLine) :
  Inv X pins σ (upd H l (.lst ys)) { s with heap:=s.heap.update l (N8 f),toks:=t' }:=by
 have q:=PySem.IsL.update e f;rw [hf] at q;refine I.write (x:=l) (e:=l) (by rw [hH];exact trivial) (.inl rfl) (λ c u b a=>(j18 s.heap (N8 f) (V3 b)).trans a) ⟨_,q⟩ ?_;exact ⟨hz,its',_,hv,q⟩
theorem Inv.lnew {its:List Value} {t':Nat} (I:Inv X pins σ H s) (hv:Vals ys its) (hz:ys.length<=sizeLine) :
  Inv X pins σ (upd H s.heap.objs.size (.lst ys)) { s with heap:=s.heap.push { cls:=.type "list",data:=.seq its.toArray },toks:=t' }:=
 I.laid (λ _ _ q=>D0 _ q) (A0 _) ⟨hz,its,0,hv,X0 _ rfl⟩
theorem Inv.fresh (I:Inv X pins σ H s):H s.heap.objs.size=none:=I.hok.fresh (A0 _)
theorem Inv.lstM (I:Inv X pins σ H s) (hH:H l=some (.lst xs)):xs.length<=sizeLine/\∃(its:List Value) (n:Nat),Vals xs its/\xs.length=its.length/\s.heap.get? l=some { cls:=.type "list",data:=.seq its.toArray n }:=by obtain ⟨z,its,n,r,e⟩:=I.hok l _ hH;exact ⟨z,its,n,r,r.length,e⟩
end
section
variable {X:Cx}
def zhv:V->List V->Hp->VK->Prop:=λ x vs H Q=>∃l xs y,x=.ref l/\vs=[y]/\H l=some (.lst xs)/\xs.length < sizeLine/\Q .non (upd H l (.lst (xs++[y])))
theorem zh2:MtM X "list.append" zhv:=by intro k s σ H x j v g Q I c f h;obtain ⟨l,o,y,rfl,rfl,b,m,q⟩:=h;cases c;obtain ⟨u,rfl,d⟩:=f.one;obtain ⟨z,a,n,r,i,e⟩:=I.lstM b;refine call_meets F.slot_list_append ⟨_,e,rfl⟩ F.entry_list_append (F.args_list_append_2 _ _) (PySem.list_append l a.toArray n u (by rw [O0];omega)) ⟨e,?_⟩;refine ⟨.non,_,I.lset (its':=a++[u]) b e (by simp) (r.append (.cons d .nil)) ?_,rfl,q⟩;rw [G0,List.length_singleton];omega
def rPop:V->List V->Hp->VK->Prop:=λ x vs H Q=>∃l xs y,x=.ref l/\vs=[]/\H l=some (.lst xs)/\xs[xs.length - 1]? = some y/\Q y (upd H l (.lst xs.dropLast))
theorem mt_pop:MtM X "list.pop" rPop:=by
 intro t s σ H x p v o Q I d k h;obtain ⟨l,w,y,rfl,rfl,b,c,q⟩:=h;cases d;have m:=k.zero;subst m;obtain ⟨z,a,n,r,g,e⟩:=I.lstM b;obtain ⟨u,f,i⟩:=r.get c;have j:a.toArray[a.toArray.size - 1]? = some u:=by show a.toArray[a.length - 1]? = some u;rw [<-j1a,<-g];exact f
 refine call_meets F.slot_list_pop ⟨_,e,rfl⟩ F.entry_list_pop (F.args_list_pop_1 _) (MeetsSeq.list_pop_last l a.toArray n u j (by rw [O0];omega)) ⟨e,?_⟩;refine ⟨y,_,I.lset (its':=a.dropLast) b e ?_ r.dropLast ?_,i,q⟩
 ·show a.toArray.eraseIdxIfInBounds (a.toArray.size - 1)=a.dropLast.toArray;rw [O0,List.eraseIdxIfInBounds_toArray,zdn]
 ·rw [List.length_dropLast];omega
noncomputable def rCat:R2:=λ x y H Q=>∃l b xs zs,x=.ref l/\y=.ref b/\H l=some (.lst xs)/\H b=some (.lst zs)/\xs.length + zs.length<=sizeLine/\∀p,H p=none->Q (.ref p) (upd H p (.lst (xs++zs)))
theorem op_cat:OpR X (A4 .Add) rCat:=by
 intro w s σ H x y v u Q I d j h;obtain ⟨l,b,D,p,rfl,rfl,k,i,C,q⟩:=h;cases d;cases j;obtain ⟨z,c,n,r,o,e⟩:=I.lstM k;obtain ⟨B,a,A,g,t,m⟩:=I.lstM i;refine PySem.P.add_list e m ?_ (by rw [O0,O0];omega);have f:c.toArray++a.toArray=(c++a).toArray:=by simp
 rw [f];exact ⟨.ref _,_,I.lnew (t':=s.toks) (r.append g) (by rw [G0];omega),rfl,q _ I.fresh⟩
end
section
variable {prog:Program} {w:P0} {A:X1} {E:Value->B0->Prop} {s:B0}
set_option maxRecDepth 100000 in
end
section
variable {κ:Type} [DecidableEq κ]
noncomputable def valV (kvs:List (κ×V)) (k:κ):Option V:=(kvs.find? λ kv=>decide (kv.1=k)).map (·.2)
noncomputable def putK (kvs:List (κ×V)) (k:κ) (v:V):List (κ×V):=
 if (kvs.any λ kv=>decide (kv.1=k))=true then kvs.map (λ kv=>if kv.1=k then (kv.1,v) else kv) else kvs++[(k,v)]
noncomputable def dropK (kvs:List (κ×V)) (k:κ):List (κ×V):=kvs.filter λ kv=>decide (kv.1≠k)
theorem z0n {p:κ×V} {r:List (κ×V)} {k:κ} (e:p.1=k):valV (p :: r) k=some p.2:=by simp [valV,Q3,e]
theorem z0k {p:κ×V} {r:List (κ×V)} {k:κ} (e:¬ p.1=k):valV (p :: r) k=valV r k:=by simp [valV,Q3,e]
theorem z83 (k:κ) :∀kvs:List (κ×V),(kvs.any λ kv=>decide (kv.1=k))=(valV kvs k).isSome
 | []=>rfl
 | p :: r=>by
  rw [P6];by_cases e:p.1=k
  ·simp only [z0n e,decide_eq_true e,Bool.true_or,Option.isSome_some]
  ·rw [z0k e,decide_eq_false e,j0h];exact z83 k r
theorem zeb (k j:κ) (y:V) :∀kvs:List (κ×V),valV (kvs.map λ kv=>if kv.1=k then (kv.1,y) else kv) j=(valV kvs j).map λ x=>if j=k then y else x
 | []=>rfl
 | p :: r=>by
  have a:=zeb k j y r;rw [Y0];by_cases h:p.1=k
  ·rw [if_pos h];by_cases e:p.1=j
   ·rw [z0n (p:=(p.1,y)) e,z0n e,c7,if_pos (e.symm.trans h)]
   ·rw [z0k (p:=(p.1,y)) e,z0k e,a]
  ·rw [if_neg h];by_cases e:p.1=j
   ·rw [z0n (p:=p) e,z0n e,c7,if_neg (λ z=>h (e.trans z))]
   ·rw [z0k (p:=p) e,z0k e,a]
theorem zcb (k j:κ) (y:V) :∀kvs:List (κ×V),valV kvs k=none->valV (kvs++[(k,y)]) j=if j=k then some y else valV kvs j
 | [],_=>by
  by_cases e:k=j
  ·rw [if_pos e.symm];exact z0n (p:=(k,y)) e
  ·rw [if_neg (λ z=>e z.symm)];exact z0k (p:=(k,y)) e
 | p :: r,hn=>by
  rw [List.cons_append];have a:¬ p.1=k:=λ z=>by rw [z0n z] at hn;cases hn
  rw [z0k a] at hn;have b:=zcb k j y r hn;by_cases e:p.1=j
  ·rw [z0n e,z0n e,if_neg (λ z=>a (e.trans z))]
  ·rw [z0k e,z0k e,b]
theorem z3s (kvs:List (κ×V)) (k j:κ) (y:V):valV (putK kvs k y) j=if j=k then some y else valV kvs j:=by
 unfold putK;by_cases a:(kvs.any λ b=>decide (b.1=k))=true
 ·rw [if_pos a,zeb];rw [z83] at a;by_cases e:j=k
  ·obtain ⟨x,c⟩:=Option.isSome_iff_exists.mp a;rw [if_pos e,e,c,c7,if_pos rfl]
  ·rw [if_neg e];cases valV kvs j with
   | none=>rfl
   | some x=>rw [c7,if_neg e]
 ·rw [if_neg a];refine zcb k j y kvs ?_;rw [z83] at a;cases q:valV kvs k with
  | none=>rfl
  | some x=>rw [q] at a;exact (a rfl).elim
theorem z4t (kvs:List (κ×V)) (k:κ) (v:V):(putK kvs k v).length<=kvs.length + 1:=by
 unfold putK;split
 ·rw [F0];omega
 ·rw [G0,W0,N7];omega
theorem RelO.isSome_eq {o:Option V} {u:Option Value} (r:RelO o u):o.isSome=u.isSome:=by
 cases o with
 | none=>cases u with
  | none=>rfl
  | some _=>exact (show False from r).elim
 | some _=>cases u with
  | none=>exact (show False from r).elim
  | some _=>rfl
theorem RelO.getD {o:Option V} {u:Option Value} {d:V} {d':Value} (r:RelO o u) (rd:RelV d d'):RelV (o.getD d) (u.getD d'):=by
 cases o with
 | none=>cases u with
  | none=>exact rd
  | some _=>exact (show False from r).elim
 | some _=>cases u with
  | none=>exact (show False from r).elim
  | some _=>exact r
theorem KV.val {kvs:List (κ×V)} {vs:List (κ×Value)} (r:KV kvs vs) (k:κ):RelO (valV kvs k) (P8 vs k):=by
 unfold KV at r;induction r with
 | nil=>exact True.intro
 | @cons p q ps qs h t ih=>
  obtain ⟨c,d⟩:=h;by_cases e:p.1=k
  ·have a:q.1=k:=c.symm.trans e;have b:P8 (q :: qs) k=some q.2:=by simp [P8,Q3,a]
   rw [z0n e,b];exact d
  ·have a:¬ q.1=k:=λ z=>e (c.trans z);have b:P8 (q :: qs) k=P8 qs k:=by simp [P8,Q3,a]
   rw [z0k e,b];exact ih
theorem KV.any {kvs:List (κ×V)} {vs:List (κ×Value)} (r:KV kvs vs) (k:κ):(kvs.any λ kv=>decide (kv.1=k))=vs.any λ kv=>decide (kv.1=k):=by
 unfold KV at r;induction r with
 | nil=>rfl
 | cons h t ih=>rw [P6,P6,ih,h.1]
theorem KV.repl {kvs:List (κ×V)} {vs:List (κ×Value)} (r:KV kvs vs) (k:κ) {y:V} {u:Value} (ry:RelV y u) :
  KV (kvs.map λ kv=>if kv.1=k then (kv.1,y) else kv) (vs.map λ kv=>if kv.1=k then (kv.1,u) else kv):=by
 unfold KV at r⊢;induction r with
 | nil=>exact .nil
 | @cons p q ps qs h t ih=>
  rw [Y0,Y0];refine .cons ?_ ih;obtain ⟨a,b⟩:=h;by_cases e:p.1=k
  ·rw [if_pos e,if_pos (a.symm.trans e)];exact ⟨a,ry⟩
  ·rw [if_neg e,if_neg (λ z=>e (a.trans z))];exact ⟨a,b⟩
theorem KV.put {kvs:List (κ×V)} {vs:List (κ×Value)} (r:KV kvs vs) (k:κ) {y:V} {u:Value} (ry:RelV y u):KV (putK kvs k y) (stored vs k u):=by
 unfold putK stored;rw [r.any k];by_cases e:(vs.any λ a=>decide (a.1=k))=true
 ·rw [if_pos e,if_pos e];exact r.repl k ry
 ·rw [if_neg e,if_neg e];exact Paired.snoc r ⟨rfl,ry⟩
theorem KV.drop {kvs:List (κ×V)} {vs:List (κ×Value)} (r:KV kvs vs) (k:κ):KV (dropK kvs k) (without vs k):=by
 unfold KV at r⊢;unfold dropK without;induction r with
 | nil=>exact .nil
 | @cons p q ps qs h t ih=>
  obtain ⟨c,d⟩:=h;rw [d4,d4];by_cases e:p.1=k
  ·have a:¬ decide (p.1≠k)=true:=by simp [e]
   have b:¬ decide (q.1≠k)=true:=by simp [c.symm.trans e]
   rw [if_neg a,if_neg b];exact ih
  ·have f:¬ q.1=k:=λ z=>e (c.trans z);have a:decide (p.1≠k)=true:=by simp [e]
   have b:decide (q.1≠k)=true:=by simp [f]
   rw [if_pos a,if_pos b];exact .cons ⟨c,d⟩ ih
theorem KV.keys {kvs:List (κ×V)} {vs:List (κ×Value)} (r:KV kvs vs):kvs.map (·.1)=vs.map (·.1):=by
 unfold KV at r;induction r with
 | nil=>rfl
 | cons h t ih=>rw [Y0,Y0,ih,h.1]
theorem KV.length {kvs:List (κ×V)} {vs:List (κ×Value)} (r:KV kvs vs):kvs.length=vs.length:=S9 r
theorem zfk (kvs:List (κ×V)) (k:κ):(dropK kvs k).length<=kvs.length:=P2 _ _
end
theorem kV_is {P:Program} {w:P0} {k:Key} {u:Value} (r:RelV (kV k) u):(z11 P w).is k u=true:=by
 cases k with
 | inl i=>obtain ⟨t,e⟩:=(show∃t,u=R6 i t from r);subst e;exact zcy P w i t
 | inr x=>obtain ⟨t,e⟩:=(show∃t,u=K5 x t from r);subst e;exact zd0 P w x t
theorem zbt {P:Program} {w:P0} :∀{ks:List Key} {us:List Value},Vals (ks.map kV) us->ItemsAre (z11 P w) ks us
 | [],_,r=>by rw [u4] at r;cases r;exact .nil
 | k :: ks,_,r=>by
  rw [Y0] at r;cases r with
  | cons h t=>exact .cons (kV_is h) (zbt t)
abbrev KT (H:Hp):List (List Key×V)->List (List Key×Addr×Value)->Prop:=a8 λ p q=>p.1=q.1/\H q.2.1=some (.tup (p.1.map kV))/\RelV p.2 q.2.2
theorem KT.val {H:Hp} {kvs:List (List Key×V)} {xs:List (List Key×Addr×Value)} (r:KT H kvs xs) (k:List Key):RelO (valV kvs k) ((R7 xs k).map (·.2)):=by
 induction r with
 | nil=>exact True.intro
 | @cons p q ps qs h t ih=>
  obtain ⟨c,_,d⟩:=h;by_cases e:p.1=k
  ·have a:q.1=k:=c.symm.trans e;have b:R7 (q :: qs) k=some q.2:=by simp [R7,Q3,a]
   rw [z0n e,b];exact d
  ·have a:¬ q.1=k:=λ z=>e (c.trans z);have b:R7 (q :: qs) k=R7 qs k:=by simp [R7,Q3,a]
   rw [z0k e,b];exact ih
theorem KT.repl {H:Hp} {kvs:List (List Key×V)} {xs:List (List Key×Addr×Value)} (r:KT H kvs xs) (k:List Key) {y:V} {u:Value} (ry:RelV y u) :
  KT H (kvs.map λ kv=>if kv.1=k then (kv.1,y) else kv) (xs.map (putAt k u)):=by
 induction r with
 | nil=>exact .nil
 | @cons p q ps qs h t ih=>
  rw [Y0,Y0];refine .cons ?_ ih;obtain ⟨a,b,c⟩:=h;unfold putAt;by_cases e:p.1=k
  ·rw [if_pos e,if_pos (a.symm.trans e)];exact ⟨a,b,ry⟩
  ·rw [if_neg e,if_neg (λ z=>e (a.trans z))];exact ⟨a,b,c⟩
theorem KT.put {H:Hp} {kvs:List (List Key×V)} {xs:List (List Key×Addr×Value)} (r:KT H kvs xs) (k:List Key) {b:Addr} {y:V} {u:Value} (hb:H b=some (.tup (k.map kV))) (ry:RelV y u) :
  KT H (putK kvs k y) (storedH xs k b u):=by
 have e:(kvs.any λ a=>decide (a.1=k))=(R7 xs k).isSome:=by rw [z83,(r.val k).isSome_eq,z6]
 unfold putK storedH;rw [e];by_cases q:(R7 xs k).isSome=true
 ·rw [if_pos q,if_pos q];exact r.repl k ry
 ·rw [if_neg q,if_neg q];exact Paired.snoc r ⟨rfl,hb,ry⟩
theorem KT.keeps {H H':Hp} {kvs:List (List Key×V)} {xs:List (List Key×Addr×Value)} (r:KT H kvs xs) (ht :∀b ys,H b=some (.tup ys)->H' b=some (.tup ys)):KT H' kvs xs:=
 Paired.mapP r λ _ _ z=>⟨z.1,ht _ _ z.2.1,z.2.2⟩
section
variable {P:Program} {w:P0} {H:Hp} {h:Heap} {a:Addr}
theorem rd_of {u:HO} (ok:HOk P w H h) (e:Rd H a u):ObjOk P w H h a u:=e.ok ok
theorem dk_rd {kvs:List (Key×V)} (ok:HOk P w H h) (e:Rd H a (.dK kvs)):kvs.length<=sizeLine/\(a == Z2)=false/\∃vs,KV kvs vs/\h.DictOf (z11 P w) a vs:=
 show ObjOk P w H h a (.dK kvs) from rd_of ok e
theorem dk_of {kvs:List (Key×V)} (ok:HOk P w H h) (e:H a=some (.dK kvs)):kvs.length<=sizeLine/\(a == Z2)=false/\∃vs,KV kvs vs/\h.DictOf (z11 P w) a vs:=dk_rd ok (.inl e)
theorem key_of {ks:List Key} (ok:HOk P w H h) (e:H a=some (.tup (ks.map kV))):(G5 (z11 P w)).is h ks a:=by
 obtain ⟨_,d,r,⟨o,f,b,n,c⟩,_⟩:=(show ObjOk P w H h a (.tup (ks.map kV)) from ok a _ e)
 exact ⟨o,d.toArray,n,f,b,c,by simpa using zbt r⟩
theorem dt_rd {kvs:List (List Key×V)} (ok:HOk P w H h) (e:Rd H a (.dT kvs)):kvs.length<=sizeLine/\(a == Z2)=false/\
  ∃xs,KT H kvs xs/\h.DictOfH (G5 (z11 P w)) a xs:=by
 obtain ⟨z,y,xs,r,o,c,j,k,f,g,d,i⟩:=(show ObjOk P w H h a (.dT kvs) from rd_of ok e)
 refine ⟨z,y,xs,r,o,c,j,k,f,g,d,λ x b=>?_,i⟩;have all :∀{l:List (List Key×V)} {m:List (List Key×Addr×Value)},KT H l m->∀x∈m,(G5 (z11 P w)).is h x.1 x.2.1:=by
  intro l m q;induction q with
  | nil=>intro x b;exact nomatch b
  | @cons p q ps qs hq t ih=>
   intro x b;rcases List.mem_cons.mp b with e|b
   ·subst e;exact key_of ok (by rw [<-hq.1];exact hq.2.1)
   ·exact ih x b
 exact all r x b
theorem dt_of {kvs:List (List Key×V)} (ok:HOk P w H h) (e:H a=some (.dT kvs)):kvs.length<=sizeLine/\(a == Z2)=false/\
  ∃xs,KT H kvs xs/\h.DictOfH (G5 (z11 P w)) a xs:=dt_rd ok (.inl e)
end
def DGet (H:Hp) (a:Addr) (y:V) (r:Option V):Prop:=
 (∃kvs k,Rd H a (.dK kvs)/\y=kV k/\r=valV kvs k)\/∃kvs k b,Rd H a (.dT kvs)/\y=.ref b/\H b=some (.tup (k.map kV))/\r=valV kvs k
def DPut (H:Hp) (a:Addr) (y v:V) (H':Hp):Prop:=
 (∃kvs k,H a=some (.dK kvs)/\y=kV k/\kvs.length < sizeLine/\H'=upd H a (.dK (putK kvs k v)))\/
 ∃kvs k b,H a=some (.dT kvs)/\y=.ref b/\H b=some (.tup (k.map kV))/\kvs.length < sizeLine/\H'=upd H a (.dT (putK kvs k v))
theorem DGet.k {H:Hp} {a:Addr} {kvs:List (Key×V)} {k:Key} (e:H a=some (.dK kvs)):DGet H a (kV k) (valV kvs k):=.inl ⟨kvs,k,.inl e,rfl,rfl⟩
theorem DPut.k {H:Hp} {a:Addr} {kvs:List (Key×V)} {k:Key} {v:V} (e:H a=some (.dK kvs)) (hl:kvs.length < sizeLine):DPut H a (kV k) v (upd H a (.dK (putK kvs k v))):=.inl ⟨kvs,k,e,rfl,hl,rfl⟩
section
variable {X:Cx} {pins:List (Addr×Obj)} {σ:St} {H:Hp} {s:B0} {a:Addr} {y v:V} {u r:Value} {o:Option V} {A:X1} {E:Value->B0->Prop}
theorem Inv.big (I:Inv X pins σ H s):Z2 < s.heap.objs.size:=by have h:S2 < s.heap.objs.size:=(I.mod.glob.keeps I.bk).lt;exact Nat.lt_trans (by decide) h
theorem zg4 {Q:Value->B0->Prop} (hu:A.units + 1 < cLine) (I:Inv X pins σ H s) (g:DGet H a y (some v)) (ry:RelV y u) (h :∀w' s',Inv X pins σ H s'->RelV v w'->Q w' s') :
  R0 (C1 X.prog X.w) A (m7 (.ref a) u) Q E s:=by
 rcases g with ⟨m,k,e,j,l⟩|⟨m,k,b,e,j,eb,l⟩
 ·subst j;obtain ⟨z,t,n,c,i⟩:=dk_rd I.hok e;obtain ⟨w',d,f⟩:=RelO.some_of (v:=v) (o:=P8 n k) (by rw [l];exact c.val k);exact wpAny_getItem_of (kV_is ry) i.mapOf d (h w' _ (I.tok _) f)
 ·subst j;cases (show u=F1 b from ry);obtain ⟨z,t,q,c,i⟩:=dt_rd I.hok e;obtain ⟨w',d,f⟩:=RelO.some_of (v:=v) (o:=(R7 q k).map (·.2)) (by rw [l];exact c.val k);obtain ⟨p,r,x⟩:=Option.map_eq_some_iff.mp d;refine wpAny_getItem_heap (Q6 hu) (key_of I.hok eb) i r ?_;rw [x];exact h w' _ (I.tok _) f
theorem d_in {Q:Value->B0->Prop} (hu:A.units + 1 < cLine) (I:Inv X pins σ H s) (g:DGet H a y o) (ry:RelV y u) (h :∀s',Inv X pins σ H s'->Q (.bool o.isSome) s') :
  R0 (C1 X.prog X.w) A (C2 .In u (.ref a)) Q E s:=by
 rcases g with ⟨j,k,e,f,l⟩|⟨j,k,b,e,f,eb,l⟩
 ·subst f;obtain ⟨z,i,m,c,d⟩:=dk_rd I.hok e;refine wpAny_in_of (kV_is ry) i d.mapOf ?_;rw [<-(c.val k).isSome_eq,<-l];exact h _ (I.tok _)
 ·subst f;cases (show u=F1 b from ry);obtain ⟨z,i,n,c,d⟩:=dt_rd I.hok e;refine wpAny_in_heap (Q6 hu) (key_of I.hok eb) i d ?_;have q:=(c.val k).isSome_eq;rw [z6] at q;rw [<-q,<-l];exact h _ (I.tok _)
theorem z79 {h':Heap} {t':Nat} {ob:HO} (I:Inv X pins σ H s) (mu:Mut (H a)) (hs:z5 a s.heap h') (he :∃q,h'.get? a=some q) (new:ObjOk X.prog X.w (upd H a ob) h' a ob) :
  Inv X pins σ (upd H a ob) { s with heap:=h',toks:=t' }:=
 I.write (x:=a) (e:=a) mu (.inl rfl) (λ b q c z=>(hs.2 b c).trans z) he new
theorem dk_new {P:Program} {w:P0} {H':Hp} {h':Heap} {kvs:List (Key×V)} {vs:List (Key×Value)} (z:kvs.length<=sizeLine) (hd:(a == Z2)=false) (rel:KV kvs vs) (dd:h'.DictOf (z11 P w) a vs) :
  ObjOk P w H' h' a (.dK kvs):=⟨z,hd,vs,rel,dd⟩
theorem zhd {H':Hp} {Q:Unit->B0->Prop} (hu:A.units + 1 < cLine) (I:Inv X pins σ H s) (g:DPut H a y v H') (ry:RelV y u) (rv:RelV v r) (h :∀s',Inv X pins σ H' s'->Q () s') :
  R0 (C1 X.prog X.w) A (setItem (.ref a) u r) Q E s:=by
 rcases g with ⟨d,k,e,B,l,o⟩|⟨d,k,b,e,B,eb,l,o⟩
 ·subst B o;obtain ⟨z,p,J,f,x⟩:=dk_of I.hok e;have t:J.length<=sizeLine:=by rw [<-f.length];exact z
  have m:(putK d k v).length<=sizeLine:=by have:=z4t d k v;omega
  refine wpAny_setItem_pairs (hsz:=t) (kV_is ry) x λ D j n=>h _ ?_;have L :∃q,D.get? a=some q:=let ⟨q,_,_,i,_⟩:=j;⟨q,i⟩;exact z79 I (by rw [e];exact True.intro) n L (dk_new m p (f.put k rv) j)
 ·subst B o;cases (show u=F1 b from ry);obtain ⟨z,p,O,f,x⟩:=dt_of I.hok e;have t:O.length<=sizeLine:=by rw [<-S9 f];exact z
  have m:(putK d k v).length<=sizeLine:=by have:=z4t d k v;omega
  refine wpAny_setItem_heap (hsz:=t) (Q6 hu) (key_of I.hok eb) x λ D j n=>h _ ?_;obtain ⟨q,F,N,i,K,P,G,_,M⟩:=j;refine z79 I (by rw [e];exact True.intro) n ⟨q,i⟩ ⟨m,p,_,(f.put k eb rv).keeps λ c R C=>?_,q,F,N,i,K,P,G,M⟩;rw [upd_ne (ne_of C e (λ z=>nomatch z))];exact C
end
section
variable {X:Cx} {pins:List (Addr×Obj)} {σ:St} {H:Hp} {s:B0} {a:Addr} {kvs:List (Key×V)} {k:Key} {u:Value} {A:X1} {E:Value->B0->Prop}
theorem d_pop {v:V} {more:List Value} {Q:Value->B0->Prop} (I:Inv X pins σ H s) (e:H a=some (.dK kvs)) (ry:RelV (kV k) u) (l:valV kvs k=some v) (hm:more=[]\/∃x,more=[x])
  (h :∀w' s',Inv X pins σ (upd H a (.dK (dropK kvs k))) s'->RelV v w'->Q w' s'):R0 (C1 X.prog X.w) A (call (.builtin "dict.pop") (.ref a :: u :: more)) Q E s:=by
 obtain ⟨z,y,c,b,d⟩:=dk_of I.hok e;obtain ⟨w',m,n⟩:=RelO.some_of (v:=v) (o:=P8 c k) (by rw [<-l];exact b.val k);have r:(keyPart u).isSome=true:=by
  cases k with
  | inl i=>obtain ⟨t,q⟩:=(show∃t,u=R6 i t from ry);subst q;rfl
  | inr x=>obtain ⟨t,q⟩:=(show∃t,u=K5 x t from ry);subst q;rfl
 have j:argsOk "dict.pop" ⟨.ref a :: u :: more,[]⟩:=by
  rcases hm with q|⟨x,q⟩
  ·subst q;exact PySem.F.args_dict_pop_2 _ _
  ·subst q;exact PySem.F.args_dict_pop_3 _ _ _
 refine call_meetsIn j0b d.typeIs PySem.F.entry_dict_pop j (meets_dict_pop_there (z11 X.prog X.w) a (kV_is ry) more hm r)
  ⟨c,w',d,by rw [<-b.length];exact z,m,λ p f g=>h w' _ ?_ n⟩
 have B :∃q,p.get? a=some q:=let ⟨q,_,_,hq,_⟩:=f;⟨q,hq⟩;exact z79 I (by rw [e];exact True.intro) g B (dk_new (C0 (zfk kvs k) z) y (b.drop k) f)
end
def NoSl (i:Expr):Prop:=∀ov iv,j07 i false ov iv=operate [ov,iv] (m7 ov iv)
theorem zkq {prog:Program} {w:P0} {A:X1} {E:Value->B0->Prop} {s:B0} {env:Env} {value slice:Expr} {pos:Pos} {T id:String} {Q:Value->B0->Prop}
  (hl:typeLookup (.type T) "__getitem__" = X2 (some (.builtin id))) (hs:NoSl slice)
  (h:R0 (C1 prog w) A (d3 value env) (λ o s₁=>R0 (C1 prog w) A (d3 slice env) (λ i s₂=>s₂.TypeIs o T/\R0 (C1 prog w) A (m7 o i) Q E s₂) E s₁) E s) :
  R0 (C1 prog w) A (d3 (.Subscript value slice pos) env) Q E s:=by
 refine j1j (m3 h (λ o s₁ f=>m3 f (λ i s₂ b=>?_) λ _ _ x=>x) λ _ _ x=>x);obtain ⟨c,b⟩:=b;unfold Y8;refine t0 ?_;rw [getitemInPython_of_ne c.not_modules];refine t0 (wpAny_specialOf c hl ?_);have a:R0 (C1 prog w) A (j07 slice false o i) (λ r d=>R0 (C1 prog w) A (letTemporaryGo value o r >>= λ _=>X2 r) Q E d) E s₂:=by rw [hs o i];exact wpAny_operating (m3 b (λ r d e=>t0 (wpAny_letTemporaryGo (L0 e))) λ _ _ x=>x)
 first
  | exact L0 (t0 a)
  | exact t0 (L0 (t0 a))
  | exact t0 a
theorem zcs {X:Cx} {pins:List (Addr×Obj)} {σ:St} {H:Hp} {s:B0} {a:Addr} {y:V} {o:Option V} (I:Inv X pins σ H s) (g:DGet H a y o):s.TypeIs (.ref a) "dict":=by
 rcases g with ⟨d,k,e,_,_⟩|⟨d,k,b,e,_,_,_⟩
 ·obtain ⟨_,_,f,_,c⟩:=dk_rd I.hok e;exact c.typeIs
 ·obtain ⟨_,_,h,_,c⟩:=dt_rd I.hok e;exact c.typeIs
noncomputable def tDGet (td ty:TE):TE:=λ σ H Q=>td σ H λ x H1=>ty σ H1 λ y H2=>∃a v,x=.ref a/\DGet H2 a y (some v)/\Q v H2
noncomputable def tDIn (ty td:TE):TE:=λ σ H Q=>ty σ H λ y H1=>td σ H1 λ x H2=>∃a o,x=.ref a/\DGet H2 a y o/\Q (.bl o.isSome) H2
noncomputable def sDPut (td ty tv:TE):TS:=λ D σ H=>tv σ H λ v H1=>td σ H1 λ x H2=>ty σ H2 λ y H3=>∃a H4,x=.ref a/\DPut H3 a y v H4/\D.nx σ H4
section
variable {X:Cx} {o i e value:Expr} {pos pos' tpos:Pos} {td ty tv:TE}
theorem z5k (hu:X.A.units + 1 < cLine) (ho:PE X o td) (hi:PE X i ty) (hs:NoSl i):PE X (.Subscript o i pos) (tDGet td ty):=by intro b s σ H Q I h;refine zkq PySem.F.slot_dict_getitem.lookup hs (thn (ho b s σ H _ I h) λ u e ⟨x,H1,I1,rx,q1⟩=>thn (hi b e σ H1 _ I1 q1) λ l j ⟨y,H2,I2,ry,a,v,ex,g,q2⟩=>?_);subst ex;obtain rfl:u=F1 a:=rx;exact ⟨zcs I2 g,zg4 hu I2 g ry λ f k c d=>⟨v,H2,c,d,q2⟩⟩
theorem pc_din (hu:X.A.units + 1 < cLine) (hi:PE X i ty) (ho:PE X o td):PC X .In i o (tDIn ty td):=by intro b s σ H Q I h;refine thn (hi b s σ H _ I h) λ j d ⟨y,H1,I1,ry,q1⟩=>thn (ho b d σ H1 _ I1 q1) λ u e ⟨x,H2,I2,rx,a,ov,ex,g,q2⟩=>?_;subst ex;obtain rfl:u=F1 a:=rx;exact d_in hu I2 g ry λ f c=>⟨.bl ov.isSome,H2,c,rfl,q2⟩
theorem zbz (hu:X.A.units + 1 < cLine) (ho:PE X o td) (hi:PE X i ty) (hv:PE X value tv) (hs:V5 value (some (.Subscript o i pos')) pos.line X.env=X2 false) :
  PS X (.Assign [.Subscript o i pos'] value pos) (sDPut td ty tv):=by
 intro b s σ H D I h;refine wpAny_Assign_Subscript (thn (hv b s σ H _ I h) λ r d ⟨v,H1,I1,rv,q1⟩=>thn (ho b d σ H1 _ I1 q1) λ u e ⟨x,H2,I2,rx,q2⟩=>thn (hi b e σ H2 _ I2 q2) λ k j ⟨y,H3,I3,ry,a,H4,ex,g,q3⟩=>?_) hs;subst ex;obtain rfl:u=F1 a:=rx;exact zhd hu I3 g ry rv λ f c=>⟨σ,H4,c,q3⟩
end
theorem zes {P:Program} {w:P0} {H:Hp} (h:Heap) (hb:Z2 < h.objs.size):ObjOk P w H (h.push { cls:=.type "dict",data:=.dict #[] }) h.objs.size (.dK []):=
 ⟨Z1 _,beq_eq_false_iff_ne.mpr (V3 (G1 hb)),[],.nil,Heap.DictOf.new h⟩
noncomputable def tDNewK:TE:=λ _ H Q=>∀p,H p=none->Q (.ref p) (upd H p (.dK []))
section
variable {X:Cx} {pos:Pos}
theorem z7y:PE X (.Dict [] [] pos) tDNewK:=λ b s σ H Q I h=>wpAny_Dict_empty ⟨.ref s.heap.objs.size,_,I.laid (a:=s.heap.objs.size) (o:=.dK []) (t':=s.toks) (λ _ _ q=>D0 _ q) (A0 _) (zes s.heap I.big),rfl,h _ (I.hok.fresh (A0 _))⟩
end
noncomputable def tPairs:List (TE×TE)->St->Hp->(List (V×V)->Hp->Prop)->Prop
 | [],_,H,Q=>Q [] H
 | (tk,tv) :: r,σ,H,Q=>tk σ H λ x H1=>tv σ H1 λ y H2=>tPairs r σ H2 λ ps H3=>Q ((x,y) :: ps) H3
abbrev VV:List (V×V)->List (Value×Value)->Prop:=a8 λ p q=>RelV p.1 q.1/\RelV p.2 q.2
def PPs (X:Cx) (pos:Pos) (keys:List (Option Expr)) (values:List Expr) (trs:List (TE×TE)):Prop:=
 ∀(pins:List (Addr×Obj)) (s:B0) (σ:St) (H:Hp) (Q:List (V×V)->Hp->Prop),Inv X pins σ H s->tPairs trs σ H Q->
  R0 (C1 X.prog X.w) X.A (evalPairs (pairTrees keys values X.env pos)) (λ vs s'=>∃ps H',Inv X pins σ H' s'/\VV ps vs/\Q ps H') X.xe s
theorem zhn {X:Cx} {pos:Pos}:PPs X pos [] [] []:=λ a s σ H Q I h=>pairTrees_nil_walk ⟨[],H,I,.nil,h⟩
theorem zb3 {X:Cx} {pos:Pos} {k v:Expr} {ks:List (Option Expr)} {vs:List Expr} {tk tv:TE} {trs:List (TE×TE)} (hk:PE X k tk) (hv:PE X v tv) (hr:PPs X pos ks vs trs) :
  PPs X pos (some k :: ks) (v :: vs) ((tk,tv) :: trs):=λ a s σ H Q I h=>
 pairTrees_cons_walk (thn (hk a s σ H _ I h) λ u b ⟨x,H1,I1,rx,q1⟩=>thn (hv a b σ H1 _ I1 q1) λ e c ⟨y,H2,I2,ry,q2⟩=>thn (hr a c σ H2 _ I2 q2) λ d f ⟨ps,H3,I3,rel,q3⟩=>⟨(x,y) :: ps,H3,I3,.cons ⟨rx,ry⟩ rel,q3⟩)
noncomputable def mergeK (kvs more:List (Key×V)):List (Key×V):=more.foldl (λ acc kv=>putK acc kv.1 kv.2) kvs
theorem KV.merge :∀{more:List (Key×V)} {rs:List (Key×Value)} {kvs:List (Key×V)} {vs:List (Key×Value)},KV more rs->KV kvs vs->KV (mergeK kvs more) (merged vs rs):=by
 intro more rs kvs vs r;unfold KV at r;induction r generalizing kvs vs with
 | nil=>intro q;exact q
 | @cons p q ps qs h t ih=>
  intro a;have e:KV (putK kvs p.1 p.2) (stored vs q.1 q.2):=by have:=a.put p.1 h.2;rw [<-h.1];exact this
  exact ih e
theorem z59 :∀(more kvs:List (Key×V)),(mergeK kvs more).length<=kvs.length + more.length
 | [],kvs=>by show kvs.length<=kvs.length + 0;omega
 | p :: r,kvs=>by have b:=z59 r (putK kvs p.1 p.2);have a:=z4t kvs p.1 p.2;show (mergeK (putK kvs p.1 p.2) r).length<=_;rw [W0];omega
theorem za3 {P:Program} {w:P0} :∀{kvs:List (Key×V)} {ws:List (Value×Value)},VV (kvs.map λ kv=>(kV kv.1,kv.2)) ws->∃rs,Carries (z11 P w) ws rs/\KV kvs rs
 | [],_,r=>by rw [u4] at r;cases r;exact ⟨[],True.intro,.nil⟩
 | p :: kvs,_,r=>by
  rw [Y0] at r;cases r with
  | @cons a b as bs h t=>obtain ⟨rs,c,q⟩:=za3 (P:=P) (w:=w) t;obtain ⟨e,d⟩:=b;exact ⟨(p.1,d) :: rs,⟨kV_is h.1,rfl,c⟩,.cons ⟨rfl,h.2⟩ q⟩
noncomputable def tDisp (trs:List (TE×TE)):TE:=λ σ H Q=>∀p,H p=none->tPairs trs σ (upd H p (.dK [])) λ ps H2=>H2 p=some (.dK [])/\∃kvs:List (Key×V),ps=kvs.map (λ kv=>(kV kv.1,kv.2))/\kvs.length<=15/\Q (.ref p) (upd H2 p (.dK (mergeK [] kvs)))
theorem zhs {X:Cx} {pos:Pos} {keys:List (Option Expr)} {values:List Expr} {trs:List (TE×TE)} (h:PPs X pos keys values trs) (hall:keys.all (·.isSome)=true) (hl:keys.length=values.length) (h0:keys≠[])
  (h15:keys.length<=15):PE X (.Dict keys values pos) (tDisp trs):=by
 intro l s σ H Q I q;have j:=I.hok.fresh (A0 s.heap.objs.size);have d:=I.laid (a:=s.heap.objs.size) (o:=.dK []) (h':=s.heap.push { cls:=.type "dict",data:=.dict #[] }) (t':=s.toks) (λ _ _ q=>D0 _ q) (A0 _) (zes s.heap I.big);refine wpAny_Dict_walk (knd:=z11 X.prog X.w) hall hl h0 h15 (thn (h l _ σ _ _ d (q _ j)) λ u x ⟨ps,H2,I2,rel,e,kvs,ep,lk,q2⟩=>?_);subst ep;obtain ⟨f,c,g⟩:=za3 (P:=X.prog) (w:=X.w) rel;obtain ⟨z,m,v,k,r⟩:=dk_of I2.hok e;cases k;refine ⟨f,c,r,λ h' b i=>⟨.ref s.heap.objs.size,_,?_,rfl,q2⟩⟩;have p:(mergeK [] kvs).length<=sizeLine:=by have t:=z59 kvs [];rw [N7] at t;rw [sizeLine_eq];omega
 have n :∃q,h'.get? s.heap.objs.size=some q:=let ⟨q,_,_,hq,_⟩:=b;⟨q,hq⟩;exact z79 I2 (by rw [e];exact True.intro) i n (dk_new p m (g.merge .nil) b)
structure M1 (X:Cx) (o:Expr) (m:Str) (apos:Pos) (e:Expr) (cpos:Pos):Prop where
 base:j4 o m X.env (d3 o X.env)=d3 o X.env
 few:((E4 cpos (P1 [e] X.env)).all (λ x=>!x.1) && (L9 cpos (i7 [] X.env)).all (λ x=>x.1.isSome)
  && decide (([e]:List Expr).length + ([]:List L6).length + (if ([]:List L6).isEmpty then 0 else 1) < 30))=true
 line:(apos.endLine == cpos.line)=true
 trees:E4 cpos (P1 [e] X.env)=[(false,d3 e X.env)]
structure M2 (X:Cx) (o:Expr) (m:Str) (apos:Pos) (e f:Expr) (cpos:Pos):Prop where
 base:j4 o m X.env (d3 o X.env)=d3 o X.env
 few:((E4 cpos (P1 [e,f] X.env)).all (λ x=>!x.1) && (L9 cpos (i7 [] X.env)).all (λ x=>x.1.isSome)
  && decide (([e,f]:List Expr).length + ([]:List L6).length + (if ([]:List L6).isEmpty then 0 else 1) < 30))=true
 line:(apos.endLine == cpos.line)=true
 trees:E4 cpos (P1 [e,f] X.env)=[(false,d3 e X.env),(false,d3 f X.env)]
def IsD (H:Hp) (a:Addr):Prop:=(∃kvs,Rd H a (.dK kvs))\/∃kvs,Rd H a (.dT kvs)
theorem isD_at {X:Cx} {pins:List (Addr×Obj)} {σ:St} {H:Hp} {s:B0} {a:Addr} (I:Inv X pins σ H s) (d:IsD H a) :
  s.TypeIs (.ref a) "dict"/\(∀b,F1 a=.ref b->∃ob,s.heap.get? b=some ob/\ob.dict=none)/\(a == Z2)=false:=by
 rcases d with ⟨i,e⟩|⟨i,e⟩
 ·obtain ⟨_,g,j,_,c⟩:=dk_rd I.hok e;refine ⟨c.typeIs,λ b q=>?_,g⟩;cases q;obtain ⟨ob,_,_,h,f,_⟩:=c;exact ⟨ob,h,f.2.1⟩
 ·obtain ⟨_,g,k,_,c⟩:=dt_rd I.hok e;refine ⟨c.typeIs,λ b q=>?_,g⟩;cases q;obtain ⟨ob,_,_,h,f,_⟩:=c;exact ⟨ob,h,f.2.1⟩
section
variable {X:Cx} {pins:List (Addr×Obj)} {σ:St} {H:Hp} {s:B0} {a:Addr} {y d:V} {u r:Value} {o:Option V} {A:X1} {E:Value->B0->Prop}
theorem d_get2 {Q:Value->B0->Prop} (hu:A.units + 1 < cLine) (I:Inv X pins σ H s) (g:DGet H a y o) (ry:RelV y u) (rd:RelV d r) (h :∀w' s',Inv X pins σ H s'->RelV (o.getD d) w'->Q w' s') :
  R0 (C1 X.prog X.w) A (call (.builtin "dict.get") [.ref a,u,r]) Q E s:=by
 rcases g with ⟨m,k,e,i,l⟩|⟨m,k,b,e,i,eb,l⟩
 ·subst i;obtain ⟨z,j,p,f,c⟩:=dk_rd I.hok e;refine call_meetsIn b7 c.typeIs j04 (R9 _ _ _) (meets_dict_get_default (z11 X.prog X.w) a (kV_is ry) j r) ⟨_,c.mapOf,h _ _ (I.tok _) ?_⟩;rw [l];exact (f.val k).getD rd
 ·subst i;cases (show u=F1 b from ry);obtain ⟨z,j,n,f,c⟩:=dt_rd I.hok e;refine call_meetsIn b7 c.typeIs j04 (R9 _ _ _) (meetsH_dict_get_default (G5 (z11 X.prog X.w)) a b j r) ⟨Q6 hu,k,n,key_of I.hok eb,c,h _ _ (I.tok _) ?_⟩;rw [l];exact (f.val k).getD rd
end
noncomputable def tDGet2 (td ty tx:TE):TE:=λ σ H Q=>td σ H λ x H1=>∃a,x=.ref a/\IsD H1 a/\ty σ H1 λ y H2=>tx σ H2 λ z H3=>∃o,DGet H3 a y o/\Q (o.getD z) H3
noncomputable def tDPop1 (td ty:TE):TE:=λ σ H Q=>td σ H λ x H1=>∃a,x=.ref a/\IsD H1 a/\ty σ H1 λ y H2=>∃kvs k v,H2 a=some (.dK kvs)/\y=kV k/\valV kvs k=some v/\Q v (upd H2 a (.dK (dropK kvs k)))
section
variable {X:Cx} {o e f:Expr} {apos cpos:Pos} {td ty tx:TE}
theorem zie (hu:X.A.units + 1 < cLine) (ho:PE X o td) (he:PE X e ty) (hf:PE X f tx) (m:M2 X o "get" apos e f cpos):PE X (.Call (.Attribute o "get" apos) [e,f] [] cpos) (tDGet2 td ty tx):=by
 intro b s σ H Q I h;refine wpAny_Call_method m.base m.few m.line Q9 b7 PySem.F.type_dict_get (thn (ho b s σ H _ I h) λ u i ⟨x,H1,I1,rx,a,ex,d,q1⟩=>?_);subst ex;obtain rfl:u=F1 a:=rx;obtain ⟨k,l,_⟩:=isD_at I1 d;refine ⟨k,l,?_⟩;rw [m.trees];refine n5 rfl (U7 (c5 (thn (he b i σ H1 _ I1 q1) λ t j ⟨y,H2,I2,ry,q2⟩=>c5 (thn (hf b j σ H2 _ I2 q2) λ q r ⟨z,H3,I3,rz,ov,g,q3⟩=>A6 ?_))));exact d_get2 hu I3 g ry rz λ v p c n=>⟨_,H3,c,n,q3⟩
theorem zig (ho:PE X o td) (he:PE X e ty) (m:M1 X o "pop" apos e cpos):PE X (.Call (.Attribute o "pop" apos) [e] [] cpos) (tDPop1 td ty):=by intro b s σ H Q I h;refine wpAny_Call_method m.base m.few m.line Q9 j0b PySem.F.type_dict_pop (thn (ho b s σ H _ I h) λ u j ⟨x,H1,I1,rx,a,ex,d,q1⟩=>?_);subst ex;obtain rfl:u=F1 a:=rx;obtain ⟨c,g,_⟩:=isD_at I1 d;refine ⟨c,g,?_⟩;rw [m.trees];refine n5 rfl (U7 (c5 (thn (he b j σ H1 _ I1 q1) λ r p ⟨y,H2,I2,ry,kvs,k,v,ea,ey,l,q2⟩=>A6 ?_)));subst ey;exact d_pop I2 ea ry l (.inl rfl) λ n q f i=>⟨v,_,f,i,q2⟩
end
end L2
namespace Att
open PySem PySem.W PySem.Calls PyProof.Rows
theorem z6y {P:N0} {h:Heap} :∀(ns:List Int) (vs:List Value),WellAll P h vs (ns.map WData.int)->d8 vs ns:=by
 intro ns;induction ns with
 | nil=>intro vs w;rw [u4] at w;cases w;exact .nil
 | cons n ns ih=>
  intro vs w;rw [Y0] at w;cases w with
  | cons a b=>cases a;exact .cons _ _ (ih _ b)
theorem zgz {l:OpenLaw} {n:Nat} (hn:l.most=some n) {P:N0} {h:Heap} {args:List WData} {vals:List Value}
  (hpre:l.row.toRowW.claim.pre args=true) (hwl:WellAll P h vals args) :
  ∃a vs ns,vals=[F1 a]/\args=[WData.list (ns.map WData.int)]/\h.get? a=some { cls:=.type "list",data:=.seq vs.toArray }/\d8 vs ns/\ns.length<=n:=by
 have g:WShape.hasAll [] args [.list .int]=true:=(pre_splitW hpre).1;have e:l.pre.holds [] { args:=args }=true:=(pre_splitW hpre).2;obtain ⟨d,r,rfl,m,j⟩:=hasAllW_cons g;obtain rfl:=hasAllW_nil j;obtain ⟨o,rfl,k⟩:=hasW_list m;obtain ⟨ns,rfl⟩:=items_int k;have f:ns.length<=n:=by
  unfold OpenLaw.pre at e;have b:(WTm.not (.lt (.lit (.int (n:Int))) (.len (.arg 0)))).holds [] { args:=[.list (ns.map .int)] }=true:=by have b:=(holds_andW e).1;rw [hn] at b;exact b
  have c:=condW_of b (w_not (w_lt w_lit (w_len_list (w_arg rfl))));rw [F0] at c;refine m9 λ q=>?_;have i:(n:Int) < ((ns.length:Nat):Int):=by omega
  first
   | (rw [decide_eq_true i] at c;exact absurd c (by decide))
   | (simp at c;omega)
 cases hwl with
 | cons w1 w2=>
  cases w2;cases w1 with
  | list ho hall=>exact ⟨_,_,ns,rfl,rfl,ho,z6y ns _ hall,f⟩
theorem zgb (l:OpenLaw) (args:List WData):l.row.toRowW.claim.post args (.bool true) args=true:=
 postW_of (r:=l.row.toRowW) (X:=(true == true))
  (show WShape.has [] (.bool true) .bool=true by first|rfl|decide|simp [WShape.has,WShape.arms,WShape.armsAll])
  (show (WTm.eq .res (.lit (.bool true))).value [] { args:=args,res:=some (.bool true),after:=args }=some (.bool (true == true)) from w_eq_bool (w_res rfl) w_lit) rfl
theorem attach_call {l:OpenLaw} {n:Nat} {q:Program} {loose:List Str} {XP:(Str->Option Value)->Heap->Prop} {YP:P0->Heap->Prop} {d:DefRec}
  (hn:l.most=some n) (hdf:d.params.defaults=[])
  (call :∀(w:P0) (s₀ s₁:B0) (mg mb:Str->Option Value) (fa:Addr) (o:Obj) (pm cd doc:Value) (a:Addr) (vs:List Value) (ns:List Int),
   Ground q loose [] XP w s₀ mg mb s₁.heap->YP w s₁.heap->
   s₁.heap.get? fa=some o->o.data=.func (docDef d.name d.params d.body d.scope pm cd doc)->s₁.heap.CodeRec cd d.name->mg d.name=some (.ref fa)->
   s₁.heap.get? a=some { cls:=.type "list",data:=.seq vs.toArray }->d8 vs ns->ns.length<=n->s₁.gens = #[]->
   Q8 (C1 l.prog w) K9 (.call (.ref fa) ⟨[.ref a],[]⟩) (λ r s'=>r=.ok (.ret (.bool true))/\OldK s₁.heap s'.heap/\s'.os=s₁.os/\z7 s'.gens) s₁) :
  WalkO q loose XP YP l.row.toRowW d [] (λ f vs=>PySem.call f vs):=by
 intro w s₀ s₁ mg mb G Y fa o pm cd doc h kV v u m b x s E C B c A D y F;obtain rfl:h=.none:=Dflts.none b hdf;obtain rfl:kV=.none:=Dflts.noKw b;obtain ⟨a,vs,ns,rfl,rfl,g,k,t⟩:=zgz hn c y;refine enter_call (G9 (call w s₀ s₁ mg mb fa o pm cd doc a vs ns G Y v (fd_plain u) m x g k t s) λ r s' i=>?_);obtain ⟨rfl,p,z,e⟩:=i;exact ⟨.inl ⟨.bool true,.bool true,[],rfl,λ _=>rfl,.bool true,zgb l _,λ _=>⟨V9,λ _ j=>(nomatch j)⟩⟩,p,z,e⟩
end Att
namespace L2
open PySem PySem.Spec PyProof.Rows
theorem z7l :∀{vs:List Value} {ns:List Int},d8 vs ns->Vals (ns.map V.int) vs
 | _,_,.nil=>.nil
 | _,_,.cons n t h=>.cons ⟨t,rfl⟩ (z7l h)
def Only (H:Hp):Prop:=∀b,H b=none\/∃o xs,H b=some (.frz o (.lst xs))
theorem zjf {P:Program} {w:P0} {K:b0} {mg mb:Str->Option Value} {CX:CXT} {k:Nat} {fa a:Addr} {fd:FuncData} {x:Str} {sp:Sp} {s₁:B0} {vs:List Value} {ns:List Int}
  (KX:K.In s₁.heap) (hns:s₁.heap.Ns S2 mg) (hb:s₁.heap.Ns builtinsNs mb) (hbb :∀x:Str,x≠"__name__"->mb x=B6 x) (hlim:s₁.heap.NoLimit) (hg:s₁.gens = #[])
  (ha:s₁.heap.get? a=some { cls:=.type "list",data:=.seq vs.toArray }) (hi:d8 vs ns) (hl:ns.length<=sizeLine) (hr:Room k K9)
  (F :∀base:Heap,K.In base->base.Ns S2 mg->FnOk P w K mg base CX k fa fd [x] sp) (hbind :∀(s:B0) (u:Value),BindsTo s fd ⟨[u],[]⟩ [(x,u)])
  (hsp :∀H:Hp,Only H->SqL K H a (ns.map V.int)->sp [.ref a] H (λ v _=>v=.bl true) λ _ _ _=>False)
  (hCX :∀H e s',CX [] H s₁ (λ _ _ _=>False) e s'->False) :
  Q8 (C1 P w) K9 (.call (.ref fa) ⟨[.ref a],[]⟩) (λ r s'=>r=.ok (.ret (.bool true))/\OldK s₁.heap s'.heap/\s'.os=s₁.os/\z7 s'.gens) s₁:=by
 have y:=z7l hi;have Q:=hi.length
 -- from an abstract heap in which nothing but the script may be tracked
 have p :∀H:Hp,Only H->SqL K H a (ns.map V.int)->HOk P w H s₁.heap->(∀b,H b≠none->b=a)->(H a≠none->K.lookup a=none)->
   Q8 (C1 P w) K9 (.call (.ref fa) ⟨[.ref a],[]⟩) (λ r s'=>r=.ok (.ret (.bool true))/\OldK s₁.heap s'.heap/\s'.os=s₁.os/\z7 s'.gens) s₁:=by
  intro H j D A B O;have t :∀{b:Addr} {o:Obj},s₁.heap.get? b=some o->H b=none->(hidT s₁.heap H).get? b=some o:=λ e n=>zjg e n;have J :∀{b:Addr} {o:Obj} {es:Array DictEntry} {ep:Nat},s₁.heap.get? b=some o->o.data=.dict es ep->H b=none:=λ {b o es ep} e d=>by
   cases q:H b with
   | none=>rfl
   | some u=>have g:b=a:=B b (by rw [q];simp);subst g;rw [ha] at e;cases e;have L:Data.seq vs.toArray _=Data.dict es ep:=d;cases L
  have f :∀{b:Addr} {m:Str->Option Value},s₁.heap.Ns b m->(hidT s₁.heap H).Ns b m:=λ {b m} ⟨o,es,ep,e,d,r⟩=>⟨o,es,ep,t e (J e d),d,r⟩
  have l:K.In (hidT s₁.heap H):=λ b o e=>t (KX b o e) (by
   cases q:H b with
   | none=>rfl
   | some u=>have g:b=a:=B b (by rw [q];simp);subst g;rw [O (by rw [q];simp)] at e;cases e)
  have I:Mod K mg (hidT s₁.heap H):=⟨l,f hns,⟨mb,f hb,hbb⟩,let ⟨mc,h1,h2⟩:=hlim;⟨mc,f h1,h2⟩⟩
  have M:Env0 P w K mg (hidT s₁.heap H) K9 [] s₁ H:=⟨rfl,I,λ b o e=>zkd e,C5 (zgl _ _),trivial,λ b hb=>absurd (show b∈([]:List Addr) from hb) (by simp),A,.of_eq hg⟩
  refine G9 ((F _ l (f hns)).run K9 [] s₁ H ⟨[.ref a],[]⟩ [.ref a] [.ref a] _ _ hr M (hbind s₁ (.ref a)) (.cons rfl .nil) (hsp H j D)) λ r s' h=>?_;cases r with
  | error e=>exact (hCX H e s' h).elim
  | ok fl=>
   cases fl with
   | next=>exact C3 h
   | brk=>exact C3 h
   | cont=>exact C3 h
   | ret u=>
    obtain ⟨v,T,os,N,un,E,C,q⟩:=h;have G:v=.bl true:=q;subst G;obtain rfl:u=T3 true:=C;refine ⟨rfl,OldK.of_keep λ b o e=>?_,os,N⟩;cases q:H b with
    | none=>exact un.keep b o e q (by intro z;exact absurd (show b∈([]:List Addr) from z) (by simp)) (by simp)
    | some u=>
     rcases j b with z|⟨ob,xs,z⟩
     ·rw [q] at z;cases z
     ·have R:=un.frzs b ob _ z;obtain ⟨i,_⟩:=A b _ z;obtain ⟨S,_⟩:=E b _ R;rw [e] at i;cases i;exact S
 cases hk:K.lookup a with
 | some o=>
  -- the script is one of the module's own objects
  have e:=KX a o hk;rw [ha] at e;cases e;refine p (λ _=>none) (λ _=>.inl rfl) (.inr ⟨_,vs.toArray,_,hk,rfl,rfl,rfl,by rw [O0,Q];exact hl,by simpa using y⟩) (λ b u z=>by have c:(none:Option HO)=some u:=z;cases c) (λ b z=>absurd rfl z) λ z=>absurd rfl z
 | none=>
  refine p (λ b=>if b=a then some (.frz { cls:=.type "list",data:=.seq vs.toArray } (.lst (ns.map V.int))) else none) (λ b=>?_) (.inl (.inr ⟨{ cls:=.type "list",data:=.seq vs.toArray },if_pos rfl⟩)) (λ b u z=>?_) (λ b z=>?_) λ _=>hk
  ·by_cases hb:b=a
   ·exact .inr ⟨_,_,if_pos hb⟩
   ·exact .inl (if_neg hb)
  ·by_cases hb:b=a
   ·have c:=(if_pos hb).symm.trans z;cases c;subst hb;exact ⟨ha,by rw [F0];exact hl,vs,_,y,ha⟩
   ·have c:=(if_neg hb).symm.trans z;cases c
  ·by_cases hb:b=a
   ·exact hb
   ·exact absurd (if_neg hb) z
theorem walk_of {l:PySem.W.OpenLaw} {n k:Nat} {q:Program} {loose:List Str} {XP:(Str->Option Value)->Heap->Prop} {YP:P0->Heap->Prop} {d:DefRec} {K:N0->b0} {CX:P0->CXT} {sp:P0->Sp} {x:Str}
  (hn:l.most=some n) (hn2:n<=sizeLine) (hdf:d.params.defaults=[]) (hr:Room k K9)
  (hY :∀(w:P0) (h:Heap),YP w h->(K w.params).In h)
  (F :∀(w:P0) (mg:Str->Option Value) (fa:Addr) (h:Heap),(K w.params).In h->h.Ns S2 mg->mg d.name=some (.ref fa)->
   ∃fd:FuncData,(∀(s:B0) (u:Value),BindsTo s fd ⟨[u],[]⟩ [(x,u)])/\
    ∀base:Heap,(K w.params).In base->base.Ns S2 mg->FnOk l.prog w (K w.params) mg base (CX w) k fa fd [x] (sp w))
  (hsp :∀(w:P0) (H:Hp) (a:Addr) (ns:List Int),ns.length<=n->Only H->SqL (K w.params) H a (ns.map V.int)->sp w [.ref a] H (λ v _=>v=.bl true) λ _ _ _=>False)
  (hCX :∀(w:P0) (H:Hp) (s:B0) (e:Value) (s':B0),CX w [] H s (λ _ _ _=>False) e s'->False) :
  PySem.W.WalkO q loose XP YP l.row.toRowW d [] (λ f vs=>PySem.call f vs):=by
 refine Att.attach_call hn hdf λ w I A mg E fa o C B L a vs ns G Y M J D y m r c t=>?_;have KX:=hY w _ Y;obtain ⟨fd,z,p⟩:=F w mg fa _ KX G.T.g y;exact zjf KX G.T.g G.T.b G.T.builtins G.T.nolimit t m r (C0 c hn2) hr p z (λ H j i=>hsp w H a ns c j i) λ H e s'=>hCX w H A e s'
noncomputable def z8u (s:Stmt):Arguments:=match s with
 | .FunctionDef _ a _ _ _ _ _ _ _ _=>a
 | _=>{ posonlyargs:=[],args:=[],vararg:=none,kwonlyargs:=[],kw_defaults:=[],kwarg:=none,defaults:=[] }
noncomputable def z6i (s:Stmt):List Stmt:=match s with
 | .FunctionDef _ _ b _ _ _ _ _ _ _=>b
 | _=>[]
noncomputable def z06 (s:Stmt):Scope:=match s with
 | .FunctionDef _ _ _ _ _ _ sc _ _ _=>sc
 | _=>{ kind:=.function,names:=[],isGenerator:=false,isCoroutine:=false }
noncomputable abbrev CX0:CXT:=λ _ _ _ _ _ _=>False
noncomputable abbrev E0:XK:=λ _ _ _=>False
theorem pass0 {X:Cx}:Passes CX0 X E0:=λ _ _ _ _ _ _ _ h=>h.elim
structure Fun (K:b0) (x qual:Str) (st:Stmt) (f:Addr) (fd:FuncData):Prop where
 ex :∃(oc:Value) (od:Option Addr) (kV doc pm:Value) (an:Option Addr) (cdv ct:Value) (osl:Array (Option Value)),
  fd=i5 x qual (z8u st) (z6i st) (z06 st) .none kV doc pm an cdv ct/\K.lookup f=some ⟨oc,od,.func fd,osl⟩/\F7 K cdv qual=true
 kp:V2 K (.ref f)=true
section
variable {P:Program} {w:P0} {K:b0} {mg:Str->Option Value} {base:Heap}
theorem Fun.ok {x qual:Str} {st:Stmt} {f:Addr} {fd:FuncData} {N ps:List Str} {k:Nat} {sp:Sp} (F:Fun K x qual st f fd) (S:FnScope N ps (z06 st)) (len :∀vs H Q E,sp vs H Q E->vs.length=ps.length)
  (hbody :∀(cdv:Value) (A:X1) (outer:List Env) (s:B0) (H:Hp) (vs:List V) (Q:VK) (E:XK),Room k (A.deeper (Y7 qual (z06 st) s.heap.objs.size f cdv))->sp vs H Q E->
   ∃t,PSs (cxOf CX0 P w K mg base N qual (z06 st) f cdv A outer s H E).nox (z6i st) t/\t { nx:=λ _ H'=>Q .non H',rt:=Q } (start N vs) H):FnOk P w K mg base CX0 (k + 1) f fd ps sp:=by
 obtain ⟨n,l,kV,m,i,g,cdv,e,j,rfl,d,a⟩:=F.ex;refine fn_of d a S len λ A outer s H vs Q E c b=>?_;obtain ⟨t,h,q⟩:=hbody cdv A outer s H vs Q E c b;exact ⟨t,h.nox,q⟩
theorem Fun.binds {x qual:Str} {st:Stmt} {f:Addr} {fd:FuncData} {ps:List Str} (F:Fun K x qual st f fd)
  (h :∀(kV doc pm:Value) (an:Option Addr) (cdv ct:Value) (us:List Value),us.length=ps.length->bindArgs (i5 x qual (z8u st) (z6i st) (z06 st) .none kV doc pm an cdv ct) ⟨us,[]⟩=X2 (ps.zip us)):Binds K fd ps []:=by
 obtain ⟨e,b,kV,doc,pm,an,cdv,ct,c,rfl,d,a⟩:=F.ex;exact .all (h kV doc pm an cdv ct)
theorem fun_mk {x qual:Str} {st:Stmt} {f:Addr} {oc:Value} {od an:Option Addr} {osl:Array (Option Value)} {kV doc pm cdv ct:Value} (l:K.lookup f=some ⟨oc,od,.func (i5 x qual (z8u st) (z6i st) (z06 st) .none kV doc pm an cdv ct),osl⟩)
  (c:F7 K cdv qual=true) (k:V2 K (.ref f)=true):Fun K x qual st f (i5 x qual (z8u st) (z6i st) (z06 st) .none kV doc pm an cdv ct):=⟨⟨oc,od,kV,doc,pm,an,cdv,ct,osl,rfl,l,c⟩,k⟩
end
theorem hu_of {A:X1} {k:Nat} (hr:Room k A):A.units + 1 < cLine:=R1 (Nat.add_le_add_left (by decide:1<=64) _) hr.units
section
variable {X:Cx}
theorem pv (i:Nat) {x:Str} {pos:Pos} (hN:X.N[i]? = some x:=by rfl) (hv:Vis X.env.scope x:=by first|exact V0 rfl|exact U0 (V0 rfl)|exact U0 (U0 rfl)) (hd:(x == ("__debug__" : Str))=false:=by decide)
  (hcd:(x == ("__classdict__" : Str))=false:=by decide):PE X (.Name x pos) (tVar i):=pe_var hN hv hd hcd
end
theorem iteF {A B:Prop} (h:B):if false=true then A else B:=by rw [if_neg M0];exact h
theorem iteT {A B:Prop} (h:A):if true=true then A else B:=by rw [if_pos rfl];exact h
theorem ite2 {c A B:Prop} [Decidable c] (h1:c->A) (h2:¬ c->B):if c then A else B:=by
 by_cases h:c
 ·rw [if_pos h];exact h1 h
 ·rw [if_neg h];exact h2 h
def Same (H H':Hp):Prop:=∀b o,H b=some o->H' b=some o
theorem Same.refl (H:Hp):Same H H:=λ _ _ h=>h
theorem Same.trans {H H1 H2:Hp} (a:Same H H1) (b:Same H1 H2):Same H H2:=λ c o h=>b c o (a c o h)
theorem Same.free {H H':Hp} (e:Same H H') {l:Addr} (h:H' l=Option.none):H l=Option.none:=by
 cases q:H l with
 | none=>rfl
 | some o=>rw [e l o q] at h;cases h
theorem Same.seq {K:b0} {H H':Hp} {a:Addr} {xs:List V} (e:Same H H') (h:SqL K H a xs):SqL K H' a xs:=by
 rcases h with (h|⟨o,h⟩)|h
 ·exact .inl (.inl (e _ _ h))
 ·exact .inl (.inr ⟨o,e _ _ h⟩)
 ·exact .inr h
section
variable {κ:Type} [DecidableEq κ]
theorem zcj {p:κ×V} {r:List (κ×V)} {k:κ} (e:p.1=k):dropK (p :: r) k=dropK r k:=by unfold dropK;rw [d4,if_neg (by simp [e])]
theorem zco {p:κ×V} {r:List (κ×V)} {k:κ} (e:¬ p.1=k):dropK (p :: r) k=p :: dropK r k:=by unfold dropK;rw [d4,if_pos (by simp [e])]
end
end L2
set_option maxHeartbeats 4000000
namespace L2
open PySem PySem.Spec PyProof.Rows
section
variable {prog:Program} {w:P0} {A:X1} {R:Result->B0->Prop} {s:B0}
theorem zh3 {elt target iter:Expr} {ifs:List Expr} {scope:Scope} {pos:Pos} {it acc:Value} {env:Env} (J:Nat->B0->Prop)
  (turn :∀n s,J n s->R0 (C1 prog w) A (j1f it) (λ r s₁=>match r with
   | none=>R (.ok .next) s₁
   | some v=>R0 (C1 prog w) A (j8 target it v) (λ _ s₂=>R0 (C1 prog w) A (assign target env v) (λ _ s₃=>
     R0 (C1 prog w) A (F9 ifs true λ c r=>if r=true then do let ok <-isTrue c env (d3 c env);X2 (G2 ok) else X2 (G2 r)) (λ ok s₄=>
      if ok=true then R0 (C1 prog w) A (d3 elt env) (λ x s₅=>R0 (C1 prog w) A (call (.builtin "list.append") [acc,x]) (λ _ s₆=>∃m,m < n/\J m s₆) (λ _ _=>False) s₅) (λ _ _=>False) s₄
      else∃m,m < n/\J m s₄) (λ _ _=>False) s₃) (λ _ _=>False) s₂) (λ _ _=>False) s₁) (λ _ _=>False) s)
  (n:Nat) (h:J n s):Q8 (C1 prog w) A (.compLoop (.ListComp elt [⟨target,iter,ifs,0⟩] scope pos) 0 it acc env) R s:=by
 refine codeAny_loop rfl J (λ n s d=>?_) n h;show R0 _ A ((compTurn (.ListComp elt [⟨target,iter,ifs,0⟩] scope pos) 0 it acc env).onRaise (λ x=>do noteFrame x env;theTreesLotGoes x)) _ _ s;refine wpAny_noted ?_;rw [compTurn_list];refine t0 (wpAny_standAt (t0 (m3 (turn n s d) (λ r s₁ a=>?_) λ _ _ f=>f.elim)));cases r with
 | none=>exact L0 a
 | some v=>
  refine t0 (m3 a (λ _ s₂ j=>t0 (m3 j (λ _ s₃ e=>t0 (m3 e (λ ok s₄ b=>?_) λ _ _ f=>f.elim)) λ _ _ f=>f.elim)) λ _ _ f=>f.elim);cases ok with
  | false=>exact L0 ⟨rfl,b⟩
  | true=>exact t0 (t0 (m3 b (λ x s₅ i=>t0 (m3 i (λ _ s₆ g=>L0 (L0 ⟨rfl,g⟩)) λ _ _ f=>f.elim)) λ _ _ f=>f.elim))
end
theorem z3w {env:Env} :∀(names:List (Str×Y4)) (acc:List (Str×Addr)),(∀y∈names,y.2=T1->∃c,env.cells.lookup y.1=some c)->(∀y c,acc.lookup y=some c->env.cells.lookup y=some c)->
  ∃cl,(F9 names acc λ (x:Str×Y4) (r:List (Str×Addr))=>(match x with
    | (name,kind)=>if (kind == T1)=true then do let c <-cellOf env name;X2 (G2 ((name,c) :: r)) else X2 (G2 r):Sem (ForInStep (List (Str×Addr)))))=X2 cl/\
   (∀y c,cl.lookup y=some c->env.cells.lookup y=some c)/\(∀y,((y,T1)∈names\/∃c,acc.lookup y=some c)->∃c,cl.lookup y=some c)
 | [],acc,_,ha=>⟨acc,by rw [m6],ha,λ y h=>h.elim (λ z=>nomatch z) id⟩
 | (n,k) :: r,acc,hf,ha=>by
  rw [Z4];dsimp only;by_cases hk:k=T1
  ·subst hk;obtain ⟨c,j⟩:=hf (n,.free) j1 rfl;have e:cellOf env n=X2 c:=by unfold cellOf;rw [j]
   rw [if_pos (by rfl),e];obtain ⟨cl,i,f,g⟩:=z3w r ((n,c) :: acc) (λ y a=>hf y (Z0 _ a)) (λ y d b=>by
    rw [X3] at b;by_cases a:(y == n)=true
    ·rw [a] at b;have:=eq_of_beq a;subst this;cases b;exact j
    ·rw [j9] at a;rw [a] at b;exact ha y d b)
   refine ⟨cl,i,f,λ y a=>g y ?_⟩;rcases a with a|⟨d,b⟩
   ·rcases List.mem_cons.mp a with z|z
    ·cases z;exact .inr ⟨c,by rw [X3];simp⟩
    ·exact .inl z
   ·refine .inr ?_;rw [X3];by_cases a:(y == n)=true
    ·rw [a];exact ⟨c,rfl⟩
    ·rw [j9] at a;rw [a];exact ⟨d,b⟩
  ·rw [if_neg (by simpa using hk)];obtain ⟨cl,i,f,g⟩:=z3w r acc (λ y a=>hf y (Z0 _ a)) ha;refine ⟨cl,i,f,λ y a=>g y ?_⟩;rcases a with a|a
   ·rcases List.mem_cons.mp a with z|z
    ·cases z;exact absurd rfl hk
    ·exact .inl z
   ·exact .inr a
theorem zf6 {scope:Scope} {env:Env} (hf :∀y∈scope.names,y.2=T1->∃c,env.cells.lookup y.1=some c) :
  ∃cl,closureFor scope env=X2 cl/\(∀y c,cl.lookup y=some c->env.cells.lookup y=some c)/\(∀y,(y,T1)∈scope.names->∃c,cl.lookup y=some c):=by
 obtain ⟨cl,e,b,d⟩:=z3w (env:=env) scope.names [] hf (λ _ _ z=>nomatch z);refine ⟨cl,?_,b,λ y a=>d y (.inl a)⟩;simp only [closureFor];rw [e];rfl
theorem mem_of_lookup {κ:Type} {y:Str} {k:κ} :∀{l:List (Str×κ)},l.lookup y=some k->(y,k)∈l
 | (n,c) :: r,h=>by
  rw [X3] at h;by_cases hy:(y == n)=true
  ·rw [hy] at h;cases h;rw [eq_of_beq hy];exact j1
  ·rw [j9] at hy;rw [hy] at h;exact Z0 _ (mem_of_lookup h)
theorem z5w {scope:Scope} {env:Env} (hcell :∀y∈scope.names,y.2≠NameKind.cell) {y:Str} {k:Y4} (h:(g7 scope env).names.lookup y=some k) (hk:k=.cell\/k=.free):(y,T1)∈scope.names:=by
 have m:=mem_of_lookup h;unfold g7 at m;obtain ⟨⟨n,c⟩,a,e⟩:=List.mem_map.mp m;dsimp only at e;by_cases hc:(c == T1)=true
 ·have:=eq_of_beq hc;subst this;split at e<;>(injection e with e1 e2;subst e1;exact a)
 ·rw [if_neg (by simp [hc])] at e;injection e with e1 e2;subst e1 e2;rcases hk with rfl|rfl
  ·exact absurd rfl (hcell _ a)
  ·exact absurd rfl hc
noncomputable abbrev cxComp (X:Cx) (scope:Scope) (cl:List (Str×Addr)) (N:List Str) (C:Addr) (s₂:B0) (H₂:Hp) (fp:List Addr):Cx:=
 { X with N:=N,s₀:=s₂,H₀:=H₂,env:=compEnvC scope cl C X.env,outer:=X.stack,stack:=X.stack,ex:=fp,fn:=λ _=>false,pn:=[],xe:=λ _ _=>False }
def PF (X:Cx) (ifs:List Expr) (t:TT):Prop:=
 ∀(pins:List (Addr×Obj)) (s:B0) (σ:St) (H:Hp) (Q:Bool->Hp->Prop),Inv X pins σ H s->t σ H Q->
  R0 (C1 X.prog X.w) X.A (F9 ifs true λ c r=>if r=true then do let ok <-isTrue c X.env (d3 c X.env);X2 (G2 ok) else X2 (G2 r)) (TP X pins σ Q) X.xe s
theorem pf_nil {X:Cx}:PF X [] (λ _ H Q=>Q true H):=λ _ _ _ H _ I h=>wpAny_tests_nil ⟨H,I,h⟩
theorem pf_one {X:Cx} {c:Expr} {t:TT} (h:PT X c t):PF X [c] t:=λ a s σ H Q I q=>wpAny_tests_one (h a s σ H Q I q)
theorem Vals.snoc {xs:List V} {us:List Value} {x:V} {u:Value} (r:Vals xs us) (q:RelV x u):Vals (xs++[x]) (us++[u]):=Vals.append r (.cons q .nil)
def TagOf (H:Hp) (x:V) (T:String):Prop:=match x with
 | .non=>T = "NoneType"
 | .bl _=>T = "bool"
 | .int _=>T = "int"
 | .str _=>T = "str"
 | .ref a=>((∃xs,H a=some (.lst xs))/\T = "list")\/((∃xs,H a=some (.tup xs))/\T = "tuple")\/((∃kvs,H a=some (.dK kvs))/\T = "dict")
 | _=>False
noncomputable def instB (T C:String):Bool:=T == C || (T == "bool" && C == "int")
theorem TagOf.ty {K:b0} {H:Hp} {x:V} {T:String} (h:TagOf H x T):TyOf K H x (.type T):=by
 cases x with
 | non=>cases (show T = "NoneType" from h);exact .non
 | bl b=>cases (show T = "bool" from h);exact .bl b
 | int i=>cases (show T = "int" from h);exact .int i
 | str z=>cases (show T = "str" from h);exact .str z
 | ref a=>
  rcases h with ⟨⟨c,e⟩,rfl⟩|⟨⟨c,e⟩,rfl⟩|⟨⟨c,e⟩,rfl⟩
  ·exact .lst e
  ·exact .tup e
  ·exact .dK e
 | _=>exact h.elim
theorem TagOf.one {H:Hp} {x:V} {T:String} (h:TagOf H x T):T = "NoneType"\/T = "bool"\/T = "int"\/T = "str"\/T = "list"\/T = "tuple"\/T = "dict":=by
 cases x with
 | non=>exact .inl h
 | bl b=>exact .inr (.inl h)
 | int i=>exact .inr (.inr (.inl h))
 | str z=>exact .inr (.inr (.inr (.inl h)))
 | ref a=>rcases h with ⟨_,rfl⟩|⟨_,rfl⟩|⟨_,rfl⟩<;>simp
 | _=>exact h.elim
noncomputable def isiC:List String:=["int","str","bool","tuple","list"]
theorem kit_of (K:b0) {T C:String} (h:T = "NoneType"\/T = "bool"\/T = "int"\/T = "str"\/T = "list"\/T = "tuple"\/T = "dict") (hC:C∈isiC):PySem.W.kitOne K (.type T) (.type C)=some (instB T C):=by
 have hC:C = "int"\/C = "str"\/C = "bool"\/C = "tuple"\/C = "list":=by simpa [isiC] using hC
 rcases h with rfl|rfl|rfl|rfl|rfl|rfl|rfl<;>rcases hC with rfl|rfl|rfl|rfl|rfl<;>kernel_rfl
section
variable {X:Cx}
theorem z0q:CallR X (.builtin "isinstance") (λ xs H Q=>∃x C T,xs=[x,.ty C]/\TagOf H x T/\C∈isiC/\Q (.bl (instB T C)) H):=by intro i s σ H xs g Q I r h;obtain ⟨x,C,T,rfl,a,c,q⟩:=h;obtain ⟨u,b,rfl,e,d⟩:=vals2 r;cases (show b=M9 C from d);exact zhm I e a.ty (kit_of X.K a.one c) λ f=>⟨.bl _,H,I.tok f,rfl,q⟩
theorem zhe {ys:List V} {its:List Value} (rv:Vals ys its) (hb :∀y∈ys,∃b,y=V.bl b):((N1 its.length).all λ i=>decide (ys[i]? = some (V.bl true)))=ys.all λ y=>decide (y=V.bl true):=by
 have e:=rv.length;rw [Bool.eq_iff_iff,Y6,Y6];constructor
 ·intro h y d;obtain ⟨i,a,rfl⟩:=List.getElem_of_mem d;have:=h i (List.mem_range.mpr (by omega));simpa [a] using this
 ·intro h i a;have c:i < ys.length:=by have:=List.mem_range.mp a;omega
  have:=h ys[i] (Z8 c);simpa [c] using this
theorem zcd (hc:X.calm=true):CallR X (.builtin "all") (λ xs H Q=>∃p ys,xs=[.ref p]/\SqL X.K H p ys/\(∀y∈ys,∃b,y=V.bl b)/\Q (.bl (ys.all λ y=>decide (y=V.bl true))) H):=by
 intro L s σ H xs J Q I r h;obtain ⟨p,ys,rfl,B,m,q⟩:=h;obtain ⟨u,rfl,t⟩:=vals1 r;cases t;obtain ⟨k,d,c,N⟩:=I.list B;have D:p≠s.heap.objs.size:=by obtain ⟨o,e,_⟩:=c.isList;exact G1 (S0 e)
 refine call_all_walk (C9 c.isList ?_);refine ⟨s.heap.objs.size,_,_,_,_,_,λ i=>decide (ys[i]? = some (V.bl true)),rfl,Walks.list (show X.A.in1.handled=none from I.ok.hd hc) s.heap.objs.size p D k.toArray,⟨⟨_,X0 _ rfl,rfl,rfl⟩,c.isList.at λ o e=>D0 _ e⟩,?_,?_⟩
 ·intro i v M O G a F;have a:k[i]? = some v:=by simpa using a
  obtain ⟨n,e⟩:=List.getElem?_eq_some_iff.mp a;have f:i < ys.length:=by rw [d.length];exact n
  obtain ⟨b,j⟩:=m ys[i] (Z8 f);obtain ⟨u,g,l⟩:=d.get (i:=i) (x:=ys[i]) (by simp [f]);rw [a] at g;cases g;rw [j] at l;cases (show v=T3 b from l);have:decide (ys[i]? = some (V.bl true))=b:=by rw [K0 f,j];cases b<;>simp
  exact Y2 (this ▸ F)
 ·intro P w C;have e:=zhe d m;rw [<-O0] at e;refine ⟨.bl _,H,I.kept (t':=w) λ b o z=>C b o ?_ (D0 _ z),rfl,e.symm ▸ q⟩;intro E;rw [List.mem_singleton.mp E] at z;exact absurd (S0 z) (J3 _)
def CDivB (i j:Int):Prop:=0 < j/\j < 2 ^ 64
theorem z8b:OpR X (A4 .FloorDiv) (rI CDivB λ i j=>.int (i / j)):=opI λ i j _ _ _ _ _ a q=>by
 obtain ⟨b,c⟩:=a;refine floordiv_int (by omega) ?_ (.inl (PyProof.noPylong_of_log2 ?_))
 ·rw [Int.fdiv_eq_ediv_of_nonneg _ (by omega)];exact q
 ·have:j.natAbs.log2 < 64:=(Nat.log2_lt (by omega)).mpr (by omega);omega
structure KDict (K:b0) (P:N0) (a:Addr) (kvs:List (Str×V)):Prop where
 ex :∃es n,K.lookup a=some ⟨.type "dict",none,.dict es n,#[]⟩/\a8 (λ (p:Str×V) (e:DictEntry)=>(∃t,e.key=.str p.1 t)/\e.hash=c0 P p.1/\RelV p.2 e.val) kvs es.toList
 lo:(a == Z2)=false
theorem zgi {kvs:List (Str×V)} {P:N0} :∀{es:List DictEntry},a8 (λ (p:Str×V) (e:DictEntry)=>(∃t,e.key=.str p.1 t)/\e.hash=c0 P p.1/\RelV p.2 e.val) kvs es->∀z,
  RelO (kvs.lookup z) (findBy C6 es.toArray z):=by
 intro es r;induction r with
 | nil=>intro z;exact True.intro
 | @cons p e kvs es h t a=>
  intro z;obtain ⟨⟨g,c⟩,f,d⟩:=h;have a:=a z;unfold findBy at a⊢;rw [List.find?_toArray] at a⊢;rw [Q3,X3];have b:C6 z e.key=(z == p.1):=by rw [c];show (p.1 == z)=_;rw [Bool.eq_iff_iff,beq_iff_eq,beq_iff_eq];exact ⟨λ q=>q.symm,λ q=>q.symm⟩
  cases hz:(z == p.1) with
  | true=>rw [b,hz];exact d
  | false=>rw [b,hz];exact a
theorem KDict.mapOf {a:Addr} {kvs:List (Str×V)} (D:KDict X.K X.w.params a kvs) {h:Heap} (k:X.K.In h) :∃f,h.MapOf (strKind X.prog X.w) a f/\∀z,RelO (kvs.lookup z) (f z):=by
 obtain ⟨c,n,d,r⟩:=D.ex;have b:PySem.W.KeysLit X.w.params c.toList:=by
  clear d D;generalize c.toList=l at r;induction r with
  | nil=>exact True.intro
  | cons h t ih=>obtain ⟨⟨i,b⟩,g,j⟩:=h;exact ⟨⟨_,i,b,g⟩,ih⟩
 have e :∀z,RelO (kvs.lookup z) (findBy C6 c.toList.toArray z):=zgi r;exact ⟨_,PySem.W.mapOf_K (prog:=X.prog) k d b,λ z=>by simpa using e z⟩
theorem zj7 {a:Addr} {kvs:List (Str×V)} (D:KDict X.K X.w.params a kvs):OpR X (C2 .In) (λ x y H Q=>∃z,x=.str z/\y=.ref a/\Q (.bl (kvs.lookup z).isSome) H):=by intro g s σ H x y v u Q I d c h;obtain ⟨z,rfl,rfl,q⟩:=h;obtain ⟨t,rfl⟩:=d;cases c;obtain ⟨f,b,e⟩:=D.mapOf I.kIn;refine wpAny_in_of (X7 X.prog X.w z t) D.lo b ⟨.bl _,H,I.tok _,rfl,?_⟩;have:=e z;rw [RelO.isSome_eq this] at q;exact q
theorem ix_kd {a:Addr} {kvs:List (Str×V)} (D:KDict X.K X.w.params a kvs):IxR X (λ x y H Q=>∃z v,x=.ref a/\y=.str z/\kvs.lookup z=some v/\Q v H):=by
 intro l k m s σ H x y v u Q I d j h g;obtain ⟨z,r,rfl,rfl,e,q⟩:=h;cases d;obtain ⟨t,rfl⟩:=j;obtain ⟨f,c,i⟩:=D.mapOf I.kIn;have b:=i z;rw [e] at b;cases ef:f z with
 | none=>rw [ef] at b;exact b.elim
 | some u=>rw [ef] at b;exact j1e c.typeIs slot_dict_getitem.lookup (wpAny_getItem_of (X7 X.prog X.w z t) c ef ⟨r,H,I.tok _,b,q⟩) g
structure KDictT (K:b0) (P:N0) (a:Addr) (kvs:List ((Str×Str)×V)):Prop where
 ex :∃es n,K.lookup a=some ⟨.type "dict",none,.dict es n,#[]⟩/\a8 (λ (p:(Str×Str)×V) (e:DictEntry)=>(∃(b:Addr) (t t':Tok) (m:Nat),e.key=.ref b/\K.lookup b=some ⟨.type "tuple",none,.seq #[.str p.1.1 t,.str p.1.2 t'] m,#[]⟩)/\
  e.hash=J1 (o0 [c0 P p.1.1,c0 P p.1.2])/\RelV p.2 e.val) kvs es.toList
 nd:(kvs.map (·.1)).Nodup
 lo:(a == Z2)=false
theorem zge {prog:Program} {w:P0} {K:b0} {h:Heap} (k:K.In h) :∀{kvs:List ((Str×Str)×V)} {es:List DictEntry},
  a8 (λ (p:(Str×Str)×V) (e:DictEntry)=>(∃(b:Addr) (t t':Tok) (m:Nat),e.key=.ref b/\K.lookup b=some ⟨.type "tuple",none,.seq #[.str p.1.1 t,.str p.1.2 t'] m,#[]⟩)/\
   e.hash=J1 (o0 [c0 w.params p.1.1,c0 w.params p.1.2])/\RelV p.2 e.val) kvs es->
  ∃xs:List (List Str×Addr×Value),es=xs.map (entryOfKey (G5 (strKind prog w)))/\(∀x∈xs,(G5 (strKind prog w)).is h x.1 x.2.1)/\xs.map (·.1)=kvs.map (λ p=>[p.1.1,p.1.2])/\
   ∀a b,RelO (kvs.lookup (a,b)) ((R7 xs [a,b]).map (·.2)):=by
 intro kvs es r;induction r with
 | nil=>exact ⟨[],rfl,λ x f=>absurd f u0,rfl,λ a b=>True.intro⟩
 | @cons p e kvs es hpe t ih=>
  obtain ⟨xs,A,v,y,n⟩:=ih;obtain ⟨⟨b,B,C,m,i,q⟩,j,o⟩:=hpe;refine ⟨([p.1.1,p.1.2],b,e.val) :: xs,?_,?_,?_,?_⟩
  ·rw [Y0,<-A];congr 1;obtain ⟨s,u,D⟩:=e;have i:u=.ref b:=i;have j:s=_:=j;subst i j;rfl
  ·intro x f;rcases List.mem_cons.mp f with rfl|f
   ·exact ⟨_,_,m,k _ _ q,rfl,rfl,.cons (X7 prog w _ _) (.cons (X7 prog w _ _) .nil)⟩
   ·exact v x f
  ·rw [Y0,Y0,y]
  ·intro c d;have:=n c d;rw [X3];unfold R7 at this⊢;rw [Q3];by_cases hcd:(c,d)=p.1
   ·have g:((c,d) == p.1)=true:=by rw [beq_iff_eq];exact hcd
    rw [g];have l:decide ([p.1.1,p.1.2]=[c,d])=true:=by rw [<-hcd];simp
    rw [l];exact o
   ·have g:((c,d) == p.1)=false:=by rw [beq_eq_false_iff_ne];exact hcd
    rw [g];have l:decide ([p.1.1,p.1.2]=[c,d])=false:=by rw [decide_eq_false_iff_not];intro z;injection z with z1 z;injection z with z2 _;exact hcd (j26 z1.symm z2.symm)
    rw [l];exact this
theorem z7e :∀{l:List (Str×Str)},l.Nodup->(l.map λ p=>[p.1,p.2]).Nodup
 | [],_=>List.nodup_nil
 | p :: r,h=>by obtain ⟨c,b⟩:=List.nodup_cons.mp h;rw [Y0];refine List.nodup_cons.mpr ⟨λ m=>c ?_,z7e b⟩;obtain ⟨q,a,e⟩:=List.mem_map.mp m;injection e with e1 e;injection e with e2 _;have:q=p:=j26 e1 e2;exact this ▸ a
theorem KDictT.dict {a:Addr} {kvs:List ((Str×Str)×V)} (D:KDictT X.K X.w.params a kvs) {h:Heap} (k:X.K.In h) :∃xs,h.DictOfH (G5 (strKind X.prog X.w)) a xs/\∀c d,RelO (kvs.lookup (c,d)) ((R7 xs [c,d]).map (·.2)):=by obtain ⟨b,n,g,r⟩:=D.ex;obtain ⟨xs,j,f,i,e⟩:=zge (prog:=X.prog) (w:=X.w) k r;refine ⟨xs,⟨_,b,n,k _ _ g,⟨rfl,rfl,rfl⟩,rfl,j,f,?_⟩,e⟩;rw [i];have:=z7e D.nd;rw [T2] at this;exact this
theorem zhp {pins:List (Addr×Obj)} {σ:St} {H:Hp} {s:B0} {p:Addr} {c d:Str} (I:Inv X pins σ H s) (hp:H p=some (.tup [.str c,.str d])):(G5 (strKind X.prog X.w)).is s.heap [c,d] p:=by
 obtain ⟨_,i,a,⟨o,b,e,n,f⟩,_⟩:=(show ObjOk X.prog X.w H s.heap p (.tup [.str c,.str d]) from I.hok p _ hp)
 cases a with
 | cons r1 a=>
  cases a with
  | cons r2 a=>cases a;obtain ⟨g,rfl⟩:=r1;obtain ⟨h,rfl⟩:=r2;exact ⟨o,_,n,b,e,f,.cons (X7 X.prog X.w _ _) (.cons (X7 X.prog X.w _ _) .nil)⟩
theorem zba {a:Addr} {kvs:List ((Str×Str)×V)} (hu:X.A.units + 1 < cLine) (D:KDictT X.K X.w.params a kvs) :
  OpR X (C2 .NotIn) (λ x y H Q=>∃p c d,x=.ref p/\H p=some (.tup [.str c,.str d])/\y=.ref a/\Q (.bl (!(kvs.lookup (c,d)).isSome)) H):=by
 intro l s σ H x y v u Q I f e h;obtain ⟨p,c,d,rfl,i,rfl,q⟩:=h;cases f;cases e;obtain ⟨j,b,g⟩:=D.dict I.kIn;refine wpAny_notIn_heap (k:=[c,d]) hu (zhp I i) D.lo b ⟨.bl _,H,I.tok _,rfl,?_⟩;have:=RelO.isSome_eq (g c d);rw [z6] at this;rw [this] at q;exact q
theorem ix_kdt {a:Addr} {kvs:List ((Str×Str)×V)} (hu:X.A.units + 1 < cLine) (D:KDictT X.K X.w.params a kvs) :
  IxR X (λ x y H Q=>∃p c d v,x=.ref a/\y=.ref p/\H p=some (.tup [.str c,.str d])/\kvs.lookup (c,d)=some v/\Q v H):=by
 intro t o B s σ H x y v u Q I g m h j;obtain ⟨p,c,d,r,rfl,rfl,i,e,q⟩:=h;cases g;cases m;obtain ⟨n,f,l⟩:=D.dict I.kIn;have b:=l c d;rw [e] at b;cases ef:R7 n [c,d] with
 | none=>rw [ef] at b;exact b.elim
 | some z=>rw [ef] at b;exact j1e f.typeIs slot_dict_getitem.lookup (wpAny_getItem_heap (k:=[c,d]) hu (zhp I i) f ef ⟨r,H,I.tok _,b,q⟩) j
end
structure Cal (P:Program) (w:P0) (K:b0) (mg:Str->Option Value) (base:Heap) (x:Str) (ps:List Str) (k:Nat) (sp:Sp):Prop where
 ex :∃f fd,FnOk P w K mg base CX0 k f fd ps sp/\mg x=some (.ref f)/\V2 K (.ref f)=true/\Binds K fd ps []
section
variable {X:Cx} {x:Str} {ps:List Str} {k:Nat} {sp:Sp} {e:Expr} {es:List Expr} {t:TA} {p pos:Pos}
theorem pe_cal (c:Cal X.prog X.w X.K X.mg X.base x ps k sp) (hr:Room k X.A) (hg:Gl X x) (ha:PA X (e :: es) t) (hn:x≠"__name__":=by decide) (hdb:(x == ("__debug__" : Str))=false:=by decide)
  (he:P1 (e :: es) X.env=(false,d3 e X.env) :: P1 es X.env:=by rfl) (hpl:(E4 pos (P1 es X.env)).any (·.1)=false:=by rfl):PE X (.Call (.Name x p) (e :: es) [] pos) (tCall sp [] E0 t):=by
 obtain ⟨f,g,F,a,b,d⟩:=c.ex;exact zkn F hr hg a b d .nil pass0 ha hdb he hpl
end
structure TX (K:b0) (mg:Str->Option Value):Prop where
 of :∀{n:Str} {v:Value},S5 K S2 n=some (some v)->mg n=some v
 no :∀{n:Str},S5 K S2 n=some none->mg n=none
theorem TX.mk' {K:b0} {mg:Str->Option Value} {h:Heap} (X:K.In h) (G:h.Ns S2 mg):TX K mg:=⟨λ e=>PySem.W.mg_of X G e,λ e=>PySem.W.mg_none_of X G e⟩
section
variable {X:Cx}
noncomputable def rAdd4 (K:b0):R2:=λ x y H Q=>(∃i j,x=.int i/\y=.int j/\Q (.int (i + j)) H)\/(∃i j,x=.str i/\y=.str j/\i.length + j.length<=sizeLine/\Q (.str (i++j)) H)\/rCat x y H Q\/rCatT K x y H Q
theorem opAdd:OpR X (A4 .Add) (rAdd4 X.K):=op_add.or (op_add_str.or (op_cat.or z9j))
theorem opEq:OpR X (C2 .Eq) rEq:=op_eq
theorem opNe:OpR X (C2 .NotEq) rNe:=op_ne
theorem z12:CallR X (.builtin "len") (λ xs H Q=>(∃p ys,xs=[.ref p]/\(SqL X.K H p ys\/SqT X.K H p ys)/\Q (.int ys.length) H)\/∃z,xs=[.str z]/\z.length<=sizeLine/\Q (.int z.length) H):=call_len_seq.or zb6
end
noncomputable def z0x (x:V) (g:Int):Bool:=match x with
 | .int i=>decide (-g<=i) && decide (i<=g)
 | _=>false
noncomputable def tupOf (H:Hp) (x:V):Option (List V):=match x with
 | .ref a=>(match H a with|some (.tup xs)=>some xs|_=>none)
 | _=>none
theorem zeh {H H':Hp} {x:V} {T:String} (t:TagOf H x T) (e:Same H H'):tupOf H' x=tupOf H x:=by
 cases x with
 | ref a=>rcases t with ⟨⟨b,h⟩,_⟩|⟨⟨b,h⟩,_⟩|⟨⟨b,h⟩,_⟩<;>(unfold tupOf;dsimp only;rw [h,e a _ h])
 | _=>rfl
theorem TagOf.same {H H':Hp} {x:V} {T:String} (t:TagOf H x T) (e:Same H H'):TagOf H' x T:=by
 cases x with
 | ref a=>
  rcases t with ⟨⟨b,h⟩,z⟩|⟨⟨b,h⟩,z⟩|⟨⟨b,h⟩,z⟩
  ·exact .inl ⟨⟨b,e a _ h⟩,z⟩
  ·exact .inr (.inl ⟨⟨b,e a _ h⟩,z⟩)
  ·exact .inr (.inr ⟨⟨b,e a _ h⟩,z⟩)
 | _=>exact t
theorem TagOf.tuple {H:Hp} {x:V} (t:TagOf H x "tuple") :∃a xs,x=.ref a/\H a=some (.tup xs):=by
 cases x with
 | ref a=>
  rcases t with ⟨_,z⟩|⟨⟨xs,h⟩,_⟩|⟨_,z⟩
  ·exact absurd z (by decide)
  ·exact ⟨a,xs,rfl,h⟩
  ·exact absurd z (by decide)
 | non=>exact absurd (show "tuple" = "NoneType" from t) (by decide)
 | bl b=>exact absurd (show "tuple" = "bool" from t) (by decide)
 | int i=>exact absurd (show "tuple" = "int" from t) (by decide)
 | str z=>exact absurd (show "tuple" = "str" from t) (by decide)
 | _=>exact t.elim
theorem TagOf.int {H:Hp} {x:V} (t:TagOf H x "int") :∃i,x=.int i:=by
 cases x with
 | ref a=>rcases t with ⟨_,z⟩|⟨_,z⟩|⟨_,z⟩<;>exact absurd z (by decide)
 | non=>exact absurd (show "int" = "NoneType" from t) (by decide)
 | bl b=>exact absurd (show "int" = "bool" from t) (by decide)
 | int i=>exact ⟨i,rfl⟩
 | str z=>exact absurd (show "int" = "str" from t) (by decide)
 | _=>exact t.elim
theorem TagOf.str {H:Hp} {x:V} (t:TagOf H x "str") :∃z,x=.str z:=by
 cases x with
 | ref a=>rcases t with ⟨_,z⟩|⟨_,z⟩|⟨_,z⟩<;>exact absurd z (by decide)
 | non=>exact absurd (show "str" = "NoneType" from t) (by decide)
 | bl b=>exact absurd (show "str" = "bool" from t) (by decide)
 | int i=>exact absurd (show "str" = "int" from t) (by decide)
 | str z=>exact ⟨z,rfl⟩
 | _=>exact t.elim
theorem noInt {H:Hp} {x:V} {T:String} (t:TagOf H x T) (h:T≠"int") (g:Int):z0x x g=false:=by
 cases x with
 | int i=>exact absurd t h
 | _=>rfl
theorem noTup {H:Hp} {x:V} {T:String} (t:TagOf H x T) (h:T≠"tuple"):tupOf H x=none:=by
 cases x with
 | ref a=>
  rcases t with ⟨⟨b,e⟩,_⟩|⟨_,z⟩|⟨⟨b,e⟩,_⟩
  ·unfold tupOf;dsimp only;rw [e]
  ·exact absurd z h
  ·unfold tupOf;dsimp only;rw [e]
 | _=>rfl
theorem z7t {H:Hp} {x:V} {T:String} (t:TagOf H x T) {C:String} (h:C≠"int"):instB T C=decide (T=C):=by
 unfold instB;have:(C == "int")=false:=by simpa using h
 rw [this,Y9,Bool.or_false,Bool.beq_eq_decide_eq]
def Flat (H:Hp) (x:V):Prop:=∀xs,tupOf H x=some xs->xs.length<=1000/\∀y∈xs,∃T,TagOf H y T
theorem zb8 {α β:Type} [BEq α] [LawfulBEq α] {l:List (α×β)} {a:α} {b:β} (h:l.lookup a=some b):(a,b)∈l:=by
 induction l with
 | nil=>cases h
 | cons p r ih=>
  obtain ⟨c,d⟩:=p;rw [X3] at h;cases hc:(a == c) with
  | true=>rw [hc] at h;cases h;rw [eq_of_beq hc];exact j1
  | false=>rw [hc] at h;exact Z0 _ (ih h)
theorem zgt {names:List (Str×Y4)} {Q:Str×Y4->Prop} (h:(names.all λ y=>y.2 != T1)=true) :∀y∈names,y.2=T1->Q y:=λ y a e=>by have:=List.all_eq_true.mp h y a;rw [e] at this;exact absurd this (by decide)
theorem Same.upd {H:Hp} {p:Addr} {o:HO} (h:H p=none):Same H (upd H p o):=λ b u e=>by rw [upd_ne (z07 e h)];exact e
theorem Same.seqT {K:b0} {H H':Hp} {a:Addr} {xs:List V} (e:Same H H') (h:SqT K H a xs):SqT K H' a xs:=by
 rcases h with (h|⟨o,h⟩)|h
 ·exact .inl (.inl (e _ _ h))
 ·exact .inl (.inr ⟨o,e _ _ h⟩)
 ·exact .inr h
theorem zdh {H:Hp} {x:V} {xs:List V} (h:tupOf H x=some xs) :∃a,x=.ref a/\H a=some (.tup xs):=by
 unfold tupOf at h;cases x with
 | ref a=>
  dsimp only at h;split at h
  ·rename_i ys e;exact ⟨a,rfl,by rw [e,Q1 h]⟩
  ·cases h
 | _=>cases h
end L2
namespace L2
open PySem PySem.Spec PyProof.Rows
open Builtin.Str (occurrences partsBetween strKind)
section
variable {X:Cx}
theorem zby {vl:Value} {lo:Option Int} (p:c8 vl lo) :∃l:Option (Int×Tok),vl=partValue l/\l.map (·.1)=lo:=by
 cases p with
 | none=>exact ⟨none,rfl,rfl⟩
 | int i t=>exact ⟨some (i,t),rfl,rfl⟩
end
end L2
namespace L2
open PySem PySem.Spec PyProof.Rows
section
variable {X:Cx}
def rSlS:V->Option Int->Option Int->Hp->VK->Prop:=λ x lo hi H Q=>∃z,x=.str z/\z.length<=sizeLine/\Q (.str (Txt.slice z lo hi)) H
theorem sl_str:SlR X rSlS:=by
 intro m s σ H x v p n r j o Q I a d b f h;obtain ⟨z,rfl,g,q⟩:=h;obtain ⟨t,rfl⟩:=a;obtain ⟨l,rfl,i⟩:=zby b;obtain ⟨u,rfl,e⟩:=zby f;subst i e;refine ⟨"str",_,F.slot_str_getitem.lookup,typeIs_str _ _ _,wpAny_getItem_str_slice (l:=l) (u:=u) (st:=none) d rfl
  (post_val_or_str ⟨C0 (Txt.slice_le z _ _) g,λ c k=>⟨.str (Txt.slice z _ _),H,I.tok k,⟨c,rfl⟩,q⟩⟩)⟩
theorem slSeq:SlR X (λ x lo hi H Q=>rSlL X.K x lo hi H Q\/rSlT X.K x lo hi H Q\/rSlS x lo hi H Q):=sl_list.or (sl_tup.or sl_str)
theorem zh7:CallR X (.type "int") (λ xs H Q=>∃z n,xs=[.str z]/\PySem.intText? z=some n/\z.length<=640/\Q (.int n) H):=by intro d s σ H xs c Q I r h;obtain ⟨z,n,rfl,a,b,q⟩:=h;obtain ⟨u,rfl,t,rfl⟩:=vals1 r;exact PySem.W.KIN.call_text a b ⟨.int n,H,I.tok _,⟨_,rfl⟩,q⟩
theorem zaw:CallR X (.type "int") (λ xs H Q=>((∃i,xs=[.int i]/\Q (.int i) H)\/∃k,xs=[.bl k]/\Q (.int (if k then 1 else 0)) H)\/∃z n,xs=[.str z]/\PySem.intText? z=some n/\z.length<=640/\Q (.int n) H):=call_int1.or zh7
end
def RowAt (H:Hp) (r:Addr):Prop:=∃a b c:Int,H r=some (.lst [.int a,.int b,.int c])/\0<=c/\c < 536870909
def Kept (r:Addr) (H H':Hp):Prop:=∀b o,b≠r->H b=some o->H' b=some o
theorem Kept.refl {r:Addr} {H:Hp}:Kept r H H:=λ _ _ _ h=>h
theorem Kept.trans {r:Addr} {H H1 H2:Hp} (a:Kept r H H1) (b:Kept r H1 H2):Kept r H H2:=λ c o n h=>b c o n (a c o n h)
theorem Same.kept {r:Addr} {H H':Hp} (s:Same H H'):Kept r H H':=λ b o _ h=>s b o h
theorem Kept.set {r:Addr} {H:Hp} {o:HO}:Kept r H (upd H r o):=λ b u n h=>by rw [upd_ne n];exact h
structure Rw (r:Addr) (H H':Hp):Prop where
 k:Kept r H H'
 r:RowAt H' r
theorem atI_of {α:Type} {xs:List α} {t:Int} (h0:0<=t) (h1:t < xs.length) :∃v,atI xs t=some v/\v∈xs:=by
 have a:t.toNat < xs.length:=by omega
 refine ⟨xs[t.toNat],?_,Z8 a⟩;have:=z05 (xs:=xs) (j:=t.toNat) (v:=xs[t.toNat]) (by simp [a]);rw [Int.toNat_of_nonneg h0] at this;exact this
section
variable {r:Addr} {σ:St} {H0:Hp} {K:b0}
theorem g_name {i:Nat} {v:V} {σ:St} {H:Hp} {Q:St->Hp->Prop} (h:Q (σ.set i (some v)) H):gName i v σ H Q:=h
theorem t_nx {nx ct bk:St->Hp->Prop} {rt:VK} {σ:St} {H:Hp} (h:nx σ H):Ends.nx { nx:=nx,rt:=rt,bk:=bk,ct:=ct } σ H:=h
theorem t_next {nx ct bk:St->Hp->Prop} {rt:VK} {σ:St} {H:Hp} (h:nx σ H):tNext { nx:=nx,rt:=rt,bk:=bk,ct:=ct } σ H:=h
end
end L2
namespace L2
open PySem
section
variable {prog:Program} {w:P0} {A:X1} {E:Value->B0->Prop} {s:B0}
theorem tupOn {it t:Addr} {i:Nat} {its:Array Value} {x:Value} {Q:Value->B0->Prop} (a:s.heap.IsTupleIter it t i) (b:s.heap.IsTuple t its) (c:its[i]? = some x)
  (q :∀h',h'.IsTupleIter it t (i + 1)->z5 it s.heap h'->Q x { s with heap:=h' }):R0 (C1 prog w) A (o4 (.ref it)) Q E s:=by
 obtain ⟨o,e,g,d⟩:=id a;obtain ⟨p,f,_,n,h⟩:=b;unfold o4;refine t0 (E3 (name:=i6 "__next__") a.typeIs V4 (u3 V4 a.typeIs j0f (show R0 _ _ (field (.ref it) 0 >>= _) _ _ s from t0 (c6 e d (x:=.ref t) rfl ?_)) (j06 _)));show R0 _ _ (if (F1 t == Q4)=true then _ else (field (.ref it) 1 >>= _)) _ _ s;rw [if_neg (by exact M0)];refine t0 (c6 e d (x:=.int i 0) rfl (show R0 _ _ (seqItems? (.ref t) >>= _) _ _ s from t0 (j1b f h ?_)));simp only [E5,c];refine t0 (K8 e d (by simp) (L0 ⟨x,rfl,L0 (q _ ⟨_,P7 _ e (Obj.isFreed_of_fields (Obj.data_mapFields d _)),(Obj.cls_mapFields ..).trans g,?_⟩ (F5 ..))⟩));rw [Obj.data_mapFields d];simp [j00]
theorem tupOff {it t:Addr} {i:Nat} {its:Array Value} {Q:Value->B0->Prop} (hh:A.handled=none) (a:s.heap.IsTupleIter it t i) (b:s.heap.IsTuple t its) (c:its[i]? = none)
  (q :∀h' e,Heap.ExtBut it s.heap h'->(∃o,h'.get? e=some o/\o.cls=.type "StopIteration")->E (.ref e) { s with heap:=h' }):R0 (C1 prog w) A (o4 (.ref it)) Q E s:=by
 obtain ⟨o,d,j,f⟩:=id a;obtain ⟨p,g,_,n,h⟩:=b;unfold o4;refine t0 (E3 (name:=i6 "__next__") a.typeIs V4 (u3 V4 a.typeIs j0f (show R0 _ _ (field (.ref it) 0 >>= _) _ _ s from t0 (c6 d f (x:=.ref t) rfl ?_)) (j06 _)));show R0 _ _ (if (F1 t == Q4)=true then _ else (field (.ref it) 1 >>= _)) _ _ s;rw [if_neg (by exact M0)];refine t0 (c6 d f (x:=.int i 0) rfl (show R0 _ _ (seqItems? (.ref t) >>= _) _ _ s from t0 (j1b g h ?_)));simp only [E5,c];refine t0 (j1c (t0 (K8 d f (by simp) (show R0 _ _ (newExc (.type "StopIteration") [] >>= _) _ _ _ from t0 ?_))));simp only [newExc,newTuple];refine t0 (Q2 (t0 (m:=L8 _ _) (wpAny_of_eq (a:=Q4) (by first|rfl|(simp only [L8];rfl)) (Q2 ?_ (by size_fits)))) (by size_fits));simp only [raiseNew];refine t0 (wpAny_handled ?_);first|rw [show A.in1.handled=none from hh]|rw [hh]
 exact t0 (L0 (wpAny_throw (q _ _ (((F5 ..).extBut.push _).push _) ⟨_,X0 _ rfl,rfl⟩)))
structure ZApart (z T U i j a b:Addr):Prop where
 dis:[z,T,U,i,j].Nodup
 fa:a∉[z,T,U,i,j]
 fb:b∉[z,T,U,i,j]
structure ZAt (h:Heap) (z T U i j a b:Addr) (n:Nat) (f:Value):Prop where
 z:IsZip h z T U f
 t:IsPair h T (.ref i) (.ref j)
 u :∃p q,IsPair h U p q
 i:h.IsTupleIter i a n
 j:h.IsTupleIter j b n
end
end L2
namespace L2
open PySem PySem.Spec PyProof.Rows
inductive Dt where
 | non|bl (b:Bool)|int (i:Int)|str (z:Str)|tup (ds:List Dt)
mutual
noncomputable def IsDt (K:b0) (H:Hp):Dt->V->Prop
 | .non,v=>v=.non
 | .bl b,v=>v=.bl b
 | .int i,v=>v=.int i
 | .str z,v=>v=.str z
 | .tup ds,v=>∃a xs,v=.ref a/\SqT K H a xs/\IsDts K H ds xs
noncomputable def IsDts (K:b0) (H:Hp):List Dt->List V->Prop
 | [],xs=>xs=[]
 | d :: ds,xs=>∃x r,xs=x :: r/\IsDt K H d x/\IsDts K H ds r
end
mutual
theorem IsDt.same' {K:b0} {H H':Hp} (s:Same H H') :∀(d:Dt) (v:V),IsDt K H d v->IsDt K H' d v
 | .non,v,h=>h
 | .bl b,v,h=>h
 | .int i,v,h=>h
 | .str z,v,h=>h
 | .tup ds,v,h=>by obtain ⟨a,c,rfl,e,r⟩:=h;exact ⟨a,c,rfl,s.seqT e,IsDts.same' s ds c r⟩
theorem IsDts.same' {K:b0} {H H':Hp} (s:Same H H') :∀(d:List Dt) (v:List V),IsDts K H d v->IsDts K H' d v
 | [],xs,h=>h
 | d :: ds,xs,h=>by obtain ⟨x,r,rfl,a,b⟩:=h;exact ⟨x,r,rfl,IsDt.same' s d x a,IsDts.same' s ds r b⟩
end
theorem IsDt.same {K:b0} {H H':Hp} {d:Dt} {v:V} (h:IsDt K H d v) (s:Same H H'):IsDt K H' d v:=IsDt.same' s d v h
theorem IsDts.mk2 {K:b0} {H:Hp} {d e:Dt} {x y:V} (a:IsDt K H d x) (b:IsDt K H e y):IsDts K H [d,e] [x,y]:=⟨x,[y],rfl,a,y,[],rfl,b,rfl⟩
theorem IsDt.mkT {K:b0} {H:Hp} {p:Addr} {xs:List V} {ds:List Dt} (h:H p=some (.tup xs)) (r:IsDts K H ds xs):IsDt K H (.tup ds) (.ref p):=⟨p,xs,rfl,SqT.of h,r⟩
mutual
noncomputable def Dt.deep:Dt->Nat
 | .tup ds=>Dt.deeps ds + 1
 | _=>0
noncomputable def Dt.deeps:List Dt->Nat
 | []=>0
 | d :: ds=>max d.deep (Dt.deeps ds)
noncomputable def Dt.plain:Dt->Bool
 | .int _=>true
 | .str _=>true
 | .tup ds=>Dt.plains ds
 | _=>false
noncomputable def Dt.plains:List Dt->Bool
 | []=>true
 | d :: ds=>d.plain && Dt.plains ds
end
section
variable {X:Cx}
theorem zka {i:Nat} {x:Str} {p pos:Pos} {e:Expr} {es:List Expr} {t:TA} (tb:Addr->Sp->Prop) (hN:X.N[i]? = some x) (hv:Vis X.env.scope x)
  (G :∀f sp,tb f sp->∃k fd ps,FnOk X.prog X.w X.K X.mg X.base CX0 k f fd ps sp/\Room k X.A/\V2 X.K (.ref f)=true/\Binds X.K fd ps [])
  (ha:PA X (e :: es) t) (hd:(x == ("__debug__" : Str))=false:=by decide) (hcd:(x == ("__classdict__" : Str))=false:=by decide)
  (he:P1 (e :: es) X.env=(false,d3 e X.env) :: P1 es X.env:=by rfl) (hpl:(E4 pos (P1 es X.env)).any (·.1)=false:=by rfl) :
  PE X (.Call (.Name x p) (e :: es) [] pos) (λ σ H Q=>∃f sp,σ[i]? = some (some (.ref f))/\tb f sp/\t σ H λ vs H1=>sp vs H1 Q E0):=by
 intro a s σ H Q I h;obtain ⟨f,sp,b,j,h⟩:=h;obtain ⟨k,fd,ps,F,l,g,m⟩:=G f sp j;refine B5 (thn (pe_var hN hv hd hcd a s σ H (λ v d=>v=.ref f/\d=H) I ⟨_,b,rfl,rfl⟩) λ u c ⟨v,H0,I0,r0,ev,eH⟩=>?_);subst ev eH;obtain rfl:u=F1 f:=r0;refine X5 (h₀:=X.base) I0.ok.mod.kin g (thn (ha pos a c σ _ _ I0 h) λ n o ⟨vs,H1,I1,r,q⟩=>⟨I1.kIn,?_⟩) he hpl;exact run_fn F l m .nil pass0 I1 r (by rw [j2];exact q)
theorem Inv.turnedL {pins:List (Addr×Obj)} {σ:St} {H:Hp} {s:B0} {h':Heap} {t':Nat} {fp:List Addr} (I:Inv X pins σ H s) (k :∀b o,b∉fp->s.heap.get? b=some o->h'.get? b=some o) (hf :∀b∈fp,FpOk X pins H b) :
  Inv X pins σ H { s with heap:=h',toks:=t' }:=by
 have f :∀b u,H b=some u->b∉fp:=λ b u e z=>by have:=(hf b z).1;rw [this] at e;cases e
 refine I.step (g':=s.gens) (d':=s.drawn) (ch:=fp) (λ b d=>⟨(hf b d).2.2.2.1,(hf b d).2.1,(hf b d).2.2.2.2.1,(hf b d).2.2.2.2.2⟩) (λ b o _ _ a e _=>k b o a e) (λ b o _ _ a e _=>⟨o.slots,k b o a e⟩) (λ _ _ _ _ n=>n)
  (λ b o a e=>⟨o,k b o a e⟩) (λ _ _ e=>e) (λ _ _ _ e=>e) (λ b l e=>⟨#[],by rw [e];simp⟩) (λ m g=>?_) (λ b u e=>?_) I.bare
 ·obtain ⟨o,i,j,h,r⟩:=g;exact ⟨o,i,j,k _ o (λ z=>(hf _ z).2.1 rfl) h,r⟩
 ·refine (I.hok b u e).stay (λ c v a q=>k c v ?_ q) (λ _ q=>q) λ _ _ q=>q;rcases a with z|z
  ·rw [z];exact f b u e
  ·exact f c _ z
theorem Inv.turnedLaid {pins:List (Addr×Obj)} {σ:St} {H:Hp} {s:B0} {h':Heap} {t':Nat} {fp:List Addr} {a:Addr} {o:HO} (I:Inv X pins σ H s) (k :∀b o,b∉fp->s.heap.get? b=some o->h'.get? b=some o) (hf :∀b∈fp,FpOk X pins H b)
  (hp:s.heap.objs.size<=a) (new:ObjOk X.prog X.w (upd H a o) h' a o):Inv X pins σ (upd H a o) { s with heap:=h',toks:=t' }:=by
 have l:H a=none:=I.hok.fresh hp;have h :∀b u,H b=some u->b∉fp:=λ b u e z=>by have:=(hf b z).1;rw [this] at e;cases e
 have g :∀b u,H b=some u->upd H a o b=some u:=λ b u e=>by rw [upd_ne (z07 e l)];exact e
 refine I.step (g':=s.gens) (d':=s.drawn) (ch:=fp) (λ b f=>⟨(hf b f).2.2.2.1,(hf b f).2.1,(hf b f).2.2.2.2.1,(hf b f).2.2.2.2.2⟩) (λ b o _ _ d e _=>k b o d e) (λ b o _ _ d e _=>⟨o.slots,k b o d e⟩)
  (λ b u _ e n=>by rw [upd_ne (λ z=>by subst z;exact absurd (S0 e) (Nat.not_lt.mpr hp))];exact n)
  (λ b o d e=>⟨o,k b o d e⟩) (λ _ _ e=>g _ _ e) (λ _ _ _ e=>g _ _ e) (λ b x e=>⟨#[],by rw [g _ _ e];simp⟩) (λ m j=>?_) (λ b u e=>?_) I.bare
 ·obtain ⟨o,i,p,t,r⟩:=j;exact ⟨o,i,p,k _ o (λ z=>(hf _ z).2.1 rfl) t,r⟩
 ·by_cases f:b=a
  ·subst f;rw [upd_same] at e;cases e;exact new
  ·rw [upd_ne f] at e;refine (I.hok b u e).stay (λ c v d q=>k c v ?_ q) (λ c q=>g _ _ q) λ c y q=>g _ _ q;rcases d with z|z
   ·rw [z];exact h b u e
   ·exact h c _ z
theorem zdi:OpR X (A4 .Add) (λ x y H Q=>∃a b ys,x=.ref a/\y=.ref b/\SqT X.K H a []/\SqT X.K H b ys/\Q (.ref b) H):=by intro G s σ H x y v u Q I j B h;obtain ⟨a,b,ys,rfl,rfl,k,C,q⟩:=h;cases j;cases B;obtain ⟨D,o,n,_⟩:=I.tuple k;obtain ⟨m,F,z,_⟩:=I.tuple C;cases o;obtain ⟨⟨M,t,J,p⟩,c,i,w,e⟩:=id n;obtain ⟨⟨E,l,L,A⟩,f,d,r,g⟩:=id z;simp only at i e d g;subst i e d g;exact concat_meets ⟨_,c,rfl⟩ ⟨_,f,rfl⟩ j01 seq_tuple_add S6 G6 (u6 _ _) (tuple_addW0 a b ([]:List Value).toArray m.toArray w r t l p A (by simp)) ⟨c,f,⟨.ref b,H,I,rfl,q⟩⟩
noncomputable def rCatS (K:b0):R2:=λ x y H Q=>∃a b xs ys,x=.ref a/\y=.ref b/\SqT K H a xs/\SqT K H b ys/\ys≠[]/\xs.length + ys.length<=sizeLine/\∀p H',Same H H'->SqT K H' p (xs++ys)->Q (.ref p) H'
theorem op_catS:OpR X (A4 .Add) (rCatS X.K):=by
 intro i s σ H x y v u Q I e j h;obtain ⟨a,b,c,g,rfl,rfl,f,d,l,m,q⟩:=h;cases c with
 | nil=>exact zdi i s σ H _ _ v u Q I e j ⟨a,b,g,rfl,rfl,f,d,q b H (Same.refl H) d⟩
 | cons x c=>exact z9j i s σ H _ _ v u Q I e j ⟨a,b,x :: c,g,rfl,rfl,f,d,by simp,m,λ z=>absurd z l,λ _ p k=>q p _ (Same.upd k) (SqT.of upd_same)⟩
theorem z17 {o e:Expr} {es:List Expr} {to:TE} {t:TA} {apos cpos:Pos} (ho:PE X o to) (ha:PA X (e :: es) t)
  (hbase:j4 o "append" X.env (d3 o X.env)=d3 o X.env:=by rfl)
  (hfew:((E4 cpos (P1 (e :: es) X.env)).all (λ x=>!x.1) && (L9 cpos (i7 [] X.env)).all (λ x=>x.1.isSome)
   && decide ((e :: es).length + ([]:List L6).length + (if ([]:List L6).isEmpty then 0 else 1) < 30))=true:=by rfl)
  (hline:(apos.endLine == cpos.line)=true:=by rfl) (hs:P1 (e :: es) X.env=(false,d3 e X.env) :: P1 es X.env:=by rfl) (hplain:(E4 cpos (P1 es X.env)).any (·.1)=false:=by rfl) :
  PE X (.Call (.Attribute o "append" apos) (e :: es) [] cpos) (tBM X.K "list" zhv to t):=pe_bm F6 PySem.F.slot_list_append PySem.F.type_list_append zh2 ho ha hbase hfew hline hs hplain
end
def KeptL (L:List Addr) (H H':Hp):Prop:=∀b o,b∉L->H b=some o->H' b=some o
theorem KeptL.refl {L:List Addr} {H:Hp}:KeptL L H H:=λ _ _ _ h=>h
theorem KeptL.trans {L:List Addr} {H H1 H2:Hp} (a:KeptL L H H1) (b:KeptL L H1 H2):KeptL L H H2:=λ c o n h=>b c o n (a c o n h)
theorem Same.keptL {L:List Addr} {H H':Hp} (s:Same H H'):KeptL L H H':=λ b o _ h=>s b o h
theorem KeptL.set {L:List Addr} {H:Hp} {l:Addr} {o:HO} (h:l∈L):KeptL L H (upd H l o):=λ b u n e=>by rw [upd_ne (λ z=>n (by rw [z];exact h))];exact e
mutual
theorem IsDt.mono' {K:b0} {H H':Hp} (s :∀a xs,SqT K H a xs->SqT K H' a xs) :∀(d:Dt) (v:V),IsDt K H d v->IsDt K H' d v
 | .non,v,h=>h
 | .bl b,v,h=>h
 | .int i,v,h=>h
 | .str z,v,h=>h
 | .tup ds,v,h=>by obtain ⟨a,xs,rfl,e,r⟩:=h;exact ⟨a,xs,rfl,s _ _ e,IsDts.mono' s ds xs r⟩
theorem IsDts.mono' {K:b0} {H H':Hp} (s :∀a xs,SqT K H a xs->SqT K H' a xs) :∀(d:List Dt) (v:List V),IsDts K H d v->IsDts K H' d v
 | [],xs,h=>h
 | d :: ds,xs,h=>by obtain ⟨x,r,rfl,a,b⟩:=h;exact ⟨x,r,rfl,IsDt.mono' s d x a,IsDts.mono' s ds r b⟩
end
theorem SqT.wrote {K:b0} {H:Hp} {l a:Addr} {o:HO} {zs xs:List V} (e:H l=some (.lst zs)) (h:SqT K H a xs):SqT K (upd H l o) a xs:=by
 rcases h with (h|⟨ob,h⟩)|h
 ·exact .inl (.inl (by rw [upd_ne (ne_of h e (by intro z;cases z))];exact h))
 ·exact .inl (.inr ⟨ob,by rw [upd_ne (ne_of h e (by intro z;cases z))];exact h⟩)
 ·exact .inr h
section
variable {prog:Program} {w:P0} {A:X1} {E:Value->B0->Prop} {s:B0}
theorem zj4 {v:Value} {Q:Value->B0->Prop} {ns:List Int} (hn:ns.length < 64)
  (hc :∀R:List Value->B0->Prop,(∀h' tk vs,(∀b o,s.heap.get? b=some o->h'.get? b=some o)->d8 vs ns->R vs { s with heap:=h',toks:=tk })->R0 (C1 prog w) A.in1 (collect v) R E s)
  (h :∀(h1 h':Heap) (tk:Nat) (out:Array Value) (ns':List Int) (e:Nat),(∀b o,s.heap.get? b=some o->h1.get? b=some o)->(∀b o,h1.get? b=some o->h'.get? b=some o)->h'.get? h1.objs.size=some { cls:=.type "list",data:=.seq out e }->d8 out.toList ns'->ns'.Perm ns->ns'.Pairwise (·<=·)->Q (.ref h1.objs.size) { s with heap:=h',toks:=tk }) :
  R0 (C1 prog w) A (call (.builtin "sorted") [v]) Q E s:=by
 refine X9 kind_sorted plain_sorted entry_sorted (args_sorted1 _) ?_;unfold j19.«sorted»;refine t0 (m:=checkCount "sorted" 1 1 _) (L0 (t0 (hc _ λ h1 tk vs j c=>?_)));have f:vs.length < 64:=by rw [c.length];exact hn
 refine t0 (wpAny_newList ?_ (C0 (G3 f) (by decide)));have a:(h1.push (seqObj "list" vs.toArray 0)).get? h1.objs.size=some (seqObj "list" vs.toArray 0):=X0 _ rfl;refine t0 (R4 (u3 slot_list_sort ⟨_,a,rfl⟩ entry_list_sort (list_sort_tree a c f λ out ns' i k g=>⟨_,rfl,?_⟩) (args_list_sort _)));obtain ⟨e,l⟩:=sortedHeap_at (out:=out) a;refine L0 ⟨_,rfl,h h1 _ tk out ns' e j (λ b o d=>?_) l i k g⟩;have lt:=S0 d;refine (sortedHeap_old (G1 lt) ?_).trans (D0 _ d);rw [size_push'];exact Y1 lt
end
section
variable {X:Cx}
def srt (ns:List Int) (H:Hp) (Q:VK):Prop:=∀(l:Addr) (ns':List Int),H l=none->ns'.Perm ns->ns'.Pairwise (·<=·)->Q (.ref l) (upd H l (.lst (ns'.map V.int)))
theorem zjy {pins:List (Addr×Obj)} {σ:St} {H:Hp} {s:B0} {Q:VK} {ns:List Int} {h1 h':Heap} {tk:Nat} {out:Array Value} {ns':List Int} {e:Nat} (I:Inv X pins σ H s) (hn:ns.length < 64) (q:srt ns H Q)
  (k1 :∀b o,s.heap.get? b=some o->h1.get? b=some o) (k2 :∀b o,h1.get? b=some o->h'.get? b=some o) (g:h'.get? h1.objs.size=some { cls:=.type "list",data:=.seq out e }) (i:d8 out.toList ns') (p:ns'.Perm ns) (r:ns'.Pairwise (·<=·)) :
  EP X pins σ Q (.ref h1.objs.size) { s with heap:=h',toks:=tk }:=by
 have a:Inv X pins σ H { s with heap:=h1 }:=I.kept (t':=s.toks) k1;refine ⟨.ref h1.objs.size,_,a.laid (t':=tk) (o:=.lst (ns'.map V.int)) k2 (A0 _) ⟨?_,out.toList,e,z7l i,by simpa using g⟩,rfl,q _ ns' (a.hok.fresh (A0 _)) p r⟩;rw [F0,p.length_eq];exact C0 (G3 hn) (by decide)
theorem z29:CallR X (.builtin "sorted") (λ xs H Q=>∃a ns,xs=[.ref a]/\(SqL X.K H a (ns.map V.int)\/SqT X.K H a (ns.map V.int))/\ns.length < 64/\srt ns H Q):=by
 intro F s σ H xs B Q I r h;obtain ⟨a,ns,rfl,b,v,q⟩:=h;obtain ⟨u,rfl,x⟩:=vals1 r;cases x;refine zj4 v (λ R w=>?_) λ G d C D E e y A g i p r=>zjy I v q y A g i p r;rcases b with b|b
 ·obtain ⟨z,c,f,m⟩:=I.list b;obtain ⟨o,t,j,n,l⟩:=f.isList;exact wpAny_collect_seq a (.inl rfl) t j l (λ d k=>w d s.toks _ k (by simpa using zad c)) (by rw [O0,<-c.length];exact m)
 ·obtain ⟨z,c,f,m⟩:=I.tuple b;obtain ⟨o,t,j,n,l⟩:=f;exact wpAny_collect_seq a (.inr rfl) t j l (λ d k=>w d s.toks _ k (by simpa using zad c)) (by rw [O0,<-c.length];exact m)
end
theorem iteP {c A B:Prop} [Decidable c] (hc:c) (h:A):if c then A else B:=by rw [if_pos hc];exact h
theorem iteN {c A B:Prop} [Decidable c] (hc:¬ c) (h:B):if c then A else B:=by rw [if_neg hc];exact h
theorem z51 (i:Int) (ns:List Int):inV (.int i) (ns.map V.int)=decide (i∈ns):=by
 unfold inV;rw [j17,Bool.eq_iff_iff,X6,decide_eq_true_eq];constructor
 ·rintro ⟨x,hx,e⟩;have e:(x == i)=true:=e;rw [beq_iff_eq] at e;exact e ▸ hx
 ·intro h;exact ⟨i,h,by show (i == i)=true;simp⟩
theorem z3a (ns:List Int):(ns.map V.int).all flatV=true:=by rw [Y6];intro x a;obtain ⟨i,_,rfl⟩:=List.mem_map.mp a;rfl
theorem zks {names:List (Str×Y4)} {n:Str} {Q:Str×Y4->Prop} (h:(names.all λ y=>y.2 != T1 || y.1 == n)=true) (q :∀k,Q (n,k)) :∀y∈names,y.2=T1->Q y:=λ y c e=>by
 have:=List.all_eq_true.mp h y c;rw [e] at this;have:(y.1 == n)=true:=by simpa using this
 obtain ⟨a,b⟩:=y;rw [beq_iff_eq] at this;have:a=n:=this;subst this;exact q b
noncomputable def CXE (P:Program) (w:P0) (base:Heap):CXT:=λ outer H s E e s'=>∃(ea:Addr) (cls a0:Value) (B:Heap) (H':Hp),e=.ref ea/\s'.os=s.os/\z7 s'.gens/\Un (frs outer) [] H H' s.heap s'.heap/\HOk P w H' s'.heap/\H' ea=none/\
 base.StaysIn B/\Heap.FlyingW B outer ea cls a0 s'.heap/\(∀b o,s'.heap.get? b=some o->b∉frs outer->((∃u,H' b=some u)\/∃u,s.heap.get? b=some u)->B.get? b=some o)/\E cls none H'
theorem passN {X:Cx}:Passes (CXE X.prog X.w X.base) X E0:=λ _ _ _ _ _ _ _ ⟨_,_,_,_,_,_,_,_,_,_,_,_,_,_,z⟩=>z.elim
theorem PS.nox {X:Cx} {st:Stmt} {t:TS} (h:PS X.nox st t):PS X st t:=λ b s σ H D I a=>m3 (h b s σ H D (I.wish _) a) (λ _ _ q=>q.unwish) λ _ _ z=>C3 z
section
variable {P:Program} {w:P0} {K:b0} {mg:Str->Option Value} {base:Heap} {N:List Str} {qual:Str} {scope:Scope} {f:Addr} {cd:Value} {A:X1} {outer:List Env} {s:B0} {H:Hp} {E:XK}
theorem Fun.okE {x qual:Str} {st:Stmt} {f:Addr} {fd:FuncData} {N ps:List Str} {k:Nat} {sp:Sp} (F:Fun K x qual st f fd) (S:FnScope N ps (z06 st)) (len :∀vs H Q E,sp vs H Q E->vs.length=ps.length)
  (hbody :∀(cdv:Value) (A:X1) (outer:List Env) (s:B0) (H:Hp) (vs:List V) (Q:VK) (E:XK),Room k (A.deeper (Y7 qual (z06 st) s.heap.objs.size f cdv))->sp vs H Q E->
   ∃t,PSs (cxOf (CXE P w base) P w K mg base N qual (z06 st) f cdv A outer s H E) (z6i st) t/\t { nx:=λ _ H'=>Q .non H',rt:=Q } (start N vs) H):FnOk P w K mg base (CXE P w base) (k + 1) f fd ps sp:=by
 obtain ⟨m,i,kV,j,g,l,cdv,e,h,rfl,d,a⟩:=F.ex;exact fn_of d a S len λ A outer s H vs Q E c b=>hbody cdv A outer s H vs Q E c b
end
structure CalE (P:Program) (w:P0) (K:b0) (mg:Str->Option Value) (base:Heap) (x:Str) (ps:List Str) (k:Nat) (sp:Sp):Prop where
 ex :∃f fd,FnOk P w K mg base (CXE P w base) k f fd ps sp/\mg x=some (.ref f)/\V2 K (.ref f)=true/\Binds K fd ps []
end L2
set_option maxHeartbeats 400000
namespace L2
open PySem PySem.Spec PyProof.Rows PySem.W PySem.Calls PySem.Builtin PySem.Builtin.ObjectAttr PySem.Builtin.Getset_descriptor
end L2
namespace L2
open PySem PySem.Spec PyProof.Rows PySem.W
end L2
namespace L2
open PySem PySem.Spec PyProof.Rows
end L2
set_option maxHeartbeats 4000000
namespace L2
open PySem PySem.Spec PyProof.Rows
noncomputable def cStG (σ:St) (fr:List (Nat×Str)) (us:List (Option V)):St:=us++fr.map λ p=>(σ[p.1]?).join
noncomputable def tCompG (wi:TI) (n:Nat) (fr:List (Nat×Str)) (g:TG) (tc:TT) (te:TE):TE:=λ σ H Q=>wi σ H λ J H1=>∃W:Nat->Nat->List V->Hp->Prop,(∃m,W 0 m [] H1)/\∀i m ys H,W i m ys H->
 (J.stop i H/\ys.length<=sizeLine/\∀p,H p=none->Q (.ref p) (upd H p (.lst ys)))\/
 (J.go i H/\ys.length<=sizeLine/\∀v H',J.yld i H v H'->g v (cStG σ fr (S1 n none)) H' λ σ6 H6=>∃us,us.length=n/\σ6=cStG σ fr us/\tc (cStG σ fr us) H6 λ b H2=>if b=true then te (cStG σ fr us) H2 λ y H3=>∃m',m' < m/\W (i + 1) m' (ys++[y]) H3 else∃m',m' < m/\W (i + 1) m' ys H2)
section
variable {X:Cx}
theorem zis {scope:Scope} {cl:List (Str×Addr)} {N:List Str} {C:Addr} {s₂:B0} {H₂:Hp} {fp:List Addr} {x:Str} {px:Pos} (i:Nat) (hN:N.Nodup) (hi:N[i]? = some x) (hx:scope.names.lookup x=some .local):PG (cxComp X scope cl N C s₂ H₂ fp) (.Name x px) (gName i):=
 z0h hN hi (.inl (lookup_relabel_local hx)) (.inr (lookup_relabel_local hx))
theorem zf5 {xs:List Str} {tg:Expr} {g:TG} {pos:Pos} {elt iter:Expr} {ifs:List Expr} {scope:Scope} {fr:List (Nat×Str)} {wi:TI} {tc:TT} {te:TE} {use:Option (Value->Sem Unit)} {QQ:Value->B0->Prop} {pins:List (Addr×Obj)} {s:B0} {σ:St} {H:Hp} {Q:VK} {pp:Pos} (hcalm:X.calm=true) (hi:PI X tg iter wi)
  (hfr :∀p∈fr,X.N[p.1]? = some p.2/\(X.env.kindOf p.2=some .cell\/X.env.kindOf p.2=some .free))
  (hfree :∀y∈scope.names,y.2=T1->X.env.kindOf y.1=some .cell\/X.env.kindOf y.1=some .free)
  (hfs :∀p∈fr,(p.2,T1)∈scope.names/\((g7 scope X.env).names.lookup p.2=some .cell\/(g7 scope X.env).names.lookup p.2=some .free))
  (hcell :∀y∈scope.names,y.2≠NameKind.cell) (hkind:scope.kind=.function) (hnames :∀y∈scope.names,y.2=NameKind.local->scope.names.lookup y.1=some .local)
  (hg :∀cl C s₂ H₂ fp,PG (cxComp X scope cl (xs++fr.map (·.2)) C s₂ H₂ fp) tg g)
  (ht :∀cl C s₂ H₂ fp,PF (cxComp X scope cl (xs++fr.map (·.2)) C s₂ H₂ fp) ifs tc) (he :∀cl C s₂ H₂ fp,PE (cxComp X scope cl (xs++fr.map (·.2)) C s₂ H₂ fp) elt te)
  (hs :∀x,T4 iter X.env x=X2 x) (I:Inv X pins σ H s) (h:tCompG wi xs.length fr g tc te σ H Q)
  (hend :∀(D:Addr) (s4:B0) (H4:Hp),Inv X pins σ H4 s4->(∃m,s4.heap.Ns (D + 1) m)->H4 (D + 1)=none->D + 1≠X.env.locals->X.s₀.heap.objs.size<=D + 1->(D + 1∉X.fs/\(∀x c,X.env.cells.lookup x=some c->c≠D + 1)/\∀p∈X.pn++pins,p.1≠D + 1)->Q (.ref D) H4->compPost (C1 X.prog X.w) X.A X.xe use QQ (.ref D) (D + 1) (.ok .next) s4) :
  R0 (C1 X.prog X.w) X.A (comprehension (.ListComp elt [⟨tg,iter,ifs,0⟩] scope pos) scope X.env pp (newList []) false (firstIter [⟨tg,iter,ifs,0⟩] X.env) use) QQ X.xe s:=by
 obtain ⟨cl,d6,U,b2⟩:=zf6 (scope:=scope) (env:=X.env) λ y P hk=>I.ok.has y.1 (hfree y P hk);refine wpAny_comprehension_free (use:=use) rfl hs d6 hkind hnames (thn (hi pins s σ H _ I h) λ xv s₁ h₁=>thn h₁ λ g2 s₂ h₂=>?_);obtain ⟨it,fp,tn,J,L,e,f,T,b8,M,W,⟨m0,w0⟩,d9⟩:=h₂;subst e
 -- the list that is filled,the block's names
 refine Q2 (wpAny_newFunctionEnv hcell (by intro y P;simp at P) (λ h₁ a4 a3=>?_) hkind);dsimp only at a4 a3⊢;generalize hD:s₂.heap.objs.size=D at a4 a3⊢;generalize hG:s₂.heap.push { cls:=.type "list",dict:=none,data:=.seq ([]:List Value).toArray }=G at a4 a3⊢;have hC:G.objs.size=D + 1:=by rw [<-hG,N3,hD]
 generalize hCC:G.objs.size=C at a4 a3 hC⊢;subst hC;have a7 :∀b∈fp,b < D:=λ b a=>by obtain ⟨o,e,_⟩:=T.obj _ _ b8 b a;rw [<-hD];exact S0 e
 have a2 :∀b o,s₂.heap.get? b=some o->h₁.get? b=some o:=λ b o e=>a3.extBut b o (G1 (Y1 (by rw [<-hD];exact S0 e))) (D0 _ (hG ▸ D0 _ e));have d5:G.get? D=some { cls:=.type "list",dict:=none,data:=.seq ([]:List Value).toArray }:=by rw [<-hG,<-hD];exact X0 _ rfl
 have f3:h₁.PlainList D #[]:=⟨0,a3.extBut _ _ (G1 (B2 D)) (D0 _ d5)⟩
 have g0 :∀y c,cl.lookup y=some c->c < D:=λ y c e=>by obtain ⟨v,q⟩:=f.cell y c (U y c e);rw [<-hD];exact q.lt
 have f1 :∀b∈frs X.stack,b < D:=λ b a=>by
  rcases List.mem_cons.mp (f.stkSub b a) with e|a
  ·rw [e,<-hD];exact f.lt
  ·rw [<-hD];exact Nat.lt_of_not_le λ z=>f.nofs z a
 have d0 :∀b∈fp,b∉frs X.stack:=λ b a f8=>by
  rcases List.mem_cons.mp (f.stkSub b f8) with e|z
  ·exact (M b a).2.1 e
  ·exact (M b a).2.2.1 z
 generalize hX':cxComp X scope cl (xs++fr.map (·.2)) (D + 1) s₂ L fp=X';have e4:X'.Ok:=by
  subst hX';refine ⟨f.ok.mod,hkind,f.ok.glob,f.ok.blt,(by show s₂.heap.objs.size<=D + 1;omega),λ y z c S O=>f.ok.inj y z c (U _ _ S) (U _ _ O),λ y P=>?_,(λ _ _ z=>Bool.noConfusion z),f.ok.hd,f.ok.frames,.inl rfl,λ b a=>⟨?_,λ y c e=>?_⟩,λ b o e=>f.bs b o e,?_,λ b o e a=>?_,d0,f.env0.funs,f.stkFree⟩
  ·rcases P with P|P
   ·exact b2 y (z5w hcell P (.inl rfl))
   ·exact b2 y (z5w hcell P (.inr rfl))
  ·exact G1 (Y1 (a7 b a))
  ·exact (M b a).2.2.2.2.1 y c (U y c e)
  ·exact C0 f.ok.bsz f.sz
  ·rcases (M b a).2.2.2.1 with z|z
   ·exact f.ok.noex b o e z
   ·exact absurd (u1 (S0 (f.ok.bs b o e).1) z) (J3 _)
 have a0:X'.env.locals=D + 1:=by subst hX';rfl
 have a6:X'.env.cells=cl:=by subst hX';rfl
 have a9:X'.fs=frs X.stack:=by subst hX';rfl
 have b9:X'.pn=[]:=by subst hX';rfl
 have a5:X'.s₀=s₂:=by subst hX';rfl
 have c4:X'.H₀=L:=by subst hX';rfl
 have b3:X'.ex=fp:=by subst hX';rfl
 have d1:X'.N=xs++fr.map (·.2):=by subst hX';rfl
 have c7:X'.A=X.A:=by subst hX';rfl
 have E:X'.prog=X.prog/\X'.w=X.w/\X'.K=X.K/\X'.calm=true:=by subst hX';exact ⟨rfl,rfl,rfl,hcalm⟩
 have b4:X'.xe=λ _ _=>False:=by subst hX';rfl
 have c9:X'.env=compEnvC scope cl (D + 1) X.env:=by subst hX';rfl
 have e5:PF X' ifs tc:=hX' ▸ ht cl (D + 1) s₂ L fp;have d7:PE X' elt te:=hX' ▸ he cl (D + 1) s₂ L fp;have d8:PG X' tg g:=hX' ▸ hg cl (D + 1) s₂ L fp;have fresh :∀b,D<=b->L b=none:=λ b a=>f.hok.fresh (by rw [hD];exact a);have start :∀t,Inv X' [] (cStG σ fr (S1 xs.length none)) L { s₂ with heap:=h₁,toks:=t }:=λ t=>by
  refine ⟨e4,by rw [a5],f.bare,?_,⟨_,by rw [a0];exact a4,λ i y v S O e3=>?_⟩,λ y c e=>?_,by rw [a0];exact fresh _ (A3 _),λ y c e=>?_,λ p B=>?_,?_,?_⟩
  ·rw [a9,b3,c4,a5];exact Un.kept a2
  ·rw [d1] at S;by_cases a1:i < xs.length
   ·exfalso;unfold cStG at O;rw [B1 (by rw [i3];exact a1),V6,if_pos a1] at O;cases O
   ·have a1:xs.length<=i:=m9 a1;rw [O1 a1,A1] at S;unfold cStG at O;rw [O1 (by rw [i3];exact a1),i3,A1] at O;generalize i - xs.length=i at S O;cases ej:fr[i]? with
    | none=>rw [ej] at S;cases S
    | some p=>
     rw [ej] at S;obtain rfl:p.2=y:=Q1 S;have b1:(σ[p.1]?).join=some v:=by rw [ej] at O;exact Q1 O
     have f9:σ[p.1]? = some (some v):=by
      cases q:σ[p.1]? with
      | none=>rw [q] at b1;cases b1
      | some z=>rw [q] at b1;exact congrArg some b1
     have B:=Q0 ej;obtain ⟨m,hn,hl⟩:=f.loc;obtain ⟨u,r,l⟩:=hl p.1 p.2 v (hfr p B).1 f9 (by rcases (hfr p B).2 with z|z;exact .inr (.inl z);exact .inr (.inr z));refine ⟨u,r,.inr ⟨?_,?_⟩⟩
     ·rw [c9];exact (hfs p B).2
     ·rcases l with ⟨z,_⟩|⟨_,c,ec,q⟩
      ·exfalso;rcases (hfr p B).2 with z'|z'<;>(rw [z] at z';cases z')
      ·obtain ⟨c',c3⟩:=b2 p.2 (hfs p B).1;have:=U _ _ c3;rw [ec] at this;cases this;obtain ⟨o,ho,hd⟩:=q;exact ⟨c,by rw [a6];exact c3,o,a2 _ _ ho,hd⟩
  ·rw [a6] at e;obtain ⟨v,o,ho,hd⟩:=f.cell y c (U y c e);exact ⟨v,o,a2 _ _ ho,hd⟩
  ·rw [a6] at e;exact f.freeC y c (U y c e)
  ·rw [b9] at B;exact nomatch B
  ·rw [E.1,E.2.1];exact f.hok.kept a2
  ·rw [d1];unfold cStG;simp
 have FP :∀{pins':List (Addr×Obj)} {H':Hp},(∀b∈fp,H' b=none)->(∀p∈pins',p.1=D)->∀b∈fp,FpOk X' pins' H' b:=λ hn B b a=>by
  refine ⟨hn b a,?_,?_,.inl (by rw [b3];exact a),λ y c e=>?_,λ p c2=>?_⟩
  ·rw [a0];exact G1 (Y1 (a7 b a))
  ·rw [a9];exact d0 b a
  ·rw [a6] at e;exact (M b a).2.2.2.2.1 y c (U y c e)
  ·rw [b9] at c2;rw [B p c2];exact U3 (a7 b a)
 -- the turns
 have loop :∀s₃:B0,s₃={ s₂ with heap:=h₁,toks:=s₂.toks + ([]:List (Str×Value)).length }->
   Q8 (C1 X.prog X.w) X.A (.compLoop (.ListComp elt [⟨tg,iter,ifs,0⟩] scope pos) 0 (.ref it) (.ref D) (compEnvC scope cl (D + 1) X.env))
    (compPost (C1 X.prog X.w) X.A X.xe use QQ (.ref D) (D + 1)) s₃:=by
  rintro s₃ rfl;rw [<-c9,<-E.1,<-E.2.1,<-c7];refine zh3 (λ k s'=>∃i ys its H',Inv X' [] (cStG σ fr (S1 xs.length none)) H' s'/\tn i s'.heap/\(∀b∈fp,H' b=none)/\s'.heap.PlainList D its.toArray/\Vals ys its/\H' D=none/\W i k ys H') ?_ m0
   ⟨0,[],[],L,start _,T.keep _ _ _ b8 λ b a o e=>a2 b o e,λ b a=>(M b a).1,f3,.nil,fresh _ (A0 _),w0⟩
  rintro n s3 ⟨i,ys,its,H3,I3,st3,fr3,ac3,rv3,hD3,w3⟩;obtain ⟨na,e0⟩:=id ac3;have c8:Inv X' [(D,{ cls:=.type "list",data:=.seq its.toArray na })] (cStG σ fr (S1 xs.length none)) H3 s3:=I3.pins_of λ p B=>by rw [List.mem_singleton] at B;subst B;refine ⟨e0,hD3,by rw [a0];exact G1 (B2 D),by rw [a9];exact λ z=>J3 _ (f1 D z),λ v z=>nomatch z⟩
  have hT:=T;rw [<-E.1,<-E.2.1,<-E.2.2.1] at hT;rcases d9 i n ys H3 w3 with ⟨f7,b5,qn⟩|⟨go,b5,step⟩
  ·refine thn (hT.done X' rfl rfl rfl E.2.2.2 i _ s3 _ H3 _ c8 (FP fr3 (by intro p B;rw [List.mem_singleton.mp B])) st3 f7) λ r s4 ⟨hr,I4⟩=>?_;subst hr;obtain ⟨m4,d3,_⟩:=id I4.loc;obtain ⟨Y,c1⟩ :∃Y,Y=s4.heap:=⟨_,rfl⟩
   have d2:z5 (D + 1) s4.heap Y:=by rw [c1];exact ⟨rfl,λ _ _=>rfl⟩
   have g1:D≠D + 1:=G1 (B2 D);have e8:=(I4.pin (D,_) (K1 _ j1))
   have f6:Y.get? D=some { cls:=.type "list",data:=.seq its.toArray na }:=(d2.2 D g1).trans e8.1;have un:Un (frs X.stack) fp L H3 s₂.heap s4.heap:=by have:=I4.base;rw [a9,b3,c4,a5] at this;exact this
   have kp :∀b o,b≠D + 1->s4.heap.get? b=some o->Y.get? b=some o:=λ b o a e=>(d2.2 b a).trans e;have a8 :∀b o,s₂.heap.get? b=some o->b≠D + 1/\b≠D:=λ b o e=>by have:=S0 e;rw [hD] at this;exact ⟨G1 (Y1 this),G1 this⟩
   have d4:Un (frs X.stack) fp L (upd H3 D (.lst ys)) s₂.heap Y:=by
    refine ⟨λ b o e n a Z=>kp b o (a8 b o e).1 (un.keep b o e n a Z),λ b o e n a Z=>?_,λ b o e n Z=>by rw [upd_ne (a8 b o e).2];exact un.free b o e n Z,λ b o e Z=>?_,λ b xs e=>?_,λ b o u e=>?_,λ b ps e=>?_⟩
    ·obtain ⟨sl,z⟩:=un.slot b o e n a Z;exact ⟨sl,kp _ _ (a8 b o e).1 z⟩
    ·obtain ⟨o',z⟩:=un.there b o e Z;exact ⟨o',kp _ _ (a8 b o e).1 z⟩
    ·rw [upd_ne (z07 e (fresh D (A0 _)))];exact un.tups b xs e
    ·rw [upd_ne (z07 e (fresh D (A0 _)))];exact un.frzs b o u e
    ·rw [upd_ne (z07 e (fresh D (A0 _)))];exact un.tbls b ps e
   have b7:H3 (D + 1)=none:=by have:=I4.free;rw [a0] at this;exact this
   have f4:HOk X.prog X.w (upd H3 D (.lst ys)) Y:=λ b u e=>by
    by_cases a:b=D
    ·subst a;rw [upd_same] at e;cases e;exact ⟨b5,its,na,rv3,f6⟩
    ·rw [upd_ne a] at e;have z:=I4.hok b u e;rw [E.1,E.2.1] at z;refine z.stay (λ c v hc q=>kp c v ?_ q) (λ c q=>by rw [upd_ne (z07 q hD3)];exact q) λ c xs q=>by rw [upd_ne (z07 q hD3)];exact q
     rintro rfl;rcases hc with rfl|hc
     ·rw [b7] at e;cases e
     ·rw [b7] at hc;cases hc
   subst c1;have I5:Inv X pins σ (upd H3 D (.lst ys)) s4:=f.call' (s':=s4) (ch:=fp) (by have:=I4.os;rw [a5] at this;exact this) d4 f4 I4.bare (λ b a=>⟨(M b a).2.2.2.1,(M b a).2.1,(M b a).2.2.2.2.1,(M b a).2.2.2.2.2⟩);show compPost (C1 X'.prog X'.w) X'.A X.xe use QQ (.ref D) (D + 1) (.ok .next) s4;rw [E.1,E.2.1,c7];refine hend D s4 _ I5 ⟨m4,a0 ▸ d3⟩ ?_ ?_ ?_ ?_ (qn D hD3)
   ·rw [upd_ne (U3 (B2 D))];exact b7
   ·exact U3 (Y1 (by rw [<-hD];exact f.lt))
   ·exact C0 f.sz (by rw [hD];exact A3 D)
   ·refine ⟨λ z=>f.nofs (by rw [hD];exact A3 D) z,λ y c e=>?_,λ p B=>?_⟩
    ·obtain ⟨v,q⟩:=f.cell y c e;exact G1 (Y1 (by rw [<-hD];exact q.lt))
    ·exact G1 (Y1 (by rw [<-hD];exact S0 (f.pin p B).1))
  ·refine thn (hT.item X' rfl rfl rfl E.2.2.2 i _ s3 _ H3 _ c8 (FP fr3 (by intro p B;rw [List.mem_singleton.mp B])) st3 go) λ r s4 ⟨u,hr,h4⟩=>?_;subst hr;refine thn h4 λ _ s5 ⟨v,H5,I5,r5,y5,st5,fr5⟩=>?_;have e7:=I5.pinned (FP fr5 (by intro p B;rw [List.mem_singleton.mp B])) (T.obj _ _ st5);have g5:=d8 _ s5 (cStG σ fr (S1 xs.length none)) H5 v u _ e7 r5 (step v H5 y5);rw [b4] at g5;refine thn g5 λ _ s6 ⟨σ6,H6,I6,us,hus,e6,q6⟩=>?_;subst e6;have t6:=e5 _ s6 _ H6 _ I6 q6;rw [b4] at t6;refine thn t6 λ ok s7 ⟨H7,I7,q7⟩=>?_;have c5 :∀{H8:Hp} {F:B0} {ys':List V} {its':List Value} {pl:List (Addr×Obj)},Inv X' (pl++pinsAt fp s5.heap) (cStG σ fr us) H8 F->F.heap.PlainList D its'.toArray->Vals ys' its'->H8 D=none->(∃m',m' < n/\W (i + 1) m' ys' H8)->
     ∃m,m < n/\∃i ys its H',Inv X' [] (cStG σ fr (S1 xs.length none)) H' F/\tn i F.heap/\(∀b∈fp,H' b=none)/\F.heap.PlainList D its.toArray/\Vals ys its/\H' D=none/\W i m ys H':=λ {H8 F ys' its' pl} R b6 rv8 b0 ⟨m',hm,w8⟩=>by
    refine ⟨m',hm,i + 1,ys',its',H8,(R.pins_of (pins':=[]) (λ p B=>absurd B u0)).weak (by unfold cStG;simp [hus]) ?_,T.keep _ _ _ st5 λ b a o e=>(R.pin (b,o) (K1 _ (K1 _ (z46 a e)))).1,λ b a=>?_,b6,rv8,b0,w8⟩
    ·intro j z e;unfold cStG at e⊢;by_cases hj:j < xs.length
     ·rw [B1 (by rw [i3];exact hj),V6,if_pos hj] at e;cases e
     ·have hj:xs.length<=j:=m9 hj;rw [O1 (by rw [i3];exact hj),i3] at e;rw [O1 (by rw [hus];exact hj),hus];exact e
    ·obtain ⟨o,e,d⟩:=T.obj _ _ st5 b a;exact (R.pin (b,o) (K1 _ (K1 _ (z46 a e)))).2.1
   have c0 :∀{H8:Hp} {F:B0} {σ8:St},Inv X' ([(D,{ cls:=.type "list",data:=.seq its.toArray na })]++pinsAt fp s5.heap) σ8 H8 F->F.heap.PlainList D its.toArray/\H8 D=none:=λ R=>
    have z:=R.pin (D,_) (K1 _ (Q5 _ j1))
    ⟨⟨na,z.1⟩,z.2.1⟩
   cases ok with
   | false=>rw [if_neg M0] at q7⊢;exact c5 I7 (c0 I7).1 rv3 (c0 I7).2 q7
   | true=>
    rw [if_pos rfl] at q7⊢;have t7:=d7 _ s7 _ H7 _ I7 q7;rw [b4] at t7;refine thn t7 λ y F ⟨vy,H8,R,r8,q8⟩=>?_;obtain ⟨b6,b0⟩:=c0 R;refine wpAny_list_append_plain (hsz:=by have:=rv3.length;rw [O0,<-this];exact b5) b6 λ h9 c6 f0=>?_;have I9:Inv X' ([]++pinsAt fp s5.heap) (cStG σ fr us) H8 F:=R.pins_of λ p B=>(R.pin p (K1 _ (K1 _ B)))
    have f5:Inv X' ([]++pinsAt fp s5.heap) (cStG σ fr us) H8 { F with heap:=h9 }:=by
     refine I9.turned (t':=F.toks) (it:=D) (λ b o a e=>(f0.2 b a).trans e) b0 (by rw [a0];exact G1 (B2 D)) (.inr (by rw [a5,hD];exact A0 _)) (λ y' c e=>?_) λ p B=>?_
     ·rw [a6] at e;exact G1 (g0 y' c e)
     ·rw [b9] at B;exact G1 (a7 _ (zci B).1)
    have e9:its.toArray.push y=(its++[y]).toArray:=by simp
    rw [e9] at c6;exact c5 f5 c6 (rv3.snoc r8) b0 q8
 exact codeAny_compStart_list (loop _ rfl) (T.self _ 0 _ _ _ (T.keep _ _ _ b8 λ b a o e=>a2 b o e) (loop _ rfl))
theorem ze6 {xs:List Str} {tg:Expr} {g:TG} {pos:Pos} {elt iter:Expr} {ifs:List Expr} {scope:Scope} {fr:List (Nat×Str)} {wi:TI} {tc:TT} {te:TE} (hcalm:X.calm=true) (hi:PI X tg iter wi)
  (hfr :∀p∈fr,X.N[p.1]? = some p.2/\(X.env.kindOf p.2=some .cell\/X.env.kindOf p.2=some .free))
  (hfree :∀y∈scope.names,y.2=T1->X.env.kindOf y.1=some .cell\/X.env.kindOf y.1=some .free)
  (hfs :∀p∈fr,(p.2,T1)∈scope.names/\((g7 scope X.env).names.lookup p.2=some .cell\/(g7 scope X.env).names.lookup p.2=some .free))
  (hcell :∀y∈scope.names,y.2≠NameKind.cell) (hkind:scope.kind=.function) (hnames :∀y∈scope.names,y.2=NameKind.local->scope.names.lookup y.1=some .local)
  (hg :∀cl C s₂ H₂ fp,PG (cxComp X scope cl (xs++fr.map (·.2)) C s₂ H₂ fp) tg g)
  (ht :∀cl C s₂ H₂ fp,PF (cxComp X scope cl (xs++fr.map (·.2)) C s₂ H₂ fp) ifs tc) (he :∀cl C s₂ H₂ fp,PE (cxComp X scope cl (xs++fr.map (·.2)) C s₂ H₂ fp) elt te)
  (hs :∀x,T4 iter X.env x=X2 x:=by intro _;rfl):PE X (.ListComp elt [⟨tg,iter,ifs,0⟩] scope pos) (tCompG wi xs.length fr g tc te):=by
 intro r s σ H Q I h;rw [eval_ListComp];refine zf5 hcalm hi hfr hfree hfs hcell hkind hnames hg ht he hs I h λ D d k f a j i l ⟨c,hc,hp⟩ q=>?_;obtain ⟨m,a⟩:=a;exact ⟨m,a,λ t n=>⟨.ref D,k,f.turned (t':=d.toks) (it:=D + 1) (λ b o c e=>(n.2 b c).trans e) j i (.inr l) hc hp,rfl,q⟩⟩
theorem zki {xs:List Str} {tg:Expr} {g:TG} {pos:Pos} {elt iter:Expr} {ifs:List Expr} {scope:Scope} {fr:List (Nat×Str)} {wi:TI} {tc:TT} {te:TE} {i:Nat} {y:Str} {py spos:Pos} (hNy:X.N.Nodup) (hiy:X.N[i]? = some y) (hy:Loc X.env.scope y) (hcalm:X.calm=true) (hi:PI X tg iter wi)
  (hfr :∀p∈fr,X.N[p.1]? = some p.2/\(X.env.kindOf p.2=some .cell\/X.env.kindOf p.2=some .free))
  (hfree :∀y∈scope.names,y.2=T1->X.env.kindOf y.1=some .cell\/X.env.kindOf y.1=some .free)
  (hfs :∀p∈fr,(p.2,T1)∈scope.names/\((g7 scope X.env).names.lookup p.2=some .cell\/(g7 scope X.env).names.lookup p.2=some .free))
  (hcell :∀y∈scope.names,y.2≠NameKind.cell) (hkind:scope.kind=.function) (hnames :∀y∈scope.names,y.2=NameKind.local->scope.names.lookup y.1=some .local)
  (hg :∀cl C s₂ H₂ fp,PG (cxComp X scope cl (xs++fr.map (·.2)) C s₂ H₂ fp) tg g)
  (ht :∀cl C s₂ H₂ fp,PF (cxComp X scope cl (xs++fr.map (·.2)) C s₂ H₂ fp) ifs tc) (he :∀cl C s₂ H₂ fp,PE (cxComp X scope cl (xs++fr.map (·.2)) C s₂ H₂ fp) elt te)
  (hs :∀x,T4 iter X.env x=X2 x:=by intro _;rfl) (hw:V5 (.ListComp elt [⟨tg,iter,ifs,0⟩] scope pos) (some (.Name y py)) spos.line X.env=X2 true:=by rfl) (hf:X.fn y=true\/X.env.scope.names.lookup y=some .local:=by first|exact .inl rfl|exact .inr rfl|assumption) :
  PS X (.Assign [.Name y py] (.ListComp elt [⟨tg,iter,ifs,0⟩] scope pos) spos) (tAsg (tCompG wi xs.length fr g tc te) (gName i)):=by
 intro r s σ H D I h;rw [exec_Assign_Name_used y py _ spos hw];refine t0 (wpAny_standAt (t0 ?_));show R0 _ _ (do let _ <-comprehension (.ListComp elt [⟨tg,iter,ifs,0⟩] scope pos) scope X.env (firstIterPos [⟨tg,iter,ifs,0⟩] pos) (newList []) (firstAsync [⟨tg,iter,ifs,0⟩]) (firstIter [⟨tg,iter,ifs,0⟩] X.env) (some (assign (.Name y py) X.env));X2 ()) _ _ _;refine t0 (zf5 hcalm hi hfr hfree hfs hcell hkind hnames hg ht he hs I h λ A f n j c K k J ⟨d,hc,hp⟩ q=>?_);obtain ⟨m,c⟩:=c;obtain ⟨o,w,L,M,t,G,E⟩:=c;have F:Inv X ((A + 1,o) :: r) σ n f:=j.pins_of λ p a=>by
  rcases List.mem_cons.mp a with rfl|a
  ·exact ⟨M,K,k,d,λ v z=>by rw [t] at z;cases z⟩
  ·exact j.pin p (K1 _ a)
 refine thn (z0h (pos:=py) hNy hiy hy hf _ f σ n (.ref A) (.ref A) D.nx F rfl q) λ _ u ⟨σ5,H5,I6,q6⟩=>?_;have l:=I6.pin (A + 1,o) (K1 _ j1);have B:Inv X r σ5 H5 u:=I6.pins_of λ p a=>I6.pin p (K1 _ (Z0 _ a));refine ⟨m,⟨o,w,L,l.1,t,G,E⟩,λ P O=>?_⟩;exact L0 (L0 ⟨σ5,H5,B.turned (t':=u.toks) (it:=A + 1) (λ b o d e=>(O.2 b d).trans e) l.2.1 k (.inr J) hc hp,q6⟩)
end
end L2
set_option maxHeartbeats 400000
namespace L2
open PySem PySem.Spec PyProof.Rows
theorem zg1 {t rest:TS} {D:Ends} {σ:St} {H:Hp} (R:St->Hp->Prop) (hr :∀σ1 H1,R σ1 H1->rest D σ1 H1) (h:(∀σ1 H1,R σ1 H1->rest D σ1 H1)->t { D with nx:=rest D } σ H):tSeq t rest D σ H:=h hr
theorem z0s {te:TE} {g:TG} {rest:TS} {D:Ends} {σ:St} {H:Hp} (h:te σ H λ x H1=>g x σ H1 (rest D)):tSeq (tAsg te g) rest D σ H:=h
structure Runs (J:It) (H1:Hp) (n:Nat) (Item:Nat->V->Hp->Prop):Prop where
 go :∀i,i < n->∀H,Same H1 H->J.go i H
 stop :∀H,Same H1 H->J.stop n H
 item :∀i,i < n->∀H v H',Same H1 H->J.yld i H v H'->Same H H'/\Item i v H'
theorem z0u (p:Nat->Bool) (n:Nat):(N1 (n + 1)).filter p=(N1 n).filter p++(if p n=true then [n] else []):=by rw [L7,o6,d4];cases p n<;>rfl
inductive All2 {α β:Type} (R:α->β->Prop):List α->List β->Prop
 | nil:All2 R [] []
 | cons {a:α} {b:β} {xs:List α} {ys:List β}:R a b->All2 R xs ys->All2 R (a :: xs) (b :: ys)
theorem z3p {α β:Type} {R:α->β->Prop} :∀{xs:List α} {ys:List β} {x:α} {y:β},All2 R xs ys->R x y->All2 R (xs++[x]) (ys++[y])
 | [],_,x,y,.nil,h=>.cons h .nil
 | _ :: _,_,x,y,.cons a r,h=>.cons a (z3p r h)
theorem z01 {α β:Type} {R S:α->β->Prop} (h :∀a b,R a b->S a b) :∀{xs:List α} {ys:List β},All2 R xs ys->All2 S xs ys
 | [],_,.nil=>.nil
 | _ :: _,_,.cons a r=>.cons (h _ _ a) (z01 h r)
theorem z03 {α β:Type} {R:α->β->Prop} :∀{xs:List α} {ys:List β},All2 R xs ys->ys.length=xs.length
 | [],_,.nil=>rfl
 | _ :: _,_,.cons _ r=>congrArg (· + 1) (z03 r)
theorem z50 {α β:Type} {f:α->β} :∀{xs:List α} {ys:List β},All2 (λ x y=>y=f x) xs ys->ys=xs.map f
 | [],_,.nil=>rfl
 | _ :: _,_,.cons a r=>by rw [Y0,z50 r,a]
theorem zfy {J:It} {H1:Hp} {n m:Nat} {Item:Nat->V->Hp->Prop} {fr:List (Nat×Str)} {g:TG} {tc:TT} {te:TE} {σ:St} {Q:VK} (p:Nat->Bool) (R:Nat->V->Hp->Prop) (hR :∀i y H H',Same H H'->R i y H->R i y H') (r:Runs J H1 n Item) (hn:n<=sizeLine)
  (body :∀i,i < n->∀v H,Same H1 H->Item i v H->∀(KT:VK) (KF:Hp->Prop),(p i=true->∀y H',Same H H'->R i y H'->KT y H')->(p i=false->∀H',Same H H'->KF H')->
   g v (cStG σ fr (S1 m none)) H λ σ6 H6=>∃us,us.length=m/\σ6=cStG σ fr us/\tc (cStG σ fr us) H6 λ b H2=>if b=true then te (cStG σ fr us) H2 KT else KF H2)
  (hQ :∀l H' ys,Same H1 H'->H' l=none->All2 (λ i y=>R i y H') ((N1 n).filter p) ys->Q (.ref l) (upd H' l (.lst ys))) :
  ∃W:Nat->Nat->List V->Hp->Prop,(∃m,W 0 m [] H1)/\∀i k ys H,W i k ys H->
   (J.stop i H/\ys.length<=sizeLine/\∀p,H p=none->Q (.ref p) (upd H p (.lst ys)))\/
   (J.go i H/\ys.length<=sizeLine/\∀v H',J.yld i H v H'->g v (cStG σ fr (S1 m none)) H' λ σ6 H6=>∃us,us.length=m/\σ6=cStG σ fr us/\tc (cStG σ fr us) H6 λ b H2=>if b=true then te (cStG σ fr us) H2 λ y H3=>∃m',m' < k/\W (i + 1) m' (ys++[y]) H3 else∃m',m' < k/\W (i + 1) m' ys H2):=by
 refine ⟨λ i k ys H'=>k=n - i/\i<=n/\Same H1 H'/\All2 (λ i y=>R i y H') ((N1 i).filter p) ys,⟨n,by simp,Z1 _,Same.refl H1,.nil⟩,?_⟩;rintro i k ys H' ⟨rfl,hi,sm,fa⟩;have h:ys.length<=sizeLine:=by rw [z03 fa];have:=P2 p (N1 i);rw [E2] at this;omega
 by_cases hlt:i < n
 ·refine .inr ⟨r.go i hlt H' sm,h,λ v H2 y=>?_⟩;obtain ⟨c,o⟩:=r.item i hlt H' v H2 sm y;refine body i hlt v H2 (sm.trans c) o _ _ (λ f y H3 d j=>⟨n - (i + 1),by omega,rfl,hlt,(sm.trans c).trans d,?_⟩) (λ f H3 d=>⟨n - (i + 1),by omega,rfl,hlt,(sm.trans c).trans d,?_⟩)
  ·rw [z0u,if_pos f];exact z3p (z01 (λ a b z=>hR a b _ _ (c.trans d) z) fa) j
  ·rw [z0u,if_neg (by rw [f];decide),j2];exact z01 (λ a b z=>hR a b _ _ (c.trans d) z) fa
 ·have e:i=n:=by omega
  subst e;exact .inl ⟨r.stop H' sm,h,λ l q=>hQ l H' ys sm q fa⟩
theorem zh9 {K:b0} {a:Addr} {xs:List V} {H1:Hp} (hq:SqL K H1 a xs):Runs (Itl K a) H1 xs.length (λ i v _=>xs[i]? = some v):=
 ⟨λ i b H s=>⟨xs,xs[i],s.seq hq,by simp [b]⟩,λ H s=>⟨xs,s.seq hq,A0 _⟩,λ i b H v c s y=>by obtain ⟨e,y⟩:=y;subst e;exact ⟨Same.refl _,y xs (s.seq hq)⟩⟩
theorem z5q {α β:Type} (p:α->Bool) (f:α->β) (d:α) :∀xs:List α,((N1 xs.length).filter λ i=>p (xs[i]?.getD d)).map (λ i=>f (xs[i]?.getD d))=(xs.filter p).map f:=by
 intro xs;have h:(N1 xs.length).map (λ i=>xs[i]?.getD d)=xs:=by
  apply W6
  ·simp
  ·intro i b a;simp only [c9,E8,K0 a,R8]
 have e:(xs.filter p).map f=((((N1 xs.length).map (λ i=>xs[i]?.getD d))).filter p).map f:=by rw [h]
 rw [e,List.filter_map,T2];rfl
theorem z7a (ns:List Int) :∀j,j<=ns.length->preSum (λ i=>ns[i]?.getD 0) j=(ns.take j).sum
 | 0,_=>by rw [U9];rfl
 | j + 1,h=>by show preSum (λ i=>ns[i]?.getD 0) j + ns[j]?.getD 0=_;rw [z7a ns j (Nat.le_of_succ_le h),S3 h,List.sum_append,K0 h];simp
structure QE (X:Cx) (e:Expr) (t:TE):Prop where
 run:PE X e t
structure QA (X:Cx) (es:List Expr) (t:TA):Prop where
 run:PA X es t
structure QPs (X:Cx) (pos:Pos) (ks:List (Option Expr)) (vs:List Expr) (t:List (TE×TE)):Prop where
 run:PPs X pos ks vs t
structure QS (X:Cx) (st:Stmt) (t:TS):Prop where
 run:PS X st t
structure QSs (X:Cx) (sts:List Stmt) (t:TS):Prop where
 run:PSs X sts t
section
variable {X:Cx} {pos:Pos}
theorem q_of {sts:List Stmt} {t:TS} {G:TS->Prop} (q:QSs X sts t) (g:G t) :∃t,PSs X sts t/\G t:=⟨t,q.run,g⟩
theorem z42 {st:Stmt} {t:TS} (h:QS X st t):QSs X [st] t:=⟨z04 h.run⟩
theorem z0i {st:Stmt} {rest:List Stmt} {t u:TS} (h:QS X st t) (r:QSs X rest u):QSs X (st :: rest) (tSeq t u):=⟨z02 h.run r.run⟩
theorem qs_set {i:Nat} {x:Str} {e:Expr} {te:TE} {pos':Pos} (hN:X.N.Nodup) (hi:X.N[i]? = some x) (hx:Loc X.env.scope x) (he:QE X e te) (hs:V5 e (some (.Name x pos')) pos.line X.env=X2 false:=by rfl) (hf:X.fn x=true\/X.env.scope.names.lookup x=some .local:=by first|exact .inl rfl|exact .inr rfl|assumption) :
  QS X (.Assign [.Name x pos'] e pos) (tAsg te (gName i)):=⟨ps_set hN hi hx he.run hs hf⟩
theorem zg2 {o i value:Expr} {td ty tv:TE} {pos':Pos} (hu:X.A.units + 1 < cLine) (ho:QE X o td) (hi:QE X i ty) (hv:QE X value tv) (hs:V5 value (some (.Subscript o i pos')) pos.line X.env=X2 false) :
  QS X (.Assign [.Subscript o i pos'] value pos) (sDPut td ty tv):=⟨zbz hu ho.run hi.run hv.run hs⟩
theorem qs_for {tg iter:Expr} {body:List Stmt} {wi:TI} {g:TG} {tb:TS} (hp:PassesOwn (C1 X.prog X.w) X.A X.env X.xe) (hc:X.calm=true) (hi:PI X tg iter wi) (hg:PG X tg g) (hb:QSs X body tb)
  (hs :∀x,T4 iter X.env x=X2 x:=by intro _;rfl):QS X (.For tg iter body [] pos) (tFor wi g tb):=⟨ps_for hp hc hi hg hb.run hs⟩
theorem qe_lst {es:List Expr} {t:TA} (h:QA X es t):QE X (.List es pos) (tLst t):=⟨pe_lst h.run⟩
theorem qa_nil:QA X [] tNil:=⟨pa_nil⟩
theorem z0e {e:Expr} {es:List Expr} {te:TE} {t:TA} (ha:QE X e te) (hr:QA X es t) (hs:P1 (e :: es) X.env=(false,d3 e X.env) :: P1 es X.env:=by rfl):QA X (e :: es) (tCons te t):=⟨z00 ha.run hr.run hs⟩
theorem zjv:QPs X pos [] [] []:=⟨zhn⟩
theorem zbf {k v:Expr} {ks:List (Option Expr)} {vs:List Expr} {tk tv:TE} {trs:List (TE×TE)} (hk:QE X k tk) (hv:QE X v tv) (hr:QPs X pos ks vs trs):QPs X pos (some k :: ks) (v :: vs) ((tk,tv) :: trs):=⟨zb3 hk.run hv.run hr.run⟩
theorem zjm {keys:List (Option Expr)} {values:List Expr} {trs:List (TE×TE)} (h:QPs X pos keys values trs) (hall:keys.all (·.isSome)=true) (hl:keys.length=values.length) (h0:keys≠[]) (h15:keys.length<=15):QE X (.Dict keys values pos) (tDisp trs):=⟨zhs h.run hall hl h0 h15⟩
theorem qe_ix {a b:Expr} {ta tb:TE} {r:R2} (hr:IxR X r) (ha:QE X a ta) (hb:QE X b tb) (hs:zi7 b):QE X (.Subscript a b pos) (tOp r ta tb):=⟨pe_ix hr ha.run hb.run hs⟩
end
theorem z9m {X:Cx} {K:b0} (h:X.K=K):IxR X (rIx K):=h ▸ ix_seq
theorem zhw {f:List V->Hp->VK->Prop} {te:TE} {D:Ends} {σ:St} {H:Hp} (h:te σ H λ x H1=>f [x] H1 D.rt):tRet (tCB f (tCons te tNil)) D σ H:=h
theorem z0g {α β:Type} {R:α->β->Prop} :∀{xs:List α} {ys:List β} {i:Nat} {y:β},All2 R xs ys->ys[i]? = some y->∃x,xs[i]? = some x/\R x y
 | _,_,i,y,.nil,e=>by simp at e
 | _,_,0,y,.cons a _,e=>by rw [J2] at e;cases e;exact ⟨_,J2,a⟩
 | _,_,i + 1,y,.cons _ r,e=>by rw [W1] at e;obtain ⟨x,c,b⟩:=z0g r e;exact ⟨x,by rw [W1];exact c,b⟩
theorem ze3 {α:Type} {J:It} {H1:Hp} {rs:List α} {xs:List V} {RA:Hp->α->V->Prop} {m:Nat} {fr:List (Nat×Str)} {g:TG} {tc:TT} {te:TE} {σ:St} {Q:VK} (d:α) (p:α->Bool) (f:α->V) (r:Runs J H1 xs.length (λ i v _=>xs[i]? = some v)) (hm :∀H H' a v,Same H H'->RA H a v->RA H' a v) (al:All2 (RA H1) rs xs) (hn:rs.length<=sizeLine)
  (body :∀a∈rs,∀v H,Same H1 H->RA H a v->∀(KT:VK) (KF:Hp->Prop),(p a=true->∀H',Same H H'->KT (f a) H')->(p a=false->∀H',Same H H'->KF H')->
   g v (cStG σ fr (S1 m none)) H λ σ6 H6=>∃us,us.length=m/\σ6=cStG σ fr us/\tc (cStG σ fr us) H6 λ b H2=>if b=true then te (cStG σ fr us) H2 KT else KF H2)
  (hQ :∀l H',Same H1 H'->H' l=none->Q (.ref l) (upd H' l (.lst ((rs.filter p).map f)))) :
  ∃W:Nat->Nat->List V->Hp->Prop,(∃m,W 0 m [] H1)/\∀i k ys H,W i k ys H->
   (J.stop i H/\ys.length<=sizeLine/\∀p,H p=none->Q (.ref p) (upd H p (.lst ys)))\/
   (J.go i H/\ys.length<=sizeLine/\∀v H',J.yld i H v H'->g v (cStG σ fr (S1 m none)) H' λ σ6 H6=>∃us,us.length=m/\σ6=cStG σ fr us/\tc (cStG σ fr us) H6 λ b H2=>if b=true then te (cStG σ fr us) H2 λ y H3=>∃m',m' < k/\W (i + 1) m' (ys++[y]) H3 else∃m',m' < k/\W (i + 1) m' ys H2):=by
 have c:=z03 al;refine zfy (λ i=>p (rs[i]?.getD d)) (λ i y _=>y=f (rs[i]?.getD d)) (λ _ _ _ _ _ h=>h) r (by rw [c];exact hn) (λ i A v H s u KT KF o j=>?_) λ l H' ys s w q=>?_
 ·obtain ⟨a,n,z⟩:=z0g al u;rw [n] at o j;exact body a (Q0 n) v H s (hm _ _ _ _ s z) KT KF (λ x H' t=>o x _ H' t rfl) j
 ·have e:=z50 q;rw [c,z5q p f d rs] at e;rw [e];exact hQ l H' s w
theorem zd8 {α:Type} {K:b0} {l:Addr} {rs:List α} {xs:List V} {RA:Hp->α->V->Prop} {tl te:TE} {tc:TT} {g:TG} {m:Nat} {fr:List (Nat×Str)} {σ:St} {H H1:Hp} {Q:VK} (d:α) (p:α->Bool) (f:α->V) (htl :∀R:VK,R (.ref l) H1->tl σ H R) (hq:SqL K H1 l xs) (hm :∀H H' a v,Same H H'->RA H a v->RA H' a v) (al:All2 (RA H1) rs xs) (hn:rs.length<=sizeLine)
  (body :∀a∈rs,∀v H,Same H1 H->RA H a v->∀(KT:VK) (KF:Hp->Prop),(p a=true->∀H',Same H H'->KT (f a) H')->(p a=false->∀H',Same H H'->KF H')->
   g v (cStG σ fr (S1 m none)) H λ σ6 H6=>∃us,us.length=m/\σ6=cStG σ fr us/\tc (cStG σ fr us) H6 λ b H2=>if b=true then te (cStG σ fr us) H2 KT else KF H2)
  (hQ :∀l H',Same H1 H'->H' l=none->Q (.ref l) (upd H' l (.lst ((rs.filter p).map f)))):tCompG (iList K tl) m fr g tc te σ H Q:=
 htl _ ⟨l,rfl,⟨xs,hq⟩,ze3 d p f (zh9 hq) hm al hn body hQ⟩
end L2
set_option maxHeartbeats 4000000
namespace L2
open PySem PySem.Spec PyProof.Rows
section
variable {prog:Program} {w:P0} {A:X1} {E:Value->B0->Prop} {s:B0}
theorem z7d (hh:A.handled=none) (it t:Addr) (ne:t≠it) (items:Array Value):Draws prog w A it [it,t] items.size (λ i v=>items[i]? = some v) (λ i h=>h.IsTupleIter it t i/\h.IsTuple t items) where
 live:=λ i h a=>a.1.elim λ o z=>⟨o,z.1⟩
 frame:=λ i h b a k=>⟨a.1.elim λ o z=>⟨o,k it (by simp) o z.1,z.2⟩,a.2.elim λ o z=>⟨o,k t (by simp) o z.1,z.2⟩⟩
 item:=λ i s Q E c a q=>tupOn a.1 a.2 (Z9 c) λ b f d=>q _ b s.toks (Z9 c) ⟨f,a.2.elim λ o z=>⟨o,(d.2 t ne).trans z.1,z.2⟩⟩ d
 done:=λ s Q E a q=>tupOff hh a.1 a.2 (by simp) λ b e x y=>q b e x y
theorem zkb (a:Addr) (xs:Array Value):Meets (j19.«enumerate.__new__» ⟨[.type "enumerate",.ref a],[]⟩) (λ _ R s=>s.heap.IsTuple a xs/\R (.ok (.ret (.ref (s.heap.objs.size + 1))))
  { s with heap:=(s.heap.push { cls:=.type "tuple_iterator",data:=.fields #[.ref a,.int 0 0] }).push { cls:=.type "enumerate",data:=.fields #[.none,.bool false,.ref s.heap.objs.size,j00 0,.none,.none] } }):=
 .of_wp λ e w A R s h=>by
  obtain ⟨f,g,d,j,i⟩:=s;obtain ⟨k,h⟩:=h;have m:=sub_enumerate;have b:Heap.IsTuple (Shared.heap ⟨f,g,d,j,i⟩) a xs:=k
  wp_walk using A5 b
  intro Γ p l;show R0 (C1 e w) A.in1 (X2 _) _ _ _;refine L0 ?_;generalize List.drop 1 ((Γ.code,p) :: Γ.below)=L;split
  ·rename_i c _ _ _ _;cases c == M9 "enumerate" with
   | true=>
    wp_walk using A5 b
    refine ⟨_,rfl,?_⟩;simpa [N3,y4] using h
   | false=>
    wp_walk using A5 b
    refine ⟨_,rfl,?_⟩;simpa [N3,y4] using h
  ·wp_walk using A5 b
   refine ⟨_,rfl,?_⟩;simpa [N3,y4] using h
theorem zjb {a:Addr} {xs:Array Value} {Q:Value->B0->Prop} (ha:s.heap.IsTuple a xs)
  (q :∀h',IsEnum h' (s.heap.objs.size + 1) s.heap.objs.size 0 .none->h'.IsTupleIter s.heap.objs.size a 0->h'.objs.size=s.heap.objs.size + 2->(∀c o,s.heap.get? c=some o->h'.get? c=some o)->Q (.ref (s.heap.objs.size + 1)) { s with heap:=h' }) :
  R0 (C1 prog w) A (call (.type "enumerate") [.ref a]) Q E s:=by
 refine callType_new F.called_enumerate (by decide) (F.typeCall_enumerate_1 _) (F.newCall_enumerate_1 _) (λ f=>F.args_object_init_2 f _) F.entry_enumerate_new (zkb a xs) ⟨ha,?_⟩;generalize hn:s.heap.objs.size=n at q⊢;generalize h0:s.heap.push { cls:=.type "tuple_iterator",data:=.fields #[.ref a,.int 0 0] }=k0;have b:k0.objs.size=n + 1:=by rw [<-h0,N3,hn]
 have g:k0.get? n=some { cls:=.type "tuple_iterator",data:=.fields #[.ref a,.int 0 0] }:=by rw [<-h0,<-hn];exact X0 _ rfl
 have d:(k0.push { cls:=.type "enumerate",data:=.fields #[.none,.bool false,.ref n,j00 0,.none,.none] }).get? (n + 1)=some { cls:=.type "enumerate",data:=.fields #[.none,.bool false,.ref n,j00 0,.none,.none] }:=by rw [<-b];exact X0 _ rfl
 exact ⟨⟨_,d,rfl⟩,q _ d ⟨_,D0 _ g,rfl,rfl⟩ (by rw [N3,b]) λ c o e=>D0 _ (by rw [<-h0];exact D0 _ e)⟩
end
noncomputable def IteL (K:b0) (a:Addr):It:=
  ⟨λ i H=>∃xs x,SqL K H a xs/\xs[i]? = some x,
   λ i H v H'=>∃p,H p=none/\v=.ref p/\∀xs,SqL K H a xs->∃x,xs[i]? = some x/\H'=upd H p (.tup [.int i,x]),
   λ i H=>∃xs,SqL K H a xs/\xs.length=i⟩
theorem w_0:(0:Nat)<=sizeLine:=by decide
theorem w_1:(1:Nat)<=sizeLine:=by decide
theorem w_2:(2:Nat)<=sizeLine:=by decide
theorem w_3:(3:Nat)<=sizeLine:=by decide
theorem w_4:(4:Nat)<=sizeLine:=by decide
theorem w_5:(5:Nat)<=sizeLine:=by decide
theorem w_7:(7:Nat)<=sizeLine:=by decide
theorem w_8:(8:Nat)<=sizeLine:=by decide
theorem ze2 {P:Program} {w:P0} {K:b0} {elts:List Expr} {x1:Nat} {pos:Pos} {e it a:Addr} (ne:e≠it) (nae:a≠e) (nai:a≠it):Turn P w K (.Tuple elts x1 pos) (IteL K a) [e,it] e (λ n h=>(∃old,IsEnum h e it (n:Nat) old)/\h.IsListIter it a n) where
 mem:=by simp
 obj:=λ n h f c g=>by
  simp only [L1,u0,or_false] at g;rcases g with rfl|rfl
  ·obtain ⟨⟨old,z⟩,_⟩:=f;exact ⟨_,z,λ v z=>by cases (show j2a _=Data.cell v from z)⟩
  ·obtain ⟨_,o,e,_,d⟩:=f;exact ⟨o,e,λ v z=>by rw [d] at z;cases z⟩
 keep:=λ n h T f k=>by obtain ⟨⟨old,z⟩,o,Y,e2⟩:=f;exact ⟨⟨old,k e (by simp) _ z⟩,o,k it (by simp) _ Y,e2⟩
 item:=by
  intro X J G F g n a4 s σ H E I m f C;subst J G F;obtain ⟨S,x,q,N⟩:=C;obtain ⟨i,B,j,_⟩:=I.list q;have j:s.heap.IsList a i.toArray:=j.isList;obtain ⟨u,O,ru⟩:=B.get N;have D:=Draws.list (prog:=X.prog) (w:=X.w) (A:=X.A.in1) (I.ok.hd g) it a nai i.toArray;have a7:n < i.toArray.size:=by have:=(List.getElem?_eq_some_iff.mp O).1;simpa using this
  obtain ⟨⟨old,U⟩,V⟩:=f;refine wpAny_pyNext_enum_itemD D U ⟨V,j⟩ a7 ne (by simp [ne,nae.symm]) λ y T t l a2 a6 tT hz r=>?_;have l:i[n]? = some y:=by simpa using l
  rw [O] at l;cases l;have a3:e < s.heap.objs.size:=S0 U;have a1:it < s.heap.objs.size:=by obtain ⟨o,z,_⟩:=V;exact S0 z
  have M:s.heap.objs.size≠e:=U3 a3;have Z:s.heap.objs.size∉[e,it]:=by simp only [L1,u0,or_false,not_or];exact ⟨M,U3 a1⟩
  refine ⟨_,rfl,j1d a2 λ Q a0 L=>?_⟩;have k2 :∀b o,b∉[e,it]->s.heap.get? b=some o->Q.get? b=some o:=λ b o p z=>by simp only [L1,u0,or_false,not_or] at p;exact (L.2 b p.1).trans (r b o p.1 p.2 z)
  have R:=(L.2 _ M).trans tT;have a8:=a6.1.elim λ o z=>(⟨o,(L.2 it ne.symm).trans z.1,z.2⟩:Q.IsListIter it a (n + 1))
  have fr:H s.heap.objs.size=none:=I.hok.fresh (A0 _);refine ⟨.ref s.heap.objs.size,upd H s.heap.objs.size (.tup [.int n,x]),I.turnedLaid (t':=t + 1) k2 m (A0 _) ⟨w_2,[.int n t,u],.cons ⟨t,rfl⟩ (.cons ru .nil),⟨_,R,rfl,_,rfl⟩,_,R,rfl⟩,rfl,⟨_,fr,rfl,λ a9 a5=>⟨x,?_,rfl⟩⟩,⟨⟨_,a0⟩,a8⟩,λ c g=>?_⟩
  ·rw [I.list_inj a5 q];exact N
  ·rw [upd_ne (λ (z:c=s.heap.objs.size)=>Z (z ▸ g))];exact (m c g).1
 done:=by
  intro X J G F g n a4 s σ H E I m f C;subst J G F;obtain ⟨S,q,rfl⟩:=C;obtain ⟨i,B,j,_⟩:=I.list q;have j:s.heap.IsList a i.toArray:=j.isList;have D:=Draws.list (prog:=X.prog) (w:=X.w) (A:=X.A.in1) (I.ok.hd g) it a nai i.toArray;have W:=WalksT.enumerateD D e ne (by simp [ne,nae.symm]) (by simp);have la:i.toArray.size=S.length:=by simpa using B.length.symm
  exact W.done s _ E (by rw [la];exact ⟨f.1,f.2,j⟩) λ T tk r=>⟨rfl,I.turnedL (t':=tk) (λ c o g e=>r c o g e) m⟩
 self:=λ _ _ _ _ _ f h=>f.1.elim λ old z=>d7 z h
noncomputable def ieL (K:b0) (ta:TA):TI:=λ σ H R=>ta σ H λ vs H1=>∃a xs,vs=[.ref a]/\SqL K H1 a xs/\R (IteL K a) H1
theorem z8c {X:Cx} {elts:List Expr} {x1:Nat} {tpos:Pos} {e:Expr} {ta:TA} {p pos:Pos} (hg:Gl X "enumerate") (hm:X.mg "enumerate" = none) (ha:PA X [e] ta) (hs:P1 [e] X.env=[(false,d3 e X.env)]:=by rfl) :
  PI X (.Tuple elts x1 tpos) (.Call (.Name "enumerate" p) [e] [] pos) (ieL X.K ta):=by
 intro n s σ H R I h;refine Call_ (ld_blt I hg hm boot_enumerate (j3 (thn (ha pos n s σ H _ I h) λ w d ⟨vs,H1,I1,r1,q1⟩=>?_) (by rw [hs];rfl) rfl));obtain ⟨a,y,r,v,q⟩:=q1;subst r;obtain ⟨u,rfl,k⟩:=vals1 r1;cases (show u=F1 a from k);obtain ⟨l,x,b,_⟩:=I1.list v;have b:d.heap.IsList a l.toArray:=b.isList;have g:a < d.heap.objs.size:=by obtain ⟨o,e,_⟩:=id b;exact S0 e
 refine call_enumerate_list b λ z f t _ m=>?_;refine d7 f ?_;refine ⟨_,_,_,_,H1,rfl,I1.kept (t':=d.toks) m,ze2 (U3 (B2 _)) (G1 (Y1 g)) (G1 g),⟨⟨_,f⟩,t⟩,λ c i=>?_,q⟩;have j:d.heap.objs.size<=c:=by
  simp only [L1,u0,or_false] at i;rcases i with rfl|rfl
  ·exact Nat.le_add_right _ _
  ·exact A0 _
 exact I1.fpOk j (I1.hok.fresh j)
theorem z7n {K:b0} {a:Addr} {xs:List V} {g:TG} {tb:TS} {D:Ends} {σ:St} {H:Hp} (Pv:Nat->St->Hp->Prop) (h0:Pv 0 σ H) (hl :∀i σ H,Pv i σ H->SqL K H a xs)
  (hs :∀i x σ H p,xs[i]? = some x->Pv i σ H->H p=none->g (.ref p) σ (upd H p (.tup [.int i,x])) λ σ2 H2=>tb { D with nx:=Pv (i + 1),ct:=Pv (i + 1),bk:=D.nx } σ2 H2) (hd :∀σ H,Pv xs.length σ H->D.nx σ H) :
  ∃W:Nat->Nat->St->Hp->Prop,(∃m,W 0 m σ H)/\∀i m σ H,W i m σ H->
   ((IteL K a).stop i H/\D.nx σ H)\/((IteL K a).go i H/\∃N:St->Hp->Prop,(∀σ' H',N σ' H'->∃m',m' < m/\W (i + 1) m' σ' H')/\∀x H',(IteL K a).yld i H x H'->g x σ H' λ σ2 H2=>tb { D with nx:=N,ct:=N,bk:=D.nx } σ2 H2):=by
 refine ⟨λ i m σ H=>m=xs.length - i/\i<=xs.length/\Pv i σ H,⟨xs.length,by simp,Z1 _,h0⟩,?_⟩;rintro i m σ H ⟨rfl,hi,p⟩;have b:=hl i σ H p;by_cases hlt:i < xs.length
 ·refine .inr ⟨⟨xs,xs[i],b,by simp [hlt]⟩,Pv (i + 1),λ σ' H' h=>⟨xs.length - (i + 1),by omega,rfl,hlt,h⟩,λ v H' y=>?_⟩;obtain ⟨t,f,rfl,c⟩:=y;obtain ⟨d,j,rfl⟩:=c xs b;exact hs i d σ H t j p f
 ·have e:i=xs.length:=by omega
  subst e;exact .inl ⟨⟨xs,b,rfl⟩,hd σ H p⟩
noncomputable def IteT (K:b0) (a:Addr):It:=
  ⟨λ i H=>∃xs x,SqT K H a xs/\xs[i]? = some x,
   λ i H v H'=>∃p,H p=none/\v=.ref p/\∀xs,SqT K H a xs->∃x,xs[i]? = some x/\H'=upd H p (.tup [.int i,x]),
   λ i H=>∃xs,SqT K H a xs/\xs.length=i⟩
theorem zfm {P:Program} {w:P0} {K:b0} {elts:List Expr} {x1:Nat} {pos:Pos} {e it a:Addr} (ne:e≠it) (nae:a≠e) (nai:a≠it):Turn P w K (.Tuple elts x1 pos) (IteT K a) [e,it] e (λ n h=>(∃old,IsEnum h e it (n:Nat) old)/\h.IsTupleIter it a n) where
 mem:=by simp
 obj:=λ n h f c g=>by
  simp only [L1,u0,or_false] at g;rcases g with rfl|rfl
  ·obtain ⟨⟨old,z⟩,_⟩:=f;exact ⟨_,z,λ v z=>by cases (show j2a _=Data.cell v from z)⟩
  ·obtain ⟨_,o,e,_,d⟩:=f;exact ⟨o,e,λ v z=>by rw [d] at z;cases z⟩
 keep:=λ n h T f k=>by obtain ⟨⟨old,z⟩,o,Y,e2⟩:=f;exact ⟨⟨old,k e (by simp) _ z⟩,o,k it (by simp) _ Y,e2⟩
 item:=by
  intro X J G F g n a4 s σ H E I m f C;subst J G F;obtain ⟨S,x,q,N⟩:=C;obtain ⟨i,B,j,_⟩:=I.tuple q;have j:s.heap.IsTuple a i.toArray:=j;obtain ⟨u,O,ru⟩:=B.get N;have D:=z7d (prog:=X.prog) (w:=X.w) (A:=X.A.in1) (I.ok.hd g) it a nai i.toArray;have a7:n < i.toArray.size:=by have:=(List.getElem?_eq_some_iff.mp O).1;simpa using this
  obtain ⟨⟨old,U⟩,V⟩:=f;refine wpAny_pyNext_enum_itemD D U ⟨V,j⟩ a7 ne (by simp [ne,nae.symm]) λ y T t l a2 a6 tT hz r=>?_;have l:i[n]? = some y:=by simpa using l
  rw [O] at l;cases l;have a3:e < s.heap.objs.size:=S0 U;have a1:it < s.heap.objs.size:=by obtain ⟨o,z,_⟩:=V;exact S0 z
  have M:s.heap.objs.size≠e:=U3 a3;have Z:s.heap.objs.size∉[e,it]:=by simp only [L1,u0,or_false,not_or];exact ⟨M,U3 a1⟩
  refine ⟨_,rfl,j1d a2 λ Q a0 L=>?_⟩;have k2 :∀b o,b∉[e,it]->s.heap.get? b=some o->Q.get? b=some o:=λ b o p z=>by simp only [L1,u0,or_false,not_or] at p;exact (L.2 b p.1).trans (r b o p.1 p.2 z)
  have R:=(L.2 _ M).trans tT;have a8:=a6.1.elim λ o z=>(⟨o,(L.2 it ne.symm).trans z.1,z.2⟩:Q.IsTupleIter it a (n + 1))
  have fr:H s.heap.objs.size=none:=I.hok.fresh (A0 _);refine ⟨.ref s.heap.objs.size,upd H s.heap.objs.size (.tup [.int n,x]),I.turnedLaid (t':=t + 1) k2 m (A0 _) ⟨w_2,[.int n t,u],.cons ⟨t,rfl⟩ (.cons ru .nil),⟨_,R,rfl,_,rfl⟩,_,R,rfl⟩,rfl,⟨_,fr,rfl,λ a9 a5=>⟨x,?_,rfl⟩⟩,⟨⟨_,a0⟩,a8⟩,λ c g=>?_⟩
  ·rw [I.tuple_inj a5 q];exact N
  ·rw [upd_ne (λ (z:c=s.heap.objs.size)=>Z (z ▸ g))];exact (m c g).1
 done:=by
  intro X J G F g n a4 s σ H E I m f C;subst J G F;obtain ⟨S,q,rfl⟩:=C;obtain ⟨i,B,j,_⟩:=I.tuple q;have j:s.heap.IsTuple a i.toArray:=j;have D:=z7d (prog:=X.prog) (w:=X.w) (A:=X.A.in1) (I.ok.hd g) it a nai i.toArray;have W:=WalksT.enumerateD D e ne (by simp [ne,nae.symm]) (by simp);have la:i.toArray.size=S.length:=by simpa using B.length.symm
  exact W.done s _ E (by rw [la];exact ⟨f.1,f.2,j⟩) λ T tk r=>⟨rfl,I.turnedL (t':=tk) (λ c o g e=>r c o g e) m⟩
 self:=λ _ _ _ _ _ f h=>f.1.elim λ old z=>d7 z h
noncomputable def ieT (K:b0) (ta:TA):TI:=λ σ H R=>ta σ H λ vs H1=>∃a xs,vs=[.ref a]/\SqT K H1 a xs/\R (IteT K a) H1
theorem zjh {X:Cx} {elts:List Expr} {x1:Nat} {tpos:Pos} {e:Expr} {ta:TA} {p pos:Pos} (hg:Gl X "enumerate") (hm:X.mg "enumerate" = none) (ha:PA X [e] ta) (hs:P1 [e] X.env=[(false,d3 e X.env)]:=by rfl) :
  PI X (.Tuple elts x1 tpos) (.Call (.Name "enumerate" p) [e] [] pos) (ieT X.K ta):=by
 intro n s σ H R I h;refine Call_ (ld_blt I hg hm boot_enumerate (j3 (thn (ha pos n s σ H _ I h) λ w d ⟨vs,H1,I1,r1,q1⟩=>?_) (by rw [hs];rfl) rfl));obtain ⟨a,y,r,v,q⟩:=q1;subst r;obtain ⟨u,rfl,k⟩:=vals1 r1;cases (show u=F1 a from k);obtain ⟨l,x,b,_⟩:=I1.tuple v;have b:d.heap.IsTuple a l.toArray:=b;have g:a < d.heap.objs.size:=by obtain ⟨o,e,_⟩:=id b;exact S0 e
 refine zjb b λ z f t _ m=>?_;refine d7 f ?_;refine ⟨_,_,_,_,H1,rfl,I1.kept (t':=d.toks) m,zfm (U3 (B2 _)) (G1 (Y1 g)) (G1 g),⟨⟨_,f⟩,t⟩,λ c i=>?_,q⟩;have j:d.heap.objs.size<=c:=by
  simp only [L1,u0,or_false] at i;rcases i with rfl|rfl
  ·exact Nat.le_add_right _ _
  ·exact A0 _
 exact I1.fpOk j (I1.hok.fresh j)
theorem zgu {K:b0} {a:Addr} {xs:List V} {g:TG} {tb:TS} {D:Ends} {σ:St} {H:Hp} (Pv:Nat->St->Hp->Prop) (h0:Pv 0 σ H) (hl :∀i σ H,Pv i σ H->SqT K H a xs)
  (hs :∀i x σ H p,xs[i]? = some x->Pv i σ H->H p=none->g (.ref p) σ (upd H p (.tup [.int i,x])) λ σ2 H2=>tb { D with nx:=Pv (i + 1),ct:=Pv (i + 1),bk:=D.nx } σ2 H2) (hd :∀σ H,Pv xs.length σ H->D.nx σ H) :
  ∃W:Nat->Nat->St->Hp->Prop,(∃m,W 0 m σ H)/\∀i m σ H,W i m σ H->
   ((IteT K a).stop i H/\D.nx σ H)\/((IteT K a).go i H/\∃N:St->Hp->Prop,(∀σ' H',N σ' H'->∃m',m' < m/\W (i + 1) m' σ' H')/\∀x H',(IteT K a).yld i H x H'->g x σ H' λ σ2 H2=>tb { D with nx:=N,ct:=N,bk:=D.nx } σ2 H2):=by
 refine ⟨λ i m σ H=>m=xs.length - i/\i<=xs.length/\Pv i σ H,⟨xs.length,by simp,Z1 _,h0⟩,?_⟩;rintro i m σ H ⟨rfl,hi,p⟩;have b:=hl i σ H p;by_cases hlt:i < xs.length
 ·refine .inr ⟨⟨xs,xs[i],b,by simp [hlt]⟩,Pv (i + 1),λ σ' H' h=>⟨xs.length - (i + 1),by omega,rfl,hlt,h⟩,λ v H' y=>?_⟩;obtain ⟨t,f,rfl,c⟩:=y;obtain ⟨d,j,rfl⟩:=c xs b;exact hs i d σ H t j p f
 ·have e:i=xs.length:=by omega
  subst e;exact .inl ⟨⟨xs,b,rfl⟩,hd σ H p⟩
end L2
set_option maxHeartbeats 400000
namespace L2
open PySem PySem.Spec PyProof.Rows
section
variable {X:Cx}
theorem zh5 (hc:X.calm=true):CallR X (.builtin "sum") (λ xs H Q=>∃(p:Addr) (ns:List Int),xs=[.ref p]/\SqL X.K H p (ns.map V.int)/\Q (.int ns.sum) H):=by
 intro F s σ H xs E Q I r h;obtain ⟨p,ns,rfl,B,q⟩:=h;obtain ⟨u,rfl,y⟩:=vals1 r;cases y;obtain ⟨f,m,a,G⟩:=I.list B;have C:p≠s.heap.objs.size:=by obtain ⟨o,e,_⟩:=a.isList;exact G1 (S0 e)
 have k:f.length=ns.length:=by have:=m.length;rw [F0] at this;exact this.symm
 refine call_sum_walkAnyS (C9 a.isList ?_);refine ⟨s.heap.objs.size,_,_,_,_,_,_,λ i=>ns[i]?.getD 0,rfl,(Walks.list (show X.A.in1.handled=none from I.ok.hd hc) s.heap.objs.size p C f.toArray).toS,⟨⟨_,X0 _ rfl,rfl,rfl⟩,a.isList.at λ o e=>D0 _ e⟩,?_,?_,?_⟩
 ·intro b d;simp only [L1,u0,or_false] at d;rcases d with rfl|rfl
  ·rw [N3];exact B2 _
  ·obtain ⟨o,e,_⟩:=a.isList;exact S0 (D0 _ e)
 ·intro i v c;have c:f[i]? = some v:=by simpa using c
  obtain ⟨w,e⟩:=List.getElem?_eq_some_iff.mp c;have n:i < ns.length:=by rw [<-k];exact w
  obtain ⟨u,j,g⟩:=m.get (i:=i) (x:=.int ns[i]) (by simp [n]);rw [c] at j;cases j;obtain ⟨t,g⟩:=g;exact ⟨t,by show v=R6 (ns[i]?.getD 0) t;rw [K0 n];exact g⟩
 ·intro D t' l;have e:preSum (λ i=>ns[i]?.getD 0) f.toArray.size=ns.sum:=by rw [O0,k,z7a ns _ (A0 _),K3]
  rw [e,l.eq_with];refine ⟨.int _,H,I.kept (t':=D.toks) λ b o z=>l.heap b o ?_ (D0 _ z),⟨_,rfl⟩,q⟩;intro d;rw [List.mem_singleton.mp d] at z;exact absurd (S0 z) (J3 _)
end
mutual
noncomputable def IsPd (K:b0) (H:Hp):PyData->V->Prop
 | .none,v=>v=.non
 | .bool b,v=>v=.bl b
 | .int i,v=>v=.int i
 | .str z,v=>v=.str z
 | .list ds,v=>∃a xs,v=.ref a/\SqL K H a xs/\IsPds K H ds xs
 | .tuple ds,v=>∃a xs,v=.ref a/\SqT K H a xs/\IsPds K H ds xs
 | .dict _,_=>False
noncomputable def IsPds (K:b0) (H:Hp):List PyData->List V->Prop
 | [],xs=>xs=[]
 | d :: ds,xs=>∃x r,xs=x :: r/\IsPd K H d x/\IsPds K H ds r
end
section
variable {X:Cx} {pins:List (Addr×Obj)} {σ:St} {H:Hp} {s:B0}
mutual
theorem z8h (I:Inv X pins σ H s) :∀(d:PyData) (v:V) (u:Value),IsPd X.K H d v->RelV v u->∃as,Reads s.heap u d as
 | .none,v,u,h,r=>by cases (show v=.non from h);cases (show u=.none from r);exact ⟨_,.none⟩
 | .bool b,v,u,h,r=>by cases (show v=.bl b from h);cases (show u=.bool b from r);exact ⟨_,.bool b⟩
 | .int i,v,u,h,r=>by cases (show v=.int i from h);obtain ⟨t,rfl⟩:=r;exact ⟨_,.int i t⟩
 | .str z,v,u,h,r=>by cases (show v=.str z from h);obtain ⟨t,rfl⟩:=r;exact ⟨_,.str z t⟩
 | .list ds,v,u,h,r=>by obtain ⟨a,f,rfl,e,l⟩:=h;cases (show u=.ref a from r);obtain ⟨q,g,j,_⟩:=I.list e;obtain ⟨o,c,k,n,m⟩:=j.isList;obtain ⟨as,p⟩:=z86 I ds f q l g;exact ⟨_,.list c k m p⟩
 | .tuple ds,v,u,h,r=>by obtain ⟨a,f,rfl,e,l⟩:=h;cases (show u=.ref a from r);obtain ⟨q,g,j,_⟩:=I.tuple e;obtain ⟨o,c,k,n,m⟩:=j;obtain ⟨as,p⟩:=z86 I ds f q l g;exact ⟨_,.tuple c k m p⟩
 | .dict _,v,u,h,r=>h.elim
theorem z86 (I:Inv X pins σ H s) :∀(ds:List PyData) (xs:List V) (us:List Value),IsPds X.K H ds xs->Vals xs us->∃as,j20 s.heap us ds as
 | [],xs,us,h,r=>by cases (show xs=[] from h);cases r;exact ⟨_,.nil⟩
 | d :: ds,xs,us,h,r=>by
  obtain ⟨x,t,rfl,a,b⟩:=h;cases r with
  | cons r1 r2=>obtain ⟨as,e⟩:=z8h I d x _ a r1;obtain ⟨bs,c⟩:=z86 I ds t _ b r2;exact ⟨_,.cons e c⟩
end
end
mutual
noncomputable def plainP:PyData->Bool
 | .none=>true
 | .bool _=>false
 | .int _=>true
 | .str z=>(PyData.str z).canLay0
 | .list ds=>z0z ds
 | .tuple ds=>z0z ds
 | .dict _=>false
noncomputable def z0z:List PyData->Bool
 | []=>true
 | d :: ds=>plainP d && z0z ds
end
mutual
theorem z87 :∀d:PyData,plainP d=true->d.canLay0=true
 | .none,_=>rfl
 | .bool _,h=>by cases h
 | .int _,_=>rfl
 | .str _,h=>h
 | .list ds,h=>z6g ds h
 | .tuple ds,h=>z6g ds h
 | .dict _,h=>by cases h
theorem z6g :∀ds:List PyData,z0z ds=true->y6 ds=true
 | [],_=>rfl
 | d :: ds,h=>by have h:(plainP d && z0z ds)=true:=h;rw [A2] at h;show (d.canLay0 && y6 ds)=true;rw [z87 d h.1,z6g ds h.2];rfl
end
mutual
theorem zhr :∀d e:PyData,plainP d=true->plainP e=true->(d.eqv e=true↔d=e)
 | .none,e,_,he=>by
  cases e with
  | none=>exact ⟨λ _=>rfl,λ _=>rfl⟩
  | bool b=>cases he
  | dict _=>cases he
  | _=>exact ⟨λ z=>(by cases z),λ z=>(by cases z)⟩
 | .bool _,e,hd,_=>by cases hd
 | .int i,e,_,he=>by
  cases e with
  | int j=>exact ⟨λ z=>congrArg _ (eq_of_beq (show (i == j)=true from z)),λ z=>by cases z;exact beq_self_eq_true i⟩
  | bool b=>cases he
  | dict _=>cases he
  | _=>exact ⟨λ z=>(by cases z),λ z=>(by cases z)⟩
 | .str i,e,_,he=>by
  cases e with
  | str j=>exact ⟨λ z=>congrArg _ (eq_of_beq (show (i == j)=true from z)),λ z=>by cases z;exact beq_self_eq_true i⟩
  | bool b=>cases he
  | dict _=>cases he
  | _=>exact ⟨λ z=>(by cases z),λ z=>(by cases z)⟩
 | .list ds,e,hd,he=>by
  cases e with
  | list es=>exact ⟨λ z=>congrArg _ ((z65 ds es hd he).mp z),λ z=>(z65 ds es hd he).mpr (by cases z;rfl)⟩
  | bool b=>cases he
  | dict _=>cases he
  | _=>exact ⟨λ z=>(by cases z),λ z=>(by cases z)⟩
 | .tuple ds,e,hd,he=>by
  cases e with
  | tuple es=>exact ⟨λ z=>congrArg _ ((z65 ds es hd he).mp z),λ z=>(z65 ds es hd he).mpr (by cases z;rfl)⟩
  | bool b=>cases he
  | dict _=>cases he
  | _=>exact ⟨λ z=>(by cases z),λ z=>(by cases z)⟩
 | .dict _,e,hd,_=>by cases hd
theorem z65 :∀ds es:List PyData,z0z ds=true->z0z es=true->(PyData.eqvAll ds es=true↔ds=es)
 | [],[],_,_=>⟨λ _=>rfl,λ _=>rfl⟩
 | [],e :: es,_,_=>⟨λ z=>(by cases z),λ z=>(by cases z)⟩
 | d :: ds,[],_,_=>⟨λ z=>(by cases z),λ z=>(by cases z)⟩
 | d :: ds,e :: es,b,a=>by have b:(plainP d && z0z ds)=true:=b;have a:(plainP e && z0z es)=true:=a;rw [A2] at b a;show (d.eqv e && PyData.eqvAll ds es)=true↔_;rw [A2,zhr d e b.1 a.1,z65 ds es b.2 a.2];exact ⟨λ z=>by rw [z.1,z.2],λ z=>by cases z;exact ⟨rfl,rfl⟩⟩
end
theorem zk1 {d e:PyData} (hd:plainP d=true) (he:plainP e=true) {p:Prop} [Decidable p] (h:d=e↔p):d.eqv e=decide p:=by rw [Bool.eq_iff_iff,decide_eq_true_eq,zhr d e hd he,h]
section
variable {X:Cx}
noncomputable def rEqP (K:b0):R2:=λ x y H Q=>∃d e,IsPd K H d x/\IsPd K H e y/\plainP d=true/\plainP e=true/\d.depth<=60/\Q (.bl (d.eqv e)) H
theorem room60 {A:X1} {k m n:Nat} (hr:Room k A) (h:m<=60):A.units + min m n < cLine:=R1 (Nat.add_le_add_left (C0 (Nat.min_le_left _ _) (C0 h (by decide:60<=64))) _) hr.units
theorem op_eqP {k:Nat} (hr:Room k X.A):OpR X (C2 .Eq) (rEqP X.K):=by intro o s σ H x y v u Q I a l h;obtain ⟨d,e,i,j,m,g,b,q⟩:=h;obtain ⟨n,c⟩:=z8h I d x v i a;obtain ⟨bs,f⟩:=z8h I e y u j l;exact SeqAt.compareEq_reads c f (z87 _ m) (z87 _ g) (room60 hr b) ⟨.bl _,H,I,rfl,q⟩
end
end L2
set_option maxHeartbeats 1000000
namespace L2
open PySem PySem.Spec PyProof.Rows
end L2
set_option maxHeartbeats 400000
namespace L2
open PySem PySem.Spec PyProof.Rows
structure RunsR (S:Hp->Hp->Prop) (J:It) (H1:Hp) (n:Nat) (Item:Nat->V->Hp->Prop):Prop where
 go :∀i,i < n->∀H,S H1 H->J.go i H
 stop :∀H,S H1 H->J.stop n H
 item :∀i,i < n->∀H v H',S H1 H->J.yld i H v H'->S H H'/\Item i v H'
theorem z25 {S:Hp->Hp->Prop} {J:It} {H1:Hp} {n m:Nat} {Item:Nat->V->Hp->Prop} {fr:List (Nat×Str)} {g:TG} {tc:TT} {te:TE} {σ:St} {Q:VK} (s0:S H1 H1) (st :∀a b c,S a b->S b c->S a c) (p:Nat->Bool) (R:Nat->V->Hp->Prop) (hR :∀i y H H',S H H'->R i y H->R i y H') (r:RunsR S J H1 n Item) (hn:n<=sizeLine)
  (body :∀i,i < n->∀v H,S H1 H->Item i v H->∀(KT:VK) (KF:Hp->Prop),(p i=true->∀y H',S H H'->R i y H'->KT y H')->(p i=false->∀H',S H H'->KF H')->
   g v (cStG σ fr (S1 m none)) H λ σ6 H6=>∃us,us.length=m/\σ6=cStG σ fr us/\tc (cStG σ fr us) H6 λ b H2=>if b=true then te (cStG σ fr us) H2 KT else KF H2)
  (hQ :∀l H' ys,S H1 H'->H' l=none->All2 (λ i y=>R i y H') ((N1 n).filter p) ys->Q (.ref l) (upd H' l (.lst ys))) :
  ∃W:Nat->Nat->List V->Hp->Prop,(∃m,W 0 m [] H1)/\∀i k ys H,W i k ys H->
   (J.stop i H/\ys.length<=sizeLine/\∀p,H p=none->Q (.ref p) (upd H p (.lst ys)))\/
   (J.go i H/\ys.length<=sizeLine/\∀v H',J.yld i H v H'->g v (cStG σ fr (S1 m none)) H' λ σ6 H6=>∃us,us.length=m/\σ6=cStG σ fr us/\tc (cStG σ fr us) H6 λ b H2=>if b=true then te (cStG σ fr us) H2 λ y H3=>∃m',m' < k/\W (i + 1) m' (ys++[y]) H3 else∃m',m' < k/\W (i + 1) m' ys H2):=by
 refine ⟨λ i k ys H'=>k=n - i/\i<=n/\S H1 H'/\All2 (λ i y=>R i y H') ((N1 i).filter p) ys,⟨n,by simp,Z1 _,s0,.nil⟩,?_⟩;rintro i k ys H' ⟨rfl,hi,sm,fa⟩;have j:ys.length<=sizeLine:=by rw [z03 fa];have:=P2 p (N1 i);rw [E2] at this;omega
 by_cases hlt:i < n
 ·refine .inr ⟨r.go i hlt H' sm,j,λ v H2 y=>?_⟩;obtain ⟨d,q⟩:=r.item i hlt H' v H2 sm y;refine body i hlt v H2 (st _ _ _ sm d) q _ _ (λ h y H3 f o=>⟨n - (i + 1),by omega,rfl,hlt,st _ _ _ (st _ _ _ sm d) f,?_⟩) (λ h H3 f=>⟨n - (i + 1),by omega,rfl,hlt,st _ _ _ (st _ _ _ sm d) f,?_⟩)
  ·rw [z0u,if_pos h];exact z3p (z01 (λ a b z=>hR a b _ _ (st _ _ _ d f) z) fa) o
  ·rw [z0u,if_neg (by rw [h];decide),j2];exact z01 (λ a b z=>hR a b _ _ (st _ _ _ d f) z) fa
 ·have e:i=n:=by omega
  subst e;exact .inl ⟨r.stop H' sm,j,λ l s=>hQ l H' ys sm s fa⟩
theorem z9z {S:Hp->Hp->Prop} {K:b0} {a:Addr} {xs:List V} {H1:Hp} (hs :∀H,S H1 H->S H H) (hq :∀H,S H1 H->SqL K H a xs):RunsR S (Itl K a) H1 xs.length (λ i v _=>xs[i]? = some v):=
 ⟨λ i b H s=>⟨xs,xs[i],hq H s,by simp [b]⟩,λ H s=>⟨xs,hq H s,A0 _⟩,λ i b H v c s y=>by obtain ⟨e,y⟩:=y;subst e;exact ⟨hs _ s,y xs (hq _ s)⟩⟩
theorem zc3 {S:Hp->Hp->Prop} {K:b0} {a:Addr} {xs:List V} {H1:Hp} (hs :∀H,S H1 H->S H H) (hq :∀H,S H1 H->SqT K H a xs):RunsR S (Itt K a) H1 xs.length (λ i v _=>xs[i]? = some v):=
 ⟨λ i b H s=>⟨xs,xs[i],hq H s,by simp [b]⟩,λ H s=>⟨xs,hq H s,A0 _⟩,λ i b H v c s y=>by obtain ⟨e,y⟩:=y;subst e;exact ⟨hs _ s,y xs (hq _ s)⟩⟩
theorem zd7 {S:Hp->Hp->Prop} {K:b0} {a:Addr} {xs:List V} {tl te:TE} {tc:TT} {g:TG} {m:Nat} {fr:List (Nat×Str)} {σ:St} {H H1:Hp} {Q:VK} (R:V->V->Hp->Prop) (s0:S H1 H1) (st :∀a b c,S a b->S b c->S a c) (hs :∀H,S H1 H->S H H) (hR :∀x y H H',S H H'->R x y H->R x y H')
  (htl :∀R:VK,R (.ref a) H1->tl σ H R) (hq :∀H,S H1 H->SqL K H a xs) (hn:xs.length<=sizeLine)
  (body :∀v∈xs,∀H,S H1 H->∀KT:VK,(∀y H',S H H'->R v y H'->KT y H')->∀KF:Hp->Prop,
   g v (cStG σ fr (S1 m none)) H λ σ6 H6=>∃us,us.length=m/\σ6=cStG σ fr us/\tc (cStG σ fr us) H6 λ b H2=>if b=true then te (cStG σ fr us) H2 KT else KF H2)
  (hQ :∀l H' ys,S H1 H'->H' l=none->All2 (λ x y=>R x y H') xs ys->Q (.ref l) (upd H' l (.lst ys))):tCompG (iList K tl) m fr g tc te σ H Q:=by
 refine htl _ ⟨a,rfl,⟨xs,hq _ s0⟩,z25 s0 st (λ _=>true) (λ i y H=>R (xs[i]?.getD .non) y H) (λ i y H H' s z=>hR _ _ _ _ s z) (z9z hs hq) hn (λ i u v H s f KT KF n j=>?_) λ l H' ys s t k=>hQ l H' ys s t ?_⟩
 ·refine body v (Q0 f) H s KT (λ y H' q p=>n rfl y H' q ?_) KF;rw [f];exact p
 ·rw [List.filter_eq_self.mpr (λ _ _=>rfl)] at k;have o :∀(d:List Nat) (ys:List V),All2 (λ i y=>R (xs[i]?.getD .non) y H') d ys->All2 (λ x y=>R x y H') (d.map λ i=>xs[i]?.getD .non) ys:=by
   intro d;induction d with
   | nil=>intro ys h;cases h;exact .nil
   | cons i d ih=>intro ys h;cases h with|cons a r=>exact .cons a (ih _ r)
  have h:=o _ _ k;have e:(N1 xs.length).map (λ i=>xs[i]?.getD V.non)=xs:=by
   apply W6
   ·simp
   ·intro i n j;simp only [c9,E8,K0 j,R8]
  rwa [e] at h
theorem zgc {S:Hp->Hp->Prop} {n:Nat} {H1:Hp} (hs :∀H,S H1 H->S H H):RunsR S (Itr 0 n) H1 n (λ i v _=>v=.int (i:Nat)):=
 ⟨λ i a H s=>a,λ H s=>A0 _,λ i a H v b s y=>by obtain ⟨e,y⟩:=y;subst e;exact ⟨hs _ s,by rw [y,j6]⟩⟩
theorem zec {R:V->V->Prop} {xs ys:List V} (fa:All2 (λ (i:Nat) y=>R (xs[i]?.getD .non) y) (N1 xs.length) ys):All2 R xs ys:=by
 have c :∀(b:List Nat) (ys:List V),All2 (λ i y=>R (xs[i]?.getD .non) y) b ys->All2 R (b.map λ i=>xs[i]?.getD .non) ys:=by
  intro b;induction b with
  | nil=>intro ys h;cases h;exact .nil
  | cons i b ih=>intro ys h;cases h with|cons a r=>exact .cons a (ih _ r)
 have h:=c _ _ fa;have e:(N1 xs.length).map (λ i=>xs[i]?.getD V.non)=xs:=by
  apply W6
  ·simp
  ·intro i f d;simp only [c9,E8,K0 d,R8]
 rwa [e] at h
theorem za4 {S:Hp->Hp->Prop} {K:b0} {a:Addr} {xs:List V} {tl te:TE} {tc:TT} {g:TG} {m:Nat} {fr:List (Nat×Str)} {σ:St} {H H1:Hp} {Q:VK} (R:V->V->Hp->Prop) (s0:S H1 H1) (st :∀a b c,S a b->S b c->S a c) (hs :∀H,S H1 H->S H H) (hR :∀x y H H',S H H'->R x y H->R x y H')
  (htl :∀R:VK,R (.ref a) H1->tl σ H R) (hq :∀H,S H1 H->SqT K H a xs) (hn:xs.length<=sizeLine)
  (body :∀v∈xs,∀H,S H1 H->∀KT:VK,(∀y H',S H H'->R v y H'->KT y H')->∀KF:Hp->Prop,
   g v (cStG σ fr (S1 m none)) H λ σ6 H6=>∃us,us.length=m/\σ6=cStG σ fr us/\tc (cStG σ fr us) H6 λ b H2=>if b=true then te (cStG σ fr us) H2 KT else KF H2)
  (hQ :∀l H' ys,S H1 H'->H' l=none->All2 (λ x y=>R x y H') xs ys->Q (.ref l) (upd H' l (.lst ys))):tCompG (iTup K tl) m fr g tc te σ H Q:=by
 refine htl _ ⟨a,rfl,⟨xs,hq _ s0⟩,z25 s0 st (λ _=>true) (λ i y H=>R (xs[i]?.getD .non) y H) (λ i y H H' s z=>hR _ _ _ _ s z) (zc3 hs hq) hn (λ i n v H s d KT KF k o=>?_) λ l H' ys s j e=>hQ l H' ys s j ?_⟩
 ·refine body v (Q0 d) H s KT (λ y H' h f=>k rfl y H' h ?_) KF;rw [d];exact f
 ·rw [List.filter_eq_self.mpr (λ _ _=>rfl)] at e;exact zec (R:=λ x y=>R x y H') e
end L2
set_option maxHeartbeats 1000000
namespace L2
open PySem PySem.Spec PyProof.Rows
section
variable {prog:Program} {w:P0} {A:X1} {E:Value->B0->Prop} {s:B0}
theorem stops {h1:Heap} {Q:Option Value->B0->Prop} (hh:A.handled=none) (q :∀h',(∀b o,h1.get? b=some o->h'.get? b=some o)->Q none { s with heap:=h' }) :
  R0 (C1 prog w) A.in1 (do raiseNew (<-newExc (.type "StopIteration") [])) (λ (fin:PySem.Fin) s'=>∃v,fin=.done (.ret v)/\R0 (C1 prog w) A (X2 (some v)) Q E s')
   (λ e s'=>R0 (C1 prog w) A (do if <-isInstance e (.type "StopIteration") then X2 none else throw e) Q E s') { s with heap:=h1 }:=by
 refine t0 ?_;simp only [newExc,newTuple];refine t0 (Q2 (t0 (m:=L8 _ _) (wpAny_of_eq (a:=Q4) (by first|rfl|(simp only [L8];rfl)) (Q2 ?_ (by size_fits)))) (by size_fits));simp only [raiseNew];refine t0 (wpAny_handled ?_);rw [show A.in1.handled=none from hh];refine t0 (L0 (wpAny_throw ?_));refine t0 (wpAny_isInstance (T:="StopIteration") (b:=true) ⟨_,X0 _ rfl,rfl⟩ isSubtype_stop ?_);exact L0 (q _ λ b o e=>D0 _ (D0 _ e))
end
end L2
set_option maxHeartbeats 400000
namespace HT
open PySem PySem.Spec PyProof.Rows L2
variable {prog:Program} {w:P0} {A:X1} {E:Value->B0->Prop} {s:B0}
theorem getItem_tuple_all {t sl:Addr} {items:Array Value} {vl vu:Value} {lo hi:Option Int} {Q:Value->B0->Prop} (ht:IsTup s.heap t items) (hs:s.heap.IsSliceOf sl vl vu .none) (pl:c8 vl lo) (pu:c8 vu hi)
  (h0:sIx items.size 0 lo=0) (h1:sIx items.size items.size hi=items.size) (h:Q (.ref t) s):R0 (C1 prog w) A (m7 (.ref t) (.ref sl)) Q E s:=by
 obtain ⟨e,c,b,f⟩:=id hs;have d:s.TypeIs (.ref sl) "slice":=⟨e,c,b⟩
 unfold m7;try with_reducible refine R4 ?_
 first|refine t0 (L0 ?_)|skip
 refine t0 (wpAny_sequenceKey ht.typeIs (by decide) (t0 (E3 (name:=i6 "__getitem__") ht.typeIs O3 (u3 O3 ht.typeIs entry_tuple_getitem ?_ (args_tuple_getitem _ _)))));refine (show R0 _ _ (A8 (.ref t) >>= _) _ _ s from t0 (tupleItemsOf_ ht (t0 (B9 d ?_))));rw [if_pos (by decide)];refine t0 (z2y hs pl pu ?_);have a:(((sIx items.size 0 lo:Nat):Int) == 0 && (1:Int) == 1 && (sIx items.size items.size hi - sIx items.size 0 lo) == items.size)=true:=by rw [h0,h1];simp
 refine (show R0 _ _ (if (((sIx items.size 0 lo:Nat):Int) == 0 && (1:Int) == 1 && (sIx items.size items.size hi - sIx items.size 0 lo) == items.size)=true then _ else _) _ _ s from ?_);rw [if_pos a];refine t0 (show R0 _ _ (typeOf (.ref t) >>= _) _ _ s from t0 (B9 ht.typeIs (L0 ?_)));rw [if_pos (by decide)];first
  | exact t0 (j1c (L0 ⟨_,rfl,L0 h⟩))
  | exact t0 (j1c (L0 (L0 ⟨_,rfl,L0 h⟩)))
  | (trace_state;exact t0 (j1c (L0 ⟨_,rfl,h⟩)))
end HT
namespace L2
open PySem PySem.Spec PyProof.Rows
section
variable {X:Cx}
def rSlW (K:b0):V->Option Int->Option Int->Hp->VK->Prop:=λ x lo hi H Q=>∃a xs,x=.ref a/\SqT K H a xs/\(HT.sIx xs.length 0 lo=0/\HT.sIx xs.length xs.length hi=xs.length)/\Q (.ref a) H
theorem zko:SlR X (rSlW X.K):=by intro o s σ H x v w p y n u Q I e i f j h;obtain ⟨a,l,rfl,d,⟨m,g⟩,q⟩:=h;cases e;obtain ⟨k,r,c,t⟩:=I.tuple d;have b:k.toArray.size=l.length:=(O0 ..).trans r.length.symm;refine ⟨"tuple",_,PyProof.Rows.slot_tuple_getitem.lookup,c.typeIs,HT.getItem_tuple_all c i f j (by rw [b];exact m) (by rw [b];exact g) ⟨.ref a,H,I,rfl,q⟩⟩
theorem slSeqW:SlR X (λ x lo hi H Q=>(rSlL X.K x lo hi H Q\/rSlT X.K x lo hi H Q\/rSlS x lo hi H Q)\/rSlW X.K x lo hi H Q):=slSeq.or zko
end
theorem zk7 {names:List (Str×Y4)} {ns:List Str} {Q:Str×Y4->Prop} (h:(names.all λ y=>y.2 != T1 || ns.contains y.1)=true) (q :∀n,n∈ns->∀k,Q (n,k)) :∀y∈names,y.2=T1->Q y:=λ y c e=>by
 have z:=List.all_eq_true.mp h y c;rw [e] at z;have z:ns.contains y.1=true:=by simpa using z
 obtain ⟨a,b⟩:=y;exact q a (by simpa using z) b
theorem zdy {S:Hp->Hp->Prop} {ta:TA} {te:TE} {tc:TT} {g:TG} {m n:Nat} {fr:List (Nat×Str)} {σ:St} {H H1:Hp} {Q:VK} (p:Nat->Bool) (R:Nat->V->Hp->Prop) (s0:S H1 H1) (st :∀a b c,S a b->S b c->S a c) (hs :∀H,S H1 H->S H H) (hR :∀i y H H',S H H'->R i y H->R i y H')
  (hta :∀T:List V->Hp->Prop,T [.int (n:Nat)] H1->ta σ H T) (hn:n<=sizeLine)
  (body :∀i,i < n->∀H,S H1 H->∀(KT:VK) (KF:Hp->Prop),(p i=true->∀y H',S H H'->R i y H'->KT y H')->(p i=false->∀H',S H H'->KF H')->
   g (.int (i:Nat)) (cStG σ fr (S1 m none)) H λ σ6 H6=>∃us,us.length=m/\σ6=cStG σ fr us/\tc (cStG σ fr us) H6 λ b H2=>if b=true then te (cStG σ fr us) H2 KT else KF H2)
  (hQ :∀l H' ys,S H1 H'->H' l=none->All2 (λ i y=>R i y H') ((N1 n).filter p) ys->Q (.ref l) (upd H' l (.lst ys))):tCompG (iRng1 ta) m fr g tc te σ H Q:=by
 have b:(n:Int) < 2 ^ 62:=Int.lt_of_le_of_lt (Int.ofNat_le.mpr hn) (by decide);refine hta _ ⟨n,rfl,by omega,b,?_⟩;exact z25 s0 st p R hR (zgc hs) hn (λ i d v H s e KT KF h f=>by subst e;exact body i d H s KT KF h f) hQ
theorem qs_ret {X:Cx} {pos:Pos} {e:Expr} {te:TE} (h:QE X e te):QS X (.Return (some e) pos) (tRet te):=⟨ps_ret h.run⟩
section
variable {prog:Program} {w:P0} {A:X1} {E:Value->B0->Prop} {s:B0}
theorem zfx :∀{vs:List Value} {ss:List Str},j15 vs ss->vs.length=ss.length
 | _,_,.nil=>rfl
 | _,_,.cons y t h=>by rw [W0,W0,zfx h]
theorem zep :∀{vs:List Value} {ss:List Str},j15 vs ss->∀v∈vs,∃a,strKind.keyOf v=some a
 | _,_,.nil,v,h=>absurd h u0
 | _,_,.cons y t h,v,hv=>by
  rcases List.mem_cons.mp hv with rfl|hv
  ·exact ⟨_,rfl⟩
  ·exact zep h v hv
theorem zab :∀{vs:List Value} {ss:List Str},j15 vs ss->Vals (ss.map V.str) vs
 | _,_,.nil=>.nil
 | _,_,.cons n t h=>.cons ⟨t,rfl⟩ (zab h)
theorem z96 :∀{ss:List Str} {us:List Value},us.length=ss.length->(∀(j:Nat) (u:Value),us[j]? = some u->∃(i:Str) (t:Tok),ss[j]? = some i/\u=K5 i t)->j15 us ss
 | [],us,hl,_=>by have z:us=[]:=List.eq_nil_of_length_eq_zero hl;subst z;exact .nil
 | n :: ss,us,hl,h=>by
  cases us with
  | nil=>cases hl
  | cons u us=>obtain ⟨i,t,e,rfl⟩:=h 0 u rfl;have e:n=i:=Q1 e;subst e;exact .cons n t (z96 (Nat.succ.inj hl) λ j v e=>h (j + 1) v (by simpa using e))
theorem zhg {v:Value} {Q:Value->B0->Prop} {ss:List Str} (hn:ss.length < 64)
  (hc :∀R:List Value->B0->Prop,(∀h' tk vs,(∀b o,s.heap.get? b=some o->h'.get? b=some o)->j15 vs ss->R vs { s with heap:=h',toks:=tk })->R0 (C1 prog w) A.in1 (collect v) R E s)
  (h :∀(h1 h':Heap) (tk:Nat) (out:Array Value) (ss':List Str) (e:Nat),(∀b o,s.heap.get? b=some o->h1.get? b=some o)->(∀b o,h1.get? b=some o->h'.get? b=some o)->h'.get? h1.objs.size=some { cls:=.type "list",data:=.seq out e }->j15 out.toList ss'->ss'.Perm ss->sortedS ss'=true->Q (.ref h1.objs.size) { s with heap:=h',toks:=tk }) :
  R0 (C1 prog w) A (call (.builtin "sorted") [v]) Q E s:=by
 refine X9 kind_sorted plain_sorted entry_sorted (args_sorted1 _) ?_;unfold j19.«sorted»;refine t0 (m:=checkCount "sorted" 1 1 _) (L0 (t0 (hc _ λ h1 tk vs q a=>?_)));have d:vs.length < 64:=by rw [zfx a];exact hn
 refine t0 (wpAny_newList ?_ (C0 (G3 d) (by decide)));have c:(h1.push (seqObj "list" vs.toArray 0)).get? h1.objs.size=some (seqObj "list" vs.toArray 0):=X0 _ rfl;have k:KeysOf strKind (pairsOf vs):=λ p g=>by
  have:p.1∈vs:=by have:=(M7 (show (p.1,p.2)∈vs.zip vs by simpa [pairsOf] using g)).1;exact this
  exact zep a _ this
 refine t0 (R4 (u3 slot_list_sort ⟨_,c,rfl⟩ entry_list_sort (list_sort_treeK strKind_oneLt c k (λ B z r e=>by subst e;exact keyKind_strs a) d λ l u i=>⟨_,rfl,?_⟩) (args_list_sort _)));obtain ⟨ss',n,j,y⟩:=sorted_out_str a u i;obtain ⟨e,t⟩:=sortedHeap_at (out:=Array.map (λ x=>x.snd) (arrOf l)) c;refine L0 ⟨_,rfl,h h1 _ tk _ ss' e q (λ b o f=>?_) t n j y⟩;have lt:=S0 f;refine (sortedHeap_old (G1 lt) ?_).trans (D0 _ f);rw [size_push'];exact Y1 lt
end
section
variable {X:Cx}
theorem z9l (hcalm:X.calm=true):CallR X (.builtin "sorted") (λ xs H Q=>∃a kvs ss,xs=[.ref a]/\H a=some (.dK kvs)/\kvs.map (·.1)=ss.map Sum.inr/\ss.length < 64/\∀(l:Addr) (ss':List Str),H l=none->ss'.Perm ss->sortedS ss'=true->Q (.ref l) (upd H l (.lst (ss'.map V.str)))):=by
 intro L s σ H xs Y Q I r h;obtain ⟨a,kvs,ss,rfl,F,G,n,q⟩:=h;obtain ⟨u,rfl,D⟩:=vals1 r;cases D;obtain ⟨N,U,d,w,T⟩:=dk_of I.hok F;obtain ⟨ep,E⟩:=T.dictAt;refine zhg n (λ R K=>?_) λ m B c J ss' e M O g i p r=>?_
 ·have keys:d.map (·.1)=ss.map Sum.inr:=w.keys.symm.trans G;have P:d.length=ss.length:=by have:=congrArg j27 keys;simpa using this
  refine PySem.W.kdu_collect (PySem.W.kdl_dict U) (show X.A.in1.handled=none from I.ok.hd hcalm) E (by rw [<-w.length];exact N) λ B c Z k v=>K B c _ k (z96 (by rw [U5,v.1,P]) λ j u e=>?_);obtain ⟨y,x,C,S⟩:=v.2 j u (by rw [<-j1a];exact e);have b:(d.map (·.1))[j]? = some y:=by rw [A1,C];rfl
  rw [keys,A1] at b;cases en:ss[j]? with
  | none=>rw [en] at b;cases b
  | some i=>
   rw [en] at b;have b:Sum.inr i=y:=Q1 b;subst b;rcases z0m (show keyIs (.inr i) u=true from S) with ⟨_,_,z,_⟩|⟨i',t,z,rfl⟩
   ·cases z
   ·cases z;exact ⟨i,t,rfl,rfl⟩
 ·have f:Inv X L σ H { s with heap:=m }:=I.kept (t':=s.toks) M;refine ⟨.ref m.objs.size,_,f.laid (t':=c) (o:=.lst (ss'.map V.str)) O (A0 _) ⟨?_,J.toList,e,zab i,by simpa using g⟩,rfl,q _ ss' (f.hok.fresh (A0 _)) p r⟩;rw [F0,p.length_eq];exact C0 (G3 n) (by decide)
end
def rIndex:V->List V->Hp->VK->Prop:=λ x vs H Q=>∃(l:Addr) (ss:List Str) (z:Str) (j:Nat),x=.ref l/\vs=[.str z]/\H l=some (.lst (ss.map V.str))/\ss.length<=1000/\ss[j]? = some z/\(∀m,m < j->ss[m]?≠some z)/\Q (.int (j:Nat)) H
section
variable {X:Cx}
theorem zk2 {ss:List Str} :∀{us:List Value},Vals (ss.map V.str) us->∀(j:Nat) (u:Value),us[j]? = some u->∃y t,ss[j]? = some y/\u=K5 y t:=by
 induction ss with
 | nil=>intro us r j u e;rw [u4] at r;cases r;simp at e
 | cons n ss ih=>
  intro us r j u e;rw [Y0] at r;cases r with
  | cons r1 r2=>
   obtain ⟨t,rfl⟩:=r1;cases j with
   | zero=>rw [J2] at e;cases e;exact ⟨n,t,rfl,rfl⟩
   | succ j=>rw [W1] at e;exact ih r2 j u e
theorem zix:MtM X "list.index" rIndex:=by
 intro N s σ H x L v J Q I A D h;obtain ⟨l,w,z,j,rfl,rfl,E,K,i,g,q⟩:=h;cases A;obtain ⟨u,rfl,B⟩:=D.one;obtain ⟨t,rfl⟩:=B;obtain ⟨O,c,n,r,M,e⟩:=I.lstM E;have lt:j < c.length:=by rw [<-r.length,F0];exact (List.getElem?_eq_some_iff.mp i).1
 let ev:Value->Bool:=λ y=>match y with | .str a _=>a == z|_=>false
 have at_ :∀m (g:m < c.toArray.size),∃y d,w[m]? = some y/\c.toArray[m]=K5 y d:=λ m g=>zk2 r m _ ((K0 (show m < c.length by simpa using g)).trans (by simp));refine call_meets F.slot_list_index ⟨_,e,rfl⟩ F.entry_list_index (F.args_list_index_2 _ _) (SeqAt.list_indexAt l c.toArray n none #[] (.str z t) ev j (by simpa using lt) ?_ ?_ ?_) ⟨e,λ y p=>?_,?_⟩
 ·have:=(List.getElem?_eq_some_iff.mp i).1;have:(j:Int) < 1000:=by omega
  exact Int.lt_trans this (by decide)
 ·obtain ⟨y,d,f,b⟩:=at_ j (by simpa using lt);rw [b];rw [i] at f;cases f;exact beq_self_eq_true z
 ·intro m k G;obtain ⟨y,d,f,b⟩:=at_ m k;rw [b];refine beq_eq_false_iff_ne.mpr λ e=>g m G ?_;rw [f,e]
 ·obtain ⟨m,k,o⟩:=Array.mem_iff_getElem.mp p;obtain ⟨C,d,f,b⟩:=at_ m k;rw [b] at o;subst o;exact j08 C d z t
 ·exact ⟨.int (j:Nat),H,I.tok _,⟨_,rfl⟩,q⟩
theorem zeo {o e:Expr} {es:List Expr} {to:TE} {t:TA} {apos cpos:Pos} (ho:PE X o to) (ha:PA X (e :: es) t)
  (hbase:j4 o "index" X.env (d3 o X.env)=d3 o X.env:=by rfl)
  (hfew:((E4 cpos (P1 (e :: es) X.env)).all (λ x=>!x.1) && (L9 cpos (i7 [] X.env)).all (λ x=>x.1.isSome) && decide ((e :: es).length + ([]:List L6).length + (if ([]:List L6).isEmpty then 0 else 1) < 30))=true:=by rfl)
  (hline:(apos.endLine == cpos.line)=true:=by rfl) (hs:P1 (e :: es) X.env=(false,d3 e X.env) :: P1 es X.env:=by rfl) (hplain:(E4 cpos (P1 es X.env)).any (·.1)=false:=by rfl) :
  PE X (.Call (.Attribute o "index" apos) (e :: es) [] cpos) (tBM X.K "list" rIndex to t):=pe_bm F6 PySem.F.slot_list_index PySem.F.type_list_index zix ho ha hbase hfew hline hs hplain
end
noncomputable def pickV (xs:List V) (lo hi st:Option Int):List V:=(sliceRange (F2 lo hi st xs.length).1 (F2 lo hi st xs.length).2.1 (F2 lo hi st xs.length).2.2).filterMap λ i=>xs[i]?
theorem zgo {xs:List V} {lo hi st:Option Int} {y:V} (h:y∈pickV xs lo hi st):y∈xs:=by obtain ⟨i,_,e⟩:=List.mem_filterMap.mp h;exact Q0 e
theorem zc8 {xs:List V} {us:List Value} (r:Vals xs us) :∀is:List Nat,Vals (is.filterMap λ i=>xs[i]?) (is.filterMap λ i=>us[i]?)
 | []=>.nil
 | i :: is=>by
  have a:=zc8 r is;have c:=r.length;cases e:xs[i]? with
  | none=>have f:us[i]? = none:=L5 (by rw [<-c];exact List.getElem?_eq_none_iff.mp e);rw [j0e e,j0e f];exact a
  | some x=>obtain ⟨u,d,b⟩:=r.get e;rw [j0d e,j0d d];exact .cons b a
theorem zg6 {xs:List V} {lo hi:Option Int} {k:Int} (hk:0 < k):(pickV xs lo hi (some k)).length<=xs.length:=by
 refine C0 (N6 _ _) ?_;have e:(F2 lo hi (some k) xs.length).2.2=k:=rfl;have c:0<=(F2 lo hi (some k) xs.length).1:=by
  cases lo with
  | none=>show 0<=(if k > 0 then (0:Int) else _);rw [if_pos hk];exact z9 _
  | some i=>show 0<=(if k > 0 then max (0:Int) _ else _);rw [if_pos hk];exact Int.le_max_left _ _
 have d:(F2 lo hi (some k) xs.length).2.1<=(xs.length:Int):=by
  cases hi with
  | none=>show (if k > 0 then (xs.length:Int) else _)<=_;rw [if_pos hk];exact z9 _
  | some i=>show (if k > 0 then max (0:Int) (min _ (xs.length:Int)) else _)<=_;rw [if_pos hk];omega
 rw [e];generalize (F2 lo hi (some k) xs.length).1=a at c⊢;generalize (F2 lo hi (some k) xs.length).2.1=b at d⊢;unfold sliceRange;rw [F0,E2,if_pos hk];by_cases z:a < b
 ·rw [if_pos z];have:(b - a + k - 1) / k < b - a + 1:=by
   apply Int.ediv_lt_of_lt_mul hk;have:(b - a + 1) * k=(b - a) * k + k:=by rw [Int.add_mul,Int.one_mul]
   have f:b - a<=(b - a) * k:=by have:=Int.mul_le_mul_of_nonneg_left (show (1:Int)<=k by omega) (show 0<=b - a by omega);omega
   omega
  omega
 ·rw [if_neg z];exact Z1 _
noncomputable def tSl3 (K:b0) (te:TE) (tl th ts:TO):TE:=λ σ H Q=>te σ H λ x H1=>tl σ H1 λ l H2=>th σ H2 λ u H3=>ts σ H3 λ k H4=>∃a xs,x=.ref a/\SqL K H4 a xs/\k≠some 0/\(pickV xs l u k).length<=sizeLine/\∀p,H4 p=none->Q (.ref p) (upd H4 p (.lst (pickV xs l u k)))
theorem zhl {X:Cx} {e:Expr} {te:TE} {lo hi:Option Expr} {st:Expr} {tl th ts:TO} {pos p2:Pos} (he:PE X e te) (hl:PO X lo tl) (hu:PO X hi th) (hs:PO X (some st) ts):PE X (.Subscript e (.Slice lo hi (some st) p2) pos) (tSl3 X.K te tl th ts):=by
 intro d s σ H Q I h;refine j1j (thn (he d s σ H _ I h) λ v B ⟨x,H1,I1,r1,q1⟩=>?_);refine wpAny_Slice (thn (hl d B σ H1 _ I1 q1) λ p C ⟨l,H2,I2,pl,q2⟩=>thn (hu d C σ H2 _ I2 q2) λ j t ⟨u,H3,I3,pu,q3⟩=>thn (hs d t σ H3 _ I3 q3) λ g c ⟨k,H4,I4,pk,a,xs,ex,hx,k0,hz,q⟩=>?_);subst ex;cases r1;have f:Inv X d σ H4 { c with heap:=c.heap.push { cls:=.type "slice",data:=.fields #[p,j,g] } }:=I4.kept (t':=c.toks) λ b y q=>D0 _ q;obtain ⟨m,r,n,E⟩:=f.list hx;have z:=r.length;refine (show R0 (C1 X.prog X.w) X.A (Y8 e (.Slice lo hi (some st) p2) (.ref a) (.ref c.heap.objs.size)) (EP X d σ Q) X.xe { c with heap:=c.heap.push { cls:=.type "slice",data:=.fields #[p,j,g] } } from ?_);refine j1e (ops:=[.ref a,.ref c.heap.objs.size]) n.isList.typeIs slot_list_getitem.lookup ?_ (by with_unfolding_all rfl);refine wpAny_getItem_list_slice n.isList (A9 ..) pl pu pk k0 ?_ (by rw [O0];omega);have D:slicePick m.toArray l u k=((sliceRange (F2 l u k xs.length).1 (F2 l u k xs.length).2.1 (F2 l u k xs.length).2.2).filterMap λ i=>m[i]?).toArray:=by unfold slicePick;rw [O0,<-z];simp only [j21]
 rw [D];exact ⟨.ref _,_,f.laid (t':=c.toks) (o:=.lst (pickV xs l u k)) (λ b y q=>D0 _ q) (A0 _) ⟨hz,_,0,zc8 r _,X0 _ rfl⟩,rfl,q _ (f.hok.fresh (A0 _))⟩
noncomputable def rCatA (K:b0):R2:=λ x y H Q=>∃a b xs ys,x=.ref a/\y=.ref b/\SqT K H a xs/\SqT K H b ys/\xs.length + ys.length<=sizeLine/\∀p H',Same H H'->SqT K H' p (xs++ys)->Q (.ref p) H'
theorem zcp {X:Cx}:OpR X (A4 .Add) (rCatA X.K):=by
 intro g s σ H x y v u Q I f i h;obtain ⟨a,b,d,j,rfl,rfl,c,e,k,q⟩:=h;by_cases hy:j=[]
 ·subst hy;cases d with
  | nil=>exact zdi g s σ H _ _ v u Q I f i ⟨a,b,[],rfl,rfl,c,e,q b H (Same.refl H) e⟩
  | cons x d=>exact z9j g s σ H _ _ v u Q I f i ⟨a,b,x :: d,[],rfl,rfl,c,e,by simp,k,λ _=>q a H (Same.refl H) (by rw [j2];exact c),λ z=>absurd rfl z⟩
 ·exact op_catS g s σ H _ _ v u Q I f i ⟨a,b,d,j,rfl,rfl,c,e,hy,k,q⟩
theorem qs_if {X:Cx} {pos:Pos} {c:Expr} {a b:List Stmt} {t:TT} {ta tb:TS} (hc:PT X c t) (ha:QSs X a ta) (hb:QSs X b tb):QS X (.If c a b pos) (tIfS t ta tb):=⟨ps_if hc ha.run hb.run⟩
theorem zht :∀{ys:List V},(∀y∈ys,∃i:Int,y=.int i)->∃ms:List Int,ys=ms.map V.int
 | [],_=>⟨[],rfl⟩
 | y :: ys,h=>by obtain ⟨i,rfl⟩:=h y j1;obtain ⟨ms,rfl⟩:=zht λ z a=>h z (Z0 _ a);exact ⟨i :: ms,rfl⟩
theorem zj5 {f:List V->Hp->VK->Prop} {te tb:TE} {r:R2} {σ:St} {H:Hp} {Q:Bool->Hp->Prop} (h:te σ H λ x H1=>f [x] H1 λ y H2=>tb σ H2 λ z H3=>r y z H3 λ b H4=>∃k,b=.bl k/\Q k H4):tTest (tOp r (tCB f (tCons te tNil)) tb) σ H Q:=h
theorem z5x {c:TT} {a b:TS} {D:Ends} {σ:St} {H:Hp} (h:c σ H λ k H1=>if k=true then a D σ H1 else b D σ H1):tIfS c a b D σ H:=h
theorem zdc {K:b0} {a:Addr} {xs:List V} {H1:Hp} (hq:SqL K H1 a xs):RunsR Same (IteL K a) H1 xs.length (λ i v H=>∃x p,xs[i]? = some x/\v=.ref p/\H p=some (.tup [.int (i:Nat),x])):=by refine ⟨λ i b H s=>⟨xs,xs[i],s.seq hq,by simp [b]⟩,λ H s=>⟨xs,s.seq hq,rfl⟩,λ i b H v e s y=>?_⟩;obtain ⟨p,d,rfl,f⟩:=y;obtain ⟨x,c,rfl⟩:=f xs (s.seq hq);exact ⟨Same.upd d,x,p,c,rfl,upd_same⟩
end L2
set_option maxHeartbeats 1000000
namespace L2
open PySem PySem.Spec PyProof.Rows
theorem zak {K:b0} {a:Addr} {xs:List V} {tl te:TE} {tc:TT} {g:TG} {m:Nat} {fr:List (Nat×Str)} {σ:L2.St} {H H1:Hp} {Q:VK} (p:Nat->Bool) (R:Nat->V->Hp->Prop) (hR :∀i y H H',Same H H'->R i y H->R i y H') (htl :∀R:VK,R (.ref a) H1->tl σ H R) (hq:SqL K H1 a xs) (hn:xs.length<=sizeLine)
  (body :∀i,i < xs.length->∀v H,Same H1 H->xs[i]? = some v->∀(KT:VK) (KF:Hp->Prop),(p i=true->∀y H',Same H H'->R i y H'->KT y H')->(p i=false->∀H',Same H H'->KF H')->
   g v (cStG σ fr (S1 m none)) H λ σ6 H6=>∃us,us.length=m/\σ6=cStG σ fr us/\tc (cStG σ fr us) H6 λ b H2=>if b=true then te (cStG σ fr us) H2 KT else KF H2)
  (hQ :∀l H' ys,Same H1 H'->H' l=none->All2 (λ i y=>R i y H') ((N1 xs.length).filter p) ys->Q (.ref l) (upd H' l (.lst ys))):tCompG (iList K tl) m fr g tc te σ H Q:=
 htl _ ⟨a,rfl,⟨xs,hq⟩,z25 (Same.refl _) (λ _ _ _ a b=>a.trans b) p R hR (z9z (S:=Same) (λ _ _=>Same.refl _) λ H s=>s.seq hq) hn body hQ⟩
theorem zh4 {K:b0} {a:Addr} {xs:List V} {ta:TA} {te:TE} {tc:TT} {g:TG} {m:Nat} {fr:List (Nat×Str)} {σ:L2.St} {H H1:Hp} {Q:VK} (p:Nat->Bool) (R:Nat->V->Hp->Prop) (hR :∀i y H H',Same H H'->R i y H->R i y H') (hta :∀T:List V->Hp->Prop,T [.ref a] H1->ta σ H T) (hq:SqL K H1 a xs) (hn:xs.length<=sizeLine)
  (body :∀i,i < xs.length->∀v H,Same H1 H->(∃x p,xs[i]? = some x/\v=.ref p/\H p=some (.tup [.int (i:Nat),x]))->∀(KT:VK) (KF:Hp->Prop),(p i=true->∀y H',Same H H'->R i y H'->KT y H')->(p i=false->∀H',Same H H'->KF H')->
   g v (cStG σ fr (S1 m none)) H λ σ6 H6=>∃us,us.length=m/\σ6=cStG σ fr us/\tc (cStG σ fr us) H6 λ b H2=>if b=true then te (cStG σ fr us) H2 KT else KF H2)
  (hQ :∀l H' ys,Same H1 H'->H' l=none->All2 (λ i y=>R i y H') ((N1 xs.length).filter p) ys->Q (.ref l) (upd H' l (.lst ys))):tCompG (ieL K ta) m fr g tc te σ H Q:=
 hta _ ⟨a,xs,rfl,hq,z25 (Same.refl _) (λ _ _ _ a b=>a.trans b) p R hR (zdc hq) hn body hQ⟩
theorem z3b {K:b0} {a:Addr} {xs:List V} {tl te:TE} {tc:TT} {g:TG} {m:Nat} {fr:List (Nat×Str)} {σ:L2.St} {H H1:Hp} {Q:VK} (p:Nat->Bool) (R:Nat->V->Hp->Prop) (hR :∀i y H H',Same H H'->R i y H->R i y H') (htl :∀R:VK,R (.ref a) H1->tl σ H R) (hq:SqT K H1 a xs) (hn:xs.length<=sizeLine)
  (body :∀i,i < xs.length->∀v H,Same H1 H->xs[i]? = some v->∀(KT:VK) (KF:Hp->Prop),(p i=true->∀y H',Same H H'->R i y H'->KT y H')->(p i=false->∀H',Same H H'->KF H')->
   g v (cStG σ fr (S1 m none)) H λ σ6 H6=>∃us,us.length=m/\σ6=cStG σ fr us/\tc (cStG σ fr us) H6 λ b H2=>if b=true then te (cStG σ fr us) H2 KT else KF H2)
  (hQ :∀l H' ys,Same H1 H'->H' l=none->All2 (λ i y=>R i y H') ((N1 xs.length).filter p) ys->Q (.ref l) (upd H' l (.lst ys))):tCompG (iTup K tl) m fr g tc te σ H Q:=
 htl _ ⟨a,rfl,⟨xs,hq⟩,z25 (Same.refl _) (λ _ _ _ a b=>a.trans b) p R hR (zc3 (S:=Same) (λ _ _=>Same.refl _) λ H s=>s.seqT hq) hn body hQ⟩
theorem e_cb1 {f:List V->Hp->VK->Prop} {te:TE} {σ:L2.St} {H:Hp} {Q:VK} (h:te σ H λ x H1=>f [x] H1 Q):tCB f (tCons te tNil) σ H Q:=h
theorem t_or {t u:TT} {σ:L2.St} {H:Hp} {Q:Bool->Hp->Prop} (h:t σ H λ c H1=>if c=true then Q true H1 else u σ H1 Q):tOr t u σ H Q:=h
theorem sq_if {c:TT} {a b rest:TS} {D:Ends} {σ:L2.St} {H:Hp} (h:c σ H λ k H1=>if k=true then a { D with nx:=rest D } σ H1 else b { D with nx:=rest D } σ H1):tSeq (tIfS c a b) rest D σ H:=h
theorem sq_ret {te:TE} {D:Ends} {σ:L2.St} {H:Hp} (h:te σ H D.rt):tRet te D σ H:=h
section
variable {X:Cx} {pins:List (Addr×Obj)} {σ:St} {H:Hp} {s:B0} {a:Addr} {u v:HO}
theorem Inv.retold (I:Inv X pins σ H s) (e:H a=some u) (nt :∀xs,u≠.tup xs) (nb :∀ps,u≠.tbl ps) (no :∀c,u≠.own c) (nf :∀o w,X.H₀ a≠some (.frz o w)) (ok:ObjOk X.prog X.w (upd H a v) s.heap a v):Inv X pins σ (upd H a v) s:=by
 have d :∀{b:Addr},H b=none->b≠a:=λ n z=>by rw [z,e] at n;cases n
 refine ⟨I.ok,I.os,I.bare,⟨I.base.keep,I.base.slot,λ b o q n g=>?_,I.base.there,λ b xs q=>?_,λ b o w q=>?_,λ b ps q=>?_⟩,I.loc,I.cell,?_,λ x c q=>?_,λ p i=>?_,λ b o q=>?_,I.len⟩
 ·have z:=I.base.free b o q n g;rw [upd_ne (d z)];exact z
 ·have z:=I.base.tups b xs q;rw [upd_ne (λ y=>by rw [y,e] at z;exact nt xs (Q1 z))];exact z
 ·have z:=I.base.frzs b o w q;rw [upd_ne (λ y=>by rw [y] at q;exact nf o w q)];exact z
 ·obtain ⟨h,z⟩:=I.base.tbls b ps q;exact ⟨h,by rw [upd_ne (λ y=>by rw [y,e] at z;exact nb _ (Q1 z))];exact z⟩
 ·rw [upd_ne (d I.free)];exact I.free
 ·rw [upd_ne (d (I.freeC x c q))];exact I.freeC x c q
 ·obtain ⟨k,f,j⟩:=I.pin p i;exact ⟨k,by rw [upd_ne (d f)];exact f,j⟩
 ·by_cases z:b=a
  ·subst z;rw [upd_same] at q;cases q;exact ok
  ·rw [upd_ne z] at q;refine (I.hok b o q).stay (λ _ _ _ y=>y) (λ c y=>?_) λ c xs y=>?_
   ·rw [upd_ne (λ x=>by rw [x,e] at y;exact no b (Q1 y))];exact y
   ·rw [upd_ne (λ x=>by rw [x,e] at y;exact nt xs (Q1 y))];exact y
end
end L2
set_option maxHeartbeats 400000
namespace L2
open PySem PySem.Spec PyProof.Rows
end L2
set_option maxHeartbeats 1000000
namespace L2
open PySem PySem.Spec PyProof.Rows
theorem zbk {te:TE} {σ:L2.St} {H:Hp} {Q:List V->Hp->Prop} (h:te σ H λ y H1=>Q [y] H1):tCons te tNil σ H Q:=h
section
variable {X:Cx}
noncomputable def rNeL0 (K:b0):R2:=λ x y H Q=>∃a b xs,x=.ref a/\y=.ref b/\SqL K H a xs/\SqL K H b []/\Q (.bl (decide (xs≠[]))) H
theorem zic {k:Nat} (hr:Room k X.A):OpR X (C2 .NotEq) (rNeL0 X.K):=by
 intro D s σ H x y v u Q I i o h;obtain ⟨a,b,p,rfl,rfl,l,r,q⟩:=h;cases i;cases o;obtain ⟨C,f,d,_⟩:=I.list l;obtain ⟨B,n,g,_⟩:=I.list r;cases n;have c:X.A.units < cLine:=Nat.lt_of_succ_lt (hu_of hr);have m:=f.length;cases p with
 | nil=>cases f;exact SeqAt.RcNeAt.lists (e:=λ _=>true) d.isList g.isList rfl c (λ j t _=>absurd t (R3 _)) X.prog X.w _ _ ⟨.bl _,H,I,rfl,q⟩
 | cons z zs=>refine SeqAt.RcNeAt.lists_lengths d.isList g.isList ?_ c X.prog X.w _ _ ⟨.bl _,H,I,rfl,q⟩;rw [O0,<-m];rfl
end
structure ZLAt (h:Heap) (z T U i j a b:Addr) (n:Nat) (f:Value):Prop where
 z:IsZip h z T U f
 t:IsPair h T (.ref i) (.ref j)
 u :∃p q,IsPair h U p q
 i:h.IsListIter i a n
 j:h.IsListIter j b n
noncomputable def jl (c:Nat):List (List Nat)->List Nat
 | []=>[]
 | [a]=>a
 | a :: b :: r=>a++c :: jl c (b :: r)
end L2
namespace L2
open PySem PySem.Spec PyProof.Rows PySem.NumText
end L2
namespace L2
open PySem PySem.Spec PyProof.Rows
end L2
open PySem PySem.W PyProof.Rows
set_option maxHeartbeats 4000000
namespace TJ
section
variable (p:Program) (w:P0) (n₀:Nat) (ann:Option Value) (code:Code) (q:Pos)
theorem zhc {n m:Nat} :∀{s s' s'':B0} {t t' t'':j1i},segGo U2 p w n₀ ann 1 n s t=some (s',t')->segGo U2 p w n₀ ann 1 m s' t'=some (s'',t'')->
  segGo U2 p w n₀ ann 1 (n + m) s t=some (s'',t''):=by
 induction n with
 | zero=>
  intro s s' s'' t t' t'' h k;obtain ⟨rfl,rfl⟩:s=s'/\t=t':=by simpa [segGo] using h
  rw [G7];exact k
 | succ n ih=>
  intro s s' s'' t t' t'' h k;rw [show n + 1 + m=n + m + 1 by omega];unfold segGo at h⊢;cases he:endAt 1 t with
  | some f=>rw [he] at h;cases h
  | none=>
   rw [he] at h;cases hk:stepOk n₀ ann t with
   | false=>rw [hk] at h;cases h
   | true=>
    rw [hk] at h;cases hs:step (denote U2) p w s t with
    | halt o s₂=>rw [hs] at h;cases h
    | go s₂ t₂=>rw [hs] at h;exact ih h k
def Steps (c:Nat) (s:B0) (t:j1i) (s':B0) (t':j1i):Prop:=∃n,n<=c/\segGo U2 p w n₀ ann 1 n s t=some (s',t')
def Goes {α:Type} (c:Nat) (x:Sem α) (s:B0) (pos:Pos) (a:α) (s':B0) (pos':Pos):Prop:=
 ∀(K:α->Sem Fin) (H:Value->Sem Fin) (gd:Bool->Bool) (lv:List Value->List Value),
  Steps p w n₀ ann c s ⟨x.wrap K H gd lv,code,pos,[topFrame q]⟩ s' ⟨K a,code,pos',[topFrame q]⟩
end
section
variable {p:Program} {w:P0} {n₀:Nat} {ann:Option Value} {code:Code} {q:Pos}
theorem Steps.trans {c d:Nat} {s s' s'':B0} {t t' t'':j1i} (h:Steps p w n₀ ann c s t s' t') (k:Steps p w n₀ ann d s' t' s'' t''):Steps p w n₀ ann (c + d) s t s'' t'':=by obtain ⟨n,b,h⟩:=h;obtain ⟨m,a,k⟩:=k;exact ⟨n + m,by omega,zhc p w n₀ ann h k⟩
theorem Steps.refl {s:B0} {t:j1i}:Steps p w n₀ ann 0 s t s t:=⟨0,A0 _,rfl⟩
theorem Steps.le {c d:Nat} {s s':B0} {t t':j1i} (h:Steps p w n₀ ann c s t s' t') (l:c<=d):Steps p w n₀ ann d s t s' t':=let ⟨n,a,b⟩:=h;⟨n,C0 a l,b⟩
theorem Steps.one {s s':B0} {t t':j1i} (he:endAt 1 t=none) (hk:stepOk n₀ ann t=true) (hs:step (denote U2) p w s t=.go s' t'):Steps p w n₀ ann 1 s t s' t':=by refine ⟨1,A0 _,?_⟩;unfold segGo;rw [he,hk,hs];rfl
variable {α β:Type} {s s' s'':B0} {pos pos' pos'':Pos} {a:α} {b:β} {c d:Nat}
theorem Goes.pure:Goes p w n₀ ann code q 0 (j10 a:Sem α) s pos a s pos:=λ _ _ _ _=>.refl
theorem Goes.le {x:Sem α} (h:Goes p w n₀ ann code q c x s pos a s' pos') (l:c<=d):Goes p w n₀ ann code q d x s pos a s' pos':=λ K H e b=>(h K H e b).le l
theorem Goes.bind {x:Sem α} {f:α->Sem β} (h:Goes p w n₀ ann code q c x s pos a s' pos') (k:Goes p w n₀ ann code q d (f a) s' pos' b s'' pos''):Goes p w n₀ ann code q (c + d) (x >>= f) s pos b s'' pos'':=by
 intro K H i g;have e:(x >>= f).wrap K H i g=x.wrap (λ a=>(f a).wrap K H i g) H i g:=by rw [Sem.bind_eq_wrap',Sem.wrap_wrap];rfl
 rw [e];exact (h _ H i g).trans (k K H i g)
theorem Goes.keep {x:Sem α} {vs:List Value} (h:Goes p w n₀ ann code q c x s pos a s' pos'):Goes p w n₀ ann code q c (x.keep vs) s pos a s' pos':=by intro K H d b;rw [Sem.keep_eq_wrap,Sem.wrap_wrap];exact h K H _ _
theorem Goes.holding {x:Sem α} {vs:List Value} (h:Goes p w n₀ ann code q c x s pos a s' pos'):Goes p w n₀ ann code q c (E9 vs x) s pos a s' pos':=by rw [holding_eq_keep];exact h.keep
theorem Goes.rule {tag:String}:Goes p w n₀ ann code q 1 (PySem.rule tag) s pos () s pos:=λ _ _ _ _=>.one rfl rfl rfl
theorem Goes.at' {pos₁:Pos}:Goes p w n₀ ann code q 1 (j14 pos₁) s pos () s pos₁:=λ _ _ _ _=>.one rfl rfl rfl
theorem Goes.loadPart {A:Addr} {o:Obj} {part:Option Value} (ho:s.heap.get? A=some o):Goes p w n₀ ann code q 1 (loadPart A part) s pos o s pos:=λ K H c b=>.one rfl rfl (by obtain ⟨heap,a,f,d,e⟩:=s;show (match heap.get? A with|some o=>Step.go _ _|none=>_)=_;have ho:heap.get? A=some o:=ho;rw [ho];rfl)
theorem Goes.updatePart {A:Addr} {o:Obj} {f:Obj->Obj} {part:Option Value} (ho:s.heap.get? A=some o) (hn:Nat.ble n₀ A=true):Goes p w n₀ ann code q 1 (updatePart A part f) s pos () { s with heap:=s.heap.update A f } pos:=λ K H c b=>
 .one rfl (by
  show (_ && (Nat.ble n₀ A || _ || _ || _))=true;rw [hn];rfl) (by
  obtain ⟨heap,a,g,d,e⟩:=s;have ho:heap.get? A=some o:=ho;show (if (heap.get? A).isSome=true then Step.go _ _ else _)=_;rw [ho];rfl)
theorem Goes.leaf {x:Sem α} {sT sT':SharedT} (n:Nat) (h :∀K H gd lv,segGoT U2 p w n₀ ann 1 n sT ⟨x.wrap K H gd lv,code,pos,[topFrame q]⟩=some (sT',⟨K a,code,pos',[topFrame q]⟩)) :
  Goes p w n₀ ann code q n x sT.abs pos a sT'.abs pos':=λ K H gd lv=>⟨n,A0 _,segGo_of (h K H gd lv)⟩
end
end TJ
open PySem PySem.W PyProof.Rows
namespace TJ
section
variable {p:Program} {w:P0} {n₀:Nat} {ann:Option Value} {code:Code} {q:Pos} {s:B0} {pos:Pos}
theorem Goes.forIn {γ β:Type} {c:Nat} {f:γ->β->Sem (ForInStep β)} {b:β} :∀{l:List γ},(∀x∈l,Goes p w n₀ ann code q c (f x b) s pos (.yield b) s pos)->Goes p w n₀ ann code q (l.length * c) (ForIn.forIn l b f) s pos b s pos
 | [],_=>by rw [m6];exact Goes.pure.le (Z1 _)
 | x :: l,h=>by rw [Z4];have k:=Goes.forIn (l:=l) λ y a=>h y (Z0 _ a);have e:=Goes.bind (f:=λ r=>match r with | .done b=>(j10 b:Sem β) | .yield b=>ForIn.forIn l b f) (h x j1) k;exact e.le (by rw [W0,Nat.add_mul];omega)
theorem Goes.entries {d:Addr} {o:Obj} {es:Array DictEntry} {ep:Nat} {part:Option Value} (ho:s.heap.get? d=some o) (hd:o.data=.dict es ep):Goes p w n₀ ann code q 1 (dictEntries d part) s pos es s pos:=by unfold dictEntries;refine (Goes.bind (d:=0) (Goes.loadPart ho) ?_);rw [hd];exact Goes.pure
theorem Goes.epoch {d:Addr} {o:Obj} {es:Array DictEntry} {ep:Nat} {part:Option Value} (ho:s.heap.get? d=some o) (hd:o.data=.dict es ep):Goes p w n₀ ann code q 1 (dictEpoch d part) s pos ep s pos:=by unfold dictEpoch;refine (Goes.bind (d:=0) (Goes.loadPart ho) ?_);rw [hd];exact Goes.pure
theorem Goes.mayTell {a:Addr} {stored:List Value} {cq:Nat} (hq:Goes p w n₀ ann code q cq (W3 8 (.ref a)) s pos true s pos) (hs :∀v∈stored,Goes p w n₀ ann code q cq (W3 8 v) s pos true s pos) :
  Goes p w n₀ ann code q (cq + stored.length * cq) (tableMayTell (.ref a) stored) s pos false s pos:=by
 unfold tableMayTell;split
 ·exact Goes.pure.le (Z1 _)
 ·refine Goes.bind hq ?_;simp only [j0g,F8,if_false];refine (Goes.bind (a:=(none,())) (d:=0) (Goes.forIn λ v b=>?_) ?_).le (A0 _)
  ·refine (Goes.bind (d:=0) (hs v b) ?_).le (A0 _);simp only [j0g,F8,if_false];exact Goes.pure
  ·exact Goes.pure
theorem Goes.find_none {d a:Addr} {o:Obj} {es:Array DictEntry} {ep:Nat} {h:Int} {cq ce:Nat} (ho:s.heap.get? d=some o) (hd:o.data=.dict es ep)
  (hq:Goes p w n₀ ann code q cq (W3 8 (.ref a)) s pos true s pos)
  (hk :∀e∈es.toList,∃b,e.key=.ref b/\b≠a/\Goes p w n₀ ann code q cq (W3 8 (.ref b)) s pos true s pos/\Goes p w n₀ ann code q ce (eqBool (.ref b) (.ref a)) s pos false s pos) :
  Goes p w n₀ ann code q (2 + cq + es.size * (cq + ce + 10)) (dictFind d (.ref a) h) s pos none s pos:=by
 have n :∀(i:Nat) (e:DictEntry),es[i]? = some e->e∈es.toList:=λ i e A=>Array.mem_toList_iff.mpr (Array.mem_of_getElem? A);have x:¬ (es.any λ e=>e.key == F1 a && e.hash != h)=true:=by rw [<-Array.any_toList,X6];rintro ⟨e,hin,hc⟩;obtain ⟨b,f,g,_⟩:=hk e hin;simp only [f,A2,beq_iff_eq,Value.ref.injEq] at hc;exact g hc.1
 have m :∀v∈(N5 es.size (λ i=>es[i]?.map (·.hash)) h).filterMap (λ i=>es[i]?.map (·.key)),∃b,v=.ref b/\b≠a/\Goes p w n₀ ann code q cq (W3 8 v) s pos true s pos:=by
  intro v k;obtain ⟨i,_,j⟩:=List.mem_filterMap.mp k;cases hei:es[i]? with
  | none=>rw [hei] at j;cases j
  | some e=>
   rw [hei] at j;obtain rfl:e.key=v:=by simpa using j
   obtain ⟨b,f,g,B,_⟩:=hk e (n i e hei);exact ⟨b,f,g,f ▸ B⟩
 have l:(N5 es.size (λ i=>es[i]?.map (·.hash)) h).length<=es.size:=by unfold N5;exact C0 (P2 _ _) (by rw [E2];exact A0 _)
 have y:((N5 es.size (λ i=>es[i]?.map (·.hash)) h).filterMap (λ i=>es[i]?.map (·.key))).length<=es.size:=C0 (N6 _ _) l;unfold dictFind;refine Goes.holding ?_;refine (Goes.bind (d:=1 + cq + es.size * (cq + ce + 10)) (Goes.entries ho hd) ?_).le (by omega);dsimp only;rw [if_neg (show ¬ ((F1 a :: (N5 es.size (λ i=>es[i]?.map (·.hash)) h).filterMap (λ i=>es[i]?.map (·.key))).all carriedByValue)=true by simp [carriedByValue])];rw [if_neg x];have t:¬ (((N5 es.size (λ i=>es[i]?.map (·.hash)) h).filterMap (λ i=>es[i]?.map (·.key))) == [F1 a])=true:=by intro e;have e:=eq_of_beq e;obtain ⟨b,f,g,_⟩:=m (.ref a) (by rw [e];exact List.mem_singleton.mpr rfl);exact g (by injection f with f;exact f.symm)
 rw [if_neg t];refine (Goes.bind (d:=1 + es.size * (ce + 10)) (Goes.mayTell hq λ v k=>(let ⟨_,_,_,z⟩:=m v k;z)) ?_).le ?_
 ·rw [if_neg (by simp)];refine (Goes.bind (a:=(none,none)) (d:=0) (Goes.forIn (c:=ce + 10) λ i j=>?_) ?_).le ?_
  ·cases hei:es[i]? with
   | none=>exact Goes.pure.le (Z1 _)
   | some e=>
    dsimp only;split
    ·obtain ⟨b,f,g,_,u⟩:=hk e (n i e hei);rw [f];refine (Goes.bind (d:=ce + 2) (Goes.epoch ho hd) (Goes.bind (d:=2) u (Goes.bind (d:=1) (Goes.epoch ho hd) ?_))).le (by omega);rw [if_neg (by simp)];rw [if_neg (by simp)];refine Goes.bind (d:=0) Goes.rule ?_;rw [if_neg (by simp)];exact Goes.pure
    ·exact Goes.pure.le (Z1 _)
  ·exact Goes.pure
  ·have:=T5 (ce + 10) l;omega
 ·have:=T5 cq y;have r:es.size * (cq + ce + 10)=es.size * cq + es.size * (ce + 10):=by rw [<-Nat.mul_add,j12]
  rw [r];omega
end
end TJ
open PySem PySem.W PyProof.Rows
namespace TJ
noncomputable abbrev dObj (es:Array DictEntry) (ep:Nat):Obj:={ cls:=.type "dict",data:=.dict es ep }
noncomputable abbrev KV3:=Addr×Value×Int
noncomputable def ent (x:KV3):DictEntry:=⟨x.2.2,.ref x.1,x.2.1⟩
noncomputable def unh (a:Addr):Sem Value:=do rule "hash.unhashable";raiseError "TypeError" s!"unhashable type: '{← typeNameOf (.ref a)}'"
noncomputable def zcf (d:Addr) (vs:List (Value×Value)):Sem PUnit:=F9 vs z8 λ (x:Value×Value) (_:PUnit)=>(do dictSet d x.1 x.2;X2 (G2 z8):Sem (ForInStep PUnit))
section
variable {p:Program} {w:P0} {n₀:Nat} {ann:Option Value} {code:Code} {q:Pos} {pos:Pos} {F:Obj->Nat->SharedT} {d:Addr}
structure Fam (n₀:Nat) (d:Addr) (F:Obj->Nat->SharedT):Prop where
 le:Nat.ble n₀ d=true
 get :∀es ep tk,(F (dObj es ep) tk).abs.heap.get? d=some (dObj es ep)
 upd :∀es ep tk (e:DictEntry),({ (F (dObj es ep) tk).abs with heap:=(F (dObj es ep) tk).abs.heap.update d (O7 (·.push e)) }:B0)=(F (dObj (es.push e) (ep + 1)) tk).abs
theorem Goes.updKeys (Z:Fam n₀ d F) {es:Array DictEntry} {ep tk:Nat} {e:DictEntry} {part:Option Value} (hsz:es.size < sizeLine) :
  Goes p w n₀ ann code q 3 (updateDictKeys d (·.push e) part) (F (dObj es ep) tk).abs pos () (F (dObj (es.push e) (ep + 1)) tk).abs pos:=by
 unfold updateDictKeys;refine (Goes.bind (d:=2) (Goes.loadPart (Z.get es ep tk)) ?_);dsimp only;have u:=Goes.updatePart (p:=p) (w:=w) (ann:=ann) (code:=code) (q:=q) (pos:=pos) (part:=part) (f:=O7 (·.push e)) (Z.get es ep tk) Z.le;rw [Z.upd es ep tk e] at u;refine Goes.bind (d:=1) u ?_;unfold lookBehind;refine Goes.bind (d:=0) (Goes.loadPart (Z.get _ _ tk)) ?_;have a:(dObj (es.push e) (ep + 1)).data.pastItsLine=none:=by unfold Data.pastItsLine;dsimp only;rw [if_neg (by rw [Array.size_push];omega)]
 rw [a];exact Goes.pure
theorem Goes.set (Z:Fam n₀ d F) {a:Addr} {v:Value} {es:Array DictEntry} {ep tk k cp cq ce:Nat} {hsh:Int} (hsz:es.size < sizeLine)
  (hpy:Goes p w n₀ ann code q cp (pyHash (.ref a)) (F (dObj es ep) tk).abs pos hsh (F (dObj es ep) (tk + k)).abs pos)
  (hq:Goes p w n₀ ann code q cq (W3 8 (.ref a)) (F (dObj es ep) (tk + k)).abs pos true (F (dObj es ep) (tk + k)).abs pos)
  (hk :∀e∈es.toList,∃b,e.key=.ref b/\b≠a/\Goes p w n₀ ann code q cq (W3 8 (.ref b)) (F (dObj es ep) (tk + k)).abs pos true (F (dObj es ep) (tk + k)).abs pos/\
   Goes p w n₀ ann code q ce (eqBool (.ref b) (.ref a)) (F (dObj es ep) (tk + k)).abs pos false (F (dObj es ep) (tk + k)).abs pos) :
  Goes p w n₀ ann code q (cp + (2 + cq + es.size * (cq + ce + 10)) + 4) (dictSet d (.ref a) v) (F (dObj es ep) tk).abs pos () (F (dObj (es.push ⟨hsh,.ref a,v⟩) (ep + 1)) (tk + k)).abs pos:=by
 unfold dictSet;refine Goes.holding ?_;refine (Goes.bind (d:=(2 + cq + es.size * (cq + ce + 10)) + 4) hpy ?_).le (by omega);unfold dictSetHashed;refine Goes.holding ?_;refine Goes.bind (d:=4) (Goes.find_none (h:=hsh) (Z.get es ep (tk + k)) rfl hq hk) ?_;exact Goes.bind (d:=3) Goes.rule (Goes.updKeys Z hsz)
theorem zjl {γ β:Type} {f:γ->β->Sem (ForInStep β)} {x:γ} {xs:List γ} {b b' b'':β} {c c':Nat} {s s' s'':B0} (h:Goes p w n₀ ann code q c (f x b) s pos (.yield b') s' pos) (k:Goes p w n₀ ann code q c' (F9 xs b' f) s' pos b'' s'' pos) :
  Goes p w n₀ ann code q (c + c') (F9 (x :: xs) b f) s pos b'' s'' pos:=by
 rw [Z4];exact Goes.bind (f:=λ r=>match r with | .done b=>(j10 b:Sem β) | .yield b=>F9 xs b f) h k
theorem Goes.loop (Z:Fam n₀ d F) {cp cq ce N:Nat} (all:List KV3) (hN:all.length<=N) (hN':N < sizeLine) (hnd:(all.map (·.1)).Nodup)
  (hQ :∀x∈all,∀oD tk,Goes p w n₀ ann code q cq (W3 8 (.ref x.1)) (F oD tk).abs pos true (F oD tk).abs pos)
  (hE:all.Pairwise λ x y=>∀oD tk,Goes p w n₀ ann code q ce (eqBool (.ref x.1) (.ref y.1)) (F oD tk).abs pos false (F oD tk).abs pos)
  (hH :∀x∈all,∀oD tk,Goes p w n₀ ann code q cp (pyHash (.ref x.1)) (F oD tk).abs pos x.2.2 (F oD (tk + 3)).abs pos) :
  ∀(todo done:List KV3) (tk:Nat),all=done++todo->
   Goes p w n₀ ann code q (todo.length * (cp + (2 + cq + N * (cq + ce + 10)) + 4)) (zcf d (todo.map λ x=>(F1 x.1,x.2.1)))
    (F (dObj (done.map ent).toArray done.length) tk).abs pos () (F (dObj (all.map ent).toArray all.length) (tk + 3 * todo.length)).abs pos:=by
 intro todo;induction todo with
 | nil=>intro done tk e;rw [j2] at e;subst e;unfold zcf;rw [u4,m6];exact Goes.pure.le (Z1 _)
 | cons x todo ih=>
  intro done tk e;have c:x∈all:=by rw [e];exact K1 _ j1
  have g:=ih (done++[x]) (tk + 3) (by rw [e,K6];rfl);unfold zcf at g⊢;rw [Y0];have f:(done.map ent).toArray.size<=N:=by rw [O0,F0];rw [e,G0] at hN;omega
  have h:=Goes.set (p:=p) (w:=w) (ann:=ann) (code:=code) (q:=q) (pos:=pos) (v:=x.2.1) (ep:=done.length) Z (R1 f hN') (hH x c _ tk) (hQ x c _ _) (es:=(done.map ent).toArray) (ce:=ce) (by
   intro s n;obtain ⟨y,a,rfl⟩:=List.mem_map.mp n;have l:y∈all:=by rw [e];exact Q5 _ a
   have i:y.1≠x.1:=by rw [e,E1,Y0] at hnd;intro q;exact (List.nodup_append.mp hnd).2.2 y.1 (List.mem_map.mpr ⟨y,a,rfl⟩) x.1 j1 q
   rw [e] at hE;exact ⟨y.1,rfl,i,hQ y l _ _,(List.pairwise_append.mp hE).2.2 y a x j1 _ _⟩)
  have j:((done.map ent).toArray.push ⟨x.2.2,.ref x.1,x.2.1⟩)=((done++[x]).map ent).toArray:=by rw [List.push_toArray,E1];rfl
  have m:done.length + 1=(done++[x]).length:=by rw [G0];rfl
  rw [j,m] at h;have k:tk + 3 * (x :: todo).length=(tk + 3) + 3 * todo.length:=by rw [W0];omega
  rw [k];have o:Goes p w n₀ ann code q (_ + 0) (do dictSet d (F1 x.1,x.2.1).1 (F1 x.1,x.2.1).2;j10 (G2 z8):Sem (ForInStep PUnit)) _ pos (G2 z8) _ pos:=Goes.bind h Goes.pure;have r:=zjl (b:=z8) (xs:=todo.map λ x=>(F1 x.1,x.2.1)) o g;refine r.le ?_;rw [W0,Nat.add_mul];have:=T5 (cq + ce + 10) f;omega
noncomputable def zag (acc:Nat):Int:=if acc == 2 ^ 64 - 1 then 1546275796 else if acc < 2 ^ 63 then acc else (acc:Int) - (2 ^ 64:Nat)
theorem z81 (acc:Nat) (h:acc < 2 ^ 64):-(2:Int) ^ 63<=zag acc/\zag acc < 2 ^ 63:=by
 unfold zag;split
 ·constructor<;>decide
 ·split
  ·constructor<;>omega
  ·constructor<;>omega
theorem z6s (hs:List Int):-(2:Int) ^ 63<=o0 hs/\o0 hs < 2 ^ 63:=
 z81 _ (Nat.mod_lt _ (by decide))
theorem Goes.pyHashT {a:Addr} {s s':B0} {hs:List Int} {tok:Tok} (h1:Goes p w n₀ ann code q 1 (cRoomFor "hash" [.ref a]) s pos () s pos)
  (h2:Goes p w n₀ ann code q 1 (specialOf (.ref a) "__hash__") s pos (some (.builtin "tuple.__hash__")) s pos)
  (h3:Goes p w n₀ ann code q 22 (d6 (.ref a) "__hash__" (unh a)) s pos (some (.int (o0 hs) tok)) s' pos) :
  Goes p w n₀ ann code q 25 (pyHash (.ref a)) s pos (J1 (o0 hs)) s' pos:=by
 have e:pyHash (.ref a)=pyHashByItsType (.ref a):=rfl;rw [e];unfold pyHashByItsType;refine Goes.bind (d:=24) h1 ?_;refine Goes.bind (d:=23) h2 ?_;rw [if_neg (by rw [beq_builtin_none];exact M0)];refine Goes.bind (d:=22) h2 ?_;show Goes p w n₀ ann code q 22 (d6 (.ref a) "__hash__" (unh a) >>= _) s pos _ s' pos;refine Goes.bind (d:=0) h3 ?_;have r:(decide (-(2:Int) ^ 63<=o0 hs) && decide (o0 hs < 2 ^ 63))=true:=by have r:=z6s hs;rw [decide_eq_true r.1,decide_eq_true r.2];rfl
 show Goes p w n₀ ann code q 0 (if (decide (-(2:Int) ^ 63<=o0 hs) && decide (o0 hs < 2 ^ 63))=true then _ else _) s' pos _ s' pos;have b:J1 (o0 hs)=(if (o0 hs == -1)=true then -2 else o0 hs):=by unfold J1;rw [if_pos r]
 rw [if_pos r,b];exact Goes.pure
theorem Goes.subDict {pairs:List (Sem Value×Sem Value)} {s s₁ s':B0} {vs:List (Value×Value)} {c c':Nat} {d:Addr} (hlen:pairs.length<=15) (hd:s.heap.objs.size=d)
  (h1:Goes p w n₀ ann code q c (evalPairs pairs) { s with heap:=s.heap.push { cls:=.type "dict",data:=.dict #[] } } pos vs s₁ pos)
  (h2:Goes p w n₀ ann code q c' (zcf d vs) s₁ pos () s' pos):Goes p w n₀ ann code q (1 + (c + c')) (subDict pairs) s pos d s' pos:=by
 subst hd;unfold PySem.subDict;refine Goes.bind (a:=s.heap.objs.size) (λ _ _ _ _=>.one rfl rfl rfl) ?_;refine (Goes.bind (d:=0) (a:=()) (Goes.holding ?_) Goes.pure);rw [if_pos hlen];refine Goes.bind h1 ?_;exact Goes.holding (Goes.bind (d:=0) h2 Goes.pure)
theorem Goes.execs1 {st:Stmt} {env:Env} {s s':B0} {pos':Pos} {c:Nat} (h:Goes p w n₀ ann code q c (exec st env) s pos .next s' pos'):Goes p w n₀ ann code q c (execs [st] env) s pos .next s' pos':=by rw [execs_cons];exact Goes.bind (d:=0) h Goes.pure
theorem Goes.seg {l:List Stmt} {env:Env} {s s':B0} {pos':Pos} {c:Nat} (h:Goes p w n₀ ann code q c (execs l env) s pos .next s' pos') :∃n,n<=c + 1/\segRun U2 p w n₀ ann 1 n s (piecesOf l env code pos [topFrame q])=some (.next,s',code,pos'):=by obtain ⟨n,a,h⟩:=h doneF deadEnd id id;exact ⟨n + 1,by omega,seg_go h rfl⟩
end
theorem zjd {p q:Program} {loose:List Str} {Xt:B0->Bool} {α:Type} {Yf:B0->α} {Ya:P0->α} {N:Nat} {H₀:N0->Heap} {gs₀:Array GenState} {d₀:Drawn} {k₀ m₀:Nat} {ann:Option Value} {S:P0->D2->B0}
  (opens :∀w:P0,(fencedOpening U2 p w N).map (λ s=>(s.heap,s.gens,s.drawn,s.toks))=some (H₀ w.params,gs₀,d₀,k₀))
  (sizes :∀w:P0,(((H₀ w.params).isNs S2 && gs₀.size == 0),(H₀ w.params).objs.size,(H₀ w.params).nsMap S2 "__annotations__")=(true,m₀,ann))
  (runs :∀(w:P0) (os:D2),∃M,M<=N/\topRun U2 p w m₀ ann M ⟨H₀ w.params,gs₀,d₀,k₀,os⟩ (topStub p)=some (S w os))
  (looks1 :∀(w:P0) (os:D2),(staticsOk (r6 p.main.body) (H₀ w.params) (S w os).heap && namesBound p (S w os).heap && gensDone (S w os) && laidKept (H₀ w.params) (S w os).heap)=true)
  (looks2 :∀(w:P0) (os:D2),openSeen q loose (r6 p.main.body) Xt true (S w os)=openGood q loose) (looks3 :∀(w:P0) (os:D2),Yf (S w os)=Ya w):LeftO p q loose Xt Yf Ya N:=by
 intro w;obtain ⟨⟨h,b,d,k,os⟩,e,a⟩:=Option.map_eq_some_iff.mp (opens w);simp only [Prod.mk.injEq] at a;obtain ⟨rfl,rfl,rfl,rfl⟩:=a;have z:=sizes w;simp only [Prod.mk.injEq] at z;obtain ⟨f,i,c⟩:=z;obtain ⟨M,g,r⟩:=runs w os;have r:=topRun_mono (N - M) _ _ _ _ r;rw [Nat.add_sub_cancel' g] at r;have t:topFrom U2 p w N ⟨H₀ w.params,b,d,k,os⟩=some (S w os):=by unfold topFrom;dsimp only;rw [f,i,c,r];show (match (staticsOk (r6 p.main.body) (H₀ w.params) (S w os).heap && namesBound p (S w os).heap && gensDone (S w os) && laidKept (H₀ w.params) (S w os).heap) with|true=>some (S w os)|false=>none)=_;rw [looks1 w os]
 unfold openEnds;rw [e];show (topFrom U2 p w N _).map _=_;rw [t];show some (_,_)=some (_,_);rw [looks2 w os,looks3 w os]
theorem ze1 {p:Program} {w:P0} {n₀:Nat} {ann:Option Value} {env:Env} {q:Pos} {c N:Nat} {s s' r:B0} {l rest:List Stmt} {b:Code} {pos pos':Pos} (h:Goes p w n₀ ann b q c (execs l env) s pos .next s' pos')
  (k:topRun U2 p w n₀ ann N s' (restOf rest env b pos' [topFrame q])=some r) :∃M,M<=c + 1 + N/\topRun U2 p w n₀ ann M s (restOf (l++rest) env b pos [topFrame q])=some r:=by
 obtain ⟨n,a,g⟩:=Goes.seg h;exact ⟨n + N,by omega,piece_app g k⟩
end TJ
open PySem PySem.Spec PyProof.Rows
namespace L2
noncomputable abbrev fnX (x q:Str) (s:Stmt) (m:Str) (k c:Nat):FuncData:=i5 x q (z8u s) (z6i s) (z06 s) .none .none .none (.str m k) none (.ref c) .none
noncomputable abbrev fY (x q:Str) (s:Stmt):=fnX x q s "law_talejudge_k69_bad_beginnings" 728
noncomputable abbrev fO (x q:Str) (s:Stmt) (m:Str) (k c:Nat):Obj:=⟨.type "function",none,.func (fnX x q s m k c),#[]⟩
noncomputable abbrev fL (x q:Str) (s:Stmt):=fO x q s "law_talejudge_k69_bad_beginnings" 728
noncomputable abbrev cO (x q:Str) (i l n a j:Nat):Obj:=
 ⟨.type "code",none,.fields #[.str x i,.str q (i + 1),.str "/claim/cut.py" (i + 2),.int l 0,.int n 0,.int 0 0,.int 0 0,.int 3 0,.ref a,.bool true,.int 181 0,.ref (a + 1),.none,.ref (a + 2),.ref (a + 3),.ref (a + 4),.int j 0,.int l 0,.str "/claim/cut.py" (j + 1)],#[]⟩
noncomputable abbrev cP (x q:Str) (i l n a j:Nat):Obj:=
 ⟨.type "code",none,.fields #[.str x i,.str q (i + 1),.str "/claim/cut.py" (i + 2),.int l 0,.int n 0,.int 0 0,.int 0 0,.int 3 0,.ref a,.bool true,.int 181 0,.ref (a + 1),.none,.none,.none,.ref (a + 2),.int j 0,.int l 0,.str "/claim/cut.py" (j + 1)],#[]⟩
noncomputable abbrev kR (P:N0) (x:Str) (i a:Nat):DictEntry:=⟨c0 P x,.str x i,.ref a⟩
section
variable {P:Program} {w:P0} {K:b0} {mg:Str->Option Value} {base:Heap} {x q:Str} {st:Stmt} {f:Addr} {fd:FuncData} {k:Nat} {ps:List Str} {sp:Sp}
theorem z0b {m:Str} {i c:Nat} (l:K.lookup f=some (fO x q st m i c):=by kernel_rfl) (hc:F7 K (.ref c) q=true:=by kernel_rfl) (hk:V2 K (.ref f)=true:=by kernel_rfl):Fun K x q st f (fnX x q st m i c):=fun_mk l hc hk
theorem cal_mk (T:TX K mg) (F:Fun K x q st f fd) (g:S5 K S2 x=some (some (.ref f))) (b:Binds K fd ps []) (G:FnOk P w K mg base CX0 k f fd ps sp):Cal P w K mg base x ps k sp:=⟨⟨f,fd,G,T.of g,F.kp,b⟩⟩
end
section
variable {p:List Value->Prop}
theorem us1 (h :∀a,p [a]) :∀us:List Value,us.length=1->p us | [a],_=>h a
theorem us2 (h :∀a b,p [a,b]) :∀us:List Value,us.length=2->p us | [a,b],_=>h a b
theorem us3 (h :∀a b c,p [a,b,c]) :∀us:List Value,us.length=3->p us | [a,b,c],_=>h a b c
theorem us4 (h :∀a b c d,p [a,b,c,d]) :∀us:List Value,us.length=4->p us | [a,b,c,d],_=>h a b c d
theorem us6 (h :∀a b c d e f,p [a,b,c,d,e,f]) :∀us:List Value,us.length=6->p us | [a,b,c,d,e,f],_=>h a b c d e f
end
end L2
set_option maxHeartbeats 1000000
namespace L2
open PySem PySem.Spec PyProof.Rows
section
variable {X:Cx}
noncomputable def rEqL0 (K:b0):R2:=λ x y H Q=>∃a b xs,x=.ref a/\y=.ref b/\SqL K H a xs/\SqL K H b []/\Q (.bl (decide (xs=[]))) H
theorem zk9 {k:Nat} (hr:Room k X.A):OpR X (C2 .Eq) (rEqL0 X.K):=by
 intro D s σ H x y v u Q I i o h;obtain ⟨a,b,p,rfl,rfl,l,r,q⟩:=h;cases i;cases o;obtain ⟨C,f,d,_⟩:=I.list l;obtain ⟨B,n,g,_⟩:=I.list r;cases n;have c:X.A.units < cLine:=Nat.lt_of_succ_lt (hu_of hr);have m:=f.length;cases p with
 | nil=>cases f;exact SeqAt.RcAt.lists (e:=λ _=>true) d.isList g.isList rfl c (λ j t _=>absurd t (R3 _)) X.prog X.w _ _ ⟨.bl _,H,I,rfl,q⟩
 | cons z zs=>refine SeqAt.RcAt.lists_lengths d.isList g.isList ?_ c X.prog X.w _ _ ⟨.bl _,H,I,rfl,q⟩;rw [O0,<-m];rfl
end
mutual
noncomputable def keyD:PyData->Bool
 | .int _=>true
 | .str _=>false
 | .tuple xs=>keyDs xs
 | .none=>false
 | .bool _=>false
 | .list _=>false
 | .dict _=>false
noncomputable def keyDs:List PyData->Bool
 | []=>true
 | x :: xs=>keyD x && keyDs xs
end
mutual
noncomputable def hashD:PyData->Int
 | .int i=>hashInt i
 | .str _=>0
 | .tuple xs=>J1 (o0 (hashDs xs))
 | .none=>0
 | .bool _=>0
 | .list _=>0
 | .dict _=>0
noncomputable def hashDs:List PyData->List Int
 | []=>[]
 | x :: xs=>hashD x :: hashDs xs
end
mutual
noncomputable def drawD:PyData->Nat
 | .tuple xs=>drawDs xs + 1
 | .int _=>1
 | .str _=>1
 | .none=>1
 | .bool _=>1
 | .list _=>1
 | .dict _=>1
noncomputable def drawDs:List PyData->Nat
 | []=>0
 | x :: xs=>drawD x + drawDs xs
end
mutual
theorem zfl {h h':Heap} (k :∀b o vs n,h.get? b=some o->o.cls=.type "tuple"->o.data=.seq vs n->h'.get? b=some o) :∀(d:PyData) (v:Value) (as:List Addr),keyD d=true->Reads h v d as->Reads h' v d as
 | .int i,v,as,_,r=>by cases r;exact .int _ _
 | .str _,_,_,hk,_=>by cases hk
 | .tuple xs,v,as,hk,r=>by
  cases r with
  | tuple e c d r=>exact .tuple (k _ _ _ _ e c d) c d (zc5 k xs _ _ hk r)
 | .none,_,_,hk,_=>by cases hk
 | .bool _,_,_,hk,_=>by cases hk
 | .list _,_,_,hk,_=>by cases hk
 | .dict _,_,_,hk,_=>by cases hk
theorem zc5 {h h':Heap} (k :∀b o vs n,h.get? b=some o->o.cls=.type "tuple"->o.data=.seq vs n->h'.get? b=some o) :∀(ds:List PyData) (vs:List Value) (as:List Addr),keyDs ds=true->j20 h vs ds as->j20 h' vs ds as
 | [],_,_,_,r=>by cases r;exact .nil
 | d :: ds,_,_,c,r=>by
  have c:=Bool.and_eq_true_iff.mp (show (keyD d && keyDs ds)=true from c);cases r with
  | cons a r=>exact .cons (zfl k d _ _ c.1 a) (zc5 k ds _ _ c.2 r)
end
mutual
theorem z8m :∀d:PyData,keyD d=true->plainP d=true
 | .int _,_=>rfl
 | .str _,hk=>by cases hk
 | .tuple xs,h=>z9s xs h
 | .none,hk=>by cases hk
 | .bool _,hk=>by cases hk
 | .list _,hk=>by cases hk
 | .dict _,hk=>by cases hk
theorem z9s :∀ds:List PyData,keyDs ds=true->z0z ds=true
 | [],_=>rfl
 | d :: ds,a=>by have a:=Bool.and_eq_true_iff.mp (show (keyD d && keyDs ds)=true from a);show (plainP d && z0z ds)=true;rw [z8m d a.1,z9s ds a.2];rfl
end
mutual
theorem zcg :∀d:PyData,keyD d=true->d.canLay0=true
 | .int _,_=>rfl
 | .str _,hk=>by cases hk
 | .tuple xs,h=>zg0 xs h
 | .none,hk=>by cases hk
 | .bool _,hk=>by cases hk
 | .list _,hk=>by cases hk
 | .dict _,hk=>by cases hk
theorem zg0 :∀ds:List PyData,keyDs ds=true->y6 ds=true
 | [],_=>rfl
 | d :: ds,a=>by have a:=Bool.and_eq_true_iff.mp (show (keyD d && keyDs ds)=true from a);show (d.canLay0 && y6 ds)=true;rw [zcg d a.1,zg0 ds a.2];rfl
end
section
variable {prog:Program} {w:P0} {E:Value->B0->Prop}
mutual
theorem zdj :∀(d:PyData) (v:Value) (as:List Addr) (A:X1) (s:B0) (Q:Int->B0->Prop),keyD d=true->Reads s.heap v d as->A.units + d.depth < cLine->Q (hashD d) { s with toks:=s.toks + drawD d }->R0 (C1 prog w) A (pyHash v) Q E s
 | .int i,v,as,A,s,Q,_,r,_,q=>by cases r;exact wpAny_pyHash_int q
 | .str _,_,_,_,_,_,hk,_,_,_=>by cases hk
 | .tuple xs,v,as,A,s,Q,hk,r,b,q=>by
  cases r with
  | @tuple a o vs n _ _ e c d r=>
   have b:A.units + (K2 xs + 1) < cLine:=b;have ty:s.TypeIs (.ref a) "tuple":=⟨o,e,c⟩
   refine W.pyHash_slot (v:=.ref a) ty F.slot_tuple_hash F.entry_tuple_hash (F.args_tuple_hash_1 _) rfl (.inr (by omega)) ?_;refine t0 (L0 ?_);refine t0 (wpAny_tupleItemsOf e d ?_);refine t0 ?_;rw [<-Array.forIn_toList];refine z8y xs vs.toList _ #[] A.in1 s _ hk r (show A.units + 1 + K2 xs < cLine by omega) ?_;refine t0 (wpAny_mkInt (L0 ⟨_,_,rfl,?_⟩));simpa [hashD,drawD,j12] using q
 | .none,_,_,_,_,_,hk,_,_,_=>by cases hk
 | .bool _,_,_,_,_,_,hk,_,_,_=>by cases hk
 | .list _,_,_,_,_,_,hk,_,_,_=>by cases hk
 | .dict _,_,_,_,_,_,hk,_,_,_=>by cases hk
theorem z8y :∀(ds:List PyData) (vs:List Value) (as:List Addr) (hs:Array Int) (A:X1) (s:B0) (Q:Array Int->B0->Prop),keyDs ds=true->j20 s.heap vs ds as->A.units + K2 ds < cLine->Q (hs++(hashDs ds).toArray) { s with toks:=s.toks + drawDs ds }->
  R0 (C1 prog w) A (F9 vs hs λ x hs=>do let h <-pyHash x;X2 (G2 (hs.push h))) Q E s
 | [],_,_,hs,A,s,Q,_,r,_,q=>by cases r;rw [m6];exact L0 (by simpa [hashDs,drawDs] using q)
 | d :: ds,_,_,hs,A,s,Q,b,r,c,q=>by
  have b:=Bool.and_eq_true_iff.mp (show (keyD d && keyDs ds)=true from b);have c:A.units + max d.depth (K2 ds) < cLine:=c;cases r with
  | @cons v vs _ _ as bs a r=>rw [Z4];refine t0 (t0 (zdj d v as A s _ b.1 a (by omega) (L0 ?_)));refine z8y ds vs bs (hs.push (hashD d)) A { s with toks:=s.toks + drawD d } Q b.2 r (by omega) ?_;simpa [hashDs,drawDs,j12] using q
end
theorem zfd {a:Addr} {n:Nat} {o:Obj} {vs:Array Value} {m:Nat} {A:X1} {s:B0} {Q:Bool->B0->Prop} (e:s.heap.get? a=some o) (c:o.cls=.type "tuple") (d:o.data=.seq vs m)
  (h:R0 (C1 prog w) A (F9 vs.toList ((none:Option Bool),()) λ y _=>do
    let b <-W3 n y
    if (!b)=true then X2 (ForInStep.done (some false,())) else X2 (G2 (none,())))
   (λ r s'=>r.1=none/\Q true s') E s):R0 (C1 prog w) A (W3 (n + 1) (.ref a)) Q E s:=by
 rw [eqIsQuiet.eq_2];have ty:s.TypeIs (.ref a) "tuple":=⟨o,e,c⟩
 refine t0 (wpAny_specialOf (r:=some (.builtin "tuple.__eq__")) ty (by rfl) ?_);refine t0 (wpAny_isInstance (T:="tuple") ty isSubtype_tuple_tuple ?_);simp only [j0g,F8,if_false];refine t0 (j1b e d (t0 ?_));show R0 _ _ (F9 vs _ _) _ _ _;rw [<-Array.forIn_toList];refine m3 h (λ r s' h=>?_) (λ _ _ h=>h);obtain ⟨g,j⟩:=r;obtain ⟨i,f⟩:=h;cases (show g=none from i);exact L0 f
mutual
theorem zc6 :∀(d:PyData) (v:Value) (as:List Addr) (n:Nat) (A:X1) (s:B0) (Q:Bool->B0->Prop),keyD d=true->Reads s.heap v d as->d.depth<=n->Q true s->R0 (C1 prog w) A (W3 n v) Q E s
 | .int i,v,as,n,A,s,Q,_,r,_,q=>by cases r;rw [eqIsQuiet.eq_3];exact L0 q;intro a h;cases h
 | .str _,_,_,_,_,_,_,hk,_,_,_=>by cases hk
 | .tuple xs,v,as,n,A,s,Q,hk,r,b,q=>by
  cases r with
  | @tuple a o vs m _ _ e c d r=>
   have b:K2 xs + 1<=n:=b;obtain ⟨n,rfl⟩ :∃k,n=k + 1:=⟨n - 1,by omega⟩
   exact zfd e c d (z97 xs vs.toList _ n A s _ hk r (by omega) ⟨rfl,q⟩)
 | .none,_,_,_,_,_,_,hk,_,_,_=>by cases hk
 | .bool _,_,_,_,_,_,_,hk,_,_,_=>by cases hk
 | .list _,_,_,_,_,_,_,hk,_,_,_=>by cases hk
 | .dict _,_,_,_,_,_,_,hk,_,_,_=>by cases hk
theorem z97 :∀(ds:List PyData) (vs:List Value) (as:List Addr) (n:Nat) (A:X1) (s:B0) (Q:Option Bool×Unit->B0->Prop),keyDs ds=true->j20 s.heap vs ds as->K2 ds<=n->Q (none,()) s->
  R0 (C1 prog w) A (F9 vs ((none:Option Bool),()) λ y _=>do
    let b <-W3 n y
    if (!b)=true then X2 (ForInStep.done (some false,())) else X2 (G2 (none,()))) Q E s
 | [],_,_,n,A,s,Q,_,r,_,q=>by cases r;rw [m6];exact L0 q
 | d :: ds,_,_,n,A,s,Q,c,r,e,q=>by
  have c:=Bool.and_eq_true_iff.mp (show (keyD d && keyDs ds)=true from c);have e:max d.depth (K2 ds)<=n:=e;cases r with
  | @cons v vs _ _ as bs a r=>rw [Z4];refine t0 (t0 (zc6 d v as n A s _ c.1 a (by omega) ?_));exact L0 (z97 ds vs bs n A s Q c.2 r (by omega) q)
end
end
open Classical in
noncomputable instance:DecidableEq PyData:=λ a b=>X4 (a=b)
noncomputable def z6e (prog:Program) (w:P0):HeapKind prog w PyData where
 is h d a:=keyD d=true/\d.depth<=7/\∃as,Reads h (.ref a) d as
 hash:=hashD
 draws:=drawD
 room A:=A.units + 8 < cLine
 inj:=λ {h a x y} hx hy=>by obtain ⟨kx,_,as,rx⟩:=hx;obtain ⟨_,_,bs,ry⟩:=hy;exact SeqAt.Reads.unique x y _ as bs (zcg x kx) rx ry
 keeps:=λ {h h' k a d o es ep} hk e hd sb=>by
  obtain ⟨k1,k2,as,r⟩:=hk;refine ⟨k1,k2,as,zfl (λ b o' vs n eb _ eo=>?_) k _ as k1 r⟩;have nb:b≠d:=λ z=>by rw [z,e] at eb;cases eb;rw [hd] at eo;cases eo
  rw [sb.2 b nb];exact eb
 pyHash:=λ {A E s k a Q} hr hk q=>by obtain ⟨k1,k2,as,r⟩:=hk;exact zdj k _ as A s Q k1 r (by omega) q
 eqBool:=λ {A E s x y a b Q} hr hx hy q=>by obtain ⟨x1,x2,as,rx⟩:=hx;obtain ⟨y1,y2,bs,ry⟩:=hy;refine SeqAt.eqAt_reads x y A s _ _ as bs rx ry (zcg x x1) (zcg y y1) (by have:=Nat.min_le_left x.depth y.depth;omega) prog w E Q ?_;rw [zk1 (p:=x=y) (z8m x x1) (z8m y y1) Iff.rfl];exact q
 quiet:=λ {A E s k a Q} hk q=>by obtain ⟨k1,k2,as,r⟩:=hk;exact zc6 k _ as 8 A s Q k1 r (by omega) q
section
variable {prog:Program} {w:P0} {A:X1} {E:Value->B0->Prop} {s:B0}
def DcAt (h:Heap) (d:Addr) (es:Array DictEntry) (ep:Nat):Prop:=∃o,h.get? d=some o/\o.ExactDict/\o.data=.dict es ep
theorem zjp {d:Addr} {es:Array DictEntry} {ep:Nat} {Q:Value->B0->Prop} (hd:(d == Z2)=false) (h:DcAt s.heap d es ep)
  (q:Q (.ref s.heap.objs.size) { s with heap:=s.heap.push { cls:=.type "dict_keyiterator",data:=.fields #[.ref d,.int 0 0,.int es.size 0,.int ep 0] } }):R0 (C1 prog w) A (pyIter (.ref d)) Q E s:=by
 obtain ⟨o,a,⟨i,j,k⟩,f⟩:=h;have b:s.TypeIs (.ref d) "dict":=⟨o,a,i⟩
 refine wpAny_pyIter_slot b F.slot_dict_iter (u3 F.slot_dict_iter b F.entry_dict_iter ?_ (F.args_dict_iter_1 _));unfold j19.«dict.__iter__»;refine t0 (show R0 _ _ (Z5 "__iter__" ⟨[.ref d],[]⟩ >>= _) _ _ _ from t0 ?_);have g:R0 (C1 prog w) A.in1 (Z5 "__iter__" ⟨[.ref d],[]⟩) (λ _ c=>c=s) E s:=by unfold Z5;rw [if_pos (by decide +kernel)];refine t0 (B9 b ?_);rw [if_neg (by decide)];exact L0 rfl
 refine m3 g (λ _ c e=>?_) λ _ _ z=>z;subst e;refine (show R0 _ _ (X2 (F1 d)) _ _ _ from L0 ?_);refine (show R0 _ _ (X2 d >>= _) _ _ _ from t0 (L0 ?_));refine t0 ?_;unfold Builtin.Dict.showsAll;rw [if_neg (by rw [hd];decide)];refine L0 (t0 (D9 a f (t0 (j0i a f ?_))));refine t0 (Q2 ?_ (by size_fits));refine L0 ⟨_,rfl,"dict_keyiterator",_,⟨_,X0 _ rfl,rfl⟩,F.slot_dict_keyiterator_next.lookup,q⟩
theorem zjn {it d:Addr} {es:Array DictEntry} {ep i:Nat} {e:DictEntry} {Q:Option Value->B0->Prop} (hi:s.heap.IsKeyIter it d i es.size ep) (h:DcAt s.heap d es ep) (he:es[i]? = some e)
  (q :∀h',h'.IsKeyIter it d (i + 1) es.size ep->z5 it s.heap h'->Q (some e.key) { s with heap:=h' }):R0 (C1 prog w) A (j1f (.ref it)) Q E s:=by
 have a:=hi.typeIs;obtain ⟨u,g,r,f⟩:=hi;obtain ⟨o,n,z,l⟩:=h;obtain ⟨t,B,p,C⟩:=u;cases (show t=_ from r);cases (show p=_ from f);unfold j1f;refine t0 (wpAny_attempt (E3 (name:=i6 "__next__") a G4 (u3 G4 a W9 ?_ (O9 _))));unfold j19.«dict_keyiterator.__next__»;refine (show R0 _ _ (V7 "__next__" ⟨[.ref it],[]⟩ >>= _) _ _ _ from t0 ?_);refine (show R0 _ _ (X2 (F1 it)) _ _ _ from L0 ?_);refine t0 ?_;refine (show R0 _ _ ((i8 (.ref it) >>= _) >>= _) _ _ _ from t0 (t0 (D4 a (L0 ?_))));have k:(if o7 "dict_keyiterator" = true then 2 else 0)=0:=if_neg (by decide +kernel);rw [k];refine t0 (wpAny_fieldsOf g f ?_);show R0 _ _ (if (F1 d == Q4)=true then _ else _) _ _ _;rw [if_neg (by simp)];refine (show R0 _ _ (X2 d >>= _) _ _ _ from t0 (L0 ?_));refine t0 (D9 n l ?_);rw [if_neg (by simp)];refine (show R0 _ _ (X2 d >>= _) _ _ _ from t0 (L0 ?_));refine t0 (j0i n l ?_);rw [if_neg (by simp)];refine L0 ?_;dsimp only;rw [if_neg (by omega),E5,he];dsimp only;refine t0 (show R0 _ _ (i8 (.ref it) >>= _) _ _ _ from t0 (D4 a (L0 ?_)));rw [k];refine t0 (wpAny_isOneOf_keyiter a ?_);refine t0 (K8 g f (by simp) ?_);have m:(s.heap.update it (j11 (·.setIfInBounds 1 (j00 ((i:Int) + 1))))).IsKeyIter it d (i + 1) es.size ep:=by refine ⟨_,P7 _ g rfl,rfl,?_⟩;simp [j11,j00]
 have key :∀b:Bool,b=false->R0 (C1 prog w) A.in1 (E9 [e.key,e.val] (do
   let c <-Q7 (.ref it) ["dict_keyiterator","dict_reversekeyiterator"]
   if c=true then X2 e.key else do
    let c <-Q7 (.ref it) ["dict_valueiterator","dict_reversevalueiterator"]
    if c=true then X2 e.val else Builtin.Dict_items.pairFromOwner (.ref it) 6 e.key e.val) >>= λ v=>ret v)
   (λ x j=>∃v,x=Fin.done (Flow.ret v)/\R0 (C1 prog w) A (X2 (some v)) Q E j)
   (λ e j=>R0 (C1 prog w) A (do if <-isInstance e (.type "StopIteration") then X2 none else throw e) Q E j)
   { s with heap:=s.heap.update it (j11 (·.setIfInBounds 1 (j00 (if b=true then (i:Int) - 1 else (i:Int) + 1)))) }:=λ b y=>by
  subst y;refine t0 (R4 (t0 (wpAny_isOneOf_keyiter m.typeIs ?_)));rw [if_pos (by decide +kernel)];exact L0 (L0 ⟨_,rfl,L0 (q _ m (F5 ..))⟩)
 exact key _ (by decide +kernel)
theorem ki_end {it d:Addr} {es:Array DictEntry} {ep i:Nat} {Q:Option Value->B0->Prop} (hh:A.handled=none) (hi:s.heap.IsKeyIter it d i es.size ep) (h:DcAt s.heap d es ep) (he:es[i]? = none)
  (q :∀h',Heap.ExtBut it s.heap h'->Q none { s with heap:=h' }):R0 (C1 prog w) A (j1f (.ref it)) Q E s:=by
 have a:=hi.typeIs;obtain ⟨p,j,r,g⟩:=hi;obtain ⟨o,f,n,c⟩:=h;unfold j1f;refine t0 (wpAny_attempt (E3 (name:=i6 "__next__") a G4 (u3 G4 a W9 ?_ (O9 _))));unfold j19.«dict_keyiterator.__next__»;refine (show R0 _ _ (V7 "__next__" ⟨[.ref it],[]⟩ >>= _) _ _ _ from t0 ?_);refine (show R0 _ _ (X2 (F1 it)) _ _ _ from L0 ?_);refine t0 ?_;refine (show R0 _ _ ((i8 (.ref it) >>= _) >>= _) _ _ _ from t0 (t0 (D4 a (L0 ?_))));have l:(if o7 "dict_keyiterator" = true then 2 else 0)=0:=if_neg (by decide +kernel);rw [l];refine t0 (wpAny_fieldsOf j g ?_);show R0 _ _ (if (F1 d == Q4)=true then _ else _) _ _ _;rw [if_neg (by simp)];refine (show R0 _ _ (X2 d >>= _) _ _ _ from t0 (L0 ?_));refine t0 (D9 f c ?_);rw [if_neg (by simp)];refine (show R0 _ _ (X2 d >>= _) _ _ _ from t0 (L0 ?_));refine t0 (j0i f c ?_);rw [if_neg (by simp)];refine L0 ?_;dsimp only;rw [if_neg (by omega),E5,he];dsimp only;refine t0 (show R0 _ _ (i8 (.ref it) >>= _) _ _ _ from t0 (D4 a (L0 ?_)));rw [l];refine t0 (K8 j g (by simp) ?_);refine stops hh λ h' k=>q h' ?_;exact λ b o m e=>k b o (((F5 ..).2 b m).trans e)
end
mutual
noncomputable def ltD:PyData->PyData->Option Bool
 | .int i,e=>match e with
  | .int j=>some (decide (i < j))
  | _=>none
 | .tuple xs,e=>match e with
  | .tuple ys=>ltDs xs ys
  | _=>none
 | .none,_=>none
 | .bool _,_=>none
 | .str _,_=>none
 | .list _,_=>none
 | .dict _,_=>none
noncomputable def ltDs:List PyData->List PyData->Option Bool
 | [],ys=>some (decide (0 < ys.length))
 | x :: xs,ys=>match ys with
  | []=>some false
  | y :: ys=>if x=y then ltDs xs ys else ltD x y
end
noncomputable def nsE (k:PyData×Addr):DictEntry:={ hash:=hashD k.1,key:=.ref k.2,val:=.bool true }
noncomputable def NsO (a:Addr) (ks:List (PyData×Addr)):HO:=.ext λ h=>(a == Z2)=false/\ks.length<=sizeLine/\(ks.map (·.1)).Nodup/\∃ep,DcAt h a (ks.map nsE).toArray ep
def NsAt (K:b0) (H:Hp) (a:Addr) (ks:List (PyData×Addr)):Prop:=Rd H a (NsO a ks)/\∀k∈ks,keyD k.1=true/\k.1.depth<=7/\IsPd K H k.1 (.ref k.2)
noncomputable def putN (ks:List (PyData×Addr)) (d:PyData) (b:Addr):List (PyData×Addr):=if d∈ks.map (·.1) then ks else ks++[(d,b)]
section
variable {X:Cx} {pins:List (Addr×Obj)} {σ:St} {H:Hp} {s:B0} {a b:Addr} {ks:List (PyData×Addr)} {d:PyData} {A:X1} {E:Value->B0->Prop}
theorem ns_is (I:Inv X pins σ H s) (hk:keyD d=true) (hd:d.depth<=7) (h:IsPd X.K H d (.ref b)):(z6e X.prog X.w).is s.heap d b:=by obtain ⟨a,r⟩:=z8h I d (.ref b) (.ref b) h rfl;exact ⟨hk,hd,a,r⟩
theorem zff (I:Inv X pins σ H s) (h:NsAt X.K H a ks):(a == Z2)=false/\ks.length<=sizeLine/\(ks.map (·.1)).Nodup/\(∃ep,DcAt s.heap a (ks.map nsE).toArray ep)/\s.heap.DictOfH (z6e X.prog X.w) a (ks.map λ k=>(k.1,k.2,T3 true)):=by
 obtain ⟨r,n⟩:=h;obtain ⟨⟨g,l,b,ep,c⟩,_⟩:=(show ObjOk X.prog X.w H s.heap a (NsO a ks) from r.ok I.hok)
 refine ⟨g,l,b,⟨ep,c⟩,?_⟩;obtain ⟨o,e,j,p⟩:=c;refine ⟨o,_,ep,e,j,p,?_,λ x f=>?_,?_⟩
 ·rw [T2];rfl
 ·obtain ⟨k,i,rfl⟩:=List.mem_map.mp f;obtain ⟨m,d,q⟩:=n k i;exact ns_is I m d q
 ·rw [T2];exact b
theorem at_ns:(R7 (ks.map λ k=>(k.1,k.2,T3 true)) d).isSome=decide (d∈ks.map (·.1)):=by
 unfold R7;rw [z6,Bool.eq_iff_iff,List.find?_isSome,decide_eq_true_iff];constructor
 ·rintro ⟨x,hx,e⟩;obtain ⟨k,a,rfl⟩:=List.mem_map.mp hx;exact List.mem_map.mpr ⟨k,a,of_decide_eq_true e⟩
 ·intro h;obtain ⟨k,a,e⟩:=List.mem_map.mp h;exact ⟨_,List.mem_map.mpr ⟨k,a,rfl⟩,decide_eq_true e⟩
theorem zcn:storedH (ks.map λ k=>(k.1,k.2,T3 true)) d b (.bool true)=(putN ks d b).map λ k=>(k.1,k.2,T3 true):=by
 unfold storedH putN;rw [at_ns];by_cases z:d∈ks.map (·.1)
 ·rw [if_pos (decide_eq_true z),if_pos z,T2];refine List.map_congr_left λ k a=>?_;show putAt d (.bool true) (k.1,k.2,T3 true)=_;unfold putAt;split<;>rfl
 ·rw [if_neg (by rw [decide_eq_false z];decide),if_neg z,E1];rfl
theorem z7q:(putN ks d b).length<=ks.length + 1:=by
 unfold putN;split
 ·omega
 ·rw [G0];exact A0 _
theorem ns_put {Q:Unit->B0->Prop} (hu:A.units + 9 < cLine) (I:Inv X pins σ H s) (ha:H a=some (NsO a ks)) (h:NsAt X.K H a ks) (hl:ks.length < sizeLine) (hk:keyD d=true) (hd:d.depth<=7) (hb:IsPd X.K H d (.ref b)) (q :∀s',Inv X pins σ (upd H a (NsO a (putN ks d b))) s'->Q () s'):R0 (C1 X.prog X.w) A (setItem (.ref a) (.ref b) (.bool true)) Q E s:=by
 obtain ⟨r,u,J,_,y⟩:=zff I h;refine wpAny_setItem_heap (knd:=z6e X.prog X.w) (hsz:=by rw [F0];exact u) (show A.units + 1 + 8 < cLine by omega) (ns_is I hk hd hb) y λ L g n=>q _ ?_;rw [zcn] at g;obtain ⟨o,j,x,c,C,l,t,_,f⟩:=g;have F:j=((putN ks d b).map nsE).toArray:=by apply Array.ext';rw [t,T2];rfl
 subst F;refine z79 I (by rw [ha];exact True.intro) n ⟨o,c⟩ ⟨⟨r,by have:=z7q (ks:=ks) (d:=d) (b:=b);omega,?_,x,o,c,C,l⟩,⟨o,c⟩,λ M G p k=>?_⟩
 ·rw [T2] at f;exact f
 ·obtain ⟨B,m,z,v,e,D,i⟩:=p;exact ⟨B,m,z,v,e,k e D,i⟩
end
noncomputable def tDNewN:TE:=λ _ H Q=>∀p,H p=none->Q (.ref p) (upd H p (NsO p []))
noncomputable def rInN (K:b0) (neg:Bool):R2:=λ y x H Q=>∃a b ks d,x=.ref a/\y=.ref b/\NsAt K H a ks/\keyD d=true/\d.depth<=7/\IsPd K H d (.ref b)/\Q (.bl (xor neg (decide (d∈ks.map (·.1))))) H
noncomputable def sNPut (K:b0) (td ty tv:TE):TS:=λ D σ H=>tv σ H λ v H1=>td σ H1 λ x H2=>ty σ H2 λ y H3=>∃a b ks d,v=.bl true/\x=.ref a/\y=.ref b/\H3 a=some (NsO a ks)/\NsAt K H3 a ks/\ks.length < sizeLine/\keyD d=true/\d.depth<=7/\IsPd K H3 d (.ref b)/\D.nx σ (upd H3 a (NsO a (putN ks d b)))
section
variable {X:Cx}
theorem zev {P:Program} {w:P0} {H:Hp} (h:Heap) (hb:Z2 < h.objs.size):ObjOk P w H (h.push { cls:=.type "dict",data:=.dict #[] }) h.objs.size (NsO h.objs.size []):=by refine ⟨⟨beq_eq_false_iff_ne.mpr (V3 (G1 hb)),Z1 _,List.nodup_nil,0,_,X0 _ rfl,⟨rfl,rfl,rfl⟩,rfl⟩,⟨_,X0 _ rfl⟩,λ j i p k=>?_⟩;obtain ⟨d,g,c,e,a,f,b⟩:=p;exact ⟨d,g,c,e,a,k a f,b⟩
theorem zjk {pos:Pos}:PE X (.Dict [] [] pos) tDNewN:=λ b s σ H Q I h=>wpAny_Dict_empty ⟨.ref s.heap.objs.size,_,I.laid (a:=s.heap.objs.size) (o:=NsO s.heap.objs.size []) (t':=s.toks) (λ _ _ q=>D0 _ q) (A0 _) (zev s.heap I.big),rfl,h _ (I.hok.fresh (A0 _))⟩
theorem zcr {k:Nat} (hr:Room k X.A):OpR X (C2 .NotIn) (rInN X.K true):=by intro r s σ H y x u v Q I j c h;obtain ⟨a,b,n,d,rfl,rfl,m,g,l,e,q⟩:=h;cases j;cases c;have o:=hr.units;obtain ⟨f,t,p,_,i⟩:=zff I m;refine wpAny_notIn_heap (knd:=z6e X.prog X.w) (show X.A.units + 1 + 8 < cLine by omega) (ns_is I g l e) f i ?_;rw [at_ns];rw [Bool.true_xor] at q;exact ⟨.bl _,H,I.tok _,rfl,q⟩
theorem zi6 {o i value:Expr} {pos pos':Pos} {td ty tv:TE} {k:Nat} (hr:Room k X.A) (ho:PE X o td) (hi:PE X i ty) (hv:PE X value tv) (hs:V5 value (some (.Subscript o i pos')) pos.line X.env=X2 false) :
  PS X (.Assign [.Subscript o i pos'] value pos) (sNPut X.K td ty tv):=by
 intro c s σ H D I h;refine wpAny_Assign_Subscript (thn (hv c s σ H _ I h) λ r f ⟨v,H1,I1,rv,q1⟩=>thn (ho c f σ H1 _ I1 q1) λ u g ⟨x,H2,I2,rx,q2⟩=>thn (hi c g σ H2 _ I2 q2) λ j m ⟨y,H3,I3,ry,a,b,ks,d,ev,ex,ey,h0,h1,h2,h3,h4,h5,q3⟩=>?_) hs;subst ev ex ey;obtain rfl:u=F1 a:=rx;obtain rfl:j=F1 b:=ry;obtain rfl:r=T3 true:=rv;have n:=hr.units;exact ns_put (by omega) I3 h0 h1 h2 h3 h4 h5 λ l e=>⟨σ,_,e,q3⟩
end
noncomputable def ItN (a:Addr) (ob:Obj) (ks:List (PyData×Addr)):It:=
 ⟨λ i H=>H a=some (.frz ob (NsO a ks))/\i < ks.length,λ i H x H'=>H'=H/\∃k,ks[i]? = some k/\x=.ref k.2,λ i H=>H a=some (.frz ob (NsO a ks))/\ks.length<=i⟩
theorem zi5 {X:Cx} {pins:List (Addr×Obj)} {σ:St} {H:Hp} {s:B0} {a:Addr} {ob:Obj} {ks:List (PyData×Addr)} {es:Array DictEntry} {ep:Nat} (I:Inv X pins σ H s) (hob:ob.data=.dict es ep) (e:H a=some (.frz ob (NsO a ks))) :
  DcAt s.heap a (ks.map nsE).toArray ep:=by
 obtain ⟨b,⟨_,_,_,g,o,d,f,c⟩,_⟩:=(show ObjOk X.prog X.w H s.heap a (.frz ob (NsO a ks)) from I.hok a _ e)
 rw [b] at d;cases d;rw [hob] at c;cases c;exact ⟨ob,b,f,hob⟩
theorem z63 (ks:List (PyData×Addr)):(ks.map nsE).toArray.size=ks.length:=by rw [O0,F0]
theorem zfg {P:Program} {w:P0} {K:b0} {tg:Expr} {a it:Addr} {ob:Obj} {ks:List (PyData×Addr)} {es:Array DictEntry} {ep:Nat} (hob:ob.data=.dict es ep):Turn P w K tg (ItN a ob ks) [it] it (λ i h=>h.IsKeyIter it a i ks.length ep) where
 mem:=by simp
 obj:=λ i h f b g=>by
  obtain rfl:b=it:=by simpa using g
  obtain ⟨o,e,c,d⟩:=f;exact ⟨o,e,λ v z=>by rw [d] at z;cases z⟩
 keep:=λ i h l f k=>by obtain ⟨o,e,r⟩:=f;exact ⟨o,k it (by simp) o e,r⟩
 item:=by intro X D C y L i J s σ H E I j f u;subst D C y;obtain ⟨q,m⟩:=u;have p:=zi5 I hob q;obtain ⟨A,B,O,F,n,x⟩:=j it (by simp);have G:ks[i]? = some ks[i]:=K0 m;rw [<-z63 ks] at f;refine zjn (e:=nsE ks[i]) f p (by rw [j21,A1,G];rfl) λ l t Q=>?_;have M:Inv X J σ H { s with heap:=l }:=I.turned (t':=s.toks) (λ b o g e=>(Q.2 b g).trans e) A B F n x;obtain ⟨o,e,c,d⟩:=id t;rw [z63 ks] at t;exact ⟨_,rfl,go_of (s:={ s with heap:=l }) e c d (by decide) ⟨.ref ks[i].2,H,M,rfl,⟨rfl,_,G,rfl⟩,t,λ b g=>(j b g).1⟩⟩
 done:=by intro X D C y L i J s σ H E I j f u;subst D C y;obtain ⟨q,m⟩:=u;have p:=zi5 I hob q;obtain ⟨A,B,O,F,n,x⟩:=j it (by simp);rw [<-z63 ks] at f;exact ki_end (I.ok.hd L) f p (Array.getElem?_eq_none (by rw [z63];exact m)) λ l N=>⟨rfl,I.turned (t':=s.toks) (λ b o g e=>N b o g e) A B F n x⟩
 self:=λ _ _ _ _ _ f h=>wpAny_pyIter_keyiter f h
noncomputable def iKeysN (td:TE):TI:=λ σ H R=>td σ H λ x H1=>∃a ks,x=.ref a/\H1 a=some (NsO a ks)/\∀ob,R (ItN a ob ks) (upd H1 a (.frz ob (NsO a ks)))
theorem zje {X:Cx} {tg o:Expr} {to:TE} (ho:PE X o to):PI X tg o (iKeysN to):=by
 intro j s σ H R I h;refine thn (ho j s σ H _ I h) λ v c ⟨x,H1,I1,r1,a,ks,ex,ea,q⟩=>?_;subst ex;cases r1;obtain ⟨⟨i,r,p,t,f⟩,u,n⟩:=(show ObjOk X.prog X.w H1 c.heap a (NsO a ks) from I1.hok a _ ea)
 obtain ⟨g,k,A,m⟩:=id f;have l :∀o w,X.H₀ a≠some (.frz o w):=λ o w q=>by have z:=I1.base.frzs a o w q;rw [ea] at z;cases z
 have d:Inv X j σ (upd H1 a (.frz g (NsO a ks))) c:=I1.retold ea (λ _ z=>by cases z) (λ _ z=>by cases z) (λ _ z=>by cases z) l ⟨k,⟨i,r,p,t,f⟩,u,n⟩;refine zjp i f ?_;refine ⟨c.heap.objs.size,[c.heap.objs.size],_,_,_,rfl,d.kept (t':=c.toks) λ b o e=>D0 _ e,zfg m,⟨_,X0 _ rfl,rfl,by rw [z63];rfl⟩,λ b y=>?_,q g⟩;obtain rfl:b=c.heap.objs.size:=by simpa using y
 exact d.fpOk (A0 _) (d.hok.fresh (A0 _))
noncomputable def ItRv (a:Addr) (n:Nat):It:=
 ⟨λ i H=>i < n/\∃xs,H a=some (.lst xs)/\xs.length=n,λ i H x H'=>H'=H/\∀xs,H a=some (.lst xs)->xs[n - 1 - i]? = some x,λ i H=>i=n⟩
theorem zj0 {P:Program} {w:P0} {K:b0} {tg:Expr} (a it:Addr) (n:Nat):Turn P w K tg (ItRv a n) [it] it (λ i h=>h.IsRevIter it a ((n:Int) - 1 - (i:Nat))) where
 mem:=by simp
 obj:=λ i h f b g=>by
  obtain rfl:b=it:=by simpa using g
  obtain ⟨o,e,c,d⟩:=f;exact ⟨o,e,λ v z=>by rw [d] at z;cases z⟩
 keep:=λ i h m f k=>by obtain ⟨o,e,r⟩:=f;exact ⟨o,k it (by simp) o e,r⟩
 item:=by
  intro X D C y N i M s σ H E I j f l;subst D C y;obtain ⟨Y,O,J,W⟩:=l;obtain ⟨a1,L,p,hz⟩:=I.list (SqL.of J);obtain ⟨A,B,U,F,q,x⟩:=j it (by simp);have Z:=L.length;have lt:n - 1 - i < O.length:=by omega
  obtain ⟨u,R,S⟩:=L.get (K0 lt);rw [show (n:Int) - 1 - (i:Nat)=((n - 1 - i:Nat):Int) by omega] at f;refine wpAny_pyNext_rev_item f p.isList (by simpa using R) λ m t V=>?_;have Q:Inv X M σ H { s with heap:=m }:=I.turned (t':=s.toks) (λ b o g e=>(V.2 b g).trans e) A B F q x;obtain ⟨o,e,c,d⟩:=id t;rw [show ((n - 1 - i:Nat):Int) - 1=(n:Int) - 1 - ((i + 1:Nat):Int) by omega] at t;refine ⟨_,rfl,go_of (s:={ s with heap:=m }) e c d (by decide) ⟨O[n - 1 - i],H,Q,S,⟨rfl,λ a0 G=>?_⟩,t,λ b g=>(j b g).1⟩⟩;rw [J] at G;cases G;exact K0 lt
 done:=by intro X D C y N i M s σ H E I j f l;subst D C y;obtain ⟨A,B,U,F,q,x⟩:=j it (by simp);have l:i=n:=l;rw [show (n:Int) - 1 - (i:Nat)=-1 by omega] at f;exact wpAny_pyNext_rev_end (I.ok.hd N) f λ m T=>⟨rfl,I.turned (t':=s.toks) (λ b o g e=>T b o g e) A B F q x⟩
 self:=λ _ _ _ _ _ f h=>wpAny_pyIter_revIter f h
noncomputable def iRevL (tl:TE):TI:=λ σ H R=>tl σ H λ x H1=>∃a xs,x=.ref a/\H1 a=some (.lst xs)/\R (ItRv a xs.length) H1
theorem zjo {X:Cx} {tg e:Expr} {te:TE} {p2 c2:Pos} (g2:Gl X "reversed") (m2:X.mg "reversed" = none) (ha:PE X e te) (he:P1 [e] X.env=[(false,d3 e X.env)]:=by rfl):PI X tg (.Call (.Name "reversed" p2) [e] [] c2) (iRevL te):=by
 intro k s σ H R I h;refine Call_ (ld_blt I g2 m2 boot_reversed (j3 ?_ he rfl));rw [he];refine (show R0 _ _ (spliced ((false,d3 e X.env) :: [])) _ _ s from c5 (thn (ha k s σ H _ I h) λ u c ⟨x,H1,I1,r1,a,xs,ex,sq,q⟩=>?_));subst ex;cases r1;refine A6 ?_;obtain ⟨d,i,j,m⟩:=I1.list (SqL.of sq);have g:=i.length;refine call_reversed_list j.isList ?_;have f:(c.heap.push (revObj a ((d.toArray.size:Int) - 1))).IsRevIter c.heap.objs.size a ((d.toArray.size:Int) - 1):=⟨_,X0 _ rfl,rfl,rfl⟩
 refine wpAny_pyIter_revIter f ?_;refine ⟨c.heap.objs.size,[c.heap.objs.size],_,_,H1,rfl,I1.kept (t':=c.toks) λ b o e=>D0 _ e,zj0 a _ _,?_,λ b l=>?_,q⟩
 ·rw [show (xs.length:Int) - 1 - ((0:Nat):Int)=(d.toArray.size:Int) - 1 by rw [O0,<-g];omega];exact f
 obtain rfl:b=c.heap.objs.size:=by simpa using l
 exact I1.fpOk (A0 _) (I1.hok.fresh (A0 _))
theorem zkl {a:Addr} {xs:List V} {g:TG} {tb:TS} {D:Ends} {σ:St} {H:Hp} (Pv:Nat->St->Hp->Prop) (h0:Pv 0 σ H) (hl :∀i σ H,Pv i σ H->H a=some (.lst xs))
  (hs :∀i x σ H,xs.reverse[i]? = some x->Pv i σ H->g x σ H λ σ2 H2=>tb { D with nx:=Pv (i + 1),ct:=Pv (i + 1),bk:=D.nx } σ2 H2) (hd :∀σ H,Pv xs.length σ H->D.nx σ H) :
  ∃W:Nat->Nat->St->Hp->Prop,(∃m,W 0 m σ H)/\∀i m σ H,W i m σ H->
   ((ItRv a xs.length).stop i H/\D.nx σ H)\/((ItRv a xs.length).go i H/\∃N:St->Hp->Prop,(∀σ' H',N σ' H'->∃m',m' < m/\W (i + 1) m' σ' H')/\∀x H',(ItRv a xs.length).yld i H x H'->g x σ H' λ σ2 H2=>tb { D with nx:=N,ct:=N,bk:=D.nx } σ2 H2):=by
 refine ⟨λ i m σ H=>m=xs.length - i/\i<=xs.length/\Pv i σ H,⟨xs.length,by simp,Z1 _,h0⟩,?_⟩;rintro i m σ H ⟨rfl,hi,p⟩;have q:=hl i σ H p;by_cases hlt:i < xs.length
 ·refine .inr ⟨⟨hlt,xs,q,rfl⟩,Pv (i + 1),λ σ' H' b=>⟨xs.length - (i + 1),by omega,rfl,hlt,b⟩,λ x H' y=>?_⟩;obtain ⟨rfl,y⟩:=y;refine hs i x σ _ ?_ p;rw [List.getElem?_reverse hlt];exact y xs q
 ·obtain rfl:i=xs.length:=by omega
  exact .inl ⟨rfl,hd σ H p⟩
end L2
set_option maxHeartbeats 400000
namespace L2
open PySem PySem.Spec PyProof.Rows
section
variable {X:Cx}
theorem zib {o:Expr} {to:TE} {apos cpos:Pos} (ho:PE X o to) (hbase:j4 o "pop" X.env (d3 o X.env)=d3 o X.env:=by rfl) (hline:(apos.endLine == cpos.line)=true:=by rfl):PE X (.Call (.Attribute o "pop" apos) [] [] cpos) (tBM0 X.K "list" rPop to):=
 pe_bm0 F6 PySem.F.slot_list_pop PySem.F.type_list_pop mt_pop ho hbase hline
end
end L2
set_option maxHeartbeats 1000000
namespace L2
open PySem PySem.Spec PyProof.Rows
section
variable {X:Cx} {pins:List (Addr×Obj)} {σ:St} {H:Hp} {s:B0} {a b:Addr} {ks:List (PyData×Addr)} {d:PyData} {A:X1} {E:Value->B0->Prop}
theorem ns_set {Q:Unit->B0->Prop} (hu:A.units + 8 < cLine) (I:Inv X pins σ H s) (ha:H a=some (NsO a ks)) (h:NsAt X.K H a ks) (hl:ks.length < sizeLine) (hk:keyD d=true) (hd:d.depth<=7) (hb:IsPd X.K H d (.ref b)) (q :∀s',Inv X pins σ (upd H a (NsO a (putN ks d b))) s'->Q () s'):R0 (C1 X.prog X.w) A (dictSet a (.ref b) (.bool true)) Q E s:=by
 obtain ⟨r,u,J,_,y⟩:=zff I h;refine wpAny_dictSet_heap (knd:=z6e X.prog X.w) (hsz:=by rw [F0];exact u) hu (ns_is I hk hd hb) y λ L g n=>q _ ?_;rw [zcn] at g;obtain ⟨o,j,x,c,C,l,t,_,f⟩:=g;have F:j=((putN ks d b).map nsE).toArray:=by apply Array.ext';rw [t,T2];rfl
 subst F;refine z79 I (by rw [ha];exact True.intro) n ⟨o,c⟩ ⟨⟨r,by have:=z7q (ks:=ks) (d:=d) (b:=b);omega,?_,x,o,c,C,l⟩,⟨o,c⟩,λ M G p k=>?_⟩
 ·rw [T2] at f;exact f
 ·obtain ⟨B,m,z,v,e,D,i⟩:=p;exact ⟨B,m,z,v,e,k e D,i⟩
end
noncomputable def zkf (K:b0) (tk tv:TE):TE:=λ σ H Q=>∀p,H p=none->tk σ (upd H p (NsO p [])) λ x H1=>tv σ H1 λ v H2=>∃b d,v=.bl true/\x=.ref b/\H2 p=some (NsO p [])/\keyD d=true/\d.depth<=7/\IsPd K H2 d (.ref b)/\Q (.ref p) (upd H2 p (NsO p [(d,b)]))
theorem zgx {X:Cx} {k v:Expr} {pos:Pos} {tk tv:TE} {n:Nat} (hr:Room n X.A) (hk:PE X k tk) (hv:PE X v tv):PE X (.Dict [some k] [v] pos) (zkf X.K tk tv):=by intro c s σ H Q I h;have m:=hr.units;have f:=I.laid (a:=s.heap.objs.size) (o:=NsO s.heap.objs.size []) (t':=s.toks) (λ _ _ q=>D0 _ q) (A0 _) (zev s.heap I.big);refine wpAny_Dict_any rfl rfl (by simp) (show 1<=15 by decide) (pairTrees_cons_walk (thn (hk c _ σ _ _ f (h _ (I.hok.fresh (A0 _)))) λ u g ⟨x,H1,I1,rx,q1⟩=>thn (hv c g σ H1 _ I1 q1) λ i j ⟨y,H2,I2,ry,b,d,ev,ex,h0,h1,h2,h3,q2⟩=>pairTrees_nil_walk ?_));subst ev ex;obtain rfl:u=F1 b:=rx;obtain rfl:i=T3 true:=ry;unfold storeAll;rw [Z4];refine t0 (t0 (ns_set (by omega) I2 h0 ⟨.inl h0,λ k hk=>absurd hk u0⟩ (show 0 < sizeLine by decide) h1 h2 h3 λ l e=>?_));refine L0 ?_;exact L0 ⟨.ref s.heap.objs.size,_,e,rfl,q2⟩
theorem zcz {S:Hp->Hp->Prop} {a:Addr} {ob:Obj} {ks:List (PyData×Addr)} {H1:Hp} (hs :∀H,S H1 H->S H H) (hq :∀H,S H1 H->H a=some (.frz ob (NsO a ks))):RunsR S (ItN a ob ks) H1 ks.length (λ i v _=>∃k,ks[i]? = some k/\v=.ref k.2):=
 ⟨λ i b H s=>⟨hq H s,b⟩,λ H s=>⟨hq H s,A0 _⟩,λ i b H v c s y=>by obtain ⟨e,y⟩:=y;subst e;exact ⟨hs _ s,y⟩⟩
theorem tcompN {td te:TE} {tc:TT} {g:TG} {m:Nat} {fr:List (Nat×Str)} {σ:St} {H:Hp} {Q:VK} (Pr:Addr->List (PyData×Addr)->Hp->Prop) (p:List (PyData×Addr)->Nat->Bool) (R:List (PyData×Addr)->Nat->V->Prop) (htd :∀T:VK,(∀a ks H1,Pr a ks H1->T (.ref a) H1)->td σ H T) (hp :∀a ks H1,Pr a ks H1->H1 a=some (NsO a ks)/\ks.length<=sizeLine)
  (body :∀a ks H0 ob,Pr a ks H0->∀i k,ks[i]? = some k->∀H1,Same (upd H0 a (.frz ob (NsO a ks))) H1->∀(KT:VK) (KF:Hp->Prop),(p ks i=true->∀y H',Same H1 H'->R ks i y->KT y H')->(p ks i=false->∀H',Same H1 H'->KF H')->
   g (.ref k.2) (cStG σ fr (S1 m none)) H1 λ σ6 H6=>∃us,us.length=m/\σ6=cStG σ fr us/\tc (cStG σ fr us) H6 λ b H2=>if b=true then te (cStG σ fr us) H2 KT else KF H2)
  (hQ :∀a ks H0 ob l H' ys,Pr a ks H0->Same (upd H0 a (.frz ob (NsO a ks))) H'->H' l=none->All2 (R ks) ((N1 ks.length).filter (p ks)) ys->Q (.ref l) (upd H' l (.lst ys))):tCompG (iKeysN td) m fr g tc te σ H Q:=by
 refine htd _ λ a ks H0 c=>⟨a,ks,rfl,(hp _ _ _ c).1,λ ob=>?_⟩
 refine z25 (S:=Same) (H1:=upd H0 a (.frz ob (NsO a ks))) (fr:=fr) (g:=g) (tc:=tc) (te:=te) (σ:=σ) (m:=m) (Same.refl _) (λ _ _ _ a b=>a.trans b) (p ks) (λ i y _=>R ks i y) (λ _ _ _ _ _ z=>z) (zcz (S:=Same) (λ _ _=>Same.refl _) λ H s=>s _ _ upd_same) (hp _ _ _ c).2 (λ i r v H1 o h KT KF q j=>?_) λ l H' ys f n d=>hQ a ks H0 ob l H' ys c f n d;obtain ⟨k,e,rfl⟩:=h;exact body a ks H0 ob c i k e H1 o KT KF q j
end L2
set_option maxHeartbeats 0
namespace K69
open PySem PySem.W PyProof.Rows TJ L2
noncomputable abbrev PX:Program:=PySem.Challenge.pw_talejudge_k69_bad_beginnings
noncomputable abbrev annX:Option Value:=some (.ref 6)
noncomputable def tp (a b:Str) (t:Nat):Obj:={ cls:=.type "tuple",data:=.seq #[.str a t,.str b (t + 1)] 0 }
noncomputable def tups:List Obj:=[tp "register" "read" 407,tp "register" "write" 409,tp "counter" "read" 411,tp "counter" "add" 413,tp "queue" "put" 415,tp "queue" "take" 417,tp "set" "put" 419,tp "set" "cut" 421,tp "set" "has" 423,tp "cell" "read" 425,tp "cell" "write" 427,tp "cell" "swap" 429]
noncomputable def insAll:List Obj->Nat->BT->BT
 | [],_,t=>t
 | x :: r,n,t=>insAll r (n + 1) (t.ins n x)
noncomputable def treeD (P:N0) (oD:Obj):BT:=insAll tups 165 ((K69.pre.tree_188 P).ins 164 oD)
noncomputable def FX (w:P0) (os:D2) (oD:Obj) (tk:Nat):SharedT:=⟨treeD w.params oD,177,{},⟨[]⟩,{},tk,os⟩
noncomputable abbrev cdX:Code:=.body (behindTheImports PX) K69.pre.env_1
noncomputable abbrev qX:Pos:=⟨0,0,0,0⟩
noncomputable abbrev BX:List Frame:=[topFrame qX]
noncomputable abbrev GX {α:Type} (w:P0) (c:Nat) (x:Sem α) (s:B0) (pos:Pos) (a:α) (s':B0) (pos':Pos):Prop:=Goes PX w 11 annX cdX qX c x s pos a s' pos'
def LX (n:Nat) {α:Type} (x:Sem α) (w:P0) (pos:Pos) (s:D2->Obj->Nat->SharedT) (a:Nat->α) (s':D2->Obj->Nat->SharedT) (pos':Pos):Prop:=
 ∀(os:D2) (oD:Obj) (tk:Nat) (K:α->Sem PySem.Fin) (H:Value->Sem PySem.Fin) (gd:Bool->Bool) (lv:List Value->List Value),
  PySem.W.Fast.tw10295753902157049106 Z6 PX w 11 annX 1 n (s os oD tk) ⟨x.wrap K H gd lv,cdX,pos,BX⟩=some (s' os oD tk,⟨K (a tk),cdX,pos',BX⟩)
theorem LX.goes {n:Nat} {α:Type} {x:Sem α} {w:P0} {pos pos':Pos} {s s':D2->Obj->Nat->SharedT} {a:Nat->α} (h:LX n x w pos s a s' pos') (os:D2) (oD:Obj) (tk:Nat):GX w n x (s os oD tk).abs pos (a tk) (s' os oD tk).abs pos':=by refine Goes.leaf n λ K H c b=>?_;have e:=h os oD tk K H c b;rw [<-PySem.W.Fast.te10295753902157049106,<-N4] at e;exact e
noncomputable abbrev stay (w:P0):D2->Obj->Nat->SharedT:=FX w
noncomputable abbrev plus3 (w:P0):D2->Obj->Nat->SharedT:=λ os oD tk=>FX w os oD (tk + 3)
theorem qtH (a:Addr) (h :∀(w:P0) (pos:Pos),LX 3 (PySem.W.Fast.tw13066428366354244818 8 (.ref a)) w pos (stay w) (λ _=>true) (stay w) pos:=by intro w pos os oD tk K H gd lv;kernel_rfl) (w:P0) (pos:Pos):LX 3 (W3 8 (.ref a)) w pos (stay w) (λ _=>true) (stay w) pos:=by rw [PySem.W.Fast.te13066428366354244818];exact h w pos
noncomputable def qt0:=qtH 165
noncomputable def qt1:=qtH 166
noncomputable def qt2:=qtH 167
noncomputable def qt3:=qtH 168
noncomputable def qt4:=qtH 169
noncomputable def qt5:=qtH 170
noncomputable def qt6:=qtH 171
noncomputable def qt7:=qtH 172
noncomputable def qt8:=qtH 173
noncomputable def qt9:=qtH 174
noncomputable def qt10:=qtH 175
noncomputable def qt11:=qtH 176
theorem eqH (n:Nat) (a b:Addr) (hf :∀(w:P0) (pos:Pos),LX n (L4 (.ref a) (.ref b)) (w.withFollow "special-get-raises" false) pos (stay (w.withFollow "special-get-raises" false)) (λ _=>false) (stay (w.withFollow "special-get-raises" false)) pos:=by intro w pos os oD tk K H gd lv;kernel_rfl) (ht :∀(w:P0) (pos:Pos),LX n (L4 (.ref a) (.ref b)) (w.withFollow "special-get-raises" true) pos (stay (w.withFollow "special-get-raises" true)) (λ _=>false) (stay (w.withFollow "special-get-raises" true)) pos:=by intro w pos os oD tk K H gd lv;kernel_rfl) (w:P0) (pos:Pos):LX n (eqBool (.ref a) (.ref b)) w pos (stay w) (λ _=>false) (stay w) pos:=by rw [PySem.W.Fast.te13926502685295537346];exact byRow2 "special-get-raises" (P:=λ w=>LX n (L4 (.ref a) (.ref b)) w pos (stay w) (λ _=>false) (stay w) pos) (λ w=>hf w pos) (λ w=>ht w pos) w
noncomputable def eq0_1:=eqH 20 165 166
noncomputable def eq0_2:=eqH 16 165 167
noncomputable def eq0_3:=eqH 16 165 168
noncomputable def eq0_4:=eqH 16 165 169
noncomputable def eq0_5:=eqH 16 165 170
noncomputable def eq0_6:=eqH 16 165 171
noncomputable def eq0_7:=eqH 16 165 172
noncomputable def eq0_8:=eqH 16 165 173
noncomputable def eq0_9:=eqH 16 165 174
noncomputable def eq0_10:=eqH 16 165 175
noncomputable def eq0_11:=eqH 16 165 176
noncomputable def eq1_2:=eqH 16 166 167
noncomputable def eq1_3:=eqH 16 166 168
noncomputable def eq1_4:=eqH 16 166 169
noncomputable def eq1_5:=eqH 16 166 170
noncomputable def eq1_6:=eqH 16 166 171
noncomputable def eq1_7:=eqH 16 166 172
noncomputable def eq1_8:=eqH 16 166 173
noncomputable def eq1_9:=eqH 16 166 174
noncomputable def eq1_10:=eqH 16 166 175
noncomputable def eq1_11:=eqH 16 166 176
noncomputable def eq2_3:=eqH 20 167 168
noncomputable def eq2_4:=eqH 16 167 169
noncomputable def eq2_5:=eqH 16 167 170
noncomputable def eq2_6:=eqH 16 167 171
noncomputable def eq2_7:=eqH 16 167 172
noncomputable def eq2_8:=eqH 16 167 173
noncomputable def eq2_9:=eqH 16 167 174
noncomputable def eq2_10:=eqH 16 167 175
noncomputable def eq2_11:=eqH 16 167 176
noncomputable def eq3_4:=eqH 16 168 169
noncomputable def eq3_5:=eqH 16 168 170
noncomputable def eq3_6:=eqH 16 168 171
noncomputable def eq3_7:=eqH 16 168 172
noncomputable def eq3_8:=eqH 16 168 173
noncomputable def eq3_9:=eqH 16 168 174
noncomputable def eq3_10:=eqH 16 168 175
noncomputable def eq3_11:=eqH 16 168 176
noncomputable def eq4_5:=eqH 20 169 170
noncomputable def eq4_6:=eqH 16 169 171
noncomputable def eq4_7:=eqH 16 169 172
noncomputable def eq4_8:=eqH 16 169 173
noncomputable def eq4_9:=eqH 16 169 174
noncomputable def eq4_10:=eqH 16 169 175
noncomputable def eq4_11:=eqH 16 169 176
noncomputable def eq5_6:=eqH 16 170 171
noncomputable def eq5_7:=eqH 16 170 172
noncomputable def eq5_8:=eqH 16 170 173
noncomputable def eq5_9:=eqH 16 170 174
noncomputable def eq5_10:=eqH 16 170 175
noncomputable def eq5_11:=eqH 16 170 176
noncomputable def eq6_7:=eqH 20 171 172
noncomputable def eq6_8:=eqH 20 171 173
noncomputable def eq6_9:=eqH 16 171 174
noncomputable def eq6_10:=eqH 16 171 175
noncomputable def eq6_11:=eqH 16 171 176
noncomputable def eq7_8:=eqH 20 172 173
noncomputable def eq7_9:=eqH 16 172 174
noncomputable def eq7_10:=eqH 16 172 175
noncomputable def eq7_11:=eqH 16 172 176
noncomputable def eq8_9:=eqH 16 173 174
noncomputable def eq8_10:=eqH 16 173 175
noncomputable def eq8_11:=eqH 16 173 176
noncomputable def eq9_10:=eqH 20 174 175
noncomputable def eq9_11:=eqH 20 174 176
noncomputable def zjt:=eqH 20 175 176
theorem crH (a:Addr) (hf :∀(w:P0) (pos:Pos),LX 1 (M4 "hash" [.ref a]) (w.withFollow "special-get-raises" false) pos (stay (w.withFollow "special-get-raises" false)) (λ _=>()) (stay (w.withFollow "special-get-raises" false)) pos:=by intro w pos os oD tk K H gd lv;kernel_rfl) (ht :∀(w:P0) (pos:Pos),LX 1 (M4 "hash" [.ref a]) (w.withFollow "special-get-raises" true) pos (stay (w.withFollow "special-get-raises" true)) (λ _=>()) (stay (w.withFollow "special-get-raises" true)) pos:=by intro w pos os oD tk K H gd lv;kernel_rfl) (w:P0) (pos:Pos):LX 1 (cRoomFor "hash" [.ref a]) w pos (stay w) (λ _=>()) (stay w) pos:=by rw [PySem.W.Fast.te13383273872528276517];exact byRow2 "special-get-raises" (P:=λ w=>LX 1 (M4 "hash" [.ref a]) w pos (stay w) (λ _=>()) (stay w) pos) (λ w=>hf w pos) (λ w=>ht w pos) w
theorem soH (a:Addr) (hf :∀(w:P0) (pos:Pos),LX 1 (S4 (.ref a) "__hash__") (w.withFollow "special-get-raises" false) pos (stay (w.withFollow "special-get-raises" false)) (λ _=>some (.builtin "tuple.__hash__")) (stay (w.withFollow "special-get-raises" false)) pos:=by intro w pos os oD tk K H gd lv;kernel_rfl) (ht :∀(w:P0) (pos:Pos),LX 1 (S4 (.ref a) "__hash__") (w.withFollow "special-get-raises" true) pos (stay (w.withFollow "special-get-raises" true)) (λ _=>some (.builtin "tuple.__hash__")) (stay (w.withFollow "special-get-raises" true)) pos:=by intro w pos os oD tk K H gd lv;kernel_rfl) (w:P0) (pos:Pos):LX 1 (specialOf (.ref a) "__hash__") w pos (stay w) (λ _=>some (.builtin "tuple.__hash__")) (stay w) pos:=by rw [PySem.W.Fast.te4214721358667687652];exact byRow2 "special-get-raises" (P:=λ w=>LX 1 (S4 (.ref a) "__hash__") w pos (stay w) (λ _=>some (.builtin "tuple.__hash__")) (stay w) pos) (λ w=>hf w pos) (λ w=>ht w pos) w
theorem csH (a:Addr) (k l:Str) (hf :∀(w:P0) (pos:Pos),LX 22 (K4 (.ref a) "__hash__" (unh a)) (w.withFollow "special-get-raises" false) pos (stay (w.withFollow "special-get-raises" false)) (λ tk=>some (.int (o0 [c0 (w.withFollow "special-get-raises" false).params k,c0 (w.withFollow "special-get-raises" false).params l]) (tk + 2))) (plus3 (w.withFollow "special-get-raises" false)) pos:=by intro w pos os oD tk K H gd lv;kernel_rfl) (ht :∀(w:P0) (pos:Pos),LX 22 (K4 (.ref a) "__hash__" (unh a)) (w.withFollow "special-get-raises" true) pos (stay (w.withFollow "special-get-raises" true)) (λ tk=>some (.int (o0 [c0 (w.withFollow "special-get-raises" true).params k,c0 (w.withFollow "special-get-raises" true).params l]) (tk + 2))) (plus3 (w.withFollow "special-get-raises" true)) pos:=by intro w pos os oD tk K H gd lv;kernel_rfl) (w:P0) (pos:Pos):LX 22 (d6 (.ref a) "__hash__" (unh a)) w pos (stay w) (λ tk=>some (.int (o0 [c0 w.params k,c0 w.params l]) (tk + 2))) (plus3 w) pos:=by rw [PySem.W.Fast.te16697807410369149715];exact byRow2 "special-get-raises" (P:=λ w=>LX 22 (K4 (.ref a) "__hash__" (unh a)) w pos (stay w) (λ tk=>some (.int (o0 [c0 w.params k,c0 w.params l]) (tk + 2))) (plus3 w) pos) (λ w=>hf w pos) (λ w=>ht w pos) w
noncomputable def cr0:=crH 165
noncomputable def so0:=soH 165
noncomputable def cs0:=csH 165 "register" "read"
noncomputable def cr1:=crH 166
noncomputable def so1:=soH 166
noncomputable def cs1:=csH 166 "register" "write"
noncomputable def cr2:=crH 167
noncomputable def so2:=soH 167
noncomputable def cs2:=csH 167 "counter" "read"
noncomputable def cr3:=crH 168
noncomputable def so3:=soH 168
noncomputable def cs3:=csH 168 "counter" "add"
noncomputable def cr4:=crH 169
noncomputable def so4:=soH 169
noncomputable def cs4:=csH 169 "queue" "put"
noncomputable def cr5:=crH 170
noncomputable def so5:=soH 170
noncomputable def cs5:=csH 170 "queue" "take"
noncomputable def cr6:=crH 171
noncomputable def so6:=soH 171
noncomputable def cs6:=csH 171 "set" "put"
noncomputable def cr7:=crH 172
noncomputable def so7:=soH 172
noncomputable def cs7:=csH 172 "set" "cut"
noncomputable def cr8:=crH 173
noncomputable def so8:=soH 173
noncomputable def cs8:=csH 173 "set" "has"
noncomputable def cr9:=crH 174
noncomputable def so9:=soH 174
noncomputable def cs9:=csH 174 "cell" "read"
noncomputable def cr10:=crH 175
noncomputable def so10:=soH 175
noncomputable def cs10:=csH 175 "cell" "write"
noncomputable def cr11:=crH 176
noncomputable def so11:=soH 176
noncomputable def cs11:=csH 176 "cell" "swap"
noncomputable def allX (P:N0):List KV3:=[(165,(.ref 109),(J1 (o0 [c0 P "register",c0 P "read"]))),(166,(.ref 116),(J1 (o0 [c0 P "register",c0 P "write"]))),(167,(.ref 109),(J1 (o0 [c0 P "counter",c0 P "read"]))),(168,(.ref 123),(J1 (o0 [c0 P "counter",c0 P "add"]))),(169,(.ref 130),(J1 (o0 [c0 P "queue",c0 P "put"]))),(170,(.ref 137),(J1 (o0 [c0 P "queue",c0 P "take"]))),(171,(.ref 144),(J1 (o0 [c0 P "set",c0 P "put"]))),(172,(.ref 149),(J1 (o0 [c0 P "set",c0 P "cut"]))),(173,(.ref 156),(J1 (o0 [c0 P "set",c0 P "has"]))),(174,(.ref 109),(J1 (o0 [c0 P "cell",c0 P "read"]))),(175,(.ref 116),(J1 (o0 [c0 P "cell",c0 P "write"]))),(176,(.ref 163),(J1 (o0 [c0 P "cell",c0 P "swap"])))]
theorem zk8 (w:P0) (os:D2) (pos:Pos):(allX w.params).Pairwise λ x y=>∀oD tk,GX w 20 (eqBool (.ref x.1) (.ref y.1)) (FX w os oD tk).abs pos false (FX w os oD tk).abs pos:=by
 unfold allX;refine
 .cons (λ y a oD tk=>(by
  revert y;simp only [V1,u0,false_implies,implies_true,and_true];exact ⟨(eq0_1 w pos).goes os oD tk |>.le (by decide),(eq0_2 w pos).goes os oD tk |>.le (by decide),(eq0_3 w pos).goes os oD tk |>.le (by decide),(eq0_4 w pos).goes os oD tk |>.le (by decide),(eq0_5 w pos).goes os oD tk |>.le (by decide),(eq0_6 w pos).goes os oD tk |>.le (by decide),(eq0_7 w pos).goes os oD tk |>.le (by decide),(eq0_8 w pos).goes os oD tk |>.le (by decide),(eq0_9 w pos).goes os oD tk |>.le (by decide),(eq0_10 w pos).goes os oD tk |>.le (by decide),(eq0_11 w pos).goes os oD tk |>.le (by decide)⟩))
  (.cons (λ y a oD tk=>(by
  revert y;simp only [V1,u0,false_implies,implies_true,and_true];exact ⟨(eq1_2 w pos).goes os oD tk |>.le (by decide),(eq1_3 w pos).goes os oD tk |>.le (by decide),(eq1_4 w pos).goes os oD tk |>.le (by decide),(eq1_5 w pos).goes os oD tk |>.le (by decide),(eq1_6 w pos).goes os oD tk |>.le (by decide),(eq1_7 w pos).goes os oD tk |>.le (by decide),(eq1_8 w pos).goes os oD tk |>.le (by decide),(eq1_9 w pos).goes os oD tk |>.le (by decide),(eq1_10 w pos).goes os oD tk |>.le (by decide),(eq1_11 w pos).goes os oD tk |>.le (by decide)⟩))
  (.cons (λ y a oD tk=>(by
  revert y;simp only [V1,u0,false_implies,implies_true,and_true];exact ⟨(eq2_3 w pos).goes os oD tk |>.le (by decide),(eq2_4 w pos).goes os oD tk |>.le (by decide),(eq2_5 w pos).goes os oD tk |>.le (by decide),(eq2_6 w pos).goes os oD tk |>.le (by decide),(eq2_7 w pos).goes os oD tk |>.le (by decide),(eq2_8 w pos).goes os oD tk |>.le (by decide),(eq2_9 w pos).goes os oD tk |>.le (by decide),(eq2_10 w pos).goes os oD tk |>.le (by decide),(eq2_11 w pos).goes os oD tk |>.le (by decide)⟩))
  (.cons (λ y a oD tk=>(by
  revert y;simp only [V1,u0,false_implies,implies_true,and_true];exact ⟨(eq3_4 w pos).goes os oD tk |>.le (by decide),(eq3_5 w pos).goes os oD tk |>.le (by decide),(eq3_6 w pos).goes os oD tk |>.le (by decide),(eq3_7 w pos).goes os oD tk |>.le (by decide),(eq3_8 w pos).goes os oD tk |>.le (by decide),(eq3_9 w pos).goes os oD tk |>.le (by decide),(eq3_10 w pos).goes os oD tk |>.le (by decide),(eq3_11 w pos).goes os oD tk |>.le (by decide)⟩))
  (.cons (λ y a oD tk=>(by
  revert y;simp only [V1,u0,false_implies,implies_true,and_true];exact ⟨(eq4_5 w pos).goes os oD tk |>.le (by decide),(eq4_6 w pos).goes os oD tk |>.le (by decide),(eq4_7 w pos).goes os oD tk |>.le (by decide),(eq4_8 w pos).goes os oD tk |>.le (by decide),(eq4_9 w pos).goes os oD tk |>.le (by decide),(eq4_10 w pos).goes os oD tk |>.le (by decide),(eq4_11 w pos).goes os oD tk |>.le (by decide)⟩))
  (.cons (λ y a oD tk=>(by
  revert y;simp only [V1,u0,false_implies,implies_true,and_true];exact ⟨(eq5_6 w pos).goes os oD tk |>.le (by decide),(eq5_7 w pos).goes os oD tk |>.le (by decide),(eq5_8 w pos).goes os oD tk |>.le (by decide),(eq5_9 w pos).goes os oD tk |>.le (by decide),(eq5_10 w pos).goes os oD tk |>.le (by decide),(eq5_11 w pos).goes os oD tk |>.le (by decide)⟩))
  (.cons (λ y a oD tk=>(by
  revert y;simp only [V1,u0,false_implies,implies_true,and_true];exact ⟨(eq6_7 w pos).goes os oD tk |>.le (by decide),(eq6_8 w pos).goes os oD tk |>.le (by decide),(eq6_9 w pos).goes os oD tk |>.le (by decide),(eq6_10 w pos).goes os oD tk |>.le (by decide),(eq6_11 w pos).goes os oD tk |>.le (by decide)⟩))
  (.cons (λ y a oD tk=>(by
  revert y;simp only [V1,u0,false_implies,implies_true,and_true];exact ⟨(eq7_8 w pos).goes os oD tk |>.le (by decide),(eq7_9 w pos).goes os oD tk |>.le (by decide),(eq7_10 w pos).goes os oD tk |>.le (by decide),(eq7_11 w pos).goes os oD tk |>.le (by decide)⟩))
  (.cons (λ y a oD tk=>(by
  revert y;simp only [V1,u0,false_implies,implies_true,and_true];exact ⟨(eq8_9 w pos).goes os oD tk |>.le (by decide),(eq8_10 w pos).goes os oD tk |>.le (by decide),(eq8_11 w pos).goes os oD tk |>.le (by decide)⟩))
  (.cons (λ y a oD tk=>(by
  revert y;simp only [V1,u0,false_implies,implies_true,and_true];exact ⟨(eq9_10 w pos).goes os oD tk |>.le (by decide),(eq9_11 w pos).goes os oD tk |>.le (by decide)⟩))
  (.cons (λ y a oD tk=>(by
  revert y;simp only [V1,u0,false_implies,implies_true,and_true];exact (zjt w pos).goes os oD tk |>.le (by decide)))
  (.cons (λ y a=>nomatch a)
  (V9))))))))))))
theorem allX_q (w:P0) (os:D2) (pos:Pos) :∀x∈allX w.params,∀oD tk,GX w 3 (W3 8 (.ref x.1)) (FX w os oD tk).abs pos true (FX w os oD tk).abs pos:=by unfold allX;simp only [V1,u0,false_implies,implies_true,and_true];exact ⟨λ oD tk=>(qt0 w pos).goes os oD tk,λ oD tk=>(qt1 w pos).goes os oD tk,λ oD tk=>(qt2 w pos).goes os oD tk,λ oD tk=>(qt3 w pos).goes os oD tk,λ oD tk=>(qt4 w pos).goes os oD tk,λ oD tk=>(qt5 w pos).goes os oD tk,λ oD tk=>(qt6 w pos).goes os oD tk,λ oD tk=>(qt7 w pos).goes os oD tk,λ oD tk=>(qt8 w pos).goes os oD tk,λ oD tk=>(qt9 w pos).goes os oD tk,λ oD tk=>(qt10 w pos).goes os oD tk,λ oD tk=>(qt11 w pos).goes os oD tk⟩
theorem allX_h (w:P0) (os:D2) (pos:Pos) :∀x∈allX w.params,∀oD tk,GX w 25 (pyHash (.ref x.1)) (FX w os oD tk).abs pos x.2.2 (FX w os oD (tk + 3)).abs pos:=by unfold allX;simp only [V1,u0,false_implies,implies_true,and_true];exact ⟨λ oD tk=>Goes.pyHashT ((cr0 w pos).goes os oD tk) ((so0 w pos).goes os oD tk) ((cs0 w pos).goes os oD tk),λ oD tk=>Goes.pyHashT ((cr1 w pos).goes os oD tk) ((so1 w pos).goes os oD tk) ((cs1 w pos).goes os oD tk),λ oD tk=>Goes.pyHashT ((cr2 w pos).goes os oD tk) ((so2 w pos).goes os oD tk) ((cs2 w pos).goes os oD tk),λ oD tk=>Goes.pyHashT ((cr3 w pos).goes os oD tk) ((so3 w pos).goes os oD tk) ((cs3 w pos).goes os oD tk),λ oD tk=>Goes.pyHashT ((cr4 w pos).goes os oD tk) ((so4 w pos).goes os oD tk) ((cs4 w pos).goes os oD tk),λ oD tk=>Goes.pyHashT ((cr5 w pos).goes os oD tk) ((so5 w pos).goes os oD tk) ((cs5 w pos).goes os oD tk),λ oD tk=>Goes.pyHashT ((cr6 w pos).goes os oD tk) ((so6 w pos).goes os oD tk) ((cs6 w pos).goes os oD tk),λ oD tk=>Goes.pyHashT ((cr7 w pos).goes os oD tk) ((so7 w pos).goes os oD tk) ((cs7 w pos).goes os oD tk),λ oD tk=>Goes.pyHashT ((cr8 w pos).goes os oD tk) ((so8 w pos).goes os oD tk) ((cs8 w pos).goes os oD tk),λ oD tk=>Goes.pyHashT ((cr9 w pos).goes os oD tk) ((so9 w pos).goes os oD tk) ((cs9 w pos).goes os oD tk),λ oD tk=>Goes.pyHashT ((cr10 w pos).goes os oD tk) ((so10 w pos).goes os oD tk) ((cs10 w pos).goes os oD tk),λ oD tk=>Goes.pyHashT ((cr11 w pos).goes os oD tk) ((so11 w pos).goes os oD tk) ((cs11 w pos).goes os oD tk)⟩
theorem famX (w:P0) (os:D2):Fam 11 164 (FX w os):=by
 have g :∀c,(treeD w.params c).get 164=some c:=λ c=>by kernel_rfl
 refine ⟨by decide,λ a b d=>abs_get (show 164 < 177 by decide) (g _),λ a b d e=>?_⟩;have u:(absHeap (treeD w.params (dObj a b)) 177 {}).update 164 (O7 (·.push e))=absHeap (treeD w.params (dObj (a.push e) (b + 1))) 177 {}:=by
  rw [<-absHeap_set (g _)];have v:(treeD w.params (dObj a b)).set 164 (O7 (·.push e))=treeD w.params (dObj (a.push e) (b + 1)):=by kernel_rfl
  rw [v]
 exact congrArg (λ h=>(⟨h,⟨[]⟩,{},d,os⟩:B0)) u
noncomputable def stD:Stmt:=(behindTheImports PX).getD 24 (.Pass ⟨0,0,0,0⟩)
noncomputable def sufX:List Stmt:=(behindTheImports PX).drop 25
theorem bodyX:behindTheImports PX=K69.pre.sts_7++(K69.pre.sts_61++(K69.pre.sts_80++(K69.pre.sts_99++(K69.pre.sts_123++([stD]++sufX))))):=by kernel_rfl
noncomputable def dKeys:Stmt->List (Option Expr)
 | .Assign _ (.Dict ks _ _) _=>ks
 | _=>[]
noncomputable def dVals:Stmt->List Expr
 | .Assign _ (.Dict _ vs _) _=>vs
 | _=>[]
noncomputable def dPos:Stmt->Pos
 | .Assign _ (.Dict _ _ p) _=>p
 | _=>⟨0,0,0,0⟩
noncomputable def sPos:Stmt->Pos
 | .Assign _ _ p=>p
 | _=>⟨0,0,0,0⟩
noncomputable abbrev p1X:Pos:=sPos stD
noncomputable abbrev p2X:Pos:=dPos stD
noncomputable abbrev p3X:Pos:=⟨52,0,52,5⟩
noncomputable def runX:List (Sem Value×Sem Value):=(((evalEachOpt (dKeys stD) K69.pre.env_1).zip ((evalEach (dVals stD) K69.pre.env_1).map λ v=>do let x <-v;j14 p2X;X2 x))).filterMap λ x=>x.1.map (·,x.2)
theorem stD_eq:stD=.Assign [.Name "DOERS" p3X] (.Dict (dKeys stD) (dVals stD) p2X) p1X:=by kernel_rfl
theorem evD:d3 (.Dict (dKeys stD) (dVals stD) p2X) K69.pre.env_1=(do j14 p2X;let r <-(do let x <-subDict runX;X2 (some x));match r with|some x=>X2 (F1 x)|none=>newDict):=by kernel_rfl
theorem swD:V5 (.Dict (dKeys stD) (dVals stD) p2X) (some (.Name "DOERS" p3X)) p1X.line K69.pre.env_1=X2 false:=by kernel_rfl
noncomputable def F0X (w:P0) (os:D2):SharedT:=⟨K69.pre.tree_188 w.params,164,{},⟨[]⟩,{},407,os⟩
noncomputable def F1X (w:P0) (os:D2):SharedT:=⟨(K69.pre.tree_188 w.params).ins 164 (dObj #[] 0),165,{},⟨[]⟩,{},407,os⟩
noncomputable def vsX:List (Value×Value):=[(.ref 165,(.ref 109)),(.ref 166,(.ref 116)),(.ref 167,(.ref 109)),(.ref 168,(.ref 123)),(.ref 169,(.ref 130)),(.ref 170,(.ref 137)),(.ref 171,(.ref 144)),(.ref 172,(.ref 149)),(.ref 173,(.ref 156)),(.ref 174,(.ref 109)),(.ref 175,(.ref 116)),(.ref 176,(.ref 163))]
theorem zet (w:P0):LX 84 (evalPairs runX) w p2X (λ os _ _=>F1X w os) (λ _=>vsX) (λ os _ _=>FX w os (dObj #[] 0) 431) p2X:=by rw [PySem.W.Fast.te1788576489739465902];exact λ os b d K H c a=>by kernel_rfl
noncomputable def F2X (w:P0) (os:D2) (oD:Obj) (tk:Nat):SharedT:=⟨(treeD w.params oD).set 3 (Obj.putName "DOERS" (c0 w.params "DOERS") (.str "DOERS" tk) (.ref 164)),177,{},⟨[]⟩,{},tk + 1,os⟩
theorem zha (w:P0) (pos:Pos):LX 6 (bindName K69.pre.env_1 "DOERS" (.ref 164)) w pos (stay w) (λ _=>()) (λ os oD tk=>F2X w os oD tk) pos:=by
 rw [PySem.W.Fast.te7536695828754713326];exact byRow2 "special-get-raises" (P:=λ w=>LX 6 (PySem.W.Fast.tw7536695828754713326 K69.pre.env_1 "DOERS" (.ref 164)) w pos (stay w) (λ _=>()) (λ os oD tk=>F2X w os oD tk) pos)
  (λ w os oD tk K H b a=>by kernel_rfl) (λ w os oD tk K H b a=>by kernel_rfl) w
noncomputable abbrev oDX (P:N0):Obj:=dObj ((allX P).map ent).toArray 12
noncomputable abbrev S2X (w:P0) (os:D2):SharedT:=F2X w os (oDX w.params) 467
theorem stD_go (w:P0) (os:D2) (pos:Pos):GX w 100000 (exec stD K69.pre.env_1) (F0X w os).abs pos .next (S2X w os).abs p3X:=by
 rw [stD_eq,exec_Assign_Name _ _ _ _ _ swD];have l:=Goes.loop (p:=PX) (w:=w) (ann:=annX) (code:=cdX) (q:=qX) (pos:=p2X) (famX w os) (N:=12) (allX w.params) (show 12<=12 by decide) (by decide) (show ([165,166,167,168,169,170,171,172,173,174,175,176]:List Nat).Nodup by decide) (allX_q w os p2X) (zk8 w os p2X) (allX_h w os p2X) (allX w.params) [] 431 rfl;have d:=(zet w).goes os (dObj #[] 0) 0;have b:GX w _ (subDict runX) (F0X w os).abs p2X 164 (FX w os (oDX w.params) 467).abs p2X:=
  Goes.subDict (by decide +kernel) (absHeap_size _ _ _) (show GX w _ (evalPairs runX) _ p2X vsX _ p2X from by
   have e:({ (F0X w os).abs with heap:=(F0X w os).abs.heap.push { cls:=.type "dict",data:=.dict #[] } }:B0)=(F1X w os).abs:=by have i:=absHeap_ins (t:=K69.pre.tree_188 w.params) (n:=164) (life:={}) (o:=dObj #[] 0) (by kernel_rfl);exact congrArg (λ h=>(⟨h,⟨[]⟩,{},407,os⟩:B0)) i.symm
   rw [e];exact d) l
 refine (Goes.bind Goes.at' (Goes.bind (a:=F1 164) (pos':=p2X) ?_ (Goes.bind Goes.at' (Goes.bind (f:=λ _=>X2 Flow.next) ((zha w p3X).goes os (oDX w.params) 467) Goes.pure)))).le (c:=1 + (((1 + ((1 + (84 + 12 * (25 + (2 + 3 + 12 * (3 + 20 + 10)) + 4))) + 0 + 0)) + (1 + (6 + 0))))) (by decide);rw [evD];exact Goes.bind Goes.at' (Goes.bind (Goes.bind b Goes.pure) Goes.pure)
noncomputable abbrev pLX:Pos:=⟨341,0,352,118⟩
noncomputable def R3X (w:P0) (os:D2):Option (Flow×SharedT×Code×Pos):=PySem.W.Fast.tw10110043849684766642 Z6 PX w 11 annX 1 1665 (S2X w os) ⟨(PySem.W.Fast.tw12563942051412417395 sufX K69.pre.env_1).wrap doneF deadEnd id id,cdX,p3X,BX⟩
noncomputable def S3X (w:P0) (os:D2):SharedT:=match R3X w os with|some r=>r.2.1|none=>S2X w os
theorem R3X_eq (w:P0) (os:D2):R3X w os=some (.next,S3X w os,cdX,pLX):=by kernel_rfl
theorem zjr (w:P0) (os:D2):segRun U2 PX w 11 annX 1 1665 (S2X w os).abs (piecesOf sufX K69.pre.env_1 cdX p3X BX)=some (.next,(S3X w os).abs,cdX,pLX):=by have e:=R3X_eq w os;unfold R3X at e;rw [<-PySem.W.Fast.te10110043849684766642,<-N4,<-PySem.W.Fast.te12563942051412417395] at e;exact segRun_of e
noncomputable def S0X (w:P0) (os:D2):SharedT:=⟨K69.pre.tree_6 w.params,15,{},⟨[]⟩,{},187,os⟩
theorem pre_go (w:P0) (os:D2):topGo U2 PX w 11 annX 12 ⟨boot_heap w.params,Array.mk [],boot_drawn,boot_toks,os⟩ (topStub PX)=some ((S0X w os).abs,⟨denote U2 cdX,cdX,qX,BX⟩):=by rw [PySem.W.Fast.te15667345088766844465,N4,PySem.W.Fast.te11892475500146522536];kernel_rfl
theorem ziv (w:P0) (os:D2) :∃M,M<=200000/\topRun U2 PX w 11 annX M ⟨boot_heap w.params,Array.mk [],boot_drawn,boot_toks,os⟩ (topStub PX)=some (S3X w os).abs:=by have f:topRun U2 PX w 11 annX 2 (S3X w os).abs (restOf [] K69.pre.env_1 cdX pLX BX)=some (S3X w os).abs:=rfl;have b:=piece_app (zjr w os) f;rw [j2] at b;obtain ⟨M,h,g⟩:=ze1 (Goes.execs1 (stD_go w os ⟨48,0,51,21⟩)) b;have a:=K69.pre.chain PX (behindTheImports PX) w os _ M _ g;rw [<-bodyX] at a;have e:segRun U2 PX w 11 annX 1 1 (S0X w os).abs (blockOf (behindTheImports PX) K69.pre.env_1 cdX qX BX)=some (.next,(S0X w os).abs,cdX,qX):=rfl;have d:=piece_block e a;have c:=go_top (pre_go w os) d;refine ⟨_,?_,c⟩;simp only [Nat.add_eq];omega
noncomputable def looseX:List Str:=[("_wall" : Str),("GREATEST_WORTH" : Str),("is_whole" : Str),("is_within" : Str),("is_worth" : Str),("is_tuple_of" : Str),("TaleError" : Str),("NoDeed" : Str),("NoTale" : Str),("NoStrictness" : Str),("FIRST_STATES" : Str),("WORTHS_OF_VERBS" : Str),("read_state" : Str),("write_state" : Str),("add_to_number" : Str),("put_behind" : Str),("take_first" : Str),("put_into_set" : Str),("cut_from_set" : Str),("has_in_set" : Str),("swap_state" : Str),("DOERS" : Str),("is_kind" : Str),("first_state" : Str),("is_deed" : Str),("do" : Str),("deeds" : Str),("STRICTNESSES" : Str),("has_to" : Str),("check_strictness" : Str),("goes_ahead" : Str),("Candidate" : Str),("Board" : Str),("step_of" : Str),("ended_numbers" : Str),("holds_all" : Str),("first_place" : Str),("judged" : Str),("beginning" : Str),("is_bad" : Str),("bad_beginning" : Str),("_law_cell_at" : Str),("_law_take" : Str),("_law_do" : Str),("_law_first" : Str),("_law_worth" : Str),("_law_verb" : Str),("_law_things" : Str),("_law_applied" : Str),("_law_tale" : Str),("_law_deeds" : Str),("_law_is_ahead" : Str),("_law_may_be_next" : Str),("_law_nexts" : Str),("_law_is_full" : Str),("_law_places" : Str),("_law_is_good" : Str)]
noncomputable def viewX:Program:={ PX with main:={ PX.main with body:=(PX.main.body[66]?).toList } }
noncomputable def top (i:Nat):Stmt:=PX.main.body.getD i (.Pass ⟨0,0,0,0⟩)
noncomputable def subS (s:Stmt) (j:Nat):Stmt:=match s with
 | .ClassDef _ _ _ b _ _ _ _ _ _ _=>b.getD j s
 | _=>s
noncomputable def asX:List Addr:=[3,27,28,34,35,41,42,48,49,50,52,57,58,59,63,65,70,71,72,75,77,82,83,84,87,89,94,95,96,99,100,101,102,108,109,115,116,122,123,129,130,136,137,143,144,148,149,155,156,162,163,164,165,166,167,168,169,170,171,172,173,174,175,176,182,183,189,190,194,195,201,202,208,209,210,216,217,223,224,230,231,232,234,242,243,249,250,251,252,253,258,260,268,269,275,276,282,283,291,292,293,303,304,308,309,313,314,318,319,325,326,332,333,339,340,346,347,353,354,360,361,365,366,370,371,377,378,384,385,389,390,394,395,399,400,406,407,413,414,420,421,427,428,432,433,439,440,444,445,451,452]
noncomputable def KX (P:N0):Frag:=[
 (3,⟨(.type "dict"),none,(.dict #[⟨(c0 P "__name__"),(.str "__name__" 165),(.str "law_talejudge_k69_bad_beginnings" 728)⟩,⟨(c0 P "__doc__"),(.str "__doc__" 166),.none⟩,⟨(c0 P "__package__"),(.str "__package__" 167),.none⟩,⟨(c0 P "__loader__"),(.str "__loader__" 168),(.builtin "__main__.__loader__#opaque")⟩,⟨(c0 P "__spec__"),(.str "__spec__" 169),.none⟩,kR P "__annotations__" 170 6,kR P "__builtins__" 171 4,⟨(c0 P "__file__"),(.str "__file__" 173),(.str "/claim/cut.py" 172)⟩,⟨(c0 P "__cached__"),(.str "__cached__" 174),.none⟩,kR P "_wall" 193 21,⟨(c0 P "GREATEST_WORTH"),(.str "GREATEST_WORTH" 197),(.int (1000000000) 196)⟩,kR P "is_whole" 204 28,kR P "is_within" 212 35,kR P "is_worth" 219 42,kR P "is_tuple_of" 227 49,kR P "TaleError" 247 59,kR P "NoDeed" 263 72,kR P "NoTale" 279 84,kR P "NoStrictness" 295 96,kR P "FIRST_STATES" 311 99,kR P "WORTHS_OF_VERBS" 336 102,kR P "read_state" 344 109,kR P "write_state" 352 116,kR P "add_to_number" 360 123,kR P "put_behind" 368 130,kR P "take_first" 376 137,kR P "put_into_set" 384 144,kR P "cut_from_set" 390 149,kR P "has_in_set" 398 156,kR P "swap_state" 406 163,kR P "DOERS" 467 164,kR P "is_kind" 474 183,kR P "first_state" 481 190,kR P "is_deed" 487 195,kR P "do" 498 202,kR P "deeds" 513 209,kR P "STRICTNESSES" 519 210,kR P "has_to" 533 217,kR P "check_strictness" 540 224,kR P "goes_ahead" 549 231,kR P "Candidate" 595 253,kR P "Board" 652 293,kR P "step_of" 664 304,kR P "ended_numbers" 670 309,kR P "holds_all" 676 314,kR P "first_place" 682 319,kR P "judged" 699 326,kR P "beginning" 709 333,kR P "is_bad" 717 340,kR P "bad_beginning" 727 347,kR P "_law_cell_at" 737 354,kR P "_law_take" 747 361,kR P "_law_do" 753 366,kR P "_law_first" 759 371,kR P "_law_worth" 766 378,kR P "_law_verb" 776 385,kR P "_law_things" 782 390,kR P "_law_applied" 788 395,kR P "_law_tale" 794 400,kR P "_law_deeds" 805 407,kR P "_law_is_ahead" 814 414,kR P "_law_may_be_next" 825 421,kR P "_law_nexts" 841 428,kR P "_law_is_full" 847 433,kR P "_law_places" 862 440,kR P "_law_is_good" 868 445,kR P "law" 879 452] 67),#[]⟩),
 (27,cO "is_whole" "is_whole" 198 6 1 22 202),
 (28,fO "is_whole" "is_whole" (top 3) "talejudge.basics" 194 27),
 (34,cO "is_within" "is_within" 205 8 2 29 210),
 (35,fO "is_within" "is_within" (top 4) "talejudge.basics" 194 34),
 (41,cO "is_worth" "is_worth" 213 10 1 36 217),
 (42,fO "is_worth" "is_worth" (top 5) "talejudge.basics" 194 41),
 (48,cO "is_tuple_of" "is_tuple_of" 220 12 2 43 225),
 (49,fO "is_tuple_of" "is_tuple_of" (top 6) "talejudge.basics" 194 48),
 (50,⟨(.type "tuple"),none,(.seq #[(.type "ValueError")] 0),#[]⟩),
 (52,⟨(.type "dict"),none,(.dict #[⟨(c0 P "__module__"),(.str "__module__" 237),(.str "talejudge.errors" 228)⟩,⟨(c0 P "__qualname__"),(.str "__qualname__" 239),(.str "TaleError" 238)⟩,⟨(c0 P "__firstlineno__"),(.str "__firstlineno__" 241),(.int (15) 240)⟩,kR P "__static_attributes__" 242 57] 4),#[]⟩),
 (57,⟨(.type "tuple"),none,(.seq #[] 0),#[]⟩),
 (58,⟨(.type "dict"),none,(.dict #[⟨(c0 P "__module__"),(.str "__module__" 237),(.str "talejudge.errors" 228)⟩,⟨(c0 P "__firstlineno__"),(.str "__firstlineno__" 241),(.int (15) 240)⟩,kR P "__static_attributes__" 242 57,kR P "__weakref__" 244 60,⟨(c0 P "__doc__"),(.str "__doc__" 245),.none⟩] 3),#[]⟩),
 (59,⟨(.type "type"),none,(.cls ⟨"TaleError",[(.type "ValueError")],[(.ref 59),(.type "ValueError"),(.type "Exception"),(.type "BaseException"),(.type "object")],58,"TaleError",true,[],[(.ref 72),(.ref 84),(.ref 96)],false,none,false⟩),#[some (.ref 50),none,some (.str "TaleError" 230),some (.str "TaleError" 238),some (.builtin "ValueError.__new__"),some (.bool true)]⟩),
 (63,⟨(.type "tuple"),none,(.seq #[(.ref 59)] 0),#[]⟩),
 (65,⟨(.type "dict"),none,(.dict #[⟨(c0 P "__module__"),(.str "__module__" 255),(.str "talejudge.errors" 228)⟩,⟨(c0 P "__qualname__"),(.str "__qualname__" 257),(.str "NoDeed" 256)⟩,⟨(c0 P "__firstlineno__"),(.str "__firstlineno__" 259),(.int (17) 258)⟩,kR P "__static_attributes__" 260 70] 4),#[]⟩),
 (70,⟨(.type "tuple"),none,(.seq #[] 0),#[]⟩),
 (71,⟨(.type "dict"),none,(.dict #[⟨(c0 P "__module__"),(.str "__module__" 255),(.str "talejudge.errors" 228)⟩,⟨(c0 P "__firstlineno__"),(.str "__firstlineno__" 259),(.int (17) 258)⟩,kR P "__static_attributes__" 260 70,⟨(c0 P "__doc__"),(.str "__doc__" 261),.none⟩] 2),#[]⟩),
 (72,⟨(.type "type"),none,(.cls ⟨"NoDeed",[(.ref 59)],[(.ref 72),(.ref 59),(.type "ValueError"),(.type "Exception"),(.type "BaseException"),(.type "object")],71,"NoDeed",true,[],[],false,none,false⟩),#[some (.ref 63),none,some (.str "NoDeed" 248),some (.str "NoDeed" 256),some (.builtin "ValueError.__new__"),some (.bool true)]⟩),
 (75,⟨(.type "tuple"),none,(.seq #[(.ref 59)] 0),#[]⟩),
 (77,⟨(.type "dict"),none,(.dict #[⟨(c0 P "__module__"),(.str "__module__" 271),(.str "talejudge.errors" 228)⟩,⟨(c0 P "__qualname__"),(.str "__qualname__" 273),(.str "NoTale" 272)⟩,⟨(c0 P "__firstlineno__"),(.str "__firstlineno__" 275),(.int (19) 274)⟩,kR P "__static_attributes__" 276 82] 4),#[]⟩),
 (82,⟨(.type "tuple"),none,(.seq #[] 0),#[]⟩),
 (83,⟨(.type "dict"),none,(.dict #[⟨(c0 P "__module__"),(.str "__module__" 271),(.str "talejudge.errors" 228)⟩,⟨(c0 P "__firstlineno__"),(.str "__firstlineno__" 275),(.int (19) 274)⟩,kR P "__static_attributes__" 276 82,⟨(c0 P "__doc__"),(.str "__doc__" 277),.none⟩] 2),#[]⟩),
 (84,⟨(.type "type"),none,(.cls ⟨"NoTale",[(.ref 59)],[(.ref 84),(.ref 59),(.type "ValueError"),(.type "Exception"),(.type "BaseException"),(.type "object")],83,"NoTale",true,[],[],false,none,false⟩),#[some (.ref 75),none,some (.str "NoTale" 264),some (.str "NoTale" 272),some (.builtin "ValueError.__new__"),some (.bool true)]⟩),
 (87,⟨(.type "tuple"),none,(.seq #[(.ref 59)] 0),#[]⟩),
 (89,⟨(.type "dict"),none,(.dict #[⟨(c0 P "__module__"),(.str "__module__" 287),(.str "talejudge.errors" 228)⟩,⟨(c0 P "__qualname__"),(.str "__qualname__" 289),(.str "NoStrictness" 288)⟩,⟨(c0 P "__firstlineno__"),(.str "__firstlineno__" 291),(.int (21) 290)⟩,kR P "__static_attributes__" 292 94] 4),#[]⟩),
 (94,⟨(.type "tuple"),none,(.seq #[] 0),#[]⟩),
 (95,⟨(.type "dict"),none,(.dict #[⟨(c0 P "__module__"),(.str "__module__" 287),(.str "talejudge.errors" 228)⟩,⟨(c0 P "__firstlineno__"),(.str "__firstlineno__" 291),(.int (21) 290)⟩,kR P "__static_attributes__" 292 94,⟨(c0 P "__doc__"),(.str "__doc__" 293),.none⟩] 2),#[]⟩),
 (96,⟨(.type "type"),none,(.cls ⟨"NoStrictness",[(.ref 59)],[(.ref 96),(.ref 59),(.type "ValueError"),(.type "Exception"),(.type "BaseException"),(.type "object")],95,"NoStrictness",true,[],[],false,none,false⟩),#[some (.ref 87),none,some (.str "NoStrictness" 280),some (.str "NoStrictness" 288),some (.builtin "ValueError.__new__"),some (.bool true)]⟩),
 (99,⟨(.type "dict"),none,(.dict #[⟨(c0 P "register"),(.str "register" 298),(.int (0) 299)⟩,⟨(c0 P "counter"),(.str "counter" 300),(.int (0) 301)⟩,kR P "queue" 302 100,kR P "set" 303 101,⟨(c0 P "cell"),(.str "cell" 304),(.int (0) 305)⟩] 5),#[]⟩),
 (100,⟨(.type "tuple"),none,(.seq #[] 0),#[]⟩),
 (101,⟨(.type "tuple"),none,(.seq #[] 0),#[]⟩),
 (102,⟨(.type "dict"),none,(.dict #[⟨(c0 P "read"),(.str "read" 312),(.int (0) 313)⟩,⟨(c0 P "take"),(.str "take" 314),(.int (0) 315)⟩,⟨(c0 P "write"),(.str "write" 316),(.int (1) 317)⟩,⟨(c0 P "add"),(.str "add" 318),(.int (1) 319)⟩,⟨(c0 P "put"),(.str "put" 320),(.int (1) 321)⟩,⟨(c0 P "cut"),(.str "cut" 322),(.int (1) 323)⟩,⟨(c0 P "has"),(.str "has" 324),(.int (1) 325)⟩,⟨(c0 P "swap"),(.str "swap" 326),(.int (2) 327)⟩] 8),#[]⟩),
 (108,cO "read_state" "read_state" 337 26 2 103 342),
 (109,fO "read_state" "read_state" (top 15) "talejudge.store" 296 108),
 (115,cO "write_state" "write_state" 345 28 2 110 350),
 (116,fO "write_state" "write_state" (top 16) "talejudge.store" 296 115),
 (122,cO "add_to_number" "add_to_number" 353 30 2 117 358),
 (123,fO "add_to_number" "add_to_number" (top 17) "talejudge.store" 296 122),
 (129,cO "put_behind" "put_behind" 361 32 2 124 366),
 (130,fO "put_behind" "put_behind" (top 18) "talejudge.store" 296 129),
 (136,cO "take_first" "take_first" 369 34 2 131 374),
 (137,fO "take_first" "take_first" (top 19) "talejudge.store" 296 136),
 (143,cO "put_into_set" "put_into_set" 377 38 2 138 382),
 (144,fO "put_into_set" "put_into_set" (top 20) "talejudge.store" 296 143),
 (148,cP "cut_from_set" "cut_from_set" 385 42 2 145 388),
 (149,fO "cut_from_set" "cut_from_set" (top 21) "talejudge.store" 296 148),
 (155,cO "has_in_set" "has_in_set" 391 46 2 150 396),
 (156,fO "has_in_set" "has_in_set" (top 22) "talejudge.store" 296 155),
 (162,cO "swap_state" "swap_state" 399 48 2 157 404),
 (163,fO "swap_state" "swap_state" (top 23) "talejudge.store" 296 162),
 (164,⟨(.type "dict"),none,(.dict #[⟨(J1 (o0 [c0 P "register",c0 P "read"])),(.ref 165),(.ref 109)⟩,⟨(J1 (o0 [c0 P "register",c0 P "write"])),(.ref 166),(.ref 116)⟩,⟨(J1 (o0 [c0 P "counter",c0 P "read"])),(.ref 167),(.ref 109)⟩,⟨(J1 (o0 [c0 P "counter",c0 P "add"])),(.ref 168),(.ref 123)⟩,⟨(J1 (o0 [c0 P "queue",c0 P "put"])),(.ref 169),(.ref 130)⟩,⟨(J1 (o0 [c0 P "queue",c0 P "take"])),(.ref 170),(.ref 137)⟩,⟨(J1 (o0 [c0 P "set",c0 P "put"])),(.ref 171),(.ref 144)⟩,⟨(J1 (o0 [c0 P "set",c0 P "cut"])),(.ref 172),(.ref 149)⟩,⟨(J1 (o0 [c0 P "set",c0 P "has"])),(.ref 173),(.ref 156)⟩,⟨(J1 (o0 [c0 P "cell",c0 P "read"])),(.ref 174),(.ref 109)⟩,⟨(J1 (o0 [c0 P "cell",c0 P "write"])),(.ref 175),(.ref 116)⟩,⟨(J1 (o0 [c0 P "cell",c0 P "swap"])),(.ref 176),(.ref 163)⟩] 12),#[]⟩),
 (165,⟨(.type "tuple"),none,(.seq #[(.str "register" 407),(.str "read" 408)] 0),#[]⟩),
 (166,⟨(.type "tuple"),none,(.seq #[(.str "register" 409),(.str "write" 410)] 0),#[]⟩),
 (167,⟨(.type "tuple"),none,(.seq #[(.str "counter" 411),(.str "read" 412)] 0),#[]⟩),
 (168,⟨(.type "tuple"),none,(.seq #[(.str "counter" 413),(.str "add" 414)] 0),#[]⟩),
 (169,⟨(.type "tuple"),none,(.seq #[(.str "queue" 415),(.str "put" 416)] 0),#[]⟩),
 (170,⟨(.type "tuple"),none,(.seq #[(.str "queue" 417),(.str "take" 418)] 0),#[]⟩),
 (171,⟨(.type "tuple"),none,(.seq #[(.str "set" 419),(.str "put" 420)] 0),#[]⟩),
 (172,⟨(.type "tuple"),none,(.seq #[(.str "set" 421),(.str "cut" 422)] 0),#[]⟩),
 (173,⟨(.type "tuple"),none,(.seq #[(.str "set" 423),(.str "has" 424)] 0),#[]⟩),
 (174,⟨(.type "tuple"),none,(.seq #[(.str "cell" 425),(.str "read" 426)] 0),#[]⟩),
 (175,⟨(.type "tuple"),none,(.seq #[(.str "cell" 427),(.str "write" 428)] 0),#[]⟩),
 (176,⟨(.type "tuple"),none,(.seq #[(.str "cell" 429),(.str "swap" 430)] 0),#[]⟩),
 (182,cO "is_kind" "is_kind" 468 53 1 177 472),
 (183,fO "is_kind" "is_kind" (top 25) "talejudge.store" 296 182),
 (189,cO "first_state" "first_state" 475 55 1 184 479),
 (190,fO "first_state" "first_state" (top 26) "talejudge.store" 296 189),
 (194,cP "is_deed" "is_deed" 482 59 3 191 485),
 (195,fO "is_deed" "is_deed" (top 27) "talejudge.store" 296 194),
 (201,cO "do" "do" 488 68 4 196 496),
 (202,fO "do" "do" (top 28) "talejudge.store" 296 201),
 (208,cO "deeds" "deeds" 501 74 1 203 511),
 (209,fO "deeds" "deeds" (top 30) "talejudge.tales" 499 208),
 (210,⟨(.type "tuple"),none,(.seq #[(.str "strict" 516),(.str "hands" 517),(.str "bare" 518)] 0),#[]⟩),
 (216,cO "has_to" "has_to" 520 88 2 211 531),
 (217,fO "has_to" "has_to" (top 33) "talejudge.orders" 514 216),
 (223,cO "check_strictness" "check_strictness" 534 97 1 218 538),
 (224,fO "check_strictness" "check_strictness" (top 34) "talejudge.orders" 514 223),
 (230,cO "goes_ahead" "goes_ahead" 541 100 3 225 547),
 (231,fO "goes_ahead" "goes_ahead" (top 35) "talejudge.orders" 514 230),
 (232,⟨(.type "tuple"),none,(.seq #[] 0),#[]⟩),
 (234,⟨(.type "dict"),none,(.dict #[⟨(c0 P "__module__"),(.str "__module__" 559),(.str "talejudge.places" 550)⟩,⟨(c0 P "__qualname__"),(.str "__qualname__" 561),(.str "Candidate" 560)⟩,⟨(c0 P "__firstlineno__"),(.str "__firstlineno__" 563),(.int (107) 562)⟩,kR P "__init__" 569 243,kR P "may_stand" 579 250,kR P "__static_attributes__" 588 251] 6),#[]⟩),
 (242,cP "__init__" "Candidate.__init__" 564 109 6 239 567),
 (243,fO "__init__" "Candidate.__init__" (subS (top 37) 0) "talejudge.places" 550 242),
 (249,cO "may_stand" "Candidate.may_stand" 570 119 2 244 577),
 (250,fO "may_stand" "Candidate.may_stand" (subS (top 37) 1) "talejudge.places" 550 249),
 (251,⟨(.type "tuple"),none,(.seq #[(.str "aheads" 580),(.str "answer" 581),(.str "behinds" 582),(.str "kind" 583),(.str "number" 584),(.str "thing" 585),(.str "verb" 586),(.str "worth" 587)] 0),#[]⟩),
 (252,⟨(.type "dict"),none,(.dict #[⟨(c0 P "__module__"),(.str "__module__" 559),(.str "talejudge.places" 550)⟩,⟨(c0 P "__firstlineno__"),(.str "__firstlineno__" 563),(.int (107) 562)⟩,kR P "__init__" 569 243,kR P "may_stand" 579 250,kR P "__static_attributes__" 588 251,kR P "__dict__" 590 254,kR P "__weakref__" 592 255,⟨(c0 P "__doc__"),(.str "__doc__" 593),.none⟩] 4),#[]⟩),
 (253,⟨(.type "type"),none,(.cls ⟨"Candidate",[(.type "object")],[(.ref 253),(.type "object")],252,"Candidate",true,[],[],false,none,false⟩),#[none,none,some (.str "Candidate" 552),some (.str "Candidate" 560),some (.builtin "object.__new__"),some (.bool true)]⟩),
 (258,⟨(.type "tuple"),none,(.seq #[] 0),#[]⟩),
 (260,⟨(.type "dict"),none,(.dict #[⟨(c0 P "__module__"),(.str "__module__" 603),(.str "talejudge.places" 550)⟩,⟨(c0 P "__qualname__"),(.str "__qualname__" 605),(.str "Board" 604)⟩,⟨(c0 P "__firstlineno__"),(.str "__firstlineno__" 607),(.int (129) 606)⟩,kR P "__init__" 613 269,kR P "steps_from" 624 276,kR P "ends_at" 632 283,kR P "has_place" 640 290,kR P "__static_attributes__" 645 291] 8),#[]⟩),
 (268,cP "__init__" "Board.__init__" 608 131 3 265 611),
 (269,fO "__init__" "Board.__init__" (subS (top 38) 0) "talejudge.places" 550 268),
 (275,cO "steps_from" "Board.steps_from" 614 143 2 270 622),
 (276,fO "steps_from" "Board.steps_from" (subS (top 38) 1) "talejudge.places" 550 275),
 (282,cO "ends_at" "Board.ends_at" 625 152 2 277 630),
 (283,fO "ends_at" "Board.ends_at" (subS (top 38) 2) "talejudge.places" 550 282),
 (291,⟨(.type "tuple"),none,(.seq #[(.str "candidates" 641),(.str "ended" 642),(.str "first" 643),(.str "kinds" 644)] 0),#[]⟩),
 (292,⟨(.type "dict"),none,(.dict #[⟨(c0 P "__module__"),(.str "__module__" 603),(.str "talejudge.places" 550)⟩,⟨(c0 P "__firstlineno__"),(.str "__firstlineno__" 607),(.int (129) 606)⟩,kR P "__init__" 613 269,kR P "steps_from" 624 276,kR P "ends_at" 632 283,kR P "has_place" 640 290,kR P "__static_attributes__" 645 291,kR P "__dict__" 647 294,kR P "__weakref__" 649 295,⟨(c0 P "__doc__"),(.str "__doc__" 650),.none⟩] 4),#[]⟩),
 (293,⟨(.type "type"),none,(.cls ⟨"Board",[(.type "object")],[(.ref 293),(.type "object")],292,"Board",true,[],[],false,none,false⟩),#[none,none,some (.str "Board" 596),some (.str "Board" 604),some (.builtin "object.__new__"),some (.bool true)]⟩),
 (303,cO "step_of" "step_of" 653 157 2 298 662),
 (304,fO "step_of" "step_of" (top 39) "talejudge.places" 550 303),
 (308,cP "ended_numbers" "ended_numbers" 665 163 1 305 668),
 (309,fO "ended_numbers" "ended_numbers" (top 40) "talejudge.places" 550 308),
 (313,cP "holds_all" "holds_all" 671 165 2 310 674),
 (314,fO "holds_all" "holds_all" (top 41) "talejudge.places" 550 313),
 (318,cP "first_place" "first_place" 677 167 1 315 680),
 (319,fO "first_place" "first_place" (top 42) "talejudge.places" 550 318),
 (325,cO "judged" "judged" 685 170 2 320 697),
 (326,fO "judged" "judged" (top 44) "talejudge.judge" 683 325),
 (332,cO "beginning" "beginning" 702 184 2 327 707),
 (333,fO "beginning" "beginning" (top 46) "talejudge.beginnings" 700 332),
 (339,cO "is_bad" "is_bad" 710 188 2 334 715),
 (340,fO "is_bad" "is_bad" (top 47) "talejudge.beginnings" 700 339),
 (346,cO "bad_beginning" "bad_beginning" 718 190 1 341 725),
 (347,fO "bad_beginning" "bad_beginning" (top 48) "talejudge.beginnings" 700 346),
 (353,cO "_law_cell_at" "_law_cell_at" 730 203 2 348 735),
 (354,fL "_law_cell_at" "_law_cell_at" (top 50) 353),
 (360,cO "_law_take" "_law_take" 738 207 2 355 745),
 (361,fL "_law_take" "_law_take" (top 51) 360),
 (365,cP "_law_do" "_law_do" 748 216 4 362 751),
 (366,fL "_law_do" "_law_do" (top 52) 365),
 (370,cP "_law_first" "_law_first" 754 239 1 367 757),
 (371,fL "_law_first" "_law_first" (top 53) 370),
 (377,cO "_law_worth" "_law_worth" 760 241 1 372 764),
 (378,fL "_law_worth" "_law_worth" (top 54) 377),
 (384,cO "_law_verb" "_law_verb" 767 243 2 379 774),
 (385,fL "_law_verb" "_law_verb" (top 55) 384),
 (389,cP "_law_things" "_law_things" 777 253 1 386 780),
 (390,fL "_law_things" "_law_things" (top 56) 389),
 (394,cP "_law_applied" "_law_applied" 783 259 3 391 786),
 (395,fL "_law_applied" "_law_applied" (top 57) 394),
 (399,cP "_law_tale" "_law_tale" 789 264 2 396 792),
 (400,fL "_law_tale" "_law_tale" (top 58) 399),
 (406,cO "_law_deeds" "_law_deeds" 795 292 1 401 803),
 (407,fL "_law_deeds" "_law_deeds" (top 59) 406),
 (413,cO "_law_is_ahead" "_law_is_ahead" 806 304 3 408 812),
 (414,fL "_law_is_ahead" "_law_is_ahead" (top 60) 413),
 (420,cO "_law_may_be_next" "_law_may_be_next" 815 308 4 415 823),
 (421,fL "_law_may_be_next" "_law_may_be_next" (top 61) 420),
 (427,cO "_law_nexts" "_law_nexts" 826 315 4 422 839),
 (428,fL "_law_nexts" "_law_nexts" (top 62) 427),
 (432,cP "_law_is_full" "_law_is_full" 842 325 2 429 845),
 (433,fL "_law_is_full" "_law_is_full" (top 63) 432),
 (439,cO "_law_places" "_law_places" 848 327 2 434 860),
 (440,fL "_law_places" "_law_places" (top 64) 439),
 (444,cP "_law_is_good" "_law_is_good" 863 338 2 441 866),
 (445,fL "_law_is_good" "_law_is_good" (top 65) 444),
 (451,cO "law" "law" 869 341 1 446 877),
 (452,fL "law" "law" (top 66) 451)]
noncomputable def HX:Hook:=kHook KX asX (λ _=>by kernel_rfl)
noncomputable abbrev XtX:B0->Bool:=λ s=>xlAt viewX [] s && recOk (RowW.records (OpenRow.toRowW PySem.Challenge.rw_talejudge_k69_bad_beginnings.row)) s
theorem look1 (w:P0) (os:D2):(staticsOk (r6 PX.main.body) (boot_heap w.params) (S3X w os).abs.heap && namesBound PX (S3X w os).abs.heap && gensDone (S3X w os).abs && laidKept (boot_heap w.params) (S3X w os).abs.heap)=true:=by kernel_rfl
theorem look2 (w:P0) (os:D2):openSeen viewX looseX (r6 PX.main.body) XtX true (S3X w os).abs=openGood viewX looseX:=by rw [PySem.W.Fast.te4187177175401517315];kernel_rfl
theorem look3 (w:P0) (os:D2):Hook.obs HX (S3X w os).abs=Hook.val HX w:=by kernel_rfl
theorem leftX:LeftO PX viewX looseX XtX (Hook.obs HX) (Hook.val HX) 200000:=
 zjd (H₀:=boot_heap) (gs₀:=Array.mk []) (boot_open (by kernel_rfl) (by decide) (λ s=>rfl)) (λ w=>by kernel_rfl) ziv look1 look2 look3
end K69
set_option maxHeartbeats 4000000
namespace L2
open PySem PySem.Spec PyProof.Rows
theorem FnScope.k {N P:List Str} {sc:Scope} (a:sc.kind=.function:=by exact rfl) (b:sc.isCoroutine=false:=by exact rfl) (c:sc.isGenerator=false:=by exact rfl) (d:N.Nodup:=by decide +kernel) (e:N.take P.length=P:=by exact rfl) (f :∀x∈P,sc.names.lookup x=some .local\/sc.names.lookup x=some .cell:=by decide +kernel) (g :∀y∈sc.names,y.2≠.free:=by decide +kernel):FnScope N P sc:=⟨a,b,c,d,e,f,g⟩
theorem newA {H:Hp} {p:Addr} (o:HO) (h:H p=none) :∃H',H'=upd H p o/\Same H H'/\H' p=some o:=⟨_,rfl,Same.upd h,upd_same⟩
theorem iteK {c A B:Prop} [Decidable c] (h:B) (hc:¬ c:=by decide +kernel):if c then A else B:=iteN hc h
theorem pg_cn {X:Cx} {scope:Scope} {cl:List (Str×Addr)} {N:List Str} {C:Addr} {s₂:B0} {H₂:Hp} {fp:List Addr} {x:Str} {px:Pos} (i:Nat) (hN:N.Nodup:=by decide +kernel) (hi:N[i]? = some x:=by exact rfl) (hx:scope.names.lookup x=some .local:=by exact rfl):PG (cxComp X scope cl N C s₂ H₂ fp) (.Name x px) (gName i):=zis i hN hi hx
theorem pe_cg {X:Cx} {xs:List Str} {tg:Expr} {g:TG} {pos:Pos} {elt iter:Expr} {ifs:List Expr} {scope:Scope} {fr:List (Nat×Str)} {wi:TI} {tc:TT} {te:TE} (hi:PI X tg iter wi)
  (hg :∀cl C s₂ H₂ fp,PG (cxComp X scope cl (xs++fr.map (·.2)) C s₂ H₂ fp) tg g)
  (ht :∀cl C s₂ H₂ fp,PF (cxComp X scope cl (xs++fr.map (·.2)) C s₂ H₂ fp) ifs tc) (he :∀cl C s₂ H₂ fp,PE (cxComp X scope cl (xs++fr.map (·.2)) C s₂ H₂ fp) elt te) (hcalm:X.calm=true:=by exact rfl)
  (hfr :∀p∈fr,X.N[p.1]? = some p.2/\(X.env.kindOf p.2=some .cell\/X.env.kindOf p.2=some .free):=by first|exact λ _ z=>absurd z u0|(intro p hp;obtain rfl:=List.mem_singleton.mp hp;first|exact ⟨rfl,.inl rfl⟩|exact ⟨rfl,.inr rfl⟩))
  (hin:(scope.names.all λ y=>y.2 != T1 || fr.any λ p=>p.2 == y.1)=true:=by decide +kernel)
  (hfs :∀p∈fr,(p.2,T1)∈scope.names/\((g7 scope X.env).names.lookup p.2=some .cell\/(g7 scope X.env).names.lookup p.2=some .free):=by first|exact λ _ z=>absurd z u0|(intro p hp;obtain rfl:=List.mem_singleton.mp hp;exact ⟨by decide +kernel,by first|exact .inl rfl|exact .inr rfl⟩))
  (hcell :∀y∈scope.names,y.2≠NameKind.cell:=by decide +kernel) (hkind:scope.kind=.function:=by exact rfl) (hnames :∀y∈scope.names,y.2=NameKind.local->scope.names.lookup y.1=some .local:=by decide +kernel)
  (hs :∀x,T4 iter X.env x=X2 x:=by intro _;rfl):PE X (.ListComp elt [⟨tg,iter,ifs,0⟩] scope pos) (tCompG wi xs.length fr g tc te):=
 ze6 hcalm hi hfr (λ y a e=>by
  have h:=List.all_eq_true.mp hin y a;rw [e] at h;obtain ⟨p,hp,z⟩:=List.any_eq_true.mp (show fr.any (λ p=>p.2 == y.1)=true from h);have:=(hfr p hp).2
  rwa [eq_of_beq z] at this) hfs hcell hkind hnames hg ht he hs
end L2
namespace K69
open PySem PySem.Spec PyProof.Rows TJ L2
abbrev Gg (n:Str) (a:Addr):Prop:=∀P,S5 (KX P) S2 n=some (some (.ref a))
abbrev Gn (n:Str):Prop:=∀P,S5 (KX P) S2 n=some none
noncomputable abbrev kx (w:P0):=KX w.params
noncomputable abbrev Ca (P:Program) (w:P0) (mg:Str->Option Value) (base:Heap):=Cal P w (KX w.params) mg base
noncomputable abbrev CaE (P:Program) (w:P0) (mg:Str->Option Value) (base:Heap):=CalE P w (KX w.params) mg base
noncomputable abbrev Fo (P:Program) (w:P0) (mg:Str->Option Value) (base:Heap):=FnOk P w (KX w.params) mg base
theorem z0l:Gn "isinstance":=λ _=>by kernel_rfl
theorem n_len:Gn "len":=λ _=>by kernel_rfl
theorem n_all:Gn "all":=λ _=>by kernel_rfl
theorem n_max:Gn "max":=λ _=>by kernel_rfl
theorem n_min:Gn "min":=λ _=>by kernel_rfl
theorem n_int:Gn "int":=λ _=>by kernel_rfl
theorem n_str:Gn "str":=λ _=>by kernel_rfl
theorem n_bool:Gn "bool":=λ _=>by kernel_rfl
theorem z2h:Gn "tuple":=λ _=>by kernel_rfl
theorem z6d:Gn "range":=λ _=>by kernel_rfl
theorem z67:Gn "sorted":=λ _=>by kernel_rfl
theorem n_sum:Gn "sum":=λ _=>by kernel_rfl
theorem z1y:Gn "enumerate":=λ _=>by kernel_rfl
theorem zew:Gn "reversed":=λ _=>by kernel_rfl
theorem z5y (P:N0):S5 (KX P) S2 "GREATEST_WORTH" = some (some (.int (1000000000) 196)):=by kernel_rfl
theorem zfo:Gg "is_whole" 28:=λ _=>by kernel_rfl
theorem zd6:Gg "is_within" 35:=λ _=>by kernel_rfl
theorem zfe:Gg "is_worth" 42:=λ _=>by kernel_rfl
theorem z9f:Gg "is_tuple_of" 49:=λ _=>by kernel_rfl
theorem z4l:Gg "FIRST_STATES" 99:=λ _=>by kernel_rfl
theorem z5b:Gg "WORTHS_OF_VERBS" 102:=λ _=>by kernel_rfl
theorem z5z:Gg "read_state" 109:=λ _=>by kernel_rfl
theorem z56:Gg "write_state" 116:=λ _=>by kernel_rfl
theorem z3l:Gg "add_to_number" 123:=λ _=>by kernel_rfl
theorem z5n:Gg "put_behind" 130:=λ _=>by kernel_rfl
theorem z5u:Gg "take_first" 137:=λ _=>by kernel_rfl
theorem z4e:Gg "put_into_set" 144:=λ _=>by kernel_rfl
theorem z4m:Gg "cut_from_set" 149:=λ _=>by kernel_rfl
theorem z66:Gg "has_in_set" 156:=λ _=>by kernel_rfl
theorem z62:Gg "swap_state" 163:=λ _=>by kernel_rfl
theorem zhy:Gg "DOERS" 164:=λ _=>by kernel_rfl
theorem zh1:Gg "is_kind" 183:=λ _=>by kernel_rfl
theorem z9y:Gg "first_state" 190:=λ _=>by kernel_rfl
theorem zhh:Gg "is_deed" 195:=λ _=>by kernel_rfl
theorem g_do:Gg "do" 202:=λ _=>by kernel_rfl
theorem zju:Gg "deeds" 209:=λ _=>by kernel_rfl
theorem z8k:Gg "STRICTNESSES" 210:=λ _=>by kernel_rfl
theorem ziy:Gg "has_to" 217:=λ _=>by kernel_rfl
theorem z55:Gg "check_strictness" 224:=λ _=>by kernel_rfl
theorem zb4:Gg "goes_ahead" 231:=λ _=>by kernel_rfl
theorem zd3:Gg "Candidate" 253:=λ _=>by kernel_rfl
theorem zk4:Gg "Board" 293:=λ _=>by kernel_rfl
theorem zgh:Gg "step_of" 304:=λ _=>by kernel_rfl
theorem z72:Gg "ended_numbers" 309:=λ _=>by kernel_rfl
theorem zd9:Gg "holds_all" 314:=λ _=>by kernel_rfl
theorem z8v:Gg "first_place" 319:=λ _=>by kernel_rfl
theorem zj2:Gg "judged" 326:=λ _=>by kernel_rfl
theorem zd1:Gg "beginning" 333:=λ _=>by kernel_rfl
theorem zij:Gg "is_bad" 340:=λ _=>by kernel_rfl
theorem z6r:Gg "bad_beginning" 347:=λ _=>by kernel_rfl
theorem z8r:Gg "_law_cell_at" 354:=λ _=>by kernel_rfl
theorem zdd:Gg "_law_take" 361:=λ _=>by kernel_rfl
theorem zgq:Gg "_law_do" 366:=λ _=>by kernel_rfl
theorem zbc:Gg "_law_first" 371:=λ _=>by kernel_rfl
theorem zax:Gg "_law_worth" 378:=λ _=>by kernel_rfl
theorem zcx:Gg "_law_verb" 385:=λ _=>by kernel_rfl
theorem za0:Gg "_law_things" 390:=λ _=>by kernel_rfl
theorem z7s:Gg "_law_applied" 395:=λ _=>by kernel_rfl
theorem zct:Gg "_law_tale" 400:=λ _=>by kernel_rfl
theorem zap:Gg "_law_deeds" 407:=λ _=>by kernel_rfl
theorem z6z:Gg "_law_is_ahead" 414:=λ _=>by kernel_rfl
theorem z4o:Gg "_law_may_be_next" 421:=λ _=>by kernel_rfl
theorem zai:Gg "_law_nexts" 428:=λ _=>by kernel_rfl
theorem z8i:Gg "_law_is_full" 433:=λ _=>by kernel_rfl
theorem z9w:Gg "_law_places" 440:=λ _=>by kernel_rfl
theorem z8d:Gg "_law_is_good" 445:=λ _=>by kernel_rfl
theorem g_law:Gg "law" 452:=λ _=>by kernel_rfl
noncomputable def kl_FIRST_STATES:List (Str×V):=[("register",.int (0)),("counter",.int (0)),("queue",.ref 100),("set",.ref 101),("cell",.int (0))]
theorem z3i (P:N0):KDict (KX P) P 99 kl_FIRST_STATES:=⟨⟨#[⟨(c0 P "register"),(.str "register" 298),(.int (0) 299)⟩,⟨(c0 P "counter"),(.str "counter" 300),(.int (0) 301)⟩,⟨(c0 P "queue"),(.str "queue" 302),(.ref 100)⟩,⟨(c0 P "set"),(.str "set" 303),(.ref 101)⟩,⟨(c0 P "cell"),(.str "cell" 304),(.int (0) 305)⟩],5,by kernel_rfl,(.cons ⟨⟨_,rfl⟩,rfl,⟨_,rfl⟩⟩ (.cons ⟨⟨_,rfl⟩,rfl,⟨_,rfl⟩⟩ (.cons ⟨⟨_,rfl⟩,rfl,rfl⟩ (.cons ⟨⟨_,rfl⟩,rfl,rfl⟩ (.cons ⟨⟨_,rfl⟩,rfl,⟨_,rfl⟩⟩ .nil)))))⟩,by decide⟩
noncomputable def kl_WORTHS_OF_VERBS:List (Str×V):=[("read",.int (0)),("take",.int (0)),("write",.int (1)),("add",.int (1)),("put",.int (1)),("cut",.int (1)),("has",.int (1)),("swap",.int (2))]
theorem z4q (P:N0):KDict (KX P) P 102 kl_WORTHS_OF_VERBS:=⟨⟨#[⟨(c0 P "read"),(.str "read" 312),(.int (0) 313)⟩,⟨(c0 P "take"),(.str "take" 314),(.int (0) 315)⟩,⟨(c0 P "write"),(.str "write" 316),(.int (1) 317)⟩,⟨(c0 P "add"),(.str "add" 318),(.int (1) 319)⟩,⟨(c0 P "put"),(.str "put" 320),(.int (1) 321)⟩,⟨(c0 P "cut"),(.str "cut" 322),(.int (1) 323)⟩,⟨(c0 P "has"),(.str "has" 324),(.int (1) 325)⟩,⟨(c0 P "swap"),(.str "swap" 326),(.int (2) 327)⟩],8,by kernel_rfl,(.cons ⟨⟨_,rfl⟩,rfl,⟨_,rfl⟩⟩ (.cons ⟨⟨_,rfl⟩,rfl,⟨_,rfl⟩⟩ (.cons ⟨⟨_,rfl⟩,rfl,⟨_,rfl⟩⟩ (.cons ⟨⟨_,rfl⟩,rfl,⟨_,rfl⟩⟩ (.cons ⟨⟨_,rfl⟩,rfl,⟨_,rfl⟩⟩ (.cons ⟨⟨_,rfl⟩,rfl,⟨_,rfl⟩⟩ (.cons ⟨⟨_,rfl⟩,rfl,⟨_,rfl⟩⟩ (.cons ⟨⟨_,rfl⟩,rfl,⟨_,rfl⟩⟩ .nil))))))))⟩,by decide⟩
noncomputable def kl_DOERS:List ((Str×Str)×V):=[(("register","read"),.ref 109),(("register","write"),.ref 116),(("counter","read"),.ref 109),(("counter","add"),.ref 123),(("queue","put"),.ref 130),(("queue","take"),.ref 137),(("set","put"),.ref 144),(("set","cut"),.ref 149),(("set","has"),.ref 156),(("cell","read"),.ref 109),(("cell","write"),.ref 116),(("cell","swap"),.ref 163)]
theorem zei (P:N0):KDictT (KX P) P 164 kl_DOERS:=⟨⟨#[⟨(J1 (o0 [c0 P "register",c0 P "read"])),(.ref 165),(.ref 109)⟩,⟨(J1 (o0 [c0 P "register",c0 P "write"])),(.ref 166),(.ref 116)⟩,⟨(J1 (o0 [c0 P "counter",c0 P "read"])),(.ref 167),(.ref 109)⟩,⟨(J1 (o0 [c0 P "counter",c0 P "add"])),(.ref 168),(.ref 123)⟩,⟨(J1 (o0 [c0 P "queue",c0 P "put"])),(.ref 169),(.ref 130)⟩,⟨(J1 (o0 [c0 P "queue",c0 P "take"])),(.ref 170),(.ref 137)⟩,⟨(J1 (o0 [c0 P "set",c0 P "put"])),(.ref 171),(.ref 144)⟩,⟨(J1 (o0 [c0 P "set",c0 P "cut"])),(.ref 172),(.ref 149)⟩,⟨(J1 (o0 [c0 P "set",c0 P "has"])),(.ref 173),(.ref 156)⟩,⟨(J1 (o0 [c0 P "cell",c0 P "read"])),(.ref 174),(.ref 109)⟩,⟨(J1 (o0 [c0 P "cell",c0 P "write"])),(.ref 175),(.ref 116)⟩,⟨(J1 (o0 [c0 P "cell",c0 P "swap"])),(.ref 176),(.ref 163)⟩],12,by kernel_rfl,(.cons ⟨⟨165,407,408,0,rfl,by kernel_rfl⟩,rfl,rfl⟩ (.cons ⟨⟨166,409,410,0,rfl,by kernel_rfl⟩,rfl,rfl⟩ (.cons ⟨⟨167,411,412,0,rfl,by kernel_rfl⟩,rfl,rfl⟩ (.cons ⟨⟨168,413,414,0,rfl,by kernel_rfl⟩,rfl,rfl⟩ (.cons ⟨⟨169,415,416,0,rfl,by kernel_rfl⟩,rfl,rfl⟩ (.cons ⟨⟨170,417,418,0,rfl,by kernel_rfl⟩,rfl,rfl⟩ (.cons ⟨⟨171,419,420,0,rfl,by kernel_rfl⟩,rfl,rfl⟩ (.cons ⟨⟨172,421,422,0,rfl,by kernel_rfl⟩,rfl,rfl⟩ (.cons ⟨⟨173,423,424,0,rfl,by kernel_rfl⟩,rfl,rfl⟩ (.cons ⟨⟨174,425,426,0,rfl,by kernel_rfl⟩,rfl,rfl⟩ (.cons ⟨⟨175,427,428,0,rfl,by kernel_rfl⟩,rfl,rfl⟩ (.cons ⟨⟨176,429,430,0,rfl,by kernel_rfl⟩,rfl,rfl⟩ .nil))))))))))))⟩,by decide +kernel,by decide⟩
noncomputable abbrev y2f:Stmt:=top 3
noncomputable abbrev y1k:FuncData:=fnX "is_whole" "is_whole" (top 3) "talejudge.basics" 194 27
theorem z6j (P:N0):Fun (KX P) "is_whole" "is_whole" y2f 28 y1k:=z0b
theorem ze5 (P:N0):Binds (KX P) y1k ["value"] []:=(z6j P).binds λ _ _ _ _ _ _=>us1 λ _=>rfl
theorem zdf:FnScope ["value"] ["value"] (z06 y2f):=.k
noncomputable abbrev y26:Stmt:=top 4
noncomputable abbrev y13:FuncData:=fnX "is_within" "is_within" (top 4) "talejudge.basics" 194 34
theorem z4r (P:N0):Fun (KX P) "is_within" "is_within" y26 35 y13:=z0b
theorem zde (P:N0):Binds (KX P) y13 ["value","greatest"] []:=(z4r P).binds λ _ _ _ _ _ _=>us2 λ _ _=>rfl
theorem zan:FnScope ["value","greatest"] ["value","greatest"] (z06 y26):=.k
noncomputable abbrev y2g:Stmt:=top 5
noncomputable abbrev y1l:FuncData:=fnX "is_worth" "is_worth" (top 5) "talejudge.basics" 194 41
theorem z5t (P:N0):Fun (KX P) "is_worth" "is_worth" y2g 42 y1l:=z0b
theorem zdm (P:N0):Binds (KX P) y1l ["value"] []:=(z5t P).binds λ _ _ _ _ _ _=>us1 λ _=>rfl
theorem zd2:FnScope ["value"] ["value"] (z06 y2g):=.k
noncomputable abbrev y1m:Stmt:=top 6
noncomputable abbrev y0m:FuncData:=fnX "is_tuple_of" "is_tuple_of" (top 6) "talejudge.basics" 194 48
theorem z2i (P:N0):Fun (KX P) "is_tuple_of" "is_tuple_of" y1m 49 y0m:=z0b
theorem z9h (P:N0):Binds (KX P) y0m ["value","many"] []:=(z2i P).binds λ _ _ _ _ _ _=>us2 λ _ _=>rfl
theorem z8q:FnScope ["value","many"] ["value","many"] (z06 y1m):=.k
noncomputable abbrev y1w:Stmt:=top 15
noncomputable abbrev y0s:FuncData:=fnX "read_state" "read_state" (top 15) "talejudge.store" 296 108
theorem z3x (P:N0):Fun (KX P) "read_state" "read_state" y1w 109 y0s:=z0b
theorem zaf (P:N0):Binds (KX P) y0s ["state","worth"] []:=(z3x P).binds λ _ _ _ _ _ _=>us2 λ _ _=>rfl
theorem za7:FnScope ["state","worth"] ["state","worth"] (z06 y1w):=.k
noncomputable abbrev y1n:Stmt:=top 16
noncomputable abbrev y0n:FuncData:=fnX "write_state" "write_state" (top 16) "talejudge.store" 296 115
theorem z32 (P:N0):Fun (KX P) "write_state" "write_state" y1n 116 y0n:=z0b
theorem z94 (P:N0):Binds (KX P) y0n ["state","worth"] []:=(z32 P).binds λ _ _ _ _ _ _=>us2 λ _ _=>rfl
theorem z8f:FnScope ["state","worth"] ["state","worth"] (z06 y1n):=.k
noncomputable abbrev y14:Stmt:=top 17
noncomputable abbrev y08:FuncData:=fnX "add_to_number" "add_to_number" (top 17) "talejudge.store" 296 122
theorem z1v (P:N0):Fun (KX P) "add_to_number" "add_to_number" y14 123 y08:=z0b
theorem z6v (P:N0):Binds (KX P) y08 ["state","worth"] []:=(z1v P).binds λ _ _ _ _ _ _=>us2 λ _ _=>rfl
theorem z6c:FnScope ["state","worth"] ["state","worth"] (z06 y14):=.k
noncomputable abbrev y1x:Stmt:=top 18
noncomputable abbrev y0t:FuncData:=fnX "put_behind" "put_behind" (top 18) "talejudge.store" 296 129
theorem z3q (P:N0):Fun (KX P) "put_behind" "put_behind" y1x 130 y0t:=z0b
theorem zbj (P:N0):Binds (KX P) y0t ["state","worth"] []:=(z3q P).binds λ _ _ _ _ _ _=>us2 λ _ _=>rfl
theorem z8t:FnScope ["state","worth"] ["state","worth"] (z06 y1x):=.k
noncomputable abbrev y1y:Stmt:=top 19
noncomputable abbrev y0u:FuncData:=fnX "take_first" "take_first" (top 19) "talejudge.store" 296 136
theorem z3y (P:N0):Fun (KX P) "take_first" "take_first" y1y 137 y0u:=z0b
theorem zar (P:N0):Binds (KX P) y0u ["state","worth"] []:=(z3y P).binds λ _ _ _ _ _ _=>us2 λ _ _=>rfl
theorem za6:FnScope ["state","worth"] ["state","worth"] (z06 y1y):=.k
noncomputable abbrev y1e:Stmt:=top 20
noncomputable abbrev y0d:FuncData:=fnX "put_into_set" "put_into_set" (top 20) "talejudge.store" 296 143
theorem z26 (P:N0):Fun (KX P) "put_into_set" "put_into_set" y1e 144 y0d:=z0b
theorem z89 (P:N0):Binds (KX P) y0d ["state","worth"] []:=(z26 P).binds λ _ _ _ _ _ _=>us2 λ _ _=>rfl
theorem z71:FnScope ["state","worth"] ["state","worth"] (z06 y1e):=.k
noncomputable abbrev y1f:Stmt:=top 21
noncomputable abbrev y0e:FuncData:=fnX "cut_from_set" "cut_from_set" (top 21) "talejudge.store" 296 148
theorem z2a (P:N0):Fun (KX P) "cut_from_set" "cut_from_set" y1f 149 y0e:=z0b
theorem z7v (P:N0):Binds (KX P) y0e ["state","worth"] []:=(z2a P).binds λ _ _ _ _ _ _=>us2 λ _ _=>rfl
theorem z6w:FnScope ["state","worth"] ["state","worth"] (z06 y1f):=.k
noncomputable abbrev y1z:Stmt:=top 22
noncomputable abbrev y0v:FuncData:=fnX "has_in_set" "has_in_set" (top 22) "talejudge.store" 296 155
theorem z3m (P:N0):Fun (KX P) "has_in_set" "has_in_set" y1z 156 y0v:=z0b
theorem zbd (P:N0):Binds (KX P) y0v ["state","worth"] []:=(z3m P).binds λ _ _ _ _ _ _=>us2 λ _ _=>rfl
theorem z9r:FnScope ["state","worth"] ["state","worth"] (z06 y1z):=.k
noncomputable abbrev y20:Stmt:=top 23
noncomputable abbrev y0w:FuncData:=fnX "swap_state" "swap_state" (top 23) "talejudge.store" 296 162
theorem z3r (P:N0):Fun (KX P) "swap_state" "swap_state" y20 163 y0w:=z0b
theorem zau (P:N0):Binds (KX P) y0w ["state","worth"] []:=(z3r P).binds λ _ _ _ _ _ _=>us2 λ _ _=>rfl
theorem z9e:FnScope ["state","worth"] ["state","worth"] (z06 y20):=.k
noncomputable abbrev y2i:Stmt:=top 25
noncomputable abbrev y1s:FuncData:=fnX "is_kind" "is_kind" (top 25) "talejudge.store" 296 182
theorem z8a (P:N0):Fun (KX P) "is_kind" "is_kind" y2i 183 y1s:=z0b
theorem zhf (P:N0):Binds (KX P) y1s ["kind"] []:=(z8a P).binds λ _ _ _ _ _ _=>us1 λ _=>rfl
theorem zdk:FnScope ["kind"] ["kind"] (z06 y2i):=.k
noncomputable abbrev y1o:Stmt:=top 26
noncomputable abbrev y0o:FuncData:=fnX "first_state" "first_state" (top 26) "talejudge.store" 296 189
theorem z2l (P:N0):Fun (KX P) "first_state" "first_state" y1o 190 y0o:=z0b
theorem z9u (P:N0):Binds (KX P) y0o ["kind"] []:=(z2l P).binds λ _ _ _ _ _ _=>us1 λ _=>rfl
theorem z8o:FnScope ["kind"] ["kind"] (z06 y1o):=.k
noncomputable abbrev y2j:Stmt:=top 27
noncomputable abbrev y1t:FuncData:=fnX "is_deed" "is_deed" (top 27) "talejudge.store" 296 194
theorem z8l (P:N0):Fun (KX P) "is_deed" "is_deed" y2j 195 y1t:=z0b
theorem zh8 (P:N0):Binds (KX P) y1t ["kind","verb","worth"] []:=(z8l P).binds λ _ _ _ _ _ _=>us3 λ _ _ _=>rfl
theorem sc_is_deed:FnScope ["kind","verb","worth","many"] ["kind","verb","worth"] (z06 y2j):=.k
noncomputable abbrev y2q:Stmt:=top 28
noncomputable abbrev y2r:FuncData:=fnX "do" "do" (top 28) "talejudge.store" 296 201
theorem F_do (P:N0):Fun (KX P) "do" "do" y2q 202 y2r:=z0b
theorem b_do (P:N0):Binds (KX P) y2r ["kind","state","verb","worth"] []:=(F_do P).binds λ _ _ _ _ _ _=>us4 λ _ _ _ _=>rfl
theorem sc_do:FnScope ["kind","state","verb","worth","doer"] ["kind","state","verb","worth"] (z06 y2q):=.k
noncomputable abbrev y2p:Stmt:=top 30
noncomputable abbrev y2h:FuncData:=fnX "deeds" "deeds" (top 30) "talejudge.tales" 499 208
theorem zdr (P:N0):Fun (KX P) "deeds" "deeds" y2p 209 y2h:=z0b
theorem zkh (P:N0):Binds (KX P) y2h ["tale"] []:=(zdr P).binds λ _ _ _ _ _ _=>us1 λ _=>rfl
theorem sc_deeds:FnScope ["tale","told","numbers","place","event","number","begun"] ["tale"] (z06 y2p):=.k
noncomputable abbrev y2m:Stmt:=top 33
noncomputable abbrev y27:FuncData:=fnX "has_to" "has_to" (top 33) "talejudge.orders" 514 216
theorem zay (P:N0):Fun (KX P) "has_to" "has_to" y2m 217 y27:=z0b
theorem zir (P:N0):Binds (KX P) y27 ["tale","strictness"] []:=(zay P).binds λ _ _ _ _ _ _=>us2 λ _ _=>rfl
theorem sc_has_to:FnScope ["tale","strictness","told","pairs","ahead","one","behind","other"] ["tale","strictness"] (z06 y2m):=.k
noncomputable abbrev y0j:Stmt:=top 34
noncomputable abbrev y05:FuncData:=fnX "check_strictness" "check_strictness" (top 34) "talejudge.orders" 514 223
theorem z16 (P:N0):Fun (KX P) "check_strictness" "check_strictness" y0j 224 y05:=z0b
theorem z4x (P:N0):Binds (KX P) y05 ["strictness"] []:=(z16 P).binds λ _ _ _ _ _ _=>us1 λ _=>rfl
theorem z48:FnScope ["strictness"] ["strictness"] (z06 y0j):=.k
noncomputable abbrev y21:Stmt:=top 35
noncomputable abbrev y0x:FuncData:=fnX "goes_ahead" "goes_ahead" (top 35) "talejudge.orders" 514 230
theorem z3v (P:N0):Fun (KX P) "goes_ahead" "goes_ahead" y21 231 y0x:=z0b
theorem zbl (P:N0):Binds (KX P) y0x ["one","other","strictness"] []:=(z3v P).binds λ _ _ _ _ _ _=>us3 λ _ _ _=>rfl
theorem za8:FnScope ["one","other","strictness"] ["one","other","strictness"] (z06 y21):=.k
noncomputable abbrev y2k:Stmt:=top 39
noncomputable abbrev y1u:FuncData:=fnX "step_of" "step_of" (top 39) "talejudge.places" 550 303
theorem z7w (P:N0):Fun (KX P) "step_of" "step_of" y2k 304 y1u:=z0b
theorem zgw (P:N0):Binds (KX P) y1u ["candidate","place"] []:=(z7w P).binds λ _ _ _ _ _ _=>us2 λ _ _=>rfl
theorem sc_step_of:FnScope ["candidate","place","thing","states","done","numbers"] ["candidate","place"] (z06 y2k):=.k
noncomputable abbrev y15:Stmt:=top 40
noncomputable abbrev y09:FuncData:=fnX "ended_numbers" "ended_numbers" (top 40) "talejudge.places" 550 308
theorem z1s (P:N0):Fun (KX P) "ended_numbers" "ended_numbers" y15 309 y09:=z0b
theorem z6m (P:N0):Binds (KX P) y09 ["told"] []:=(z1s P).binds λ _ _ _ _ _ _=>us1 λ _=>rfl
theorem z6b:FnScope ["told"] ["told"] (z06 y15):=.k
noncomputable abbrev y28:Stmt:=top 41
noncomputable abbrev y16:FuncData:=fnX "holds_all" "holds_all" (top 41) "talejudge.places" 550 313
theorem z4n (P:N0):Fun (KX P) "holds_all" "holds_all" y28 314 y16:=z0b
theorem zd5 (P:N0):Binds (KX P) y16 ["done","numbers"] []:=(z4n P).binds λ _ _ _ _ _ _=>us2 λ _ _=>rfl
theorem zaj:FnScope ["done","numbers"] ["done","numbers"] (z06 y28):=.k
noncomputable abbrev y1p:Stmt:=top 42
noncomputable abbrev y0p:FuncData:=fnX "first_place" "first_place" (top 42) "talejudge.places" 550 318
theorem z34 (P:N0):Fun (KX P) "first_place" "first_place" y1p 319 y0p:=z0b
theorem za1 (P:N0):Binds (KX P) y0p ["tale"] []:=(z34 P).binds λ _ _ _ _ _ _=>us1 λ _=>rfl
theorem z84:FnScope ["tale"] ["tale"] (z06 y1p):=.k
noncomputable abbrev y2n:Stmt:=top 44
noncomputable abbrev y29:FuncData:=fnX "judged" "judged" (top 44) "talejudge.judge" 683 325
theorem zb5 (P:N0):Fun (KX P) "judged" "judged" y2n 326 y29:=z0b
theorem zja (P:N0):Binds (KX P) y29 ["tale","strictness"] []:=(zb5 P).binds λ _ _ _ _ _ _=>us2 λ _ _=>rfl
theorem sc_judged:FnScope ["tale","strictness","board","seen","waiting","reached","number","answer","place"] ["tale","strictness"] (z06 y2n):=.k
noncomputable abbrev y2a:Stmt:=top 46
noncomputable abbrev y17:FuncData:=fnX "beginning" "beginning" (top 46) "talejudge.beginnings" 700 332
theorem z4w (P:N0):Fun (KX P) "beginning" "beginning" y2a 333 y17:=z0b
theorem zdb (P:N0):Binds (KX P) y17 ["tale","many"] []:=(z4w P).binds λ _ _ _ _ _ _=>us2 λ _ _=>rfl
theorem zas:FnScope ["tale","many"] ["tale","many"] (z06 y2a):=.k
noncomputable abbrev y2o:Stmt:=top 47
noncomputable abbrev y2b:FuncData:=fnX "is_bad" "is_bad" (top 47) "talejudge.beginnings" 700 339
theorem zb2 (P:N0):Fun (KX P) "is_bad" "is_bad" y2o 340 y2b:=z0b
theorem zit (P:N0):Binds (KX P) y2b ["tale","many"] []:=(zb2 P).binds λ _ _ _ _ _ _=>us2 λ _ _=>rfl
theorem zhk:FnScope ["tale","many"] ["tale","many"] (z06 y2o):=.k
noncomputable abbrev y18:Stmt:=top 48
noncomputable abbrev y0a:FuncData:=fnX "bad_beginning" "bad_beginning" (top 48) "talejudge.beginnings" 700 346
theorem z1u (P:N0):Fun (KX P) "bad_beginning" "bad_beginning" y18 347 y0a:=z0b
theorem z6t (P:N0):Binds (KX P) y0a ["tale"] []:=(z1u P).binds λ _ _ _ _ _ _=>us1 λ _=>rfl
theorem sc_bad_beginning:FnScope ["tale","bad","good","middle"] ["tale"] (z06 y18):=.k
noncomputable abbrev y1g:Stmt:=top 50
noncomputable abbrev y0f:FuncData:=fY "_law_cell_at" "_law_cell_at" (top 50) 353
theorem z27 (P:N0):Fun (KX P) "_law_cell_at" "_law_cell_at" y1g 354 y0f:=z0b
theorem z7u (P:N0):Binds (KX P) y0f ["script","k"] []:=(z27 P).binds λ _ _ _ _ _ _=>us2 λ _ _=>rfl
theorem z73:FnScope ["script","k"] ["script","k"] (z06 y1g):=.k
noncomputable abbrev y2c:Stmt:=top 51
noncomputable abbrev y19:FuncData:=fY "_law_take" "_law_take" (top 51) 360
theorem z4s (P:N0):Fun (KX P) "_law_take" "_law_take" y2c 361 y19:=z0b
theorem zcu (P:N0):Binds (KX P) y19 ["deck","many"] []:=(z4s P).binds λ _ _ _ _ _ _=>us2 λ _ _=>rfl
theorem sc__law_take:FnScope ["deck","many","told","number"] ["deck","many"] (z06 y2c):=.k
noncomputable abbrev y2l:Stmt:=top 52
noncomputable abbrev y1v:FuncData:=fY "_law_do" "_law_do" (top 52) 365
theorem z7x (P:N0):Fun (KX P) "_law_do" "_law_do" y2l 366 y1v:=z0b
theorem zgp (P:N0):Binds (KX P) y1v ["kind","state","verb","worth"] []:=(z7x P).binds λ _ _ _ _ _ _=>us4 λ _ _ _ _=>rfl
theorem sc__law_do:FnScope ["kind","state","verb","worth","there"] ["kind","state","verb","worth"] (z06 y2l):=.k
noncomputable abbrev y22:Stmt:=top 53
noncomputable abbrev y0y:FuncData:=fY "_law_first" "_law_first" (top 53) 370
theorem z3n (P:N0):Fun (KX P) "_law_first" "_law_first" y22 371 y0y:=z0b
theorem zbn (P:N0):Binds (KX P) y0y ["things"] []:=(z3n P).binds λ _ _ _ _ _ _=>us1 λ _=>rfl
theorem z9d:FnScope ["things"] ["things"] (z06 y22):=.k
noncomputable abbrev y23:Stmt:=top 54
noncomputable abbrev y0z:FuncData:=fY "_law_worth" "_law_worth" (top 54) 377
theorem z3o (P:N0):Fun (KX P) "_law_worth" "_law_worth" y23 378 y0z:=z0b
theorem zbm (P:N0):Binds (KX P) y0z ["deck"] []:=(z3o P).binds λ _ _ _ _ _ _=>us1 λ _=>rfl
theorem z8w:FnScope ["deck"] ["deck"] (z06 y23):=.k
noncomputable abbrev y2d:Stmt:=top 55
noncomputable abbrev y1a:FuncData:=fY "_law_verb" "_law_verb" (top 55) 384
theorem z53 (P:N0):Fun (KX P) "_law_verb" "_law_verb" y2d 385 y1a:=z0b
theorem zdg (P:N0):Binds (KX P) y1a ["deck","kind"] []:=(z53 P).binds λ _ _ _ _ _ _=>us2 λ _ _=>rfl
theorem sc__law_verb:FnScope ["deck","kind","some","verb"] ["deck","kind"] (z06 y2d):=.k
noncomputable abbrev y1q:Stmt:=top 56
noncomputable abbrev y0q:FuncData:=fY "_law_things" "_law_things" (top 56) 389
theorem z2t (P:N0):Fun (KX P) "_law_things" "_law_things" y1q 390 y0q:=z0b
theorem za9 (P:N0):Binds (KX P) y0q ["deck"] []:=(z2t P).binds λ _ _ _ _ _ _=>us1 λ _=>rfl
theorem sc__law_things:FnScope ["deck","words","told","k"] ["deck"] (z06 y1q):=.k
noncomputable abbrev y1h:Stmt:=top 57
noncomputable abbrev y0g:FuncData:=fY "_law_applied" "_law_applied" (top 57) 394
theorem z2d (P:N0):Fun (KX P) "_law_applied" "_law_applied" y1h 395 y0g:=z0b
theorem z8p (P:N0):Binds (KX P) y0g ["things","states","own"] []:=(z2d P).binds λ _ _ _ _ _ _=>us3 λ _ _ _=>rfl
theorem sc__law_applied:FnScope ["things","states","own","at","state","answer"] ["things","states","own"] (z06 y1h):=.k
noncomputable abbrev y2e:Stmt:=top 58
noncomputable abbrev y1b:FuncData:=fY "_law_tale" "_law_tale" (top 58) 399
theorem z4v (P:N0):Fun (KX P) "_law_tale" "_law_tale" y2e 400 y1b:=z0b
theorem zd4 (P:N0):Binds (KX P) y1b ["script","most"] []:=(z4v P).binds λ _ _ _ _ _ _=>us2 λ _ _=>rfl
theorem sc__law_tale:FnScope ["script","most","way","deck","things","hands","spoil","states","events","under_way","k","hand","own","answer","name","kind","verb","worth"] ["script","most"] (z06 y2e):=.k
noncomputable abbrev y24:Stmt:=top 59
noncomputable abbrev y10:FuncData:=fY "_law_deeds" "_law_deeds" (top 59) 406
theorem z3t (P:N0):Fun (KX P) "_law_deeds" "_law_deeds" y24 407 y10:=z0b
theorem zav (P:N0):Binds (KX P) y10 ["tale"] []:=(z3t P).binds λ _ _ _ _ _ _=>us1 λ _=>rfl
theorem sc__law_deeds:FnScope ["tale","told","last","at","event"] ["tale"] (z06 y24):=.k
noncomputable abbrev y1c:Stmt:=top 60
noncomputable abbrev y0b:FuncData:=fY "_law_is_ahead" "_law_is_ahead" (top 60) 413
theorem z1w (P:N0):Fun (KX P) "_law_is_ahead" "_law_is_ahead" y1c 414 y0b:=z0b
theorem z6u (P:N0):Binds (KX P) y0b ["strictness","one","other"] []:=(z1w P).binds λ _ _ _ _ _ _=>us3 λ _ _ _=>rfl
theorem z5m:FnScope ["strictness","one","other"] ["strictness","one","other"] (z06 y1c):=.k
noncomputable abbrev y0k:Stmt:=top 61
noncomputable abbrev y06:FuncData:=fY "_law_may_be_next" "_law_may_be_next" (top 61) 420
theorem z13 (P:N0):Fun (KX P) "_law_may_be_next" "_law_may_be_next" y0k 421 y06:=z0b
theorem z4z (P:N0):Binds (KX P) y06 ["some","strictness","done","number"] []:=(z13 P).binds λ _ _ _ _ _ _=>us4 λ _ _ _ _=>rfl
theorem sc__law_may_be_next:FnScope ["some","strictness","done","number","other"] ["some","strictness","done","number"] (z06 y0k):=.k
noncomputable abbrev y25:Stmt:=top 62
noncomputable abbrev y11:FuncData:=fY "_law_nexts" "_law_nexts" (top 62) 427
theorem z3z (P:N0):Fun (KX P) "_law_nexts" "_law_nexts" y25 428 y11:=z0b
theorem zbe (P:N0):Binds (KX P) y11 ["tale","some","strictness","place"] []:=(z3z P).binds λ _ _ _ _ _ _=>us4 λ _ _ _ _=>rfl
theorem sc__law_nexts:FnScope ["tale","some","strictness","place","told","done","states","number","own","behind"] ["tale","some","strictness","place"] (z06 y25):=.k
noncomputable abbrev y1i:Stmt:=top 63
noncomputable abbrev y0h:FuncData:=fY "_law_is_full" "_law_is_full" (top 63) 432
theorem z2c (P:N0):Fun (KX P) "_law_is_full" "_law_is_full" y1i 433 y0h:=z0b
theorem z7o (P:N0):Binds (KX P) y0h ["some","place"] []:=(z2c P).binds λ _ _ _ _ _ _=>us2 λ _ _=>rfl
theorem z74:FnScope ["some","place"] ["some","place"] (z06 y1i):=.k
noncomputable abbrev y1r:Stmt:=top 64
noncomputable abbrev y0r:FuncData:=fY "_law_places" "_law_places" (top 64) 439
theorem z2o (P:N0):Fun (KX P) "_law_places" "_law_places" y1r 440 y0r:=z0b
theorem z8x (P:N0):Binds (KX P) y0r ["tale","strictness"] []:=(z2o P).binds λ _ _ _ _ _ _=>us2 λ _ _=>rfl
theorem sc__law_places:FnScope ["tale","strictness","some","first","told","pile","number","answer","place"] ["tale","strictness"] (z06 y1r):=.k
noncomputable abbrev y1j:Stmt:=top 65
noncomputable abbrev y0i:FuncData:=fY "_law_is_good" "_law_is_good" (top 65) 444
theorem z24 (P:N0):Fun (KX P) "_law_is_good" "_law_is_good" y1j 445 y0i:=z0b
theorem z8j (P:N0):Binds (KX P) y0i ["tale","strictness"] []:=(z24 P).binds λ _ _ _ _ _ _=>us2 λ _ _=>rfl
theorem sc__law_is_good:FnScope ["tale","strictness","some"] ["tale","strictness"] (z06 y1j):=.k
noncomputable abbrev y2s:Stmt:=top 66
noncomputable abbrev fd_law:FuncData:=fY "law" "law" (top 66) 451
theorem F_law (P:N0):Fun (KX P) "law" "law" y2s 452 fd_law:=z0b
theorem sc_law:FnScope ["script","tale","due","many","told"] ["script"] (z06 y2s):=.k
noncomputable abbrev y0c:Stmt:=subS (top 37) 0
noncomputable abbrev y01:FuncData:=fnX "__init__" "Candidate.__init__" (subS (top 37) 0) "talejudge.places" 550 242
theorem z1e (P:N0):Fun (KX P) "__init__" "Candidate.__init__" y0c 243 y01:=z0b
theorem z3u (P:N0):Binds (KX P) y01 ["self","number","deed","thing","kind","pairs"] []:=(z1e P).binds λ _ _ _ _ _ _=>us6 λ _ _ _ _ _ _=>rfl
theorem z3e:FnScope ["self","number","deed","thing","kind","pairs"] ["self","number","deed","thing","kind","pairs"] (z06 y0c):=.k
theorem zbg (P:N0):Mk (KX P) 253 243:=⟨by kernel_rfl,by kernel_rfl,by kernel_rfl,by kernel_rfl⟩
theorem z09 (P:N0):Cls (KX P) 253:=⟨by kernel_rfl,by kernel_rfl,by kernel_rfl,by kernel_rfl⟩
theorem z0o (P:N0):NoAttr (KX P) 253 "number":=by unfold NoAttr;kernel_rfl
theorem z20 (P:N0):NoAttr (KX P) 253 "thing":=by unfold NoAttr;kernel_rfl
theorem z2e (P:N0):NoAttr (KX P) 253 "kind":=by unfold NoAttr;kernel_rfl
theorem z2f (P:N0):NoAttr (KX P) 253 "verb":=by unfold NoAttr;kernel_rfl
theorem z1x (P:N0):NoAttr (KX P) 253 "worth":=by unfold NoAttr;kernel_rfl
theorem z0w (P:N0):NoAttr (KX P) 253 "answer":=by unfold NoAttr;kernel_rfl
theorem z1o (P:N0):NoAttr (KX P) 253 "aheads":=by unfold NoAttr;kernel_rfl
theorem z1i (P:N0):NoAttr (KX P) 253 "behinds":=by unfold NoAttr;kernel_rfl
noncomputable abbrev y07:Stmt:=subS (top 37) 1
noncomputable abbrev y00:FuncData:=fnX "may_stand" "Candidate.may_stand" (subS (top 37) 1) "talejudge.places" 550 249
theorem z1d (P:N0):Fun (KX P) "may_stand" "Candidate.may_stand" y07 250 y00:=z0b
theorem z3d (P:N0):Binds (KX P) y00 ["self","done"] []:=(z1d P).binds λ _ _ _ _ _ _=>us2 λ _ _=>rfl
theorem sc_Candidate_may_stand:FnScope ["self","done","ahead","behind"] ["self","done"] (z06 y07):=.k
theorem z2n (P:N0):Meth (KX P) 253 "may_stand" 250:=⟨by kernel_rfl,by kernel_rfl,by kernel_rfl⟩
noncomputable abbrev y12:Stmt:=subS (top 38) 0
noncomputable abbrev y03:FuncData:=fnX "__init__" "Board.__init__" (subS (top 38) 0) "talejudge.places" 550 268
theorem z2x (P:N0):Fun (KX P) "__init__" "Board.__init__" y12 269 y03:=z0b
theorem z61 (P:N0):Binds (KX P) y03 ["self","tale","strictness"] []:=(z2x P).binds λ _ _ _ _ _ _=>us3 λ _ _ _=>rfl
theorem sc_Board___init__:FnScope ["self","tale","strictness","pairs","told","names","number","deed","thing"] ["self","tale","strictness"] (z06 y12):=.k
theorem ziu (P:N0):Mk (KX P) 293 269:=⟨by kernel_rfl,by kernel_rfl,by kernel_rfl,by kernel_rfl⟩
theorem z1h (P:N0):Cls (KX P) 293:=⟨by kernel_rfl,by kernel_rfl,by kernel_rfl,by kernel_rfl⟩
theorem z4b (P:N0):NoAttr (KX P) 293 "kinds":=by unfold NoAttr;kernel_rfl
theorem z4c (P:N0):NoAttr (KX P) 293 "first":=by unfold NoAttr;kernel_rfl
theorem z4a (P:N0):NoAttr (KX P) 293 "ended":=by unfold NoAttr;kernel_rfl
theorem z0y (P:N0):NoAttr (KX P) 293 "candidates":=by unfold NoAttr;kernel_rfl
noncomputable abbrev y0l:Stmt:=subS (top 38) 1
noncomputable abbrev y02:FuncData:=fnX "steps_from" "Board.steps_from" (subS (top 38) 1) "talejudge.places" 550 275
theorem z22 (P:N0):Fun (KX P) "steps_from" "Board.steps_from" y0l 276 y02:=z0b
theorem z52 (P:N0):Binds (KX P) y02 ["self","place"] []:=(z22 P).binds λ _ _ _ _ _ _=>us2 λ _ _=>rfl
theorem sc_Board_steps_from:FnScope ["self","place","steps","candidate","step"] ["self","place"] (z06 y0l):=.k
theorem z43 (P:N0):Meth (KX P) 293 "steps_from" 276:=⟨by kernel_rfl,by kernel_rfl,by kernel_rfl⟩
noncomputable abbrev y1d:Stmt:=subS (top 38) 2
noncomputable abbrev y04:FuncData:=fnX "ends_at" "Board.ends_at" (subS (top 38) 2) "talejudge.places" 550 282
theorem z3h (P:N0):Fun (KX P) "ends_at" "Board.ends_at" y1d 283 y04:=z0b
theorem z6o (P:N0):Binds (KX P) y04 ["self","place"] []:=(z3h P).binds λ _ _ _ _ _ _=>us2 λ _ _=>rfl
theorem z5h:FnScope ["self","place"] ["self","place"] (z06 y1d):=.k
theorem z5g (P:N0):Meth (KX P) 293 "ends_at" 283:=⟨by kernel_rfl,by kernel_rfl,by kernel_rfl⟩
section
variable {P:Program} {w:P0} {mg:Str->Option Value} {base:Heap}
def z4p:Sp:=λ vs H Q _=>∃x T,vs=[x]/\TagOf H x T/\Q (.bl (decide (T = "int"))) H
theorem zcw (T:TX (kx w) mg):Fo P w mg base CX0 1 28 y1k ["value"] z4p:=by
 refine (z6j w.params).ok zdf (λ b H Q E h=>?_) (λ e A c s H b Q E d h=>?_)
 ·obtain ⟨x,t,rfl,_⟩:=h;rfl
 ·obtain ⟨x,t,rfl,a,q⟩:=h;refine ⟨_,(z04 (ps_ret (pe_and (z0c z0q rfl (T.no (z0l _)) F3 (z00 (pv 0) (z00 (z45 (v:=.ty "int") rfl (T.no (n_int _)) j1g rfl) pa_nil))) (pe_one (pe_not (z0c z0q rfl (T.no (z0l _)) F3 (z00 (pv 0) (z00 (z45 (v:=.ty "bool") rfl (T.no (n_bool _)) boot_bool rfl) pa_nil)))))))),?_⟩;refine ⟨_,rfl,_,_,_,rfl,a,by decide,_,rfl,?_⟩;by_cases h1:instB t "int" = true
  ·rw [if_pos h1];refine ⟨_,rfl,_,_,_,rfl,a,by decide,_,rfl,?_⟩;rw [z7t a (by decide)];have:(!decide (t = "bool"))=decide (t = "int"):=by rcases a.one with rfl|rfl|rfl|rfl|rfl|rfl|rfl<;>revert h1<;>decide
   rw [this];exact q
  ·rw [if_neg h1];have:decide (t = "int")=false:=by rcases a.one with rfl|rfl|rfl|rfl|rfl|rfl|rfl<;>revert h1<;>decide
   rw [this] at q;exact q
def z5j:Sp:=λ vs H Q _=>∃x T g,vs=[x,.int g]/\TagOf H x T/\Q (.bl (z0x x g)) H
theorem zat (T:TX (kx w) mg) (c0:Ca P w mg base "is_whole" ["value"] 1 z4p):Fo P w mg base CX0 2 35 y13 ["value","greatest"] z5j:=by
 refine (z4r w.params).ok zan (λ b H Q E h=>?_) (λ e A d s H b Q E c h=>?_)
 ·obtain ⟨x,t,g,rfl,_⟩:=h;rfl
 ·obtain ⟨x,t,g,rfl,a,q⟩:=h;refine ⟨_,(z04 (ps_ret (pe_and (pe_cal c0 (c.mono (by decide)) rfl (z00 (pv 0) pa_nil)) (pe_one (zj9 op_le op_le (pe_un un_neg (pv 1)) (pv 0) (pv 1)))))),?_⟩;refine ⟨_,rfl,x,t,rfl,a,_,rfl,?_⟩;by_cases h1:t = "int"
  ·subst h1;obtain ⟨i,rfl⟩:=a.int;refine iteT ?_;refine ⟨_,rfl,_,rfl,_,rfl,_,_,rfl,rfl,_,rfl,?_⟩;unfold z0x at q;dsimp only at q;by_cases h2:-g<=i
   ·rw [decide_eq_true h2] at q⊢;refine iteT ⟨_,rfl,_,_,rfl,rfl,?_⟩;rw [C8] at q;exact q
   ·rw [decide_eq_false h2] at q⊢;refine iteF ?_;rw [W7] at q;exact q
  ·rw [decide_eq_false h1];refine iteF ?_;rw [noInt a h1] at q;exact q
def z7b:Sp:=λ vs H Q _=>∃x T,vs=[x]/\TagOf H x T/\Q (.bl (z0x x 1000000000)) H
theorem zda (T:TX (kx w) mg) (c0:Ca P w mg base "is_within" ["value","greatest"] 2 z5j):Fo P w mg base CX0 3 42 y1l ["value"] z7b:=by
 refine (z5t w.params).ok zd2 (λ a H Q E h=>?_) (λ e A d s H a Q E c h=>?_)
 ·obtain ⟨x,t,rfl,_⟩:=h;rfl
 ·obtain ⟨x,t,rfl,b,q⟩:=h;refine ⟨_,(z04 (ps_ret (pe_cal c0 (c.mono (by decide)) rfl (z00 (pv 0) (z00 (z5r (v:=.int (1000000000)) rfl (T.of (z5y _)) ⟨_,rfl⟩) pa_nil))))),?_⟩;exact ⟨_,rfl,x,t,1000000000,rfl,b,q⟩
def z4g:Sp:=λ vs H Q _=>∃x T m,vs=[x,.int m]/\TagOf H x T/\Q (.bl (match tupOf H x with|some xs=>decide ((xs.length:Int)=m)|none=>false)) H
theorem z7j (T:TX (kx w) mg):Fo P w mg base CX0 1 49 y0m ["value","many"] z4g:=by
 refine (z2i w.params).ok z8q (λ f H Q E h=>?_) (λ l A k s H f Q E j h=>?_)
 ·obtain ⟨x,t,g,rfl,_⟩:=h;rfl
 ·obtain ⟨x,t,g,rfl,c,q⟩:=h;refine ⟨_,(z04 (ps_ret (pe_and (z0c z0q rfl (T.no (z0l _)) F3 (z00 (pv 0) (z00 (z45 (v:=.ty "tuple") rfl (T.no (z2h _)) i4 rfl) pa_nil))) (pe_one (z0r opEq (z0c z12 rfl (T.no (n_len _)) M3 (z00 (pv 0) pa_nil)) (pv 1) (nomark _)))))),?_⟩;refine ⟨_,rfl,_,_,_,rfl,c,by decide,_,rfl,?_⟩;rw [z7t c (by decide)];by_cases h1:t = "tuple"
  ·subst h1;obtain ⟨a,b,rfl,d⟩:=c.tuple;refine iteT ⟨_,rfl,.inl ⟨a,b,rfl,.inr (SqT.of d),_,rfl,rfl,?_⟩⟩;have e:tupOf H (.ref a)=some b:=by unfold tupOf;dsimp only;rw [d]
   rw [e] at q;have i:decide (V.int (b.length:Int)=V.int g)=decide ((b.length:Int)=g):=by simp
   rw [i];exact q
  ·rw [decide_eq_false h1];refine iteF ?_;rw [noTup c h1] at q;exact q
noncomputable def kindB (x:V):Bool:=match x with
 | .str z=>(kl_FIRST_STATES.lookup z).isSome
 | _=>false
def z5p:Sp:=λ vs H Q _=>∃x T,vs=[x]/\TagOf H x T/\Q (.bl (kindB x)) H
theorem zfw (T:TX (kx w) mg):Fo P w mg base CX0 1 183 y1s ["kind"] z5p:=by
 refine (z8a w.params).ok zdk (λ b H Q E h=>?_) (λ e A c s H b Q E d h=>?_)
 ·obtain ⟨x,t,rfl,_⟩:=h;rfl
 ·obtain ⟨x,t,rfl,a,q⟩:=h;refine ⟨_,(z04 (ps_ret (pe_and (z0c z0q rfl (T.no (z0l _)) F3 (z00 (pv 0) (z00 (z45 (v:=.ty "str") rfl (T.no (n_str _)) boot_str rfl) pa_nil))) (pe_one (z0r (zj7 (z3i _)) (pv 0) (z5r (v:=.ref 99) rfl (T.of (z4l _)) rfl) (by with_unfolding_all rfl)))))),?_⟩;refine ⟨_,rfl,_,_,_,rfl,a,by decide,_,rfl,?_⟩;rw [z7t a (by decide)];by_cases h1:t = "str"
  ·subst h1;obtain ⟨z,rfl⟩:=a.str;exact iteT ⟨_,rfl,z,rfl,rfl,q⟩
  ·rw [decide_eq_false h1];refine iteF ?_;cases x with
   | str z=>exact absurd a h1
   | _=>exact q
noncomputable def formOf (k v:Str):Int:=match kl_DOERS.lookup (k,v) with
 | none=>-1
 | some _=>(match kl_WORTHS_OF_VERBS.lookup v with|some (.int i)=>i|_=>-1)
noncomputable def deedB (H:Hp) (k v x:V):Bool:=match k,v with
 | .str a,.str b=>if formOf a b=0 then decide (x=.non) else if formOf a b=1 then z0x x 1000000000 else if formOf a b=2 then
   (match tupOf H x with|some xs=>decide (xs.length=2) && xs.all λ y=>z0x y 1000000000|none=>false) else false
 | _,_=>false
theorem z93 {a b:Str} {v:V} (h:kl_DOERS.lookup (a,b)=some v):(kl_FIRST_STATES.lookup a).isSome=true/\∃i,kl_WORTHS_OF_VERBS.lookup b=some (.int i)/\(i=0\/i=1\/i=2):=by
 have m:=zb8 h;have all :∀p∈kl_DOERS,(kl_FIRST_STATES.lookup p.1.1).isSome=true/\(kl_WORTHS_OF_VERBS.lookup p.1.2=some (.int 0)\/kl_WORTHS_OF_VERBS.lookup p.1.2=some (.int 1)\/kl_WORTHS_OF_VERBS.lookup p.1.2=some (.int 2)):=by decide +kernel
 obtain ⟨d,c⟩:=all _ m;refine ⟨d,?_⟩;rcases c with c|c|c
 ·exact ⟨0,c,.inl rfl⟩
 ·exact ⟨1,c,.inr (.inl rfl)⟩
 ·exact ⟨2,c,.inr (.inr rfl)⟩
def z9i:Sp:=λ vs H Q _=>∃k v x Tk Tv Tx,vs=[k,v,x]/\TagOf H k Tk/\TagOf H v Tv/\TagOf H x Tx/\Flat H x/\∀H',Same H H'->Q (.bl (deedB H k v x)) H'
theorem zfs (T:TX (kx w) mg) (c0:Ca P w mg base "is_kind" ["kind"] 1 z5p) (c1:Ca P w mg base "is_worth" ["value"] 3 z7b) (c2:Ca P w mg base "is_tuple_of" ["value","many"] 1 z4g):Fo P w mg base CX0 4 195 y1t ["kind","verb","worth"] z9i:=by
 refine (z8l w.params).ok sc_is_deed (λ Y H Q E h=>?_) (λ a3 A a2 s H Y Q E n h=>?_)
 ·obtain ⟨k,v,x,I,L,B,rfl,_⟩:=h;rfl
 ·obtain ⟨k,v,x,I,L,B,rfl,Z,o,t,hf,q⟩:=h;refine ⟨_,(z02 (ps_if (PW.pt (pw_or (pt_not (pt_val (pe_cal c0 (n.mono (by decide)) rfl (z00 (pv 0) pa_nil)) (λ _=>rfl))) (pw_or (pt_not (pt_val (z0c z0q rfl (T.no (z0l _)) F3 (z00 (pv 1) (z00 (z45 (v:=.ty "str") rfl (T.no (n_str _)) boot_str rfl) pa_nil))) (λ _=>rfl))) (pw_or1 (z08 (zba (hu_of n) (zei _)) (pe_tup (z00 (pv 0) (z00 (pv 1) pa_nil))) (z5r (v:=.ref 164) rfl (T.of (zhy _)) rfl) (by with_unfolding_all rfl))))))
   (z04 (ps_ret pe_bl))
   z0d)
   (z02 (ps_set (i:=3) sc_is_deed.nd rfl (V0 rfl) (pe_ix (ix_kd (z4q _)) (z5r (v:=.ref 102) rfl (T.of (z5b _)) rfl) (pv 1) (λ _ _=>rfl)))
   (z02 (ps_if (z08 opEq (pv 3) pe_int (nomark _))
   (z04 (ps_ret (z0r op_isN (pv 2) pe_non (nomark _))))
   z0d)
   (z02 (ps_if (z08 opEq (pv 3) pe_int (nomark _))
   (z04 (ps_ret (pe_cal c1 (n.mono (by decide)) rfl (z00 (pv 2) pa_nil))))
   z0d)
   (z04 (ps_ret (pe_and (pe_cal c2 (n.mono (by decide)) rfl (z00 (pv 2) (z00 (pv 3) pa_nil))) (pe_one (z0c (zcd rfl) rfl (T.no (n_all _)) boot_all (z00 (pe_cg (xs:=["part"]) (g:=gName 0) (fr:=[]) (pi_tup (pv 2)) (λ _ _ _ _ _=>(pg_cn (N:=["part"]) 0)) (λ _ _ _ _ _=>pf_nil) (λ _ _ _ _ _=>(pe_cal c1 (n.mono (by decide)) rfl (z00 (pv 0) pa_nil)))) pa_nil)))))))))),?_⟩
  refine ⟨_,rfl,k,I,rfl,Z,_,rfl,?_⟩;have M:deedB H k v x=false->Q (.bl false) H:=λ e=>by have:=q H (Same.refl H);rw [e] at this;exact this
  by_cases j :∃a,k=.str a/\(kl_FIRST_STATES.lookup a).isSome=true
  ·obtain ⟨a,rfl,j⟩:=j;have a0:kindB (.str a)=true:=j;rw [a0];refine iteF ?_;refine ⟨_,rfl,_,_,_,rfl,o,by decide,_,rfl,?_⟩;rw [z7t o (by decide)];by_cases r:L = "str"
   ·subst r;obtain ⟨b,rfl⟩:=o.str;refine iteF ?_;refine ⟨_,rfl,_,rfl,?_⟩;refine ⟨w_2,λ p X=>⟨p,a,b,rfl,upd_same,rfl,_,rfl,?_⟩⟩;have d:Same H (upd H p (.tup [.str a,.str b])):=Same.upd X;cases h3:kl_DOERS.lookup (a,b) with
    | none=>
     refine iteT ?_;have:=q _ d;have e:deedB H (.str a) (.str b) x=false:=by unfold deedB formOf;dsimp only;rw [h3];rfl
     rw [e] at this;exact this
    | some z=>
     refine iteF ?_;obtain ⟨_,i,J,h5⟩:=z93 h3;have u:formOf a b=i:=by unfold formOf;rw [h3];dsimp only;rw [J]
     refine ⟨_,rfl,b,.int i,rfl,rfl,J,?_⟩;refine ⟨_,rfl,rfl,_,rfl,?_⟩;rcases h5 with rfl|rfl|rfl
     ·refine iteT ⟨_,rfl,rfl,?_⟩;have:=q _ d;have e:deedB H (.str a) (.str b) x=decide (x=.non):=by unfold deedB;dsimp only;rw [u];rfl
      rw [e] at this;exact this
     ·refine iteF ⟨_,rfl,rfl,_,rfl,?_⟩;refine iteT ⟨_,rfl,x,B,rfl,t.same d,?_⟩;have:=q _ d;have e:deedB H (.str a) (.str b) x=z0x x 1000000000:=by unfold deedB;dsimp only;rw [u];rfl
      rw [e] at this;exact this
     ·refine iteF ⟨_,rfl,rfl,_,rfl,?_⟩;refine iteF ⟨_,rfl,_,rfl,x,B,2,rfl,t.same d,_,rfl,?_⟩;rw [zeh t d];have e:deedB H (.str a) (.str b) x=(match tupOf H x with|some xs=>decide (xs.length=2) && xs.all λ y=>z0x y 1000000000|none=>false):=by unfold deedB;dsimp only;rw [u];rfl
      rw [e] at q;cases ht:tupOf H x with
      | none=>rw [ht] at q;exact iteF (q _ d)
      | some xs=>
       rw [ht] at q;dsimp only at q⊢;by_cases m:xs.length=2
       ·have C:((xs.length:Nat):Int)=2:=by omega
        rw [if_pos (decide_eq_true C)];rw [decide_eq_true m,C8] at q;obtain ⟨c,rfl,hc⟩:=zdh ht;have a1:xs.length<=sizeLine:=by rw [m];decide
        refine e_cb1 ?_;refine z3b (K:=KX w.params) (a:=c) (xs:=xs) (H1:=upd H p (.tup [.str a,.str b])) (λ _=>true) (λ i y _=>y=.bl (z0x (xs[i]?.getD .non) 1000000000)) (λ _ _ _ _ _ z=>z) (λ R h=>⟨_,rfl,h⟩) (SqT.of (d _ _ hc)) a1 ?_ ?_
        ·intro i G F H' D O KT KF k1 k2;obtain ⟨Ty,ty⟩:=(hf xs ht).2 F (Q0 O);refine ⟨[some F],rfl,rfl,iteT ?_⟩;exact ⟨_,rfl,F,Ty,rfl,(ty.same d).same D,k1 rfl _ _ (Same.refl _) (by rw [O];rfl)⟩
        ·intro l H' ys D m S;rw [List.filter_eq_self.mpr (λ _ _=>rfl)] at S;have ey:ys=xs.map λ y=>V.bl (z0x y 1000000000):=by
          rw [z50 (f:=λ i=>V.bl (z0x (xs[i]?.getD .non) 1000000000)) S];apply W6
          ·simp
          ·intro i j r;have G:i < xs.length:=by simpa using j
           simp [K0 G]
         subst ey;refine ⟨l,_,rfl,SqL.of upd_same,λ y W=>?_,?_⟩
         ·obtain ⟨z,_,rfl⟩:=List.mem_map.mp W;exact ⟨_,rfl⟩
         ·have e9:((xs.map λ y=>V.bl (z0x y 1000000000)).all λ y=>decide (y=V.bl true))=xs.all λ y=>z0x y 1000000000:=by rw [List.all_map];congr 1;funext y;simp
          rw [e9];exact q _ ((d.trans D).trans (Same.upd m))
       ·have C:¬ ((xs.length:Nat):Int)=2:=by omega
        rw [if_neg (by rw [decide_eq_false C];exact M0)];rw [decide_eq_false m,W7] at q;exact q _ d
   ·rw [decide_eq_false r];refine iteT ?_;exact M (by unfold deedB;cases v with|str z=>exact absurd o r|_=>rfl)
  ·have U:kindB k=false:=by
    cases k with
    | str z=>exact Bool.eq_false_iff.mpr λ e=>j ⟨z,rfl,e⟩
    | _=>rfl
   rw [U];refine iteT ?_;refine M ?_;cases k with
   | str a=>
    cases v with
    | str b=>
     unfold deedB formOf;dsimp only;cases h3:kl_DOERS.lookup (a,b) with
     | none=>rfl
     | some z=>exact absurd ⟨a,rfl,(z93 h3).1⟩ j
    | _=>rfl
   | _=>rfl
theorem deedB0 {H:Hp} {a b:Str} {x:V} (h:formOf a b=0):deedB H (.str a) (.str b) x=decide (x=.non):=by unfold deedB;dsimp only;rw [h];rfl
theorem deedB1 {H:Hp} {a b:Str} {x:V} (h:formOf a b=1):deedB H (.str a) (.str b) x=z0x x 1000000000:=by unfold deedB;dsimp only;rw [h];rfl
theorem deedB2 {H:Hp} {a b:Str} {x:V} {xs:List V} (h:formOf a b=2) (e:tupOf H x=some xs):deedB H (.str a) (.str b) x=(decide (xs.length=2) && xs.all λ y=>z0x y 1000000000):=by unfold deedB;dsimp only;rw [h,e];rfl
def z2w:Sp:=λ vs H Q _=>∃st x,vs=[st,x]/\∀p,H p=none->Q (.ref p) (upd H p (.tup [st,st]))
theorem za2 (T:TX (kx w) mg):Fo P w mg base CX0 1 109 y0s ["state","worth"] z2w:=by
 refine (z3x w.params).ok za7 (λ a H Q E h=>?_) (λ e A c s H a Q E d h=>?_)
 ·obtain ⟨b,x,rfl,_⟩:=h;rfl
 ·obtain ⟨b,x,rfl,q⟩:=h;refine ⟨_,(z04 (ps_ret (pe_tup (z00 (pv 0) (z00 (pv 0) pa_nil))))),?_⟩;exact ⟨_,rfl,_,rfl,w_2,q⟩
def z28:Sp:=λ vs H Q _=>∃st x,vs=[st,x]/\∀p,H p=none->Q (.ref p) (upd H p (.tup [x,.str "ok"]))
theorem z7p (T:TX (kx w) mg):Fo P w mg base CX0 1 116 y0n ["state","worth"] z28:=by
 refine (z32 w.params).ok z8f (λ a H Q E h=>?_) (λ e A c s H a Q E d h=>?_)
 ·obtain ⟨b,x,rfl,_⟩:=h;rfl
 ·obtain ⟨b,x,rfl,q⟩:=h;refine ⟨_,(z04 (ps_ret (pe_tup (z00 (pv 1) (z00 pe_str pa_nil))))),?_⟩;exact ⟨_,rfl,w_2,q⟩
def z1j:Sp:=λ vs H Q _=>∃i j:Int,vs=[.int i,.int j]/\∀p,H p=none->Q (.ref p) (upd H p (.tup [.int (i + j),.int i]))
theorem z69 (T:TX (kx w) mg):Fo P w mg base CX0 1 123 y08 ["state","worth"] z1j:=by
 refine (z1v w.params).ok z6c (λ a H Q E h=>?_) (λ e A b s H a Q E d h=>?_)
 ·obtain ⟨c,x,rfl,_⟩:=h;rfl
 ·obtain ⟨i,j,rfl,q⟩:=h;refine ⟨_,(z04 (ps_ret (pe_tup (z00 (pe_op opAdd (pv 0) (pv 1)) (z00 (pv 0) pa_nil))))),?_⟩;exact ⟨_,rfl,_,rfl,.inl ⟨_,_,rfl,rfl,_,rfl,w_2,q⟩⟩
def z2u (K:b0):Sp:=λ vs H Q _=>∃(i a b:Int) (t:Addr),vs=[.int i,.ref t]/\SqT K H t [.int a,.int b]/\∀p,H p=none->Q (.ref p) (upd H p (.tup (if i=a then [.int b,.int 1] else [.int i,.int 0])))
theorem z9b (T:TX (kx w) mg):Fo P w mg base CX0 1 163 y0w ["state","worth"] (z2u (kx w)):=by
 refine (z3r w.params).ok z9e (λ d H Q E h=>?_) (λ j A f s H d Q E g h=>?_)
 ·obtain ⟨i,a,b,t,rfl,_⟩:=h;rfl
 ·obtain ⟨i,a,b,t,rfl,c,q⟩:=h;refine ⟨_,(z02 (ps_if (z08 opEq (pv 0) (pe_ix ix_seq (pv 1) pe_int (λ _ _=>rfl)) (nomark _))
   (z04 (ps_ret (pe_tup (z00 (pe_ix ix_seq (pv 1) pe_int (λ _ _=>rfl)) (z00 pe_int pa_nil)))))
   z0d)
   (z04 (ps_ret (pe_tup (z00 (pv 0) (z00 pe_int pa_nil)))))),?_⟩
  refine ⟨_,rfl,_,rfl,.inr (.inl ⟨t,_,0,.int a,rfl,rfl,c,rfl,rfl,_,rfl,?_⟩)⟩;by_cases e:i=a
  ·subst e;rw [decide_eq_true rfl];simp only [if_true] at q;exact iteT ⟨_,rfl,.inr (.inl ⟨t,_,1,.int b,rfl,rfl,c,rfl,w_2,q⟩)⟩
  ·rw [decide_eq_false (λ z=>e (by cases z;rfl))];simp only [if_neg e] at q;exact iteF ⟨_,rfl,w_2,q⟩
def z2j (K:b0):Sp:=λ vs H Q _=>∃(t:Addr) (ns:List V) (x:V),vs=[.ref t,x]/\SqT K H t ns/\ns.length < 1000/\∀p p' H',Same H H'->H' p=some (.tup [.ref p',.str "ok"])->SqT K H' p' (ns++[x])->Q (.ref p) H'
theorem z90 (T:TX (kx w) mg):Fo P w mg base CX0 1 130 y0t ["state","worth"] (z2j (kx w)):=by
 refine (z3q w.params).ok z8t (λ j H Q E h=>?_) (λ u A r s H j Q E p h=>?_)
 ·obtain ⟨t,c,x,rfl,_⟩:=h;rfl
 ·obtain ⟨t,c,x,rfl,i,f,q⟩:=h;refine ⟨_,(z04 (ps_ret (pe_tup (z00 (pe_op op_catS (pv 0) (pe_tup (z00 (pv 1) pa_nil))) (z00 pe_str pa_nil))))),?_⟩;refine ⟨_,rfl,_,rfl,w_1,λ m d=>?_⟩;have b:=Same.upd (o:=.tup [x]) d;refine ⟨t,m,c,[x],rfl,rfl,b.seqT i,SqT.of upd_same,by simp,C0 (Nat.add_le_add_right (G3 f) _) (show 1000 + 1<=sizeLine by decide),λ g n k e=>?_⟩;refine ⟨w_2,λ l a=>?_⟩;exact q l g _ ((b.trans k).trans (Same.upd a)) upd_same ((Same.upd a).seqT e)
def z33 (K:b0):Sp:=λ vs H Q _=>∃(t:Addr) (ns:List V) (x:V),vs=[.ref t,x]/\SqT K H t ns/\
 (ns=[]->∀p H',Same H H'->H' p=some (.tup [.ref t,.str "none"])->Q (.ref p) H')/\(∀n r,ns=n :: r->∀p p' H',Same H H'->H' p=some (.tup [.ref p',n])->SqT K H' p' r->Q (.ref p) H')
theorem z9n (T:TX (kx w) mg):Fo P w mg base CX0 1 137 y0u ["state","worth"] (z33 (kx w)):=by
 refine (z3y w.params).ok za6 (λ k H Q E h=>?_) (λ y A v s H k Q E u h=>?_)
 ·obtain ⟨t,b,x,rfl,_⟩:=h;rfl
 ·obtain ⟨t,b,x,rfl,a,q,l⟩:=h;refine ⟨_,(z02 (ps_if (z08 opEq (z0c z12 rfl (T.no (n_len _)) M3 (z00 (pv 0) pa_nil)) pe_int (nomark _))
   (z04 (ps_ret (pe_tup (z00 (pv 0) (z00 pe_str pa_nil)))))
   z0d)
   (z04 (ps_ret (pe_tup (z00 (z1g slSeq (pv 0) (z1k pe_int) z2p) (z00 (pe_ix ix_seq (pv 0) pe_int (λ _ _=>rfl)) pa_nil)))))),?_⟩
  refine ⟨_,rfl,.inl ⟨t,b,rfl,.inr a,rfl,_,rfl,?_⟩⟩;cases b with
  | nil=>exact iteT ⟨_,rfl,w_2,λ p g=>q rfl p _ (Same.upd g) upd_same⟩
  | cons n r=>
   rw [decide_eq_false (show ¬ V.int (((n :: r).length:Nat):Int)=V.int 0 from λ z=>by injection z with z;rw [W0] at z;omega)];refine iteF ⟨_,rfl,_,rfl,.inr (.inl ⟨t,_,rfl,a,?_,λ m e=>?_⟩)⟩
   ·intro z;have:HT.sIx (n :: r).length 0 (some 1)=1:=by rw [W0];simp [HT.sIx]
    omega
   ·have c:=Same.upd (o:=.tup (cutV (n :: r) (some 1) none)) e;have f:cutV (n :: r) (some 1) none=r:=by unfold cutV;simp [HT.sIx]
    refine ⟨_,rfl,.inr (.inl ⟨t,_,0,n,rfl,rfl,c.seqT a,z05 (j:=0) rfl,w_2,λ i d=>?_⟩)⟩;refine l n r rfl i m _ (c.trans (Same.upd d)) upd_same ((Same.upd d).seqT (SqT.of ?_));rw [upd_same,f]
theorem dec_i0 (i j:Int):decide (V.int i=V.int j)=decide (i=j):=by simp
theorem zbw {q:Int->Bool} :∀(ns:List Int) (ys:List V),All2 (λ (i:Nat) y=>ns[i]?.map V.int=some y) ((N1 ns.length).filter λ i=>(ns[i]?.map q).getD false) ys->ys=(ns.filter q).map V.int
 | [],ys,h=>by cases h;rfl
 | n :: ns,ys,h=>by
  have un :∀{is:List Nat} {ys:List V},All2 (λ (i:Nat) y=>(n :: ns)[i]?.map V.int=some y) (is.map Nat.succ) ys->All2 (λ (i:Nat) y=>ns[i]?.map V.int=some y) is ys:=λ {is}=>by
   induction is with
   | nil=>intro ys h;cases h;exact .nil
   | cons i is ih=>intro ys h;cases h with|cons a r=>exact .cons a (ih r)
  rw [W0,List.range_succ_eq_map,d4,List.filter_map] at h;rw [d4];by_cases z:q n=true
  ·rw [if_pos (show (o9 q (n :: ns)[0]?).getD false=true from z)] at h;rw [if_pos z,Y0];cases h with
   | cons a r=>rw [<-zbw ns _ (un r),<-Q1 a]
  ·rw [if_neg (show ¬ (o9 q (n :: ns)[0]?).getD false=true from z)] at h;rw [if_neg z];exact zbw ns _ (un h)
def z1q (K:b0):Sp:=λ vs H Q _=>∃(t:Addr) (ns:List Int) (i:Int),vs=[.ref t,.int i]/\SqT K H t (ns.map V.int)/\ns.length < 63/\
 (i∈ns->∀p H',Same H H'->H' p=some (.tup [.ref t,.int 0])->Q (.ref p) H')/\(i∉ns->∀(p p':Addr) (ns':List Int) (H':Hp),Same H H'->H' p=some (.tup [.ref p',.int 1])->SqT K H' p' (ns'.map V.int)->ns'.Perm (ns++[i])->ns'.Pairwise (·<=·)->Q (.ref p) H')
theorem z6p (T:TX (kx w) mg):Fo P w mg base CX0 1 144 y0d ["state","worth"] (z1q (kx w)):=by
 refine (z26 w.params).ok z71 (λ r H Q E h=>?_) (λ K A J s H r Q E I h=>?_)
 ·obtain ⟨t,a,i,rfl,_⟩:=h;rfl
 ·obtain ⟨t,a,i,rfl,e,d,D,B⟩:=h;refine ⟨_,(z02 (ps_if (z08 z1l (pv 1) (pv 0) (by with_unfolding_all rfl))
   (z04 (ps_ret (pe_tup (z00 (pv 0) (z00 pe_int pa_nil)))))
   z0d)
   (z04 (ps_ret (pe_tup (z00 (z0p z0j rfl (T.no (z2h _)) i4 (z00 (z0c z29 rfl (T.no (z67 _)) M8 (z00 (pe_op op_catS (pv 0) (pe_tup (z00 (pv 1) pa_nil))) pa_nil)) pa_nil)) (z00 pe_int pa_nil)))))),?_⟩
  refine ⟨_,rfl,_,rfl,t,_,rfl,.inr e,rfl,z3a a,_,rfl,?_⟩;rw [if_neg M0,z51];by_cases hi:i∈a
  ·rw [decide_eq_true hi];exact iteT ⟨_,rfl,w_2,λ p m=>D hi p _ (Same.upd m) upd_same⟩
  ·rw [decide_eq_false hi];refine iteF ⟨_,rfl,_,rfl,w_1,λ C j=>?_⟩;have g:=Same.upd (o:=.tup [.int i]) j;refine ⟨t,C,a.map V.int,[.int i],rfl,rfl,g.seqT e,SqT.of upd_same,by simp,?_,λ q G y b=>?_⟩
   ·rw [F0];exact C0 (Nat.succ_le_of_lt (Y1 d)) (by decide)
   rw [show a.map V.int++[V.int i]=(a++[i]).map V.int by rw [E1];rfl] at b;refine ⟨q,a++[i],rfl,.inr b,by rw [G0];exact Nat.succ_lt_succ d,λ l f x u F=>?_⟩;have n:=Same.upd (o:=.lst (f.map V.int)) x;refine ⟨l,_,rfl,.inl ⟨SqL.of upd_same,λ v k=>⟨w_2,λ z c=>?_⟩⟩⟩;exact B hi z v f _ ((((g.trans y).trans n).trans (Same.upd k)).trans (Same.upd c)) upd_same (SqT.of ((Same.upd c) _ _ upd_same)) u F
def z1r (K:b0):Sp:=λ vs H Q _=>∃(t:Addr) (ns:List Int) (i:Int),vs=[.ref t,.int i]/\SqT K H t (ns.map V.int)/\ns.length < 64/\
 (i∉ns->∀p H',Same H H'->H' p=some (.tup [.ref t,.int 0])->Q (.ref p) H')/\(i∈ns->∀p p' H',Same H H'->H' p=some (.tup [.ref p',.int 1])->SqT K H' p' ((ns.filter λ j=>!decide (j=i)).map V.int)->Q (.ref p) H')
theorem z70 (T:TX (kx w) mg):Fo P w mg base CX0 1 149 y0e ["state","worth"] (z1r (kx w)):=by
 refine (z2a w.params).ok z6w (λ C H Q E h=>?_) (λ Z A Y s H C Q E W h=>?_)
 ·obtain ⟨t,b,i,rfl,_⟩:=h;rfl
 ·obtain ⟨t,b,i,rfl,d,x,S,M⟩:=h;refine ⟨_,(z02 (ps_if (z08 z15 (pv 1) (pv 0) (by with_unfolding_all rfl))
   (z04 (ps_ret (pe_tup (z00 (pv 0) (z00 pe_int pa_nil)))))
   z0d)
   (z04 (ps_ret (pe_tup (z00 (z0p z0j rfl (T.no (z2h _)) i4 (z00 (pe_cg (xs:=["held"]) (g:=gName 0) (fr:=[(1,"worth")]) (pi_tup (pv 0)) (λ _ _ _ _ _=>(pg_cn (N:=["held","worth"]) 0)) (λ _ _ _ _ _=>(pf_one (z08 opNe (pv 0) (pv 1) (nomark _)))) (λ _ _ _ _ _=>(pv 0))) pa_nil)) (z00 pe_int pa_nil)))))),?_⟩
  refine ⟨_,rfl,_,rfl,t,_,rfl,.inr d,rfl,z3a b,_,rfl,?_⟩;rw [if_pos rfl,z51];by_cases hi:i∈b
  ·rw [decide_eq_true hi];refine iteF ?_;have I:(b.map V.int).length<=sizeLine:=by rw [F0];exact C0 (G3 x) (by decide)
   refine t_next ?_;simp only [tRet,tTup,tCB,tCons,tNil];refine z3b (K:=KX w.params) (a:=t) (xs:=b.map V.int) (H1:=H) (λ j=>(b[j]?.map λ n=>!decide (n=i)).getD false) (λ j y _=>b[j]?.map V.int=some y) (λ _ _ _ _ _ z=>z) (λ R h=>⟨_,rfl,h⟩) d I (λ j X v O e c KT U f m=>?_) λ l O G e J k=>?_
   ·rw [A1] at c;obtain ⟨n,F,rfl⟩:=Option.map_eq_some_iff.mp c;rw [F] at f m;refine ⟨[some (.int n)],rfl,rfl,_,rfl,_,rfl,rfl,_,rfl,?_⟩;rw [dec_i0];exact ite2 (λ z=>⟨_,rfl,f z _ _ (Same.refl _) rfl⟩) λ z=>m (Bool.eq_false_iff.mpr z) _ (Same.refl _)
   ·rw [F0] at k;rw [zbw b G k];have B:=Same.upd (o:=.lst ((b.filter λ j=>!decide (j=i)).map V.int)) J;refine ⟨l,_,rfl,.inl ⟨SqL.of upd_same,λ D r=>⟨w_2,λ L q=>?_⟩⟩⟩;exact M hi L D _ (((e.trans B).trans (Same.upd r)).trans (Same.upd q)) upd_same (SqT.of ((Same.upd q) _ _ upd_same))
  ·rw [decide_eq_false hi];exact iteT ⟨_,rfl,w_2,λ p u=>S hi p _ (Same.upd u) upd_same⟩
def z30 (K:b0):Sp:=λ vs H Q _=>∃(t:Addr) (ns:List Int) (i:Int),vs=[.ref t,.int i]/\SqT K H t (ns.map V.int)/\∀p H',Same H H'->H' p=some (.tup [.ref t,.int (if i∈ns then 1 else 0)])->Q (.ref p) H'
theorem z91 (T:TX (kx w) mg):Fo P w mg base CX0 1 156 y0v ["state","worth"] (z30 (kx w)):=by
 refine (z3m w.params).ok z9r (λ d H Q E h=>?_) (λ g A e s H d Q E f h=>?_)
 ·obtain ⟨t,b,i,rfl,_⟩:=h;rfl
 ·obtain ⟨t,b,i,rfl,c,q⟩:=h;refine ⟨_,(z04 (ps_ret (pe_tup (z00 (pv 0) (z00 (zii (z08 z1l (pv 1) (pv 0) (by with_unfolding_all rfl)) pe_int pe_int) pa_nil))))),?_⟩;refine ⟨_,rfl,_,rfl,_,rfl,t,_,rfl,.inr c,rfl,z3a b,_,rfl,?_⟩;rw [if_neg M0,z51];by_cases hi:i∈b
  ·rw [if_pos hi] at q;rw [decide_eq_true hi];exact iteT ⟨w_2,λ p a=>q p _ (Same.upd a) upd_same⟩
  ·rw [if_neg hi] at q;rw [decide_eq_false hi];exact iteF ⟨w_2,λ p a=>q p _ (Same.upd a) upd_same⟩
def doTb (K:b0) (f:Addr) (sp:Sp):Prop:=(f=109/\sp=z2w)\/(f=116/\sp=z28)\/(f=123/\sp=z1j)\/(f=130/\sp=z2j K)\/(f=137/\sp=z33 K)\/(f=144/\sp=z1q K)\/(f=149/\sp=z1r K)\/(f=156/\sp=z30 K)\/(f=163/\sp=z2u K)
theorem cal_fn {x:Str} {ps:List Str} {k f:Nat} {sp:Sp} {K:b0} (c:Cal P w K mg base x ps k sp) (e:mg x=some (.ref f)) :∃fd ps,FnOk P w K mg base CX0 k f fd ps sp/\V2 K (.ref f)=true/\Binds K fd ps []:=by obtain ⟨h,fd,g,a,d,b⟩:=c.ex;rw [e] at a;cases a;exact ⟨fd,ps,g,d,b⟩
def sp_do (K:b0):Sp:=λ vs H Q _=>∃(k v:Str) (st x:V) (f:Addr) (sp:Sp) (Tx:String),vs=[.str k,st,.str v,x]/\TagOf H x Tx/\Flat H x/\deedB H (.str k) (.str v) x=true/\kl_DOERS.lookup (k,v)=some (.ref f)/\doTb K f sp/\∀H',Same H H'->sp [st,x] H' Q E0
theorem ok_do (T:TX (kx w) mg) (c0:Ca P w mg base "is_deed" ["kind","verb","worth"] 4 z9i) (c1:Ca P w mg base "read_state" ["state","worth"] 1 z2w) (c2:Ca P w mg base "write_state" ["state","worth"] 1 z28) (c3:Ca P w mg base "add_to_number" ["state","worth"] 1 z1j) (c4:Ca P w mg base "put_behind" ["state","worth"] 1 (z2j (kx w))) (c5:Ca P w mg base "take_first" ["state","worth"] 1 (z33 (kx w))) (c6:Ca P w mg base "put_into_set" ["state","worth"] 1 (z1q (kx w))) (c7:Ca P w mg base "cut_from_set" ["state","worth"] 1 (z1r (kx w))) (c8:Ca P w mg base "has_in_set" ["state","worth"] 1 (z30 (kx w))) (c9:Ca P w mg base "swap_state" ["state","worth"] 1 (z2u (kx w))):Fo P w mg base CX0 5 202 y2r ["kind","state","verb","worth"] (sp_do (kx w)):=by
 refine (F_do w.params).ok sc_do (λ r H Q E h=>?_) (λ y A F s H r Q E g h=>?_)
 ·obtain ⟨k,v,m,x,f,j,l,rfl,_⟩:=h;rfl
 ·obtain ⟨k,v,m,x,f,j,l,rfl,D,B,u,o,C,q⟩:=h;have G :∀f j,doTb (kx w) f j->∃k b a,Fo P w mg base CX0 k f b a j/\Room k (A.deeper (Y7 "do" (z06 y2q) s.heap.objs.size 202 y))/\V2 (kx w) (.ref f)=true/\Binds (kx w) b a []:=λ f j z=>by
   rcases z with ⟨rfl,rfl⟩|⟨rfl,rfl⟩|⟨rfl,rfl⟩|⟨rfl,rfl⟩|⟨rfl,rfl⟩|⟨rfl,rfl⟩|⟨rfl,rfl⟩|⟨rfl,rfl⟩|⟨rfl,rfl⟩
   ·obtain ⟨b,a,e,c,d⟩:=cal_fn c1 (T.of (z5z _));exact ⟨1,b,a,e,g.mono (by decide),c,d⟩
   ·obtain ⟨b,a,e,c,d⟩:=cal_fn c2 (T.of (z56 _));exact ⟨1,b,a,e,g.mono (by decide),c,d⟩
   ·obtain ⟨b,a,e,c,d⟩:=cal_fn c3 (T.of (z3l _));exact ⟨1,b,a,e,g.mono (by decide),c,d⟩
   ·obtain ⟨b,a,e,c,d⟩:=cal_fn c4 (T.of (z5n _));exact ⟨1,b,a,e,g.mono (by decide),c,d⟩
   ·obtain ⟨b,a,e,c,d⟩:=cal_fn c5 (T.of (z5u _));exact ⟨1,b,a,e,g.mono (by decide),c,d⟩
   ·obtain ⟨b,a,e,c,d⟩:=cal_fn c6 (T.of (z4e _));exact ⟨1,b,a,e,g.mono (by decide),c,d⟩
   ·obtain ⟨b,a,e,c,d⟩:=cal_fn c7 (T.of (z4m _));exact ⟨1,b,a,e,g.mono (by decide),c,d⟩
   ·obtain ⟨b,a,e,c,d⟩:=cal_fn c8 (T.of (z66 _));exact ⟨1,b,a,e,g.mono (by decide),c,d⟩
   ·obtain ⟨b,a,e,c,d⟩:=cal_fn c9 (T.of (z62 _));exact ⟨1,b,a,e,g.mono (by decide),c,d⟩
  refine ⟨_,(z02 (ps_if (pt_not (pt_val (pe_cal c0 (g.mono (by decide)) rfl (z00 (pv 0) (z00 (pv 2) (z00 (pv 3) pa_nil)))) (λ _=>rfl)))
   (z04 z7r)
   z0d)
   (z02 (ps_set (i:=4) sc_do.nd rfl (V0 rfl) (pe_ix (ix_kdt (hu_of g) (zei _)) (z5r (v:=.ref 164) rfl (T.of (zhy _)) rfl) (pe_tup (z00 (pv 0) (z00 (pv 2) pa_nil))) (λ _ _=>rfl)))
   (z04 (ps_ret (zka (doTb (kx w)) (i:=4) rfl (by first|exact V0 rfl|exact U0 (V0 rfl)) G (z00 (pv 1) (z00 (pv 3) pa_nil))))))),?_⟩
  refine ⟨_,rfl,_,rfl,_,rfl,.str k,.str v,x,"str","str",l,rfl,rfl,rfl,D,B,λ I t=>⟨_,rfl,?_⟩⟩;rw [u];refine iteF ?_;refine ⟨_,rfl,_,rfl,w_2,λ p n=>⟨p,k,v,.ref f,rfl,rfl,upd_same,o,?_⟩⟩;exact ⟨f,j,rfl,C,_,rfl,_,rfl,q _ (t.trans (Same.upd n))⟩
def z41:Sp:=λ vs H Q _=>∃(k:Str) (v:V),vs=[.str k]/\kl_FIRST_STATES.lookup k=some v/\Q v H
theorem z8g (T:TX (kx w) mg) (c0:Ca P w mg base "is_kind" ["kind"] 1 z5p):Fo P w mg base CX0 2 190 y0o ["kind"] z41:=by
 refine (z2l w.params).ok z8o (λ b H Q E h=>?_) (λ f A d s H b Q E c h=>?_)
 ·obtain ⟨k,v,rfl,_⟩:=h;rfl
 ·obtain ⟨k,v,rfl,a,q⟩:=h;refine ⟨_,(z02 (ps_if (pt_not (pt_val (pe_cal c0 (c.mono (by decide)) rfl (z00 (pv 0) pa_nil)) (λ _=>rfl)))
   (z04 z7r)
   z0d)
   (z04 (ps_ret (pe_ix (ix_kd (z3i _)) (z5r (v:=.ref 99) rfl (T.of (z4l _)) rfl) (pv 0) (λ _ _=>rfl))))),?_⟩
  refine ⟨_,rfl,.str k,"str",rfl,rfl,_,rfl,?_⟩;have e:kindB (.str k)=true:=by unfold kindB;dsimp only;rw [a];rfl
  rw [e];exact iteF ⟨_,rfl,k,v,rfl,rfl,a,q⟩
inductive Ev
 | beg (h:Int) (n v x:V)
 | fin (h:Int) (a:V)
noncomputable def EvAt (K:b0) (H:Hp):Ev->V->Prop
 | .beg h n v x,y=>∃p,y=.ref p/\SqT K H p [.str "begin",.int h,n,v,x]
 | .fin h a,y=>∃p,y=.ref p/\SqT K H p [.str "end",.int h,a]
structure Rc where
 h:Int
 n:V
 v:V
 x:V
 a:V
 b:Nat
 e:Option Nat
noncomputable def endV:Option Nat->V
 | none=>.non
 | some i=>.int i
def RcAt (K:b0) (H:Hp) (r:Rc) (y:V):Prop:=∃p,y=.ref p/\SqT K H p [.int r.h,r.n,r.v,r.x,r.a,.int r.b,endV r.e]
def Tups (K:b0) (H H':Hp):Prop:=∀a xs,SqT K H a xs->SqT K H' a xs
theorem Tups.of {K:b0} {H H':Hp} (s:Same H H'):Tups K H H':=λ _ _ q=>s.seqT q
theorem Tups.trans {K:b0} {H H1 H2:Hp} (a:Tups K H H1) (b:Tups K H1 H2):Tups K H H2:=λ _ _ q=>b _ _ (a _ _ q)
theorem Tups.lst {K:b0} {H:Hp} {l:Addr} {o:HO} {zs:List V} (e:H l=some (.lst zs)):Tups K H (upd H l o):=λ _ _ q=>q.wrote e
theorem Tups.dict {K:b0} {H:Hp} {l:Addr} {o:HO} {kvs:List (Key×V)} (e:H l=some (.dK kvs)):Tups K H (upd H l o):=λ a b h=>by
 rcases h with (h|⟨ob,h⟩)|h
 ·exact .inl (.inl (by rw [upd_ne (ne_of h e (by intro z;cases z))];exact h))
 ·exact .inl (.inr ⟨ob,by rw [upd_ne (ne_of h e (by intro z;cases z))];exact h⟩)
 ·exact .inr h
theorem zk5 {n j:Nat} (h:j < n):ixN n (j:Nat)=some j:=by unfold ixN;rw [if_pos (by omega),if_pos (by omega)];rfl
theorem Same.keep {H H':Hp} {l:Addr} {o:HO} (s:Same H H') (n:H l=none):Same H (upd H' l o):=λ a x e=>by rw [upd_ne (z07 e n)];exact s a x e
theorem z0v {α β:Type} {R:α->β->Prop} {x:α} {y:β} :∀{xs:List α} {ys:List β},All2 R xs ys->R x y->All2 R (xs++[x]) (ys++[y])
 | _,_,.nil,h=>.cons h .nil
 | _,_,.cons a r,h=>.cons a (z0v r h)
theorem ze7 {κ:Type} [DecidableEq κ] {kvs:List (κ×V)} {k:κ} {v:V}:(putK kvs k v).length<=kvs.length + 1:=by
 unfold putK;by_cases z:(kvs.any λ a=>decide (a.1=k))=true
 ·rw [if_pos z,F0];omega
 ·rw [if_neg z,G0];exact A0 _
noncomputable def lastI (h:Int) (hs:List Int):Option Nat:=(hs.foldl (λ (acc:Nat×Option Nat) k=>(acc.1 + 1,if k=h then some acc.1 else acc.2)) (0,none)).2
theorem lastF (h:Int) :∀hs:List Int,(hs.foldl (λ (acc:Nat×Option Nat) k=>(acc.1 + 1,if k=h then some acc.1 else acc.2)) (0,none)).1=hs.length:=by
 have b :∀(hs:List Int) (a:Nat×Option Nat),(hs.foldl (λ (acc:Nat×Option Nat) k=>(acc.1 + 1,if k=h then some acc.1 else acc.2)) a).1=a.1 + hs.length:=by
  intro hs;induction hs with
  | nil=>intro a;rfl
  | cons k hs ih=>intro a;rw [List.foldl_cons,ih,W0];show a.1 + 1 + hs.length=_;omega
 intro hs;rw [b hs (0,none)];simp
theorem z2k (h k:Int) (hs:List Int):lastI h (hs++[k])=if k=h then some hs.length else lastI h hs:=by unfold lastI;rw [U8];show (if k=h then some _ else _)=_;rw [lastF]
theorem z6h {h:Int} {hs:List Int} {j:Nat} (e:lastI h hs=some j):j < hs.length:=by
 have c :∀(hs:List Int) (a:Nat×Option Nat),(∀j,a.2=some j->j < a.1)->∀j,(hs.foldl (λ (acc:Nat×Option Nat) k=>(acc.1 + 1,if k=h then some acc.1 else acc.2)) a).2=some j->j < a.1 + hs.length:=by
  intro hs;induction hs with
  | nil=>intro a b j e;exact b j e
  | cons k hs ih=>
   intro a b j e;rw [List.foldl_cons] at e;have:=ih (a.1 + 1,if k=h then some a.1 else a.2) (λ j e=>by
    dsimp only at e⊢;by_cases z:k=h
    ·rw [if_pos z] at e;cases e;omega
    ·rw [if_neg z] at e;have:=b j e;omega) j e
   rw [W0];dsimp only at this;omega
 have:=c hs (0,none) (λ j e=>by cases e) j e;simpa using this
noncomputable def dstep (i:Nat) (rs:List Rc):Ev->List Rc
 | .beg h n v x=>rs++[⟨h,n,v,x,.non,i,none⟩]
 | .fin h a=>match lastI h (rs.map Rc.h) with|some j=>rs.modify j (λ r=>{ r with a:=a,e:=some i })|none=>rs
noncomputable def dAll:Nat->List Rc->List Ev->List Rc
 | _,rs,[]=>rs
 | i,rs,e :: es=>dAll (i + 1) (dstep i rs e) es
noncomputable def dWf:Nat->List Rc->List Ev->Prop
 | _,_,[]=>True
 | i,rs,e :: es=>(∀h a,e=.fin h a->(lastI h (rs.map Rc.h)).isSome=true)/\dWf (i + 1) (dstep i rs e) es
theorem RcAt.tups {K:b0} {H H':Hp} {r:Rc} {y:V} (t:Tups K H H') (h:RcAt K H r y):RcAt K H' r y:=h.elim λ p z=>⟨p,z.1,t _ _ z.2⟩
theorem EvAt.tups {K:b0} {H H':Hp} (t:Tups K H H') :∀{e:Ev} {y:V},EvAt K H e y->EvAt K H' e y
 | .beg h n v x,_,z=>z.elim λ p z=>⟨p,z.1,t _ _ z.2⟩
 | .fin h a,_,z=>z.elim λ p z=>⟨p,z.1,t _ _ z.2⟩
theorem z78 {α β:Type} {R:α->β->Prop} {f:α->α} {y:β} :∀{xs:List α} {ys:List β} {j:Nat} {x:α},All2 R xs ys->xs[j]? = some x->R (f x) y->All2 R (xs.modify j f) (ys.set j y)
 | _,_,_,_,.nil,e,_=>by simp at e
 | _,_,0,x,.cons a r,e,h=>by rw [J2] at e;cases e;exact .cons h r
 | _,_,j + 1,x,.cons a r,e,h=>by rw [W1] at e;exact .cons a (z78 r e h)
theorem z0t {α β:Type} {R:α->β->Prop} :∀{xs:List α} {ys:List β} {i:Nat} {x:α},All2 R xs ys->xs[i]? = some x->∃y,ys[i]? = some y/\R x y
 | _,_,i,x,.nil,e=>by simp at e
 | _,_,0,x,.cons a _,e=>by rw [J2] at e;cases e;exact ⟨_,J2,a⟩
 | _,_,i + 1,x,.cons _ r,e=>by rw [W1] at e;obtain ⟨y,c,b⟩:=z0t r e;exact ⟨y,by rw [W1];exact c,b⟩
def zam (K:b0):Sp:=λ vs H Q _=>∃(t te:Addr) (th:V) (ys:List V) (es:List Ev),vs=[.ref t]/\SqT K H t [th,.ref te]/\SqT K H te ys/\All2 (EvAt K H) es ys/\es.length<=100/\dWf 0 [] es/\
 ∀l zs H',Same H H'->H l=none->H' l=some (.lst zs)->All2 (RcAt K H') (dAll 0 [] es) zs->Q (.ref l) H'
theorem zif (T:TX (kx w) mg):Fo P w mg base CX0 1 209 y2h ["tale"] (zam (kx w)):=by
 refine (zdr w.params).ok sc_deeds (λ vs H Q E h=>?_) (λ c4 A c3 s H vs Q E hr h=>?_)
 ·obtain ⟨t,te,th,ys,C,rfl,_⟩:=h;rfl
 ·obtain ⟨t,te,th,ys,C,rfl,st,se,al,hl,wf,q⟩:=h;refine ⟨_,(z02 (ps_set (i:=1) sc_deeds.nd rfl (V0 rfl) (pe_lst pa_nil))
   (z02 (ps_set (i:=2) sc_deeds.nd rfl (V0 rfl) z7y)
   (z02 (ps_for U1 rfl (zjh rfl (T.no (z1y _)) (z00 (pe_ix ix_seq (pv 0) pe_int (λ _ _=>rfl)) pa_nil)) (pg_tup rfl (z0a (z0h (i:=3) sc_deeds.nd rfl (V0 rfl)) (z0a (z0h (i:=4) sc_deeds.nd rfl (V0 rfl)) z10)))
   (z04 (ps_if (z08 opEq (pe_ix ix_seq (pv 4) pe_int (λ _ _=>rfl)) pe_str (nomark _))
   (z02 (zbz (hu_of hr) (pv 2) (pe_ix ix_seq (pv 4) pe_int (λ _ _=>rfl)) (z0c z12 rfl (T.no (n_len _)) M3 (z00 (pv 1) pa_nil)) rfl)
   (z04 (z36 (z17 (pv 1) (z00 (pe_op opAdd (z1g slSeq (pv 4) (z1k pe_int) z2p) (pe_tup (z00 pe_non (z00 (pv 3) (z00 pe_non pa_nil))))) pa_nil)))))
   (z02 (ps_set (i:=5) sc_deeds.nd rfl (V0 rfl) (z5k (hu_of hr) (pv 2) (pe_ix ix_seq (pv 4) pe_int (λ _ _=>rfl)) (λ _ _=>rfl)))
   (z02 (ps_set (i:=6) sc_deeds.nd rfl (V0 rfl) (pe_ix ix_seq (pv 1) (pv 5) (λ _ _=>rfl)))
   (z04 (ps_asg (pe_op opAdd (z1g slSeq (pv 6) z2p (z1k pe_int)) (pe_tup (z00 (pe_ix ix_seq (pv 4) pe_int (λ _ _=>rfl)) (z00 (pe_ix ix_seq (pv 6) pe_int (λ _ _=>rfl)) (z00 (pv 3) pa_nil))))) (pg_sub (pv 1) (pv 5) z4y))))))))
   (z04 (ps_ret (pv 1)))))),?_⟩
  refine ⟨w_0,λ l a0=>?_⟩;intro d a4;have N:l≠d:=z07 upd_same a4;have s0:upd H l (.lst []) d=none->H d=none:=λ z=>by rwa [upd_ne N.symm] at z
  have s2:Same H (upd (upd H l (.lst [])) d (.dK [])):=(Same.upd a0).trans (Same.upd a4);have e1:upd (upd H l (.lst [])) d (.dK []) l=some (.lst []):=by rw [upd_ne N];exact upd_same
  have e2:upd (upd H l (.lst [])) d (.dK []) d=some (.dK []):=upd_same;generalize upd (upd H l (.lst [])) d (.dK [])=H2 at s2 e1 e2⊢;have b8:=z03 al;refine ⟨_,rfl,.inr (.inl ⟨t,_,1,.ref te,rfl,rfl,s2.seqT st,z05 (j:=1) rfl,te,ys,rfl,s2.seqT se,?_⟩)⟩;refine zgu (K:=KX w.params) (a:=te) (xs:=ys) (λ i σ X=>∃c f g,X l=some (.lst f)/\All2 (RcAt (kx w) X) c f/\X d=some (.dK g)/\g.length<=i/\c.length<=i/\(∀h,valV g (.inl h)=(lastI h (c.map Rc.h)).map λ j=>V.int (j:Nat))/\dAll i c (C.drop i)=dAll 0 [] C/\dWf i c (C.drop i)/\Same H X/\∃x3 x4 x5 x6,σ=[some (.ref t),some (.ref l),some (.ref d),x3,x4,x5,x6])
   ⟨[],[],[],e1,.nil,e2,A0 _,A0 _,λ h=>rfl,by rw [u5],by rw [u5];exact wf,s2,_,_,_,_,rfl⟩ (λ i σ X h=>?_) ?_ ?_
  ·obtain ⟨c,f,g,_,_,_,_,_,_,_,_,s',_⟩:=h;exact s'.seqT se
  ·rintro i y σ Z p hy ⟨c,f,g,el,ar,ed,hk,hr',hv,G,dw,s3,x3,x4,x5,x6,rfl⟩ hp;obtain ⟨e,he,ev⟩:=z0g al hy;obtain ⟨hi,ee⟩:=List.getElem?_eq_some_iff.mp he;have dr:C.drop i=e :: C.drop (i + 1):=by rw [j05 hi,ee]
   rw [dr] at G dw;have s4:=s3.trans (Same.upd (o:=.tup [.int i,y]) hp);have L:=(Same.upd (o:=.tup [.int i,y]) hp) _ _ el;have S:=(Same.upd (o:=.tup [.int i,y]) hp) _ _ ed;have Y:=z01 (λ a b z=>RcAt.tups (.of (Same.upd (o:=.tup [.int i,y]) hp)) z) ar;have b4:upd Z p (.tup [.int i,y]) p=some (.tup [.int i,y]):=upd_same;generalize upd Z p (.tup [.int i,y])=H4 at s4 L S Y b4⊢;have b1:=EvAt.tups (.of s4) ev;refine ⟨p,_,rfl,SqT.of b4,rfl,.int i,_,rfl,y,_,rfl,rfl,?_⟩;have lz:f.length=c.length:=z03 Y;have a8:100<=sizeLine:=by decide
   have a9:i < 100:=u1 hi hl;cases e with
   | beg h n v x=>
    obtain ⟨J,rfl,I⟩:=b1;refine ⟨_,rfl,.inr (.inl ⟨J,_,0,.str "begin",rfl,rfl,I,z05 (j:=0) rfl,rfl,_,rfl,iteP (decide_eq_true rfl) ?_⟩)⟩;refine ⟨_,rfl,.inl ⟨l,f,rfl,.inl (SqL.of L),⟨_,rfl,⟨_,rfl,.inr (.inl ⟨J,_,1,.int h,rfl,rfl,I,z05 (j:=1) rfl,d,_,rfl,DPut.k (k:=.inl h) S (R1 hk (u1 a9 a8)),?_⟩)⟩⟩⟩⟩;have b6:H d=none:=s0 a4;have t5:Tups (kx w) H4 (upd H4 d (.dK (putK g (.inl h) (.int (f.length:Nat))))):=Tups.dict S;have s5:=Same.keep (o:=.dK (putK g (.inl h) (.int (f.length:Nat)))) s4 b6;have a2:upd H4 d (.dK (putK g (.inl h) (.int (f.length:Nat)))) l=some (.lst f):=by rw [upd_ne N];exact L
    have b0:upd H4 d (.dK (putK g (.inl h) (.int (f.length:Nat)))) d=some (.dK (putK g (.inl h) (.int (f.length:Nat)))):=upd_same;generalize upd H4 d (.dK (putK g (.inl h) (.int (f.length:Nat))))=H5 at t5 s5 a2 b0⊢;have c2:=t5 _ _ I;have c0:=z01 (λ a b z=>RcAt.tups t5 z) Y;refine ⟨_,rfl,.inl ⟨rfl,f,SqL.of a2⟩,⟨_,rfl,1,rfl,.inr (.inl ⟨J,_,rfl,c2,λ z=>absurd z.1 (show ¬ HT.sIx 5 0 (some 1)=0 by decide),λ F U=>?_⟩)⟩⟩;have c1:cutV [V.str "begin",.int h,n,v,x] (some 1) none=[.int h,n,v,x]:=rfl;rw [c1];refine ⟨_,rfl,w_3,λ D M=>.inr (.inr (.inr ⟨F,D,_,_,rfl,rfl,(Same.upd M).seqT (SqT.of upd_same),SqT.of upd_same,by simp,w_7,λ z=>(by cases z),λ _ u a3=>?_⟩))⟩;have B:Same H5 (upd (upd (upd H5 F (.tup [.int h,n,v,x])) D (.tup [.non,.int i,.non])) u (.tup ([.int h,n,v,x]++[.non,.int i,.non]))):=((Same.upd U).trans (Same.upd M)).trans (Same.upd a3);have R:upd (upd (upd H5 F (.tup [.int h,n,v,x])) D (.tup [.non,.int i,.non])) u (.tup ([.int h,n,v,x]++[.non,.int i,.non])) u=some (.tup ([.int h,n,v,x]++[.non,.int i,.non])):=upd_same;generalize upd (upd (upd H5 F (.tup [.int h,n,v,x])) D (.tup [.non,.int i,.non])) u (.tup ([.int h,n,v,x]++[.non,.int i,.non]))=H6 at B R⊢;have O:=B _ _ a2;have a1:=B _ _ b0;have a5:=z01 (λ a b z=>RcAt.tups (.of B) z) c0;have W:Tups (kx w) H6 (upd H6 l (.lst (f++[.ref u]))):=Tups.lst O;refine ⟨l,f,_,rfl,rfl,O,R1 (C0 (C5 lz) hr') (u1 a9 a8),?_⟩;refine ⟨c++[⟨h,n,v,x,.non,i,none⟩],f++[.ref u],putK g (.inl h) (.int (f.length:Nat)),upd_same,?_,?_,?_,?_,?_,(show dAll (i + 1) (dstep i c (.beg h n v x)) _=_ from G),dw.2,Same.keep (s5.trans B) a0,_,_,_,_,rfl⟩
    ·exact z0v (z01 (λ a b z=>RcAt.tups W z) a5) ⟨u,rfl,W _ _ (SqT.of R)⟩
    ·rw [upd_ne N.symm];exact a1
    ·exact C0 ze7 (by omega)
    ·rw [G0];show c.length + 1<=i + 1;omega
    ·intro k;rw [z3s,E1];show _=o9 _ (lastI k (c.map Rc.h++[h]));rw [z2k,hv k,F0,lz];by_cases z:h=k
     ·rw [if_pos z,if_pos (by rw [z])];rfl
     ·rw [if_neg z,if_neg (λ y=>z (C7 y).symm)]
   | fin h a=>
    obtain ⟨J,rfl,I⟩:=b1;obtain ⟨j,hj⟩:=Option.isSome_iff_exists.mp (dw.1 h a rfl);have b5:valV g (.inl h)=some (.int (j:Nat)):=by rw [hv h,hj];rfl
    have a6:j < c.length:=by have:=z6h hj;rwa [F0] at this
    have b3:c[j]? = some c[j]:=K0 a6;obtain ⟨yj,b9,pj,rfl,sj⟩:=z0t Y b3;have b7:DGet H4 d (.int h) (some (.int (j:Nat))):=b5 ▸ DGet.k (k:=.inl h) S;refine ⟨_,rfl,.inr (.inl ⟨J,_,0,.str "end",rfl,rfl,I,z05 (j:=0) rfl,rfl,_,rfl,iteK ?_⟩)⟩;refine ⟨_,rfl,⟨_,rfl,.inr (.inl ⟨J,_,1,.int h,rfl,rfl,I,z05 (j:=1) rfl,d,_,rfl,b7,?_⟩)⟩⟩;refine ⟨_,rfl,_,rfl,.inl ⟨l,f,j,.ref pj,rfl,rfl,SqL.of L,z05 b9,?_⟩⟩;refine ⟨_,rfl,4,rfl,.inr (.inl ⟨pj,_,rfl,sj,λ z=>absurd z.2 (show ¬ HT.sIx 7 7 (some 4)=7 by decide),λ F U=>?_⟩)⟩;have c1:cutV [.int c[j].h,c[j].n,c[j].v,c[j].x,c[j].a,.int c[j].b,endV c[j].e] none (some 4)=[.int c[j].h,c[j].n,c[j].v,c[j].x]:=rfl;rw [c1];refine ⟨_,rfl,.inr (.inl ⟨J,_,2,a,rfl,rfl,(Same.upd U).seqT I,z05 (j:=2) rfl,?_⟩)⟩;refine ⟨_,rfl,.inr (.inl ⟨pj,_,5,.int c[j].b,rfl,rfl,(Same.upd U).seqT sj,z05 (j:=5) rfl,?_⟩)⟩;refine ⟨_,rfl,w_3,λ D M=>.inr (.inr (.inr ⟨F,D,_,_,rfl,rfl,(Same.upd M).seqT (SqT.of upd_same),SqT.of upd_same,by simp,w_7,λ z=>(by cases z),λ _ u a3=>?_⟩))⟩;have B:Same H4 _:=((Same.upd U).trans (Same.upd M)).trans (Same.upd (o:=.tup ([.int c[j].h,c[j].n,c[j].v,c[j].x]++[a,.int c[j].b,.int (i:Nat)])) a3);have R:upd (upd (upd H4 F (.tup [.int c[j].h,c[j].n,c[j].v,c[j].x])) D (.tup [a,.int c[j].b,.int (i:Nat)])) u (.tup ([.int c[j].h,c[j].n,c[j].v,c[j].x]++[a,.int c[j].b,.int (i:Nat)])) u=some (.tup ([.int c[j].h,c[j].n,c[j].v,c[j].x]++[a,.int c[j].b,.int (i:Nat)])):=upd_same;generalize upd (upd (upd H4 F (.tup [.int c[j].h,c[j].n,c[j].v,c[j].x])) D (.tup [a,.int c[j].b,.int (i:Nat)])) u (.tup ([.int c[j].h,c[j].n,c[j].v,c[j].x]++[a,.int c[j].b,.int (i:Nat)]))=H6 at B R⊢;have O:=B _ _ L;have a1:=B _ _ S;have a5:=z01 (λ a b z=>RcAt.tups (.of B) z) Y;have W:Tups (kx w) H6 (upd H6 l (.lst (f.set j (.ref u)))):=Tups.lst O;refine ⟨_,rfl,_,rfl,l,f,j,j,rfl,rfl,O,zk5 (show j < f.length by rw [lz];exact a6),?_⟩;have dd:dstep i c (.fin h a)=c.modify j (λ r=>{ r with a:=a,e:=some i }):=by unfold dstep;dsimp only;rw [hj]
    have a7:dAll (i + 1) (dstep i c (.fin h a)) (List.drop (i + 1) C)=_:=G;have b2:=dw.2;rw [dd] at a7 b2;have mh:(c.modify j (λ r=>{ r with a:=a,e:=some i })).map Rc.h=c.map Rc.h:=by
     apply V8;intro m;rw [A1,A1,N2];cases c[m]? with
     | none=>rfl
     | some r=>
      show some (if j=m then _ else r).h=some r.h;by_cases z:j=m
      ·rw [if_pos z]
      ·rw [if_neg z]
    refine ⟨_,f.set j (.ref u),g,upd_same,?_,?_,?_,?_,?_,a7,b2,Same.keep (s4.trans B) a0,_,_,_,_,rfl⟩
    ·exact z78 (z01 (λ a b z=>RcAt.tups W z) a5) b3 ⟨u,rfl,W _ _ (SqT.of R)⟩
    ·rw [upd_ne N.symm];exact a1
    ·omega
    ·rw [d5];omega
    ·intro k;rw [mh];exact hv k
  ·rintro σ Z ⟨c,f,g,el,ar,ed,hk,hr',hv,G,dw,s3,x3,x4,x5,x6,rfl⟩;have:C.drop ys.length=[]:=by rw [b8];exact List.drop_length
   rw [this] at G;have G:c=dAll 0 [] C:=G;rw [<-G] at q;exact ⟨_,rfl,q l f Z s3 a0 el ar⟩
noncomputable def z21:Nat->Str
 | 0=>"strict"
 | 1=>"hands"
 | _=>"bare"
noncomputable def ltO:Option Nat->Nat->Bool
 | some a,b=>decide (a < b)
 | none,_=>false
noncomputable def aheadB:Nat->Rc->Rc->Bool
 | 0,r,q=>ltO r.e q.b
 | 1,r,q=>decide (r.h=q.h) && decide (r.b < q.b)
 | _,_,_=>false
theorem dec_lt (a b:Nat):decide ((a:Int) < (b:Int))=decide (a < b):=decide_eq_decide.mpr (by omega)
def z58 (K:b0):Sp:=λ vs H Q _=>∃(x y:V) (r q:Rc) (m:Nat),vs=[x,y,.str (z21 m)]/\RcAt K H r x/\RcAt K H q y/\Q (.bl (aheadB m r q)) H
theorem zaa (T:TX (kx w) mg):Fo P w mg base CX0 1 231 y0x ["one","other","strictness"] (z58 (kx w)):=by
 refine (z3v w.params).ok za8 (λ g H Q E h=>?_) (λ l A k s H g Q E i h=>?_)
 ·obtain ⟨x,y,r,q,m,rfl,_⟩:=h;rfl
 ·obtain ⟨x,y,r,q,m,rfl,⟨c,rfl,a⟩,⟨d,rfl,f⟩,h⟩:=h;refine ⟨_,(z02 (ps_if (z08 opEq (pv 2) pe_str (nomark _))
   (z04 (ps_ret (pe_and (z0r z77 (pe_ix ix_seq (pv 0) pe_int (λ _ _=>rfl)) pe_non (nomark _)) (pe_one (z0r op_lt (pe_ix ix_seq (pv 0) pe_int (λ _ _=>rfl)) (pe_ix ix_seq (pv 1) pe_int (λ _ _=>rfl)) (nomark _))))))
   z0d)
   (z02 (ps_if (z08 opEq (pv 2) pe_str (nomark _))
   (z04 (ps_ret (pe_and (z0r opEq (pe_ix ix_seq (pv 0) pe_int (λ _ _=>rfl)) (pe_ix ix_seq (pv 1) pe_int (λ _ _=>rfl)) (nomark _)) (pe_one (z0r op_lt (pe_ix ix_seq (pv 0) pe_int (λ _ _=>rfl)) (pe_ix ix_seq (pv 1) pe_int (λ _ _=>rfl)) (nomark _))))))
   z0d)
   (z04 (ps_ret pe_bl)))),?_⟩
  match m,h with
  | 0,h=>
   refine ⟨_,rfl,rfl,_,rfl,iteP (decide_eq_true rfl) ?_⟩;refine ⟨_,rfl,.inr (.inl ⟨c,_,6,endV r.e,rfl,rfl,a,z05 (j:=6) rfl,rfl,_,rfl,?_⟩)⟩;cases re:r.e with
   | none=>
    refine iteN (by show ¬ (!decide (V.non=V.non))=true;decide) ?_;have:aheadB 0 r q=false:=by show ltO r.e q.b=_;rw [re];rfl
    rw [this] at h;exact h
   | some b=>
    refine iteP rfl ?_;refine ⟨_,rfl,.inr (.inl ⟨c,_,6,.int (b:Nat),rfl,rfl,a,z05 (j:=6) (by rw [re];rfl),?_⟩)⟩;refine ⟨_,rfl,.inr (.inl ⟨d,_,5,.int (q.b:Nat),rfl,rfl,f,z05 (j:=5) rfl,b,q.b,rfl,rfl,?_⟩)⟩;have:aheadB 0 r q=decide (b < q.b):=by show ltO r.e q.b=_;rw [re];rfl
    rw [this,<-dec_lt] at h;exact h
  | 1,h=>
   refine ⟨_,rfl,rfl,_,rfl,iteK ?_⟩;refine ⟨_,rfl,rfl,_,rfl,iteP (decide_eq_true rfl) ?_⟩;refine ⟨_,rfl,.inr (.inl ⟨c,_,0,.int r.h,rfl,rfl,a,z05 (j:=0) rfl,?_⟩)⟩;refine ⟨_,rfl,.inr (.inl ⟨d,_,0,.int q.h,rfl,rfl,f,z05 (j:=0) rfl,rfl,_,rfl,?_⟩)⟩;by_cases z:r.h=q.h
   ·refine iteP (decide_eq_true (by rw [z])) ?_;refine ⟨_,rfl,.inr (.inl ⟨c,_,5,.int (r.b:Nat),rfl,rfl,a,z05 (j:=5) rfl,?_⟩)⟩;refine ⟨_,rfl,.inr (.inl ⟨d,_,5,.int (q.b:Nat),rfl,rfl,f,z05 (j:=5) rfl,r.b,q.b,rfl,rfl,?_⟩)⟩;have:aheadB 1 r q=decide (r.b < q.b):=by show (decide (r.h=q.h) && _)=_;rw [decide_eq_true z];rfl
    rw [this,<-dec_lt] at h;exact h
   ·refine iteN (λ e=>z (V.int.inj (of_decide_eq_true e))) ?_;have:aheadB 1 r q=false:=by show (decide (r.h=q.h) && _)=_;rw [decide_eq_false z];rfl
    rw [this] at h;exact h
  | m + 2,h=>refine ⟨_,rfl,rfl,_,rfl,iteN (show ¬ decide (V.str "bare" = V.str "strict")=true by decide +kernel) ?_⟩;refine ⟨_,rfl,rfl,_,rfl,iteN (show ¬ decide (V.str "bare" = V.str "hands")=true by decide +kernel) ?_⟩;exact h
def z1p:Sp:=λ vs H Q _=>∃(m:Nat),vs=[.str (z21 m)]/\Q .non H
theorem zgn {H:Hp}:SqT (kx w) H 210 [.str "strict",.str "hands",.str "bare"]:=
 .inr ⟨⟨(.type "tuple"),none,(.seq #[(.str "strict" 516),(.str "hands" 517),(.str "bare" 518)] 0),#[]⟩,#[(.str "strict" 516),(.str "hands" 517),(.str "bare" 518)],0,by kernel_rfl,rfl,rfl,w_3,.cons ⟨_,rfl⟩ (.cons ⟨_,rfl⟩ (.cons ⟨_,rfl⟩ .nil))⟩
theorem z44 (T:TX (kx w) mg):Fo P w mg base CX0 1 224 y05 ["strictness"] z1p:=by
 refine (z16 w.params).ok z48 (λ a H Q E h=>?_) (λ c A b s H a Q E d h=>?_)
 ·obtain ⟨m,rfl,_⟩:=h;rfl
 ·obtain ⟨m,rfl,h⟩:=h;refine ⟨_,(z04 (ps_if (PW.pt (pw_or (pt_not (pt_val (z0c z0q rfl (T.no (z0l _)) F3 (z00 (pv 0) (z00 (z45 (v:=.ty "str") rfl (T.no (n_str _)) boot_str rfl) pa_nil))) (λ _=>rfl))) (pw_or1 (z08 z15 (pv 0) (z5r (v:=.ref 210) rfl (T.of (z8k _)) rfl) (by with_unfolding_all rfl)))))
   (z04 z7r)
   z0d)),?_⟩
  refine ⟨_,rfl,_,_,"str",rfl,rfl,by decide +kernel,_,rfl,iteN (by decide) ?_⟩;refine ⟨_,rfl,210,_,rfl,.inr zgn,rfl,rfl,_,rfl,iteN ?_ h⟩
  match m with
  | 0=>decide +kernel
  | 1=>decide +kernel
  | m + 2=>exact (by decide +kernel:¬ (if true=true then !inV (.str "bare") [V.str "strict",.str "hands",.str "bare"] else inV (.str "bare") [V.str "strict",.str "hands",.str "bare"])=true)
noncomputable def z0f (m:Nat) (rs:List Rc) (a b:Nat):Bool:=match rs[a]?,rs[b]? with|some r,some q=>aheadB m r q|_,_=>false
noncomputable def rowTo (m:Nat) (rs:List Rc) (a j:Nat):List (Nat×Nat):=((N1 j).filter λ b=>z0f m rs a b).map λ b=>(a,b)
noncomputable def z2g (m:Nat) (rs:List Rc) (i:Nat):List (Nat×Nat):=(N1 i).flatMap λ a=>rowTo m rs a rs.length
theorem z9v {m:Nat} {rs:List Rc} {a j:Nat}:rowTo m rs a (j + 1)=rowTo m rs a j++if z0f m rs a j then [(a,j)] else []:=by
 unfold rowTo;rw [L7,o6,E1];by_cases z:z0f m rs a j=true
 ·rw [if_pos z];simp [z]
 ·rw [if_neg z];simp [z]
theorem z6k {m:Nat} {rs:List Rc} {i:Nat}:z2g m rs (i + 1)=z2g m rs i++rowTo m rs i rs.length:=by unfold z2g;rw [L7,List.flatMap_append];simp
theorem zbv {m:Nat} {rs:List Rc} {a j:Nat}:(rowTo m rs a j).length<=j:=by unfold rowTo;rw [F0];exact C0 (P2 _ _) (by rw [E2];exact A0 _)
theorem z54 {m:Nat} {rs:List Rc} :∀i:Nat,(z2g m rs i).length<=i * rs.length
 | 0=>by simp [z2g]
 | i + 1=>by rw [z6k,G0,Nat.add_mul,Nat.one_mul];exact Nat.add_le_add (z54 i) zbv
theorem zgf {i:Nat} {rs:List Rc} {e:Ev}:(dstep i rs e).length<=rs.length + 1:=by
 cases e with
 | beg h n v x=>show (rs++[_]).length<=_;rw [G0];exact A0 _
 | fin h a=>
  unfold dstep;dsimp only;cases lastI h (rs.map Rc.h) with
  | none=>exact A3 _
  | some j=>show (rs.modify j _).length<=_;rw [d5];exact A3 _
theorem zbh :∀{i:Nat} {rs:List Rc} (es:List Ev),(dAll i rs es).length<=rs.length + es.length
 | _,_,[]=>A0 _
 | i,rs,e :: es=>by show (dAll (i + 1) (dstep i rs e) es).length<=_;have:=zbh (i:=i + 1) (rs:=dstep i rs e) es;have:=zgf (i:=i) (rs:=rs) (e:=e);rw [W0];omega
def PairAt (H:Hp) (p:Nat×Nat) (y:V):Prop:=∃a,y=.ref a/\H a=some (.tup [.int p.1,.int p.2])
theorem PairAt.same {H H':Hp} {p:Nat×Nat} {y:V} (s:Same H H') (h:PairAt H p y):PairAt H' p y:=h.elim λ a z=>⟨a,z.1,s _ _ z.2⟩
theorem PairAt.wrote {H:Hp} {l:Addr} {zs ws:List V} {p:Nat×Nat} {y:V} (e:H l=some (.lst zs)) (h:PairAt H p y):PairAt (upd H l (.lst ws)) p y:=h.elim λ a z=>⟨a,z.1,by rw [upd_ne (ne_of z.2 e (by intro z;cases z))];exact z.2⟩
def zbq (K:b0):Sp:=λ vs H Q _=>∃(t te:Addr) (th:V) (ys:List V) (es:List Ev) (m:Nat),vs=[.ref t,.str (z21 m)]/\SqT K H t [th,.ref te]/\SqT K H te ys/\All2 (EvAt K H) es ys/\es.length<=100/\dWf 0 [] es/\
 ∀l zs H',Same H H'->H l=none->H' l=some (.lst zs)->All2 (PairAt H') (z2g m (dAll 0 [] es) (dAll 0 [] es).length) zs->Q (.ref l) H'
theorem zgm (T:TX (kx w) mg) (c0:Ca P w mg base "deeds" ["tale"] 1 (zam (kx w))) (c1:Ca P w mg base "check_strictness" ["strictness"] 1 z1p) (c2:Ca P w mg base "goes_ahead" ["one","other","strictness"] 1 (z58 (kx w))):Fo P w mg base CX0 2 217 y27 ["tale","strictness"] (zbq (kx w)):=by
 refine (zay w.params).ok sc_has_to (λ vs H Q E h=>?_) (λ c3 A b9 s H vs Q E R h=>?_)
 ·obtain ⟨t,te,th,ys,B,m,rfl,_⟩:=h;rfl
 ·obtain ⟨t,te,th,ys,B,m,rfl,st,se,al,hl,wf,q⟩:=h;refine ⟨_,(z02 (z36 (pe_cal c1 (R.mono (by decide)) rfl (z00 (pv 1) pa_nil)))
   (z02 (ps_set (i:=2) sc_has_to.nd rfl (V0 rfl) (pe_cal c0 (R.mono (by decide)) rfl (z00 (pv 0) pa_nil)))
   (z02 (ps_set (i:=3) sc_has_to.nd rfl (V0 rfl) (pe_lst pa_nil))
   (z02 (ps_for U1 rfl (z8c rfl (T.no (z1y _)) (z00 (pv 2) pa_nil)) (pg_tup rfl (z0a (z0h (i:=4) sc_has_to.nd rfl (V0 rfl)) (z0a (z0h (i:=5) sc_has_to.nd rfl (V0 rfl)) z10)))
   (z04 (ps_for U1 rfl (z8c rfl (T.no (z1y _)) (z00 (pv 2) pa_nil)) (pg_tup rfl (z0a (z0h (i:=6) sc_has_to.nd rfl (V0 rfl)) (z0a (z0h (i:=7) sc_has_to.nd rfl (V0 rfl)) z10)))
   (z04 (ps_if (pt_val (pe_cal c2 (R.mono (by decide)) rfl (z00 (pv 5) (z00 (pv 7) (z00 (pv 1) pa_nil)))) (λ _=>rfl))
   (z04 (z36 (z17 (pv 3) (z00 (pe_tup (z00 (pv 4) (z00 (pv 6) pa_nil))) pa_nil))))
   z0d)))))
   (z04 (ps_ret (pv 3))))))),?_⟩
  refine ⟨_,rfl,m,rfl,?_⟩;refine ⟨_,rfl,t,te,th,ys,B,rfl,st,se,al,hl,wf,λ l g F Y b7 el J=>?_⟩;generalize hrs:dAll 0 [] B=rs at J q;have hn:rs.length<=100:=by rw [<-hrs];have:=zbh (i:=0) (rs:=[]) B;simpa using C0 this (by simpa using hl)
  have n:g.length=rs.length:=z03 J;refine ⟨w_0,λ c u=>?_⟩;have Z:H c=none:=Y.free u;have nl:l≠c:=z07 el u;have s2:Same H (upd F c (.lst [])):=Y.trans (Same.upd u);have N:upd F c (.lst []) l=some (.lst g):=(Same.upd u) _ _ el;have V:=z01 (λ a b z=>RcAt.tups (.of (Same.upd (o:=.lst []) u)) z) J;have a0:upd F c (.lst []) c=some (.lst []):=upd_same;generalize upd F c (.lst [])=H2 at s2 N V a0⊢;refine ⟨_,rfl,l,g,rfl,SqL.of N,?_⟩;refine z7n (K:=KX w.params) (a:=l) (xs:=g) (λ i σ d=>∃f,d l=some (.lst g)/\All2 (RcAt (kx w) d) rs g/\d c=some (.lst f)/\All2 (PairAt d) (z2g m rs i) f/\Same H d/\∃x4 x5 x6 x7,σ=[some (.ref t),some (.str (z21 m)),some (.ref l),some (.ref c),x4,x5,x6,x7])
   ⟨[],N,V,a0,.nil,s2,_,_,_,_,rfl⟩ (λ i σ d h=>?_) ?_ ?_
  ·obtain ⟨f,e,_⟩:=h;exact SqL.of e
  ·rintro i x σ S p hx ⟨f,e3,a3,f3,b3,s3,x4,x5,x6,x7,rfl⟩ hp;obtain ⟨H4,O,v,ep⟩:=newA (.tup [.int i,x]) hp;rw [<-O];have e4:=v _ _ e3;have f4:=v _ _ f3;have a4:=z01 (λ a b z=>RcAt.tups (.of v) z) a3;have b4:=z01 (λ a b z=>PairAt.same v z) b3;have s4:=s3.trans v;refine ⟨p,_,rfl,SqT.of ep,rfl,.int i,_,rfl,x,_,rfl,rfl,?_⟩;have b0:i < rs.length:=by rw [<-n];exact (List.getElem?_eq_some_iff.mp hx).1
   have pl:=z54 (m:=m) (rs:=rs) i;have pm:i * rs.length<=10000:=b8 (C0 (G3 b0) hn) hn;refine ⟨_,rfl,l,g,rfl,SqL.of e4,?_⟩;refine z7n (K:=KX w.params) (a:=l) (xs:=g) (λ j σ d=>∃f,d l=some (.lst g)/\All2 (RcAt (kx w) d) rs g/\d c=some (.lst f)/\All2 (PairAt d) (z2g m rs i++rowTo m rs i j) f/\Same H d/\∃x6 x7,σ=[some (.ref t),some (.str (z21 m)),some (.ref l),some (.ref c),some (.int (i:Nat)),some x,x6,x7])
    ⟨f,e4,a4,f4,by rw [show rowTo m rs i 0=[] from rfl,j2];exact b4,s4,_,_,rfl⟩ (λ j σ d h=>?_) ?_ ?_
   ·obtain ⟨f,e,_⟩:=h;exact SqL.of e
   ·rintro j y σ L G hy ⟨zs3,e5,a5,f5,b5,s5,x6,x7,rfl⟩ hp';have k:=Same.upd (o:=.tup [.int j,y]) hp';have a1:upd L G (.tup [.int j,y]) G=some (.tup [.int j,y]):=upd_same;generalize upd L G (.tup [.int j,y])=H6 at k a1⊢;have e6:=k _ _ e5;have I:=k _ _ f5;have C:=z01 (λ a b z=>RcAt.tups (.of k) z) a5;have M:=z01 (λ a b z=>PairAt.same k z) b5;have W:=s5.trans k;refine ⟨G,_,rfl,SqT.of a1,rfl,.int j,_,rfl,y,_,rfl,rfl,?_⟩;obtain ⟨r1,b1,a9⟩:=z0g C hx;obtain ⟨X,a2,a8⟩:=z0g C hy;have b2:j < rs.length:=(List.getElem?_eq_some_iff.mp a2).1;have ah:z0f m rs i j=aheadB m r1 X:=by unfold z0f;rw [b1,a2]
    refine ⟨_,rfl,_,rfl,_,rfl,x,y,r1,X,m,rfl,a9,a8,_,rfl,?_⟩;rw [<-ah];have rl:=zbv (m:=m) (rs:=rs) (a:=i) (j:=j);have zl:zs3.length=(z2g m rs i++rowTo m rs i j).length:=z03 M;rw [G0] at zl;by_cases z:z0f m rs i j=true
    ·refine iteP z ?_;refine ⟨_,rfl,.inl ⟨rfl,zs3,SqL.of I⟩,_,rfl,_,rfl,w_2,λ U a7=>?_⟩;obtain ⟨H7,O,r,e7⟩:=newA (.tup [.int (i:Nat),.int (j:Nat)]) a7;rw [<-O];have D:=r _ _ I;refine ⟨c,zs3,_,rfl,rfl,D,R1 (m:=20000) (by omega) (by decide),?_⟩;refine ⟨zs3++[.ref U],?_,?_,upd_same,?_,Same.keep (W.trans r) Z,_,_,rfl⟩
     ·rw [upd_ne nl];exact r _ _ e6
     ·exact z01 (λ a b z=>RcAt.tups ((Tups.of r).trans (Tups.lst D)) z) C
     ·rw [z9v,if_pos z,<-K6];exact z0v (z01 (λ a b z=>PairAt.wrote D (PairAt.same r z)) M) (PairAt.wrote D ⟨U,rfl,e7⟩)
    ·refine iteN z ?_;exact ⟨zs3,e6,C,I,by rw [z9v,if_neg z,j2];exact M,W,_,_,rfl⟩
   ·rintro σ L ⟨zs3,e5,a5,f5,b5,s5,x6,x7,rfl⟩;exact ⟨zs3,e5,a5,f5,by rw [z6k,<-n];rw [n] at b5;rw [n];exact b5,s5,_,_,_,_,rfl⟩
  ·rintro σ S ⟨f,e3,a3,f3,b3,s3,x4,x5,x6,x7,rfl⟩;rw [n] at b3;exact ⟨_,rfl,q c f S s3 Z f3 b3⟩
end
section
noncomputable def oStep (os:List Int):Ev->List Int
 | .beg h _ _ _=>os++[h]
 | .fin h _=>os.filter λ k=>decide (k≠h)
noncomputable def oOk (os:List Int):Ev->Prop
 | .beg h _ _ _=>h∉os
 | .fin h _=>h∈os
noncomputable def EWf:List Int->List Ev->Prop
 | _,[]=>True
 | os,e :: es=>oOk os e/\EWf (oStep os e) es
theorem EWf.snoc :∀{es:List Ev} {os:List Int} {e:Ev},EWf os es->oOk (es.foldl oStep os) e->EWf os (es++[e])
 | [],os,e,_,h=>⟨h,trivial⟩
 | x :: es,os,e,w,h=>⟨w.1,EWf.snoc w.2 h⟩
theorem z8n {h:Int} (hs:List Int) :∀{j:Nat},lastI h hs=some j->hs[j]? = some h/\∀k,j < k->hs[k]?≠some h:=by
 suffices key :∀n (hs:List Int),hs.length=n->∀{j:Nat},lastI h hs=some j->hs[j]? = some h/\∀k,j < k->hs[k]?≠some h from λ {j} a=>key _ hs rfl a;intro n;induction n with
 | zero=>intro hs e j a;have:=z6h a;omega
 | succ n ih=>
  intro hs e j a;have c:hs≠[]:=λ z=>by rw [z] at e;cases e
  obtain ⟨b,t,rfl⟩ :∃b t,hs=b++[t]:=⟨hs.dropLast,hs.getLast c,(B4 c).symm⟩
  rw [G0] at e;have e:b.length=n:=by simpa using e
  rw [z2k] at a;by_cases z:t=h
  ·rw [if_pos z] at a;cases a;refine ⟨by simp [z],λ k d=>?_⟩;rw [L5 (by rw [G0];show b.length + 1<=k;omega)];intro y;cases y
  ·rw [if_neg z] at a;obtain ⟨g,f⟩:=ih b e a;have lt:=z6h a;refine ⟨by rw [B1 lt];exact g,λ k d=>?_⟩;by_cases y:k < b.length
   ·rw [B1 y];exact f k d
   ·by_cases y2:k=b.length
    ·subst y2;rw [O1 (A0 _)];simp;exact z
    ·rw [L5 (by rw [G0];show b.length + 1<=k;omega)];intro y;cases y
theorem zf2 {h:Int} (hs:List Int) (hm:h∈hs):(lastI h hs).isSome=true:=by
 suffices key :∀n (hs:List Int),hs.length=n->h∈hs->(lastI h hs).isSome=true from key _ hs rfl hm;intro n;induction n with
 | zero=>intro hs e hm;rw [List.length_eq_zero_iff.mp e] at hm;cases hm
 | succ n ih=>
  intro hs e hm;have b:hs≠[]:=λ z=>by rw [z] at e;cases e
  obtain ⟨a,t,rfl⟩ :∃a t,hs=a++[t]:=⟨hs.dropLast,hs.getLast b,(B4 b).symm⟩
  rw [G0] at e;rw [z2k];by_cases z:t=h
  ·rw [if_pos z];rfl
  ·rw [if_neg z];refine ih a (by simpa using e) ?_;rcases List.mem_append.mp hm with y|y
   ·exact y
   ·exact absurd (List.mem_singleton.mp y).symm z
structure DInv (i:Nat) (rs:List Rc) (os:List Int):Prop where
 b :∀r∈rs,r.b < i
 e :∀r∈rs,∀e,r.e=some e->e < i
 p :∀(x y:Nat) (r q:Rc),x < y->rs[x]? = some r->rs[y]? = some q->r.b < q.b/\(r.h=q.h->∃e,r.e=some e/\e < q.b)
 o :∀r∈rs,r.h∉os->r.e.isSome=true
 m :∀h∈os,h∈rs.map Rc.h
theorem DInv.nil:DInv 0 [] []:=⟨λ _ h=>(by cases h),λ _ h=>(by cases h),λ x y r q _ h=>(by simp at h),λ _ h=>(by cases h),λ _ h=>(by cases h)⟩
theorem zbo {rs:List Rc} {j:Nat} {f:Rc->Rc} (hf :∀r,(f r).h=r.h):(rs.modify j f).map Rc.h=rs.map Rc.h:=by
 apply V8;intro m;rw [A1,A1,N2];cases rs[m]? with
 | none=>rfl
 | some r=>
  show some (if j=m then f r else r).h=some r.h;by_cases z:j=m
  ·rw [if_pos z,hf]
  ·rw [if_neg z]
theorem DInv.step {i:Nat} {rs:List Rc} {os:List Int} (I:DInv i rs os) {e:Ev} (ok:oOk os e):DInv (i + 1) (dstep i rs e) (oStep os e)/\∀h a,e=.fin h a->(lastI h (rs.map Rc.h)).isSome=true:=by
 cases e with
 | beg h n v x=>
  have ok:h∉os:=ok;refine ⟨⟨λ r d=>?_,λ r d e c=>?_,λ t g r q E F C=>?_,λ r d B=>?_,λ k K=>?_⟩,λ h a e=>by cases e⟩
  ·rcases List.mem_append.mp d with z|z
   ·have:=I.b r z;omega
   ·rw [List.mem_singleton.mp z];exact B2 i
  ·rcases List.mem_append.mp d with z|z
   ·have:=I.e r z e c;omega
   ·rw [List.mem_singleton.mp z] at c;cases c
  ·have a1:g < (dstep i rs (.beg h n v x)).length:=(List.getElem?_eq_some_iff.mp C).1;have hl:(dstep i rs (.beg h n v x)).length=rs.length + 1:=by show (rs++[_]).length=_;rw [G0];rfl
   have X:rs[t]? = some r:=by
    have:(rs++[_])[t]? = some r:=F
    rwa [B1 (by omega)] at this
   by_cases z:g < rs.length
   ·have a0:rs[g]? = some q:=by
     have:(rs++[_])[g]? = some q:=C
     rwa [B1 z] at this
    exact I.p t g r q E X a0
   ·have M:(rs++[_])[g]? = some q:=C;have ey:g=rs.length:=by omega
    subst ey;rw [O1 (A0 _)] at M;simp at M;have J:=Q0 X;rw [<-M];refine ⟨I.b r J,λ A=>?_⟩;have:r.e.isSome=true:=I.o r J (by rw [A];exact ok);obtain ⟨e,c⟩:=Option.isSome_iff_exists.mp this;exact ⟨e,c,I.e r J e c⟩
  ·rcases List.mem_append.mp d with z|z
   ·exact I.o r z λ y=>B (List.mem_append.mpr (.inl y))
   ·rw [List.mem_singleton.mp z] at B;exact absurd (List.mem_append.mpr (.inr (List.mem_singleton.mpr rfl))) B
  ·show k∈(rs++[_]).map Rc.h;rw [E1];rcases List.mem_append.mp K with z|z
   ·exact List.mem_append.mpr (.inl (I.m k z))
   ·rw [List.mem_singleton.mp z];exact List.mem_append.mpr (.inr (List.mem_singleton.mpr rfl))
 | fin h a=>
  have ok:h∈os:=ok;obtain ⟨j,L⟩:=Option.isSome_iff_exists.mp (zf2 _ (I.m h ok));refine ⟨?_,λ h' a' e=>by cases e;rw [L];rfl⟩;obtain ⟨S,T⟩:=z8n _ L;have hd:dstep i rs (.fin h a)=rs.modify j (λ r=>{ r with a:=a,e:=some i }):=by unfold dstep;dsimp only;rw [L]
  rw [hd];have Y:oStep os (.fin h a)=os.filter λ k=>decide (k≠h):=rfl;rw [Y];rw [A1] at S;obtain ⟨Z,W,V⟩:=Option.map_eq_some_iff.mp S;have get :∀m q,(rs.modify j (λ r=>{ r with a:=a,e:=some i }))[m]? = some q->∃r,rs[m]? = some r/\q.h=r.h/\q.b=r.b/\(m=j->q.e=some i)/\(m≠j->q=r):=λ m q Q=>by
   rw [N2] at Q;obtain ⟨r,d,e⟩:=Option.map_eq_some_iff.mp Q;refine ⟨r,d,?_⟩;by_cases z:j=m
   ·rw [if_pos z] at e;rw [<-e];exact ⟨rfl,rfl,λ _=>rfl,λ y=>absurd z.symm y⟩
   ·rw [if_neg z] at e;rw [<-e];exact ⟨rfl,rfl,λ y=>absurd y.symm z,λ _=>rfl⟩
  refine ⟨λ r d=>?_,λ r d e c=>?_,λ t g r q E F C=>?_,λ r d B=>?_,λ k K=>?_⟩
  ·obtain ⟨m,D⟩:=List.mem_iff_getElem?.mp d;obtain ⟨s,u,_,h3,_⟩:=get m r D;have:=I.b s (Q0 u);omega
  ·obtain ⟨m,D⟩:=List.mem_iff_getElem?.mp d;obtain ⟨s,u,_,_,G,N⟩:=get m r D;by_cases z:m=j
   ·rw [G z] at c;cases c;exact B2 i
   ·rw [N z] at c;have:=I.e s (Q0 u) e c;omega
  ·obtain ⟨s,O,r2,r3,r4,r5⟩:=get t r F;obtain ⟨R,U,P,q3,_⟩:=get g q C;obtain ⟨p1,H⟩:=I.p t g s R E O U;refine ⟨by omega,λ A=>?_⟩;by_cases z:t=j
   ·subst z;rw [W] at O;cases O;refine absurd ?_ (T g E);rw [A1,U];show some R.h=some h;rw [<-P,<-A,r2,V]
   ·rw [r5 z] at A⊢;rw [P] at A;obtain ⟨e,c,lt⟩:=H A;exact ⟨e,c,by omega⟩
  ·obtain ⟨m,D⟩:=List.mem_iff_getElem?.mp d;obtain ⟨s,u,h2,_,G,N⟩:=get m r D;by_cases z:m=j
   ·rw [G z];rfl
   ·rw [N z] at B⊢;by_cases y:s.h=h
    ·have lt:m < j:=by
      rcases Nat.lt_or_gt_of_ne z with l|l
      ·exact l
      ·exact absurd (by rw [A1,u];show some s.h=_;rw [y]) (T m l)
     obtain ⟨_,H⟩:=I.p m j s Z lt u W;obtain ⟨e,c,_⟩:=H (by rw [y,V]);rw [c];rfl
    ·exact I.o s (Q0 u) λ w=>B (List.mem_filter.mpr ⟨w,decide_eq_true y⟩)
  ·rw [zbo (f:=λ r=>{ r with a:=a,e:=some i }) (λ r=>rfl)];exact I.m k (List.mem_filter.mp K).1
theorem DInv.all :∀{es:List Ev} {i:Nat} {rs:List Rc} {os:List Int},DInv i rs os->EWf os es->dWf i rs es/\∃os',DInv (i + es.length) (dAll i rs es) os'
 | [],i,rs,os,I,_=>⟨trivial,os,I⟩
 | e :: es,i,rs,os,I,w=>by obtain ⟨a,c⟩:=I.step w.1;obtain ⟨b,os',d⟩:=DInv.all a w.2;refine ⟨⟨c,b⟩,os',?_⟩;rw [W0,show i + (es.length + 1)=i + 1 + es.length by omega];exact d
theorem zhb {kvs:List (Key×V)} {h:Int} :∀{os:List Int},kvs.map (·.1)=os.map Sum.inl->(dropK kvs (.inl h)).map (·.1)=(os.filter λ k=>decide (k≠h)).map Sum.inl:=by
 induction kvs with
 | nil=>intro os e;cases os with|nil=>rfl|cons o os=>cases e
 | cons p r ih=>
  intro os e;cases os with
  | nil=>cases e
  | cons o os=>
   rw [Y0,Y0] at e;injection e with e1 e2;by_cases z:o=h
   ·rw [zcj (by rw [e1,z]),Z3 (by simp [z])];exact ih e2
   ·rw [zco (by rw [e1];exact λ y=>z (C7 y)),Y3 (by simp [z]),Y0,Y0,e1,ih e2]
theorem z7h {α β:Type} {R S:α->β->Prop} :∀{xs:List α} {ys:List β},(∀a b,b∈ys->R a b->S a b)->All2 R xs ys->All2 S xs ys
 | _,_,_,.nil=>.nil
 | _,_,h,.cons a r=>.cons (h _ _ j1 a) (z7h (λ x y c z=>h x y (Z0 _ c) z) r)
theorem z1z {α β:Type} {R:α->β->Prop} :∀{xs:List α} {ys:List β},ys.length=xs.length->(∀(k:Nat) a b,xs[k]? = some a->ys[k]? = some b->R a b)->All2 R xs ys
 | [],[],_,_=>.nil
 | [],y :: ys,h,_=>by cases h
 | x :: xs,[],h,_=>by cases h
 | x :: xs,y :: ys,h,f=>.cons (f 0 x y rfl rfl) (z1z (by simpa using h) λ k a b c d=>f (k + 1) a b (by rw [W1];exact c) (by rw [W1];exact d))
end
section
theorem z2b {m:Nat} {rs:List Rc} {a b:Nat} {r q:Rc} (ha:rs[a]? = some r) (hb:rs[b]? = some q):z0f m rs a b=aheadB m r q:=by unfold z0f;rw [ha,hb]
theorem mem_pairsTo {m:Nat} {rs:List Rc} {p:Nat×Nat} {n:Nat}:p∈z2g m rs n↔p.1 < n/\p.2 < rs.length/\z0f m rs p.1 p.2=true:=by
 unfold z2g rowTo;rw [List.mem_flatMap];constructor
 ·rintro ⟨a,ha,h⟩;obtain ⟨b,e,rfl⟩:=List.mem_map.mp h;obtain ⟨d,c⟩:=List.mem_filter.mp e;exact ⟨List.mem_range.mp ha,List.mem_range.mp d,c⟩
 ·rintro ⟨d,c,h3⟩;exact ⟨p.1,List.mem_range.mpr d,List.mem_map.mpr ⟨p.2,List.mem_filter.mpr ⟨List.mem_range.mpr c,h3⟩,rfl⟩⟩
end
section
variable {P:Program} {w:P0} {mg:Str->Option Value} {base:Heap}
def near (i:Int):Prop:=-1000000000<=i/\i<=1000000000
inductive DeedOk:Str->Str->Dt->Prop
 | regR:DeedOk "register" "read" .non
 | regW {i:Int}:near i->DeedOk "register" "write" (.int i)
 | cntR:DeedOk "counter" "read" .non
 | cntA {i:Int}:near i->DeedOk "counter" "add" (.int i)
 | quP {i:Int}:near i->DeedOk "queue" "put" (.int i)
 | quT:DeedOk "queue" "take" .non
 | setP {i:Int}:near i->DeedOk "set" "put" (.int i)
 | setC {i:Int}:near i->DeedOk "set" "cut" (.int i)
 | setH {i:Int}:near i->DeedOk "set" "has" (.int i)
 | celR:DeedOk "cell" "read" .non
 | celW {i:Int}:near i->DeedOk "cell" "write" (.int i)
 | celS {i j:Int}:near i->near j->DeedOk "cell" "swap" (.tup [.int i,.int j])
noncomputable def kinds5:List Str:=["register","counter","queue","set","cell"]
noncomputable def verbsT (k:Str):List Str:=if k = "register" then ["write","read"] else if k = "counter" then ["add","read"] else if k = "queue" then ["put","take"] else if k = "set" then ["put","cut","has"] else ["read","write","swap","swap"]
def VerbOk (k v:Str):Prop:=((v = "read"\/v = "take")/\DeedOk k v .non)\/(v = "swap"/\∀i j,near i->near j->DeedOk k v (.tup [.int i,.int j]))\/(v≠"read"/\v≠"take"/\v≠"swap"/\∀i,near i->DeedOk k v (.int i))
theorem zjc {k v:Str} (hk:k∈kinds5) (hv:v∈verbsT k):VerbOk k v:=by
 unfold kinds5 at hk;simp only [L1,u0,or_false] at hk;rcases hk with rfl|rfl|rfl|rfl|rfl
 ·rw [show verbsT "register" = (["write","read"]:List Str) by decide +kernel] at hv;simp only [L1,u0,or_false] at hv;rcases hv with rfl|rfl
  ·exact .inr (.inr ⟨by decide +kernel,by decide +kernel,by decide +kernel,λ i h=>.regW h⟩)
  ·exact .inl ⟨.inl rfl,.regR⟩
 ·rw [show verbsT "counter" = (["add","read"]:List Str) by decide +kernel] at hv;simp only [L1,u0,or_false] at hv;rcases hv with rfl|rfl
  ·exact .inr (.inr ⟨by decide +kernel,by decide +kernel,by decide +kernel,λ i h=>.cntA h⟩)
  ·exact .inl ⟨.inl rfl,.cntR⟩
 ·rw [show verbsT "queue" = (["put","take"]:List Str) by decide +kernel] at hv;simp only [L1,u0,or_false] at hv;rcases hv with rfl|rfl
  ·exact .inr (.inr ⟨by decide +kernel,by decide +kernel,by decide +kernel,λ i h=>.quP h⟩)
  ·exact .inl ⟨.inr rfl,.quT⟩
 ·rw [show verbsT "set" = (["put","cut","has"]:List Str) by decide +kernel] at hv;simp only [L1,u0,or_false] at hv;rcases hv with rfl|rfl|rfl
  ·exact .inr (.inr ⟨by decide +kernel,by decide +kernel,by decide +kernel,λ i h=>.setP h⟩)
  ·exact .inr (.inr ⟨by decide +kernel,by decide +kernel,by decide +kernel,λ i h=>.setC h⟩)
  ·exact .inr (.inr ⟨by decide +kernel,by decide +kernel,by decide +kernel,λ i h=>.setH h⟩)
 ·rw [show verbsT "cell" = (["read","write","swap","swap"]:List Str) by decide +kernel] at hv;simp only [L1,u0,or_false] at hv;rcases hv with rfl|rfl|rfl|rfl
  ·exact .inl ⟨.inl rfl,.celR⟩
  ·exact .inr (.inr ⟨by decide +kernel,by decide +kernel,by decide +kernel,λ i h=>.celW h⟩)
  ·exact .inr (.inl ⟨rfl,λ i j a b=>.celS a b⟩)
  ·exact .inr (.inl ⟨rfl,λ i j a b=>.celS a b⟩)
theorem zkc (z:Str) (ws:List Str):inV (.str z) (ws.map V.str)=decide (z∈ws):=by
 unfold inV;rw [j17,Bool.eq_iff_iff,X6,decide_eq_true_eq];constructor
 ·rintro ⟨x,hx,e⟩;have e:x=z:=eq_of_beq (show (x == z)=true from e);rw [<-e];exact hx
 ·exact λ h=>⟨z,h,(show (z == z)=true from beq_self_eq_true z)⟩
theorem zao {L:List Addr} {H H':Hp} (k:KeptL L H H') (n :∀l∈L,H l=none):Same H H':=λ b o e=>k b o (λ z=>by rw [n b z] at e;cases e) e
structure WordsAt (H:Hp) (p:Addr) (n:Nat) (f:Str->Option (List Str)):Prop where
 ex :∃kvs:List (Key×V),H p=some (.dK kvs)/\kvs.length<=n/\∀k ws,f k=some ws->∃l,valV kvs (.inr k)=some (.ref l)/\H l=some (.lst (ws.map V.str))
theorem zc1 (kvs:List (Key×V)) (k:Key) (v:V):(putK kvs k v).length<=kvs.length + 1:=by
 unfold putK;split
 ·rw [F0];exact A3 _
 ·rw [G0];exact A0 _
theorem WordsAt.put {H:Hp} {p l:Addr} {n:Nat} {f:Str->Option (List Str)} {kvs:List (Key×V)} {k:Str} {ws:List Str} (hl:H l=none) (e:H p=some (.dK kvs)) (hn:kvs.length<=n) (h :∀k ws,f k=some ws->∃l,valV kvs (.inr k)=some (.ref l)/\H l=some (.lst (ws.map V.str))) :
  ∃H',H'=upd (upd H l (.lst (ws.map V.str))) p (.dK (putK kvs (.inr k) (.ref l)))/\WordsAt H' p (n + 1) (λ j=>if j=k then some ws else f j)/\KeptL [p] H H':=by
 have q:p≠l:=z07 e hl;refine ⟨_,rfl,⟨_,upd_same,C0 (zc1 _ _ _) (O5 hn),λ j i a=>?_⟩,λ b o t d=>?_⟩
 ·by_cases z:j=k
  ·subst z;rw [if_pos rfl] at a;cases a;refine ⟨l,by rw [z3s,if_pos rfl],?_⟩;rw [upd_ne q.symm];exact upd_same
  ·rw [if_neg z] at a;obtain ⟨m,g,c⟩:=h j i a;refine ⟨m,by rw [z3s,if_neg (λ y=>z (B7 y))];exact g,?_⟩;have r:m≠p:=λ y=>by rw [y,e] at c;cases c
   rw [upd_ne r,upd_ne (z07 c hl)];exact c
 ·have s:b≠p:=λ z=>t (by rw [z];exact List.mem_singleton.mpr rfl);rw [upd_ne s,upd_ne (z07 d hl)];exact d
theorem words3 {H:Hp} {p l1 l2 l3:Addr} {k1 k2 k3:Str} {w1 w2 w3:List Str} (hp:H p=none) (h1:upd H p (.dK []) l1=none) (h2:upd (upd H p (.dK [])) l1 (.lst (w1.map V.str)) l2=none)
  (h3:upd (upd (upd H p (.dK [])) l1 (.lst (w1.map V.str))) l2 (.lst (w2.map V.str)) l3=none) (n12:k1≠k2) (n13:k1≠k3) (n23:k2≠k3) :
  upd (upd (upd (upd H p (.dK [])) l1 (.lst (w1.map V.str))) l2 (.lst (w2.map V.str))) l3 (.lst (w3.map V.str)) p=some (.dK [])/\
  ∃H',H'=upd (upd (upd (upd (upd H p (.dK [])) l1 (.lst (w1.map V.str))) l2 (.lst (w2.map V.str))) l3 (.lst (w3.map V.str))) p (.dK [(.inr k1,.ref l1),(.inr k2,.ref l2),(.inr k3,.ref l3)])/\Same H H'/\
   H' p=some (.dK [(.inr k1,.ref l1),(.inr k2,.ref l2),(.inr k3,.ref l3)])/\∀k ws,(if k=k1 then some w1 else if k=k2 then some w2 else if k=k3 then some w3 else none)=some ws->∃l,valV [((.inr k1:Key),V.ref l1),(.inr k2,.ref l2),(.inr k3,.ref l3)] (.inr k)=some (.ref l)/\H' l=some (.lst (ws.map V.str)):=by
 have c:p≠l1:=z07 upd_same h1;have f:p≠l2:=z07 (by rw [upd_ne c];exact upd_same) h2;have g:p≠l3:=z07 (by rw [upd_ne f,upd_ne c];exact upd_same) h3;have i:l1≠l2:=z07 upd_same h2;have j:l1≠l3:=z07 (by rw [upd_ne i];exact upd_same) h3;have m:l2≠l3:=z07 upd_same h3;refine ⟨by rw [upd_ne g,upd_ne f,upd_ne c];exact upd_same,_,rfl,λ b o e=>?_,upd_same,λ k ws e=>?_⟩
 ·rw [upd_ne (z07 e hp)];exact ((((Same.upd hp).trans (Same.upd h1)).trans (Same.upd h2)).trans (Same.upd h3)) b o e
 ·have d :∀{a b:Str},a≠b->(Sum.inr a:Key)≠Sum.inr b:=λ h e=>h (B7 e);by_cases z1:k=k1
  ·rw [if_pos z1] at e;cases e;exact ⟨l1,by rw [z1];exact z0n rfl,by rw [upd_ne c.symm,upd_ne j,upd_ne i];exact upd_same⟩
  ·rw [if_neg z1] at e;by_cases z2:k=k2
   ·rw [if_pos z2] at e;cases e;exact ⟨l2,by rw [z2,z0k (d n12)];exact z0n rfl,by rw [upd_ne f.symm,upd_ne m];exact upd_same⟩
   ·rw [if_neg z2] at e;by_cases z3:k=k3
    ·rw [if_pos z3] at e;cases e;exact ⟨l3,by rw [z3,z0k (d n13),z0k (d n23)];exact z0n rfl,by rw [upd_ne g.symm];exact upd_same⟩
    ·rw [if_neg z3] at e;cases e
def WorthIn (H:Hp) (d:Dt) (x:V):Prop:=∀a b:Int,d=.tup [.int a,.int b]->∃t,x=.ref t/\H t=some (.tup [.int a,.int b])
theorem e9:(10:Int) ^ (9:Int).toNat=1000000000:=by decide
theorem p9:CPow 10 9:=⟨by decide,by decide,by decide⟩
end
section
inductive Sv
 | num (i:Int)
 | row (ns:List Int)
def rowK (k:Str):Prop:=k = "queue"\/k = "set"
instance (k:Str):Decidable (rowK k):=by unfold rowK;infer_instance
noncomputable def opOf (k v:Str):Nat:=if k = "queue" then (if v = "put" then 0 else 1) else if k = "set" then (if v = "put" then 2 else if v = "cut" then 3 else 4) else if v = "read" then 5 else if v = "add" then 6 else if v = "write" then 7 else 8
noncomputable def dI:Dt->Int
 | .int i=>i
 | _=>0
noncomputable def srtI (ns:List Int):List Int:=ns.mergeSort λ a b=>decide (a<=b)
noncomputable def dzo:Nat->Dt->Sv->Sv×V
 | 0,d,.row ns=>(.row (ns++[dI d]),.str "ok")
 | 1,_,.row []=>(.row [],.str "none")
 | 1,_,.row (m :: r)=>(.row r,.int m)
 | 2,d,.row ns=>if dI d∈ns then (.row ns,.int 0) else (.row (srtI (ns++[dI d])),.int 1)
 | 3,d,.row ns=>(.row (ns.filter λ j=>!decide (j=dI d)),.int (if dI d∈ns then 1 else 0))
 | 4,d,.row ns=>(.row ns,.int (if dI d∈ns then 1 else 0))
 | 5,_,.num i=>(.num i,.int i)
 | 6,d,.num i=>(.num (i + dI d),.int i)
 | 7,d,.num _=>(.num (dI d),.str "ok")
 | 8,.tup [.int a,.int b],.num i=>if i=a then (.num b,.int 1) else (.num i,.int 0)
 | _,_,s=>(s,.non)
noncomputable def dz (k v:Str) (d:Dt) (s:Sv):Sv×V:=dzo (opOf k v) d s
theorem dz_at {k v:Str} {d:Dt} {s:Sv} {n:Nat} (h:opOf k v=n):dz k v d s=dzo n d s:=by unfold dz;rw [h]
theorem dz_quP {i:Int} {ns:List Int}:dz "queue" "put" (.int i) (.row ns)=(.row (ns++[i]),.str "ok"):=dz_at (n:=0) (by decide +kernel)
theorem zdo {d:Dt}:dz "queue" "take" d (.row [])=(.row [],.str "none"):=dz_at (n:=1) (by decide +kernel)
theorem dz_quT {d:Dt} {m:Int} {r:List Int}:dz "queue" "take" d (.row (m :: r))=(.row r,.int m):=dz_at (n:=1) (by decide +kernel)
theorem zch {i:Int} {ns:List Int}:dz "set" "put" (.int i) (.row ns)=if i∈ns then (.row ns,.int 0) else (.row (srtI (ns++[i])),.int 1):=dz_at (n:=2) (by decide +kernel)
theorem zf0 {i:Int} {ns:List Int}:dz "set" "cut" (.int i) (.row ns)=(.row (ns.filter λ j=>!decide (j=i)),.int (if i∈ns then 1 else 0)):=dz_at (n:=3) (by decide +kernel)
theorem zf4 {i:Int} {ns:List Int}:dz "set" "has" (.int i) (.row ns)=(.row ns,.int (if i∈ns then 1 else 0)):=dz_at (n:=4) (by decide +kernel)
theorem zem {d:Dt} {i:Int}:dz "register" "read" d (.num i)=(.num i,.int i):=dz_at (n:=5) (by decide +kernel)
theorem zer {d:Dt} {i:Int}:dz "counter" "read" d (.num i)=(.num i,.int i):=dz_at (n:=5) (by decide +kernel)
theorem zfp {d:Dt} {i:Int}:dz "cell" "read" d (.num i)=(.num i,.int i):=dz_at (n:=5) (by decide +kernel)
theorem zdu {i j:Int}:dz "counter" "add" (.int j) (.num i)=(.num (i + j),.int i):=dz_at (n:=6) (by decide +kernel)
theorem zed {i j:Int}:dz "register" "write" (.int j) (.num i)=(.num j,.str "ok"):=dz_at (n:=7) (by decide +kernel)
theorem zek {i j:Int}:dz "cell" "write" (.int j) (.num i)=(.num j,.str "ok"):=dz_at (n:=7) (by decide +kernel)
theorem zc2 {i a b:Int}:dz "cell" "swap" (.tup [.int a,.int b]) (.num i)=if i=a then (.num b,.int 1) else (.num i,.int 0):=dz_at (n:=8) (by decide +kernel)
theorem z8e (ns:List Int):(srtI ns).Perm ns:=List.mergeSort_perm ns _
theorem z4u (ns:List Int):(srtI ns).Pairwise (·<=·):=by have:=j13 (le:=λ a b:Int=>decide (a<=b)) (λ a b c d e=>decide_eq_true (Int.le_trans (of_decide_eq_true d) (of_decide_eq_true e))) (λ a b=>by rcases Int.le_total a b with h|h<;>simp [h]) ns;exact this.imp λ h=>of_decide_eq_true h
theorem zc4 {xs ys:List Int} (p:xs.Perm ys) (hx:xs.Pairwise (·<=·)) (hy:ys.Pairwise (·<=·)):xs=ys:=p.eq_of_pairwise (le:=(·<=·)) (λ _ _ _ _ b a=>Int.le_antisymm b a) hx hy
theorem zio {ns:List Int} (h:ns.Pairwise (· < ·)):ns.Nodup:=h.imp λ z e=>by omega
noncomputable def SvOk (n:Nat) (k:Str):Sv->Prop
 | .row ns=>rowK k/\ns.length<=n/\(∀i∈ns,near i)/\(k = "set"->ns.Pairwise (· < ·))
 | .num i=>¬ rowK k/\-(1000000000 * (n:Int))<=i/\i<=1000000000 * (n:Int)
def AnsV (a:V):Prop:=a=.str "ok"\/a=.str "none"\/∃i:Int,a=.int i/\-100000000000<=i/\i<=100000000000
theorem SvOk.le {n m:Nat} {k:Str} :∀{s:Sv},n<=m->SvOk n k s->SvOk m k s
 | .row _,l,h=>⟨h.1,C0 h.2.1 l,h.2.2⟩
 | .num _,l,h=>⟨h.1,by have:=h.2.1;omega,by have:=h.2.2;omega⟩
theorem SvOk.isRow {n:Nat} {k:Str} :∀{s:Sv},SvOk n k s->rowK k->∃ns,s=.row ns/\ns.length<=n/\(∀i∈ns,near i)/\(k = "set"->ns.Pairwise (· < ·))
 | .row ns,h,_=>⟨ns,rfl,h.2⟩
 | .num _,h,hk=>absurd hk h.1
theorem SvOk.isNum {n:Nat} {k:Str} :∀{s:Sv},SvOk n k s->¬ rowK k->∃i,s=.num i/\-(1000000000 * (n:Int))<=i/\i<=1000000000 * (n:Int)
 | .row _,h,hk=>absurd h.1 hk
 | .num i,h,_=>⟨i,rfl,h.2⟩
theorem SvOk.row {n:Nat} {k:Str} {ns:List Int} (h1:rowK k) (h2:ns.length<=n) (h3 :∀i∈ns,near i) (h4:k = "set"->ns.Pairwise (· < ·)):SvOk n k (.row ns):=⟨h1,h2,h3,h4⟩
theorem SvOk.num {n:Nat} {k:Str} {i:Int} (h1:¬ rowK k) (h2:-(1000000000 * (n:Int))<=i) (h3:i<=1000000000 * (n:Int)):SvOk n k (.num i):=⟨h1,h2,h3⟩
theorem z2s {i:Int} (h0:-100000000000<=i) (h1:i<=100000000000):AnsV (.int i):=.inr (.inr ⟨i,rfl,h0,h1⟩)
theorem ans_b {p:Prop} [Decidable p]:AnsV (.int (if p then 1 else 0)):=by
 by_cases h:p
 ·rw [if_pos h];exact z2s (by decide) (by decide)
 ·rw [if_neg h];exact z2s (by decide) (by decide)
theorem dz_ok {n:Nat} {k v:Str} {d:Dt} {s:Sv} (hd:DeedOk k v d) (h:SvOk n k s) (hn:n < 63):SvOk (n + 1) k (dz k v d s).1/\AnsV (dz k v d s).2:=by
 have t:rowK "queue":=.inl rfl;have q:rowK "set":=.inr rfl;have A:("queue" : Str)≠"set":=by decide +kernel
 have w:¬ rowK "register":=by decide +kernel
 have u:¬ rowK "counter":=by decide +kernel
 have p:¬ rowK "cell":=by decide +kernel
 cases hd with
 | quP ni=>
  obtain ⟨l,rfl,f,c,o⟩:=h.isRow t;rw [dz_quP];refine ⟨.row t (by rw [G0];exact O5 f) (λ j g=>?_) λ z=>absurd z A,.inl rfl⟩;rcases List.mem_append.mp g with y|y
  ·exact c j y
  ·rw [List.mem_singleton.mp y];exact ni
 | quT=>
  obtain ⟨l,rfl,f,c,o⟩:=h.isRow t;cases l with
  | nil=>rw [zdo];exact ⟨.row t (Z1 _) (λ j g=>by cases g) (λ z=>absurd z A),.inr (.inl rfl)⟩
  | cons m r=>rw [dz_quT];rw [W0] at f;have B:=c m j1;exact ⟨.row t (by omega) (λ j g=>c j (Z0 _ g)) (λ z=>absurd z A),z2s (by have:=B.1;omega) (by have:=B.2;omega)⟩
 | setP ni=>
  rename_i i;obtain ⟨l,rfl,f,c,o⟩:=h.isRow q;rw [zch];by_cases z:i∈l
  ·rw [if_pos z];exact ⟨.row q (O4 f) c o,z2s (by decide) (by decide)⟩
  ·rw [if_neg z];have x:=z8e (l++[i]);refine ⟨.row q (by rw [x.length_eq,G0];exact O5 f) (λ j g=>?_) (λ _=>?_),z2s (by decide) (by decide)⟩
   ·rcases List.mem_append.mp (x.mem_iff.mp g) with y|y
    ·exact c j y
    ·rw [List.mem_singleton.mp y];exact ni
   ·have C:(srtI (l++[i])).Nodup:=x.nodup_iff.mpr (by rw [F4];exact ⟨zio (o rfl),by simp,λ a D b E e=>z (by rw [<-List.mem_singleton.mp E,<-e];exact D)⟩);exact ((z4u (l++[i])).and C).imp λ h=>by have:=h.1;have:=h.2;omega
 | setC ni=>obtain ⟨l,rfl,f,c,o⟩:=h.isRow q;rw [zf0];exact ⟨.row q (C0 (P2 _ _) (O4 f)) (λ j g=>c j (List.mem_filter.mp g).1) (λ z=>(o z).filter _),ans_b⟩
 | setH ni=>obtain ⟨l,rfl,f,c,o⟩:=h.isRow q;rw [zf4];exact ⟨.row q (O4 f) c o,ans_b⟩
 | regR=>obtain ⟨a,rfl,f,c⟩:=h.isNum w;rw [zem];exact ⟨.num w (by omega) (by omega),z2s (by omega) (by omega)⟩
 | cntR=>obtain ⟨a,rfl,f,c⟩:=h.isNum u;rw [zer];exact ⟨.num u (by omega) (by omega),z2s (by omega) (by omega)⟩
 | celR=>obtain ⟨a,rfl,f,c⟩:=h.isNum p;rw [zfp];exact ⟨.num p (by omega) (by omega),z2s (by omega) (by omega)⟩
 | cntA ni=>obtain ⟨a,rfl,f,c⟩:=h.isNum u;rw [zdu];have:=ni.1;have:=ni.2;exact ⟨.num u (by omega) (by omega),z2s (by omega) (by omega)⟩
 | regW ni=>obtain ⟨a,rfl,f,c⟩:=h.isNum w;rw [zed];have:=ni.1;have:=ni.2;exact ⟨.num w (by omega) (by omega),.inl rfl⟩
 | celW ni=>obtain ⟨a,rfl,f,c⟩:=h.isNum p;rw [zek];have:=ni.1;have:=ni.2;exact ⟨.num p (by omega) (by omega),.inl rfl⟩
 | celS ni nj=>
  rename_i i j;obtain ⟨a,rfl,f,c⟩:=h.isNum p;rw [zc2];have:=nj.1;have:=nj.2;by_cases z:a=i
  ·rw [if_pos z];exact ⟨.num p (by omega) (by omega),z2s (by decide) (by decide)⟩
  ·rw [if_neg z];exact ⟨.num p (by omega) (by omega),z2s (by decide) (by decide)⟩
noncomputable def StZ (K:b0) (H:Hp):Sv->V->Prop
 | .row ns,v=>∃p,v=.ref p/\SqT K H p (ns.map V.int)
 | .num i,v=>v=.int i
theorem StZ.tups {K:b0} {H H':Hp} (t:Tups K H H') :∀{s:Sv} {v:V},StZ K H s v->StZ K H' s v
 | .row _,_,h=>h.elim λ p z=>⟨p,z.1,t _ _ z.2⟩
 | .num _,_,h=>h
noncomputable def zeroK (k:Str):Sv:=if rowK k then .row [] else .num 0
theorem zfr (k:Str):SvOk 0 k (zeroK k):=by
 unfold zeroK;by_cases h:rowK k
 ·rw [if_pos h];exact .row h (A0 _) (λ i a=>by cases a) (λ _=>.nil)
 ·rw [if_neg h];exact .num h (by omega) (by omega)
end
section
variable {P:Program} {w:P0} {mg:Str->Option Value} {base:Heap}
structure Tt (K:b0) (H H':Hp):Prop where
 t:Tups K H H'
 l :∀a xs,H a=some (.tup xs)->H' a=some (.tup xs)
theorem Tt.of {K:b0} {H H':Hp} (s:Same H H'):Tt K H H':=⟨.of s,λ _ _ h=>s _ _ h⟩
theorem Tt.trans {K:b0} {H H1 H2:Hp} (a:Tt K H H1) (b:Tt K H1 H2):Tt K H H2:=⟨a.t.trans b.t,λ _ _ h=>b.l _ _ (a.l _ _ h)⟩
def MutAt (H:Hp) (l:Addr):Prop:=(∃zs,H l=some (.lst zs))\/∃kvs:List (Key×V),H l=some (.dK kvs)
theorem KeptL.tt {K:b0} {L:List Addr} {H H':Hp} (k:KeptL L H H') (m :∀l∈L,MutAt H l):Tt K H H':=by
 refine ⟨λ a b h=>?_,λ a b h=>k _ _ (λ z=>?_) h⟩
 ·rcases h with (h|⟨ob,h⟩)|h
  ·exact .inl (.inl (k _ _ (λ z=>by rcases m a z with ⟨_,e⟩|⟨_,e⟩<;>(rw [h] at e;cases e)) h))
  ·exact .inl (.inr ⟨ob,k _ _ (λ z=>by rcases m a z with ⟨_,e⟩|⟨_,e⟩<;>(rw [h] at e;cases e)) h⟩)
  ·exact .inr h
 ·rcases m a z with ⟨_,e⟩|⟨_,e⟩<;>(rw [h] at e;cases e)
def ThAt (H:Hp) (p:Addr) (ts:List (Str×Str)):Prop:=∃ys,H p=some (.tup ys)/\All2 (λ (t:Str×Str) y=>∃b,y=.ref b/\H b=some (.tup [.str t.1,.str t.2])) ts ys
structure ThOk (ts:List (Str×Str)):Prop where
 n0:0 < ts.length
 n6:ts.length<=6
 nd:(ts.map (·.1)).Nodup
 ks :∀t∈ts,t.2∈kinds5
theorem ThAt.tt {K:b0} {H H':Hp} {p:Addr} {ts:List (Str×Str)} (t:Tt K H H') (h:ThAt H p ts):ThAt H' p ts:=h.elim λ a z=>⟨a,t.l _ _ z.1,z01 (λ _ _ y=>y.elim λ b x=>⟨b,x.1,t.l _ _ x.2⟩) z.2⟩
def kindR (K:b0) (x y:V) (H:Hp):Prop:=∃(n k:Str) (b:Addr),x=.str n/\y=.ref b/\k∈kinds5/\H b=some (.tup [.str n,.str k])
theorem z7g {K:b0} {H:Hp} :∀{ks:List Str} {ys:List V},All2 (λ x y=>kindR K x y H) (ks.map V.str) ys->∃ts:List (Str×Str),ts.map (·.1)=ks/\(∀t∈ts,t.2∈kinds5)/\All2 (λ (t:Str×Str) y=>∃b,y=.ref b/\H b=some (.tup [.str t.1,.str t.2])) ts ys
 | [],_,h=>by cases h;exact ⟨[],rfl,λ _ z=>absurd z u0,.nil⟩
 | n :: ks,_,h=>by
  cases h with
  | cons a r=>
   obtain ⟨ts,e,f,c⟩:=z7g r;obtain ⟨m,k,b,d,i,j,l⟩:=a;cases d;refine ⟨(n,k) :: ts,by rw [Y0,e],λ t g=>?_,.cons ⟨b,i,l⟩ c⟩;rcases List.mem_cons.mp g with z|z
   ·rw [z];exact j
   ·exact f t z
theorem WorthIn.tt {K:b0} {H H':Hp} {d:Dt} {x:V} (t:Tt K H H') (h:WorthIn H d x):WorthIn H' d x:=λ a b e=>(h a b e).elim λ p z=>⟨p,z.1,t.l _ _ z.2⟩
theorem do_can {H:Hp} {k v:Str} {st x:V} {d:Dt} {n:Nat} {sv:Sv} {Q:VK} {E:XK} (so:SvOk n k sv) (sz:StZ (kx w) H sv st) (hn:n < 63) (hd:DeedOk k v d) (hx:IsDt (kx w) H d x) (wi:WorthIn H d x)
  (q :∀p st' H',Same H H'->H' p=some (.tup [st',(dz k v d sv).2])->StZ (kx w) H' (dz k v d sv).1 st'->Q (.ref p) H'):sp_do (kx w) [.str k,st,.str v,x] H Q E:=by
 have B :∀i:Int,Flat H (.int i):=λ i M e=>by cases e
 have F:Flat H .non:=λ M e=>by cases e
 have s :∀i:Int,near i->z0x (.int i) 1000000000=true:=λ i h=>by unfold z0x;dsimp only;rw [decide_eq_true h.1,decide_eq_true h.2];rfl
 have K:rowK "queue":=.inl rfl;have G:rowK "set":=.inr rfl;cases hd with
 | quP ni=>rename_i i;obtain ⟨o,rfl,D,_,_⟩:=so.isRow K;obtain ⟨t,rfl,l⟩:=sz;cases (show x=V.int i from hx);rw [dz_quP] at q;refine ⟨_,_,_,_,_,_,_,rfl,rfl,B i,(deedB1 (by decide +kernel)).trans (s i ni),by decide +kernel,.inr (.inr (.inr (.inl ⟨rfl,rfl⟩))),λ H' b=>⟨t,_,_,rfl,b.seqT l,by rw [F0];omega,λ p C A c f u=>q p _ _ (b.trans c) f ⟨C,rfl,?_⟩⟩⟩;rw [show (o++[i]).map V.int=o.map V.int++[V.int i] by rw [E1];rfl];exact u
 | quT=>
  obtain ⟨o,rfl,D,_,_⟩:=so.isRow K;obtain ⟨t,rfl,l⟩:=sz;cases (show x=V.non from hx);refine ⟨_,_,_,_,_,_,_,rfl,rfl,F,(deedB0 (by decide +kernel)).trans rfl,by decide +kernel,.inr (.inr (.inr (.inr (.inl ⟨rfl,rfl⟩)))),λ H' b=>⟨t,o.map V.int,_,rfl,b.seqT l,λ e p A c f=>?_,λ m r e p C A c f u=>?_⟩⟩
  ·cases o with
   | nil=>rw [zdo] at q;exact q p _ _ (b.trans c) f ⟨t,rfl,(b.trans c).seqT l⟩
   | cons m r=>cases e
  ·cases o with
   | nil=>cases e
   | cons m' r'=>rw [dz_quT] at q;rw [Y0] at e;injection e with e1 e3;subst e1 e3;exact q p _ _ (b.trans c) f ⟨C,rfl,u⟩
 | setP ni=>
  rename_i i;obtain ⟨o,rfl,D,_,L⟩:=so.isRow G;obtain ⟨t,rfl,l⟩:=sz;cases (show x=V.int i from hx);rw [zch] at q;refine ⟨_,_,_,_,_,_,_,rfl,rfl,B i,(deedB1 (by decide +kernel)).trans (s i ni),by decide +kernel,.inr (.inr (.inr (.inr (.inr (.inl ⟨rfl,rfl⟩))))),λ H' b=>⟨t,o,_,rfl,b.seqT l,by omega,λ z p A c f=>?_,λ z p C R A c f u N P=>?_⟩⟩
  ·rw [if_pos z] at q;exact q p _ _ (b.trans c) f ⟨t,rfl,(b.trans c).seqT l⟩
  ·rw [if_neg z] at q;rw [zc4 (N.trans (z8e _).symm) P (z4u _)] at u;exact q p _ _ (b.trans c) f ⟨C,rfl,u⟩
 | setC ni=>
  rename_i i;obtain ⟨o,rfl,D,_,L⟩:=so.isRow G;obtain ⟨t,rfl,l⟩:=sz;cases (show x=V.int i from hx);rw [zf0] at q;refine ⟨_,_,_,_,_,_,_,rfl,rfl,B i,(deedB1 (by decide +kernel)).trans (s i ni),by decide +kernel,.inr (.inr (.inr (.inr (.inr (.inr (.inl ⟨rfl,rfl⟩)))))),λ H' b=>⟨t,o,_,rfl,b.seqT l,by omega,λ z p A c f=>?_,λ z p C A c f u=>?_⟩⟩
  ·rw [if_neg z,List.filter_eq_self.mpr (λ j O=>by simp;exact λ e=>z (e ▸ O))] at q;exact q p _ _ (b.trans c) f ⟨t,rfl,(b.trans c).seqT l⟩
  ·rw [if_pos z] at q;exact q p _ _ (b.trans c) f ⟨C,rfl,u⟩
 | setH ni=>rename_i i;obtain ⟨o,rfl,D,_,L⟩:=so.isRow G;obtain ⟨t,rfl,l⟩:=sz;cases (show x=V.int i from hx);rw [zf4] at q;exact ⟨_,_,_,_,_,_,_,rfl,rfl,B i,(deedB1 (by decide +kernel)).trans (s i ni),by decide +kernel,.inr (.inr (.inr (.inr (.inr (.inr (.inr (.inl ⟨rfl,rfl⟩))))))),λ H' b=>⟨t,o,_,rfl,b.seqT l,λ p A c f=>q p _ _ (b.trans c) f ⟨t,rfl,(b.trans c).seqT l⟩⟩⟩
 | regR=>obtain ⟨a,rfl,_⟩:=so.isNum (by decide +kernel);cases (show st=V.int a from sz);cases (show x=V.non from hx);rw [zem] at q;exact ⟨_,_,_,_,_,_,_,rfl,rfl,F,(deedB0 (by decide +kernel)).trans rfl,by decide +kernel,.inl ⟨rfl,rfl⟩,λ H' b=>⟨_,_,rfl,λ p g=>q p _ _ (b.trans (Same.upd g)) upd_same rfl⟩⟩
 | cntR=>obtain ⟨a,rfl,_⟩:=so.isNum (by decide +kernel);cases (show st=V.int a from sz);cases (show x=V.non from hx);rw [zer] at q;exact ⟨_,_,_,_,_,_,_,rfl,rfl,F,(deedB0 (by decide +kernel)).trans rfl,by decide +kernel,.inl ⟨rfl,rfl⟩,λ H' b=>⟨_,_,rfl,λ p g=>q p _ _ (b.trans (Same.upd g)) upd_same rfl⟩⟩
 | celR=>obtain ⟨a,rfl,_⟩:=so.isNum (by decide +kernel);cases (show st=V.int a from sz);cases (show x=V.non from hx);rw [zfp] at q;exact ⟨_,_,_,_,_,_,_,rfl,rfl,F,(deedB0 (by decide +kernel)).trans rfl,by decide +kernel,.inl ⟨rfl,rfl⟩,λ H' b=>⟨_,_,rfl,λ p g=>q p _ _ (b.trans (Same.upd g)) upd_same rfl⟩⟩
 | cntA ni=>rename_i i;obtain ⟨a,rfl,_⟩:=so.isNum (by decide +kernel);cases (show st=V.int a from sz);cases (show x=V.int i from hx);rw [zdu] at q;exact ⟨_,_,_,_,_,_,_,rfl,rfl,B i,(deedB1 (by decide +kernel)).trans (s i ni),by decide +kernel,.inr (.inr (.inl ⟨rfl,rfl⟩)),λ H' b=>⟨_,_,rfl,λ p g=>q p _ _ (b.trans (Same.upd g)) upd_same rfl⟩⟩
 | regW ni=>rename_i i;obtain ⟨a,rfl,_⟩:=so.isNum (by decide +kernel);cases (show st=V.int a from sz);cases (show x=V.int i from hx);rw [zed] at q;exact ⟨_,_,_,_,_,_,_,rfl,rfl,B i,(deedB1 (by decide +kernel)).trans (s i ni),by decide +kernel,.inr (.inl ⟨rfl,rfl⟩),λ H' b=>⟨_,_,rfl,λ p g=>q p _ _ (b.trans (Same.upd g)) upd_same rfl⟩⟩
 | celW ni=>rename_i i;obtain ⟨a,rfl,_⟩:=so.isNum (by decide +kernel);cases (show st=V.int a from sz);cases (show x=V.int i from hx);rw [zek] at q;exact ⟨_,_,_,_,_,_,_,rfl,rfl,B i,(deedB1 (by decide +kernel)).trans (s i ni),by decide +kernel,.inr (.inl ⟨rfl,rfl⟩),λ H' b=>⟨_,_,rfl,λ p g=>q p _ _ (b.trans (Same.upd g)) upd_same rfl⟩⟩
 | celS ni nj=>
  rename_i i j;obtain ⟨a,rfl,_⟩:=so.isNum (by decide +kernel);cases (show st=V.int a from sz);obtain ⟨t,rfl,e⟩:=wi i j rfl;have J:tupOf H (.ref t)=some [.int i,.int j]:=by unfold tupOf;dsimp only;rw [e]
  rw [zc2] at q;refine ⟨_,_,_,_,_,_,"tuple",rfl,.inr (.inl ⟨⟨_,e⟩,rfl⟩),λ M z=>?_,?_,by decide +kernel,.inr (.inr (.inr (.inr (.inr (.inr (.inr (.inr ⟨rfl,rfl⟩))))))),λ H' b=>⟨a,i,j,t,rfl,SqT.of (b _ _ e),λ p g=>?_⟩⟩
  ·rw [J] at z;cases z;exact ⟨(show (2:Nat)<=1000 by decide),λ y I=>⟨"int",by simp only [L1,u0,or_false] at I;rcases I with rfl|rfl<;>rfl⟩⟩
  ·rw [deedB2 (by decide +kernel) J];show (true && (z0x (.int i) 1000000000 && (z0x (.int j) 1000000000 && true)))=true;rw [s i ni,s j nj];rfl
  ·by_cases z:a=i
   ·rw [if_pos z] at q⊢;exact q p _ _ (b.trans (Same.upd g)) upd_same rfl
   ·rw [if_neg z] at q⊢;exact q p _ _ (b.trans (Same.upd g)) upd_same rfl
def IsA (a:V):Prop:=(∃i,a=.int i)\/∃z,a=.str z
theorem AnsV.isA {a:V} (h:AnsV a):IsA a:=by
 rcases h with rfl|rfl|⟨i,rfl,_⟩
 ·exact .inr ⟨_,rfl⟩
 ·exact .inr ⟨_,rfl⟩
 ·exact .inl ⟨_,rfl⟩
theorem IsA.scal {a b:V} (ha:IsA a\/a=.non) (hb:IsA b\/b=.non):L2.scal a b=true:=by rcases ha with (⟨i,rfl⟩|⟨i,rfl⟩)|rfl<;>rcases hb with (⟨j,rfl⟩|⟨j,rfl⟩)|rfl<;>rfl
noncomputable def EvGd (K:b0) (H:Hp) (ts:List (Str×Str)):Ev->Prop
 | .beg _ n v x=>∃(nm k vb:Str) (dt:Dt),n=.str nm/\v=.str vb/\(nm,k)∈ts/\DeedOk k vb dt/\IsDt K H dt x/\WorthIn H dt x
 | .fin _ a=>IsA a
theorem EvGd.tt {K:b0} {H H':Hp} {ts:List (Str×Str)} (t:Tt K H H') :∀{e:Ev},EvGd K H ts e->EvGd K H' ts e
 | .beg _ _ _ _,⟨nm,k,vb,dt,e1,e2,hm,dk,ix,wi⟩=>⟨nm,k,vb,dt,e1,e2,hm,dk,IsDt.mono' t.t dt _ ix,wi.tt t⟩
 | .fin _ _,h=>h
structure DD where
 nm:Str
 k:Str
 vb:Str
 dt:Dt
def RcGd (K:b0) (H:Hp) (ts:List (Str×Str)) (r:Rc) (p:DD):Prop:=r.n=.str p.nm/\r.v=.str p.vb/\(p.nm,p.k)∈ts/\DeedOk p.k p.vb p.dt/\IsDt K H p.dt r.x/\WorthIn H p.dt r.x/\((r.e=none/\r.a=.non)\/(r.e.isSome=true/\IsA r.a))
theorem RcGd.tt {K:b0} {H H':Hp} {ts:List (Str×Str)} {r:Rc} {p:DD} (t:Tt K H H') (h:RcGd K H ts r p):RcGd K H' ts r p:=⟨h.1,h.2.1,h.2.2.1,h.2.2.2.1,IsDt.mono' t.t _ _ h.2.2.2.2.1,h.2.2.2.2.2.1.tt t,h.2.2.2.2.2.2⟩
theorem ze8 {α β:Type} {R:α->β->Prop} {f:α->α} (hf :∀x y,R x y->R (f x) y) :∀{xs:List α} {ys:List β} (j:Nat),All2 R xs ys->All2 R (xs.modify j f) ys
 | _,_,j,.nil=>by cases j<;>exact .nil
 | _,_,0,.cons a r=>.cons (hf _ _ a) r
 | _,_,j + 1,.cons a r=>.cons a (ze8 hf j r)
end
section
noncomputable def nsV (ns:List Nat):List V:=ns.map λ (n:Nat)=>V.int (n:Int)
theorem z75 (ns:List Nat):(nsV ns).length=ns.length:=F0 ..
theorem inV_ns (i:Nat) (ns:List Nat):inV (.int (i:Nat)) (nsV ns)=decide (i∈ns):=by
 unfold inV nsV;rw [j17,Bool.eq_iff_iff,X6,decide_eq_true_iff];constructor
 ·rintro ⟨n,hn,e⟩;have e:((n:Int))=i:=of_decide_eq_true e;rw [show i=n by omega];exact hn
 ·exact λ h=>⟨i,h,decide_eq_true rfl⟩
theorem z4f (ns:List Nat):(nsV ns).all flatV=true:=by unfold nsV;rw [List.all_map];exact List.all_eq_true.mpr λ _ _=>rfl
theorem zih {ns:List Nat} {us:List V} (h:All2 (λ (a:Nat) y=>y=V.int (a:Nat)) ns us):us=nsV ns:=by
 induction h with
 | nil=>rfl
 | cons a r ih=>subst a;rw [ih];rfl
noncomputable def srtN (ns:List Nat):List Nat:=ns.mergeSort λ a b=>decide (a<=b)
theorem z7k (ns:List Nat):(srtN ns).Perm ns:=List.mergeSort_perm ns _
theorem zcv (ns:List Nat):(srtN ns).Pairwise (·<=·):=by have:=j13 (le:=λ a b:Nat=>decide (a<=b)) (λ a b c d e=>decide_eq_true (C0 (of_decide_eq_true d) (of_decide_eq_true e))) (λ a b=>by rcases Nat.le_total a b with h|h<;>simp [h]) ns;exact this.imp λ h=>of_decide_eq_true h
theorem zhu {ns':List Int} {xs:List Nat} (p:ns'.Perm (xs.map λ (n:Nat)=>(n:Int))) (s:ns'.Pairwise (·<=·)):ns'.map V.int=nsV (srtN xs):=by
 have e:ns'=(srtN xs).map λ (n:Nat)=>(n:Int):=by refine (p.trans ((z7k xs).symm.map _)).eq_of_pairwise (le:=(·<=·)) (λ _ _ _ _ c d=>Int.le_antisymm c d) s ?_;exact List.Pairwise.map _ (λ a b h=>Int.ofNat_le.mpr h) (zcv xs)
 rw [e];unfold nsV;rw [T2];rfl
theorem idx_eq :∀{l:List Str} {x:Str} {i:Nat},l.Nodup->l[i]? = some x->l.idxOf x=i
 | [],_,_,_,h=>by cases h
 | y :: l,x,i,nd,h=>by
  rw [List.nodup_cons] at nd;rw [List.idxOf_cons];cases i with
  | zero=>rw [J2] at h;cases h;rw [beq_self_eq_true];rfl
  | succ i=>rw [W1] at h;have:¬ y=x:=λ z=>nd.1 (z ▸ Q0 h);rw [beq_eq_false_iff_ne.mpr this];show l.idxOf x + 1=_;rw [idx_eq nd.2 h]
noncomputable abbrev Pl:=List Nat×List Sv
noncomputable abbrev Stp:=Nat×V×Pl
noncomputable def ixT (ts:List (Str×Str)) (nm:Str):Nat:=(ts.map (·.1)).idxOf nm
noncomputable def stp (ts:List (Str×Str)) (r:Rc) (p:DD) (n:Nat) (pl:Pl):Option Stp:=match pl.2[ixT ts p.nm]? with
 | some s=>if r.e.isNone || decide ((dz p.k p.vb p.dt s).2=r.a) then some (n,(dz p.k p.vb p.dt s).2,(srtN (pl.1++[n]),pl.2.set (ixT ts p.nm) (dz p.k p.vb p.dt s).1)) else none
 | none=>none
noncomputable def nexAt (c:Nat->Bool) (ts:List (Str×Str)) (rs:List Rc) (ps:List DD) (pl:Pl) (n:Nat):Option Stp:=if c n=true then (match rs[n]?,ps[n]? with|some r,some p=>stp ts r p n pl|_,_=>none) else none
noncomputable def nexT (c:Nat->Bool) (ts:List (Str×Str)) (rs:List Rc) (ps:List DD) (pl:Pl) (i:Nat):List Stp:=(N1 i).filterMap (nexAt c ts rs ps pl)
theorem z40 {c:Nat->Bool} {ts:List (Str×Str)} {rs:List Rc} {ps:List DD} {pl:Pl} {i:Nat}:nexT c ts rs ps pl (i + 1)=nexT c ts rs ps pl i++(nexAt c ts rs ps pl i).toList:=by unfold nexT;rw [L7,List.filterMap_append];congr 1
theorem zfn {c:Nat->Bool} {ts:List (Str×Str)} {rs:List Rc} {ps:List DD} {pl:Pl} {i:Nat}:(nexT c ts rs ps pl i).length<=i:=by unfold nexT;exact C0 (N6 _ _) (by rw [E2];exact A0 _)
noncomputable def cO (m:Nat) (rs:List Rc) (ns:List Nat) (n:Nat):Bool:=decide (n∉ns) && decide (∀a∈N1 rs.length,z0f m rs a n=true->a∈ns)
noncomputable def cP (m:Nat) (rs:List Rc) (ns:List Nat) (n:Nat):Bool:=cO m rs ns n && decide (∀b∈N1 rs.length,z0f m rs n b=true->b∉ns)
noncomputable def cM (m:Nat) (rs:List Rc) (ns:List Nat) (n:Nat):Bool:=decide (n∉ns) && decide (∀a∈N1 rs.length,z0f m rs a n=true->(∃r,rs[a]? = some r/\r.e.isSome=true)->a∈ns) && decide (∀b∈ns,z0f m rs n b=false)
theorem z14 {m:Nat} {rs:List Rc} {a b:Nat} (h:z0f m rs a b=true):a < rs.length/\b < rs.length:=by
 unfold z0f at h;cases ea:rs[a]? with
 | none=>rw [ea] at h;cases h
 | some r=>
  cases eb:rs[b]? with
  | none=>rw [ea,eb] at h;cases h
  | some q=>exact ⟨(List.getElem?_eq_some_iff.mp ea).1,(List.getElem?_eq_some_iff.mp eb).1⟩
theorem zhj {i m:Nat} {rs:List Rc} {os:List Int} {a b:Nat} {r:Rc} (I:DInv i rs os) (h:z0f m rs a b=true) (ha:rs[a]? = some r):r.e.isSome=true:=by
 obtain ⟨_,g⟩:=z14 h;have c:rs[b]? = some rs[b]:=K0 g;generalize rs[b]=q at c;rw [z2b ha c] at h
 match m,h with
 | 0,h=>
  have h:ltO r.e q.b=true:=h;cases e:r.e with
  | none=>rw [e] at h;cases h
  | some x=>rfl
 | 1,h=>
  have h:(decide (r.h=q.h) && decide (r.b < q.b))=true:=h;rw [A2,decide_eq_true_iff,decide_eq_true_iff] at h;have f:a < b:=by
   rcases Nat.lt_trichotomy a b with z|z|z
   ·exact z
   ·subst z;rw [ha] at c;cases c;omega
   ·have:=(I.p b a q r z c ha).1;omega
  obtain ⟨x,d,_⟩:=(I.p a b r q f ha c).2 h.1;rw [d];rfl
 | m + 2,h=>cases (show false=true from h)
theorem cM_cP {i m:Nat} {rs:List Rc} {os:List Int} (I:DInv i rs os) {ns:List Nat} (lt :∀x∈ns,x < rs.length) {n:Nat}:cM m rs ns n=cP m rs ns n:=by
 unfold cM cP cO;rw [Bool.eq_iff_iff];simp only [A2,decide_eq_true_iff];constructor
 ·rintro ⟨⟨h1,h2⟩,h3⟩;refine ⟨⟨h1,λ a d h=>h2 a d h ?_⟩,λ b _ c z=>?_⟩
  ·have g:=List.mem_range.mp d;have f:rs[a]? = some rs[a]:=K0 g;exact ⟨_,f,zhj I h f⟩
  ·rw [h3 b z] at c;cases c
 ·rintro ⟨⟨h1,h2⟩,h3⟩;refine ⟨⟨h1,λ a d h _=>h2 a d h⟩,λ b c=>?_⟩;cases e:z0f m rs n b with
  | false=>rfl
  | true=>exact absurd c (h3 b (List.mem_range.mpr (lt b c)) e)
structure PlOk (ts:List (Str×Str)) (N n:Nat) (pl:Pl):Prop where
 nd:pl.1.Nodup
 lt :∀x∈pl.1,x < N
 so:All2 (λ (t:Str×Str) s=>SvOk n t.2 s) ts pl.2
 nb:n<=4\/n<=pl.1.length
theorem z5c :∀(n:Nat) (ns:List Nat),ns.Nodup->(∀x∈ns,x < n)->ns.length<=n
 | 0,ns,_,h=>by
  cases ns with
  | nil=>exact A0 _
  | cons x r=>exact absurd (h x j1) (R3 _)
 | n + 1,ns,nd,h=>by
  have:=z5c n (ns.erase n) (nd.erase n) λ x a=>by have a:=(List.Nodup.mem_erase_iff nd).mp a;have:=h x a.2;omega
  by_cases m:n∈ns
  ·rw [List.length_erase_of_mem m] at this;omega
  ·rw [List.erase_of_not_mem m] at this;omega
theorem PlOk.n63 {ts:List (Str×Str)} {N n j:Nat} {pl:Pl} (h:PlOk ts N n pl) (N63:N<=63) (hj:j < N) (nj:j∉pl.1):n < 63/\pl.1.length < 63:=by
 have:=z5c N (j :: pl.1) (List.nodup_cons.mpr ⟨nj,h.nd⟩) λ x a=>by
  rcases List.mem_cons.mp a with z|z
  ·omega
  ·exact h.lt x z
 rw [W0] at this;rcases h.nb with z|z<;>omega
end
section
variable {P:Program} {w:P0} {mg:Str->Option Value} {base:Heap}
theorem lk_eq {f:Str} {v:V} {fs:List (Str×V)}:(putF f v fs).lookup f=some v:=by rw [z38,if_pos rfl]
theorem lk_ne {f g:Str} {v:V} {fs:List (Str×V)} (h:g≠f):(putF f v fs).lookup g=fs.lookup g:=by rw [z38,if_neg h]
theorem lk_n {f g:Str} {v:V} {fs:List (Str×V)} {o:Option V} (e:fs.lookup g=o) (h:g≠f:=by decide +kernel):(putF f v fs).lookup g=o:=(lk_ne h).trans e
theorem zck {x dx:Addr} {o1 o2:HO} {H H':Hp} (hx:H x=none) (hd:H dx=none) (k:Kept x (upd (upd H dx o1) x o2) H'):Same H H':=λ p o e=>by
 have a:p≠x:=λ z=>by rw [z,hx] at e;cases e
 have b:p≠dx:=λ z=>by rw [z,hd] at e;cases e
 exact k p o a (by rw [upd_ne a,upd_ne b];exact e)
theorem z2r {K:b0} {ta tv:TE} {f:Str} {rest:TS} {D:Ends} {σ:L2.St} {H:Hp} (h:tv σ H λ y H1=>ta σ H1 λ x H2=>∃a C dx fs,x=.ref a/\H2 a=some (.ins C dx fs)/\Cls K C/\NoAttr K C f/\fs.length < 1000/\rest D σ (upd H2 a (.ins C dx (putF f y fs)))):tSeq (sFld K ta tv f) rest D σ H:=h
theorem zk6 {K:b0} {ta tv:TE} {f:Str} {D:Ends} {σ:L2.St} {H:Hp} (h:tv σ H λ y H1=>ta σ H1 λ x H2=>∃a C dx fs,x=.ref a/\H2 a=some (.ins C dx fs)/\Cls K C/\NoAttr K C f/\fs.length < 1000/\D.nx σ (upd H2 a (.ins C dx (putF f y fs)))):sFld K ta tv f D σ H:=h
theorem zfz (f:Str) (v:V) :∀fs:List (Str×V),(putF f v fs).length<=fs.length + 1
 | []=>A0 _
 | (g,x) :: r=>by
  unfold putF;split
  ·simp
  ·have:=zfz f v r;simp only [W0];omega
theorem z1b {K:b0} {x dx C:Addr} {H H1:Hp} {fs:List (Str×V)} {R:L2.St->Hp->Prop} {σ:L2.St} {f:Str} {y:V} {i n:Nat} (k:Kept x H H1) (e:H1 x=some (.ins C dx fs)) (hv:σ[i]? = some (some (.ref x))) (c:Cls K C) (na:NoAttr K C f) (l:fs.length<=n) (hn:n < 100)
  (q :∀H2,Kept x H H2->(∀b o,b≠x->H1 b=some o->H2 b=some o)->H2 x=some (.ins C dx (putF f y fs))->(putF f y fs).length<=n + 1->R σ H2) :
  tVar i σ H1 λ z H2=>∃a C dx fs,z=.ref a/\H2 a=some (.ins C dx fs)/\Cls K C/\NoAttr K C f/\fs.length < 1000/\R σ (upd H2 a (.ins C dx (putF f y fs))):=
 ⟨_,hv,x,C,dx,fs,rfl,e,c,na,by omega,q _ (k.trans .set) (λ b o d g=>by rw [upd_ne d];exact g) upd_same (C0 (zfz f y fs) (by omega))⟩
theorem ins_tt {K:b0} {x C dx:Addr} {fs:List (Str×V)} {H H':Hp} (e:H x=some (.ins C dx fs)) (k:Kept x H H'):Tt K H H':=by
 refine ⟨λ a b h=>?_,λ a b h=>k _ _ (λ z=>by rw [z,e] at h;cases h) h⟩;rcases h with (h|⟨ob,h⟩)|h
 ·exact .inl (.inl (k _ _ (λ z=>by rw [z,e] at h;cases h) h))
 ·exact .inl (.inr ⟨ob,k _ _ (λ z=>by rw [z,e] at h;cases h) h⟩)
 ·exact .inr h
theorem zi2 {ps:List (Nat×Nat)} {q:Nat×Nat->Bool} {f:Nat×Nat->Nat} {us:List V} (h:All2 (λ (i:Nat) y=>∃p,ps[i]? = some p/\y=V.int (f p:Nat)) ((N1 ps.length).filter λ i=>(ps[i]?.map q).getD false) us) :∃as,us=nsV as/\as.length<=ps.length/\∀a,a∈as↔∃p∈ps,q p=true/\f p=a:=by
 refine ⟨((N1 ps.length).filter λ i=>(ps[i]?.map q).getD false).map λ i=>f (ps[i]?.getD (0,0)),?_,?_,λ a=>?_⟩
 ·generalize (N1 ps.length).filter (λ i=>(ps[i]?.map q).getD false)=is at h;induction h with
  | nil=>rfl
  | cons a r ih=>obtain ⟨p,d,b⟩:=a;rw [ih,b,Y0,d];rfl
 ·rw [F0];exact C0 (P2 _ _) (by rw [E2];exact A0 _)
 ·rw [List.mem_map];constructor
  ·rintro ⟨i,c,e⟩;obtain ⟨d,b⟩:=List.mem_filter.mp c;have j:=List.mem_range.mp d;have g:ps[i]? = some ps[i]:=K0 j;rw [g] at b e;exact ⟨_,Q0 g,b,e⟩
  ·rintro ⟨p,g,d,b⟩;obtain ⟨i,c⟩:=List.mem_iff_getElem?.mp g;refine ⟨i,List.mem_filter.mpr ⟨List.mem_range.mpr (List.getElem?_eq_some_iff.mp c).1,?_⟩,?_⟩
   ·rw [c];exact d
   ·rw [c];exact b
theorem dec_iN (i j:Nat):decide (V.int (i:Int)=V.int (j:Int))=decide (i=j):=decide_eq_decide.mpr ⟨λ e=>by have:=V.int.inj e;omega,λ e=>by rw [e]⟩
def z1c (K:b0):Sp:=λ vs H Q _=>∃(x dx lp:Addr) (n:Nat) (iv kv y:V) (zs:List V) (ps:List (Nat×Nat)) (r:Rc),vs=[.ref x,.int n,y,iv,kv,.ref lp]/\H x=some (.ins 253 dx [])/\RcAt K H r y/\H lp=some (.lst zs)/\All2 (PairAt H) ps zs/\ps.length<=10000/\
 ∀fs la lb as bs H',Kept x H H'->H' x=some (.ins 253 dx fs)->fs.lookup ("number" : Str)=some (.int n)->fs.lookup ("thing" : Str)=some iv->fs.lookup ("kind" : Str)=some kv->fs.lookup ("verb" : Str)=some r.v->fs.lookup ("worth" : Str)=some r.x->fs.lookup ("answer" : Str)=some r.a->fs.lookup ("aheads" : Str)=some (.ref la)->fs.lookup ("behinds" : Str)=some (.ref lb)->fs.lookup ("may_stand" : Str)=none->H' la=some (.lst (nsV as))->H' lb=some (.lst (nsV bs))->(∀a,a∈as↔(a,n)∈ps)->(∀b,b∈bs↔(n,b)∈ps)->as.length<=10000->bs.length<=10000->H la=none->H lb=none->Q .non H'
theorem zaq (T:TX (kx w) mg):Fo P w mg base (CXE P w base) 1 243 y01 ["self","number","deed","thing","kind","pairs"] (z1c (kx w)):=by
 refine (z1e w.params).okE z3e (λ vs H Q E h=>?_) (λ c0 A b9 s H vs Q E hr h=>?_)
 ·obtain ⟨x,dx,M,n,iv,kv,y,D,e,r,rfl,_⟩:=h;rfl
 ·obtain ⟨x,dx,M,n,iv,kv,y,D,e,r,rfl,C,⟨p,rfl,sq⟩,V,al,pl,q⟩:=h;refine ⟨_,(z02 (ps_fld (pv 0) (pv 1) rfl)
   (z02 (ps_fld (pv 0) (pv 3) rfl)
   (z02 (ps_fld (pv 0) (pv 4) rfl)
   (z02 (ps_fld (pv 0) (pe_ix ix_seq (pv 2) pe_int (λ _ _=>rfl)) rfl)
   (z02 (ps_fld (pv 0) (pe_ix ix_seq (pv 2) pe_int (λ _ _=>rfl)) rfl)
   (z02 (ps_fld (pv 0) (pe_ix ix_seq (pv 2) pe_int (λ _ _=>rfl)) rfl)
   (z02 (ps_fld (pv 0) (pe_cg (xs:=["ahead","behind"]) (g:=gTup (kx w) 2 (gCons (gName 0) (gCons (gName 1) gNil))) (fr:=[(1,"number")]) (z49 (pv 5)) (λ _ _ _ _ _=>(pg_tup rfl (z0a (pg_cn (N:=["ahead","behind","number"]) 0) (z0a (pg_cn (N:=["ahead","behind","number"]) 1) z10)))) (λ _ _ _ _ _=>(pf_one (z08 opEq (pv 1) (pv 2) (nomark _)))) (λ _ _ _ _ _=>(pv 0))) rfl)
   (z04 (ps_fld (pv 0) (pe_cg (xs:=["ahead","behind"]) (g:=gTup (kx w) 2 (gCons (gName 0) (gCons (gName 1) gNil))) (fr:=[(1,"number")]) (z49 (pv 5)) (λ _ _ _ _ _=>(pg_tup rfl (z0a (pg_cn (N:=["ahead","behind","number"]) 0) (z0a (pg_cn (N:=["ahead","behind","number"]) 1) z10)))) (λ _ _ _ _ _=>(pf_one (z08 opEq (pv 0) (pv 2) (nomark _)))) (λ _ _ _ _ _=>(pv 1))) rfl))))))))),?_⟩
  have a5 :∀{H1 J:Hp} {l:Addr},Kept x H H1->Kept x H1 J->l≠x->J l=none->H l=none:=λ {H1 J l} k k' nl hl=>by
   cases z:H l with
   | none=>rfl
   | some o=>rw [k' l o nl (k l o nl z)] at hl;cases hl
  refine z2r ⟨_,rfl,z1b Kept.refl C rfl (z09 _) (z0o _) (n:=0) (A0 _) (by decide) λ H1 d _ e1 c=>?_⟩;refine z2r ⟨_,rfl,z1b d e1 rfl (z09 _) (z20 _) c (by decide) λ J B _ e2 c=>?_⟩;refine z2r ⟨_,rfl,z1b B e2 rfl (z09 _) (z2e _) c (by decide) λ H3 k3 _ e3 c=>?_⟩;have t3:Tt (kx w) H H3:=ins_tt C k3;refine z2r ⟨_,rfl,.inr (.inl ⟨p,_,2,r.v,rfl,rfl,t3.t _ _ sq,z05 (j:=2) rfl,z1b k3 e3 rfl (z09 _) (z2f _) c (by decide) λ H4 k4 _ e4 c=>?_⟩)⟩;refine z2r ⟨_,rfl,.inr (.inl ⟨p,_,3,r.x,rfl,rfl,(ins_tt C k4).t _ _ sq,z05 (j:=3) rfl,z1b k4 e4 rfl (z09 _) (z1x _) c (by decide) λ H5 k5 _ e5 c=>?_⟩)⟩;refine z2r ⟨_,rfl,.inr (.inl ⟨p,_,4,r.a,rfl,rfl,(ins_tt C k5).t _ _ sq,z05 (j:=4) rfl,z1b k5 e5 rfl (z09 _) (z0w _) c (by decide) λ H6 L _ e6 c=>?_⟩)⟩;have a2:M≠x:=λ z=>by rw [z,C] at V;cases V
  have zl:D.length=e.length:=z03 al;have b0 :∀{S:Hp},Kept x H S->All2 (PairAt S) e D:=λ k=>z01 (λ _ _ z=>z.elim λ b y=>⟨b,y.1,(ins_tt (K:=KX w.params) C k).l _ _ y.2⟩) al;refine z2r ?_;refine zak (K:=KX w.params) (a:=M) (xs:=D) (H1:=H6) (λ i=>(e[i]?.map λ p=>decide (p.2=n)).getD false) (λ i y _=>∃p,e[i]? = some p/\y=.int (((λ p:Nat×Nat=>p.1) p:Nat):Int)) (λ _ _ _ _ _ z=>z) (λ R h=>⟨_,rfl,h⟩) (SqL.of (L _ _ a2 V)) (C0 (m:=10000) (by omega) (by decide)) (λ i hi v S s' Y KT KF d B=>?_) λ I H7 us s7 X a1=>?_
  ·obtain ⟨u,hp,b,rfl,eb⟩:=z0g (b0 L) Y;rw [hp] at d B;refine ⟨b,_,rfl,SqT.of (s' _ _ eb),rfl,_,_,rfl,_,_,rfl,rfl,[some (.int u.1),some (.int u.2)],rfl,rfl,?_⟩;refine ⟨_,rfl,_,rfl,rfl,_,rfl,?_⟩;rw [dec_iN];exact ite2 (λ z=>⟨_,rfl,d z _ _ (Same.refl _) ⟨u,rfl,rfl⟩⟩) λ z=>B (Bool.eq_false_iff.mpr z) _ (Same.refl _)
  rw [zl] at a1;obtain ⟨G,rfl,b8,b3⟩:=zi2 (q:=λ p=>decide (p.2=n)) (f:=λ p=>p.1) a1;have s8:=s7.trans (Same.upd (o:=.lst (nsV G)) X);have a7:upd H7 I (.lst (nsV G)) I=some (.lst (nsV G)):=upd_same;have Z:I≠x:=λ z=>by rw [z,s7 _ _ e6] at X;cases X
  generalize upd H7 I (.lst (nsV G))=H8 at s8 a7⊢;refine z1b (L.trans s8.kept) (s8 _ _ e6) rfl (z09 _) (z1o _) c (by decide) λ H9 W b1 e9 c=>?_;have b5:=b1 _ _ Z a7;refine zk6 ?_;refine zak (K:=KX w.params) (a:=M) (xs:=D) (H1:=H9) (λ i=>(e[i]?.map λ p=>decide (p.1=n)).getD false) (λ i y _=>∃p,e[i]? = some p/\y=.int (((λ p:Nat×Nat=>p.2) p:Nat):Int)) (λ _ _ _ _ _ z=>z) (λ R h=>⟨_,rfl,h⟩) (SqL.of (W _ _ a2 V)) (C0 (m:=10000) (by omega) (by decide)) (λ i hi v S s' Y KT KF d B=>?_) λ F a4 us a0 U a8=>?_
  ·obtain ⟨u,hp,b,rfl,eb⟩:=z0g (b0 W) Y;rw [hp] at d B;refine ⟨b,_,rfl,SqT.of (s' _ _ eb),rfl,_,_,rfl,_,_,rfl,rfl,[some (.int u.1),some (.int u.2)],rfl,rfl,?_⟩;refine ⟨_,rfl,_,rfl,rfl,_,rfl,?_⟩;rw [dec_iN];exact ite2 (λ z=>⟨_,rfl,d z _ _ (Same.refl _) ⟨u,rfl,rfl⟩⟩) λ z=>B (Bool.eq_false_iff.mpr z) _ (Same.refl _)
  rw [zl] at a8;obtain ⟨bs,rfl,c1,b7⟩:=zi2 (q:=λ p=>decide (p.1=n)) (f:=λ p=>p.2) a8;have O:=a0.trans (Same.upd (o:=.lst (nsV bs)) U);have a9:upd a4 F (.lst (nsV bs)) F=some (.lst (nsV bs)):=upd_same;have a6:F≠x:=λ z=>by rw [z,a0 _ _ e9] at U;cases U
  generalize upd a4 F (.lst (nsV bs))=H11 at O a9⊢;refine z1b (W.trans O.kept) (O _ _ e9) rfl (z09 _) (z1i _) c (by decide) λ b6 b4 a3 b2 c=>?_;refine q _ I F G bs b6 b4 b2 (lk_n (lk_n (lk_n (lk_n (lk_n (lk_n (lk_n lk_eq))))))) (lk_n (lk_n (lk_n (lk_n (lk_n (lk_n lk_eq)))))) (lk_n (lk_n (lk_n (lk_n (lk_n lk_eq))))) (lk_n (lk_n (lk_n (lk_n lk_eq)))) (lk_n (lk_n (lk_n lk_eq))) (lk_n (lk_n lk_eq)) (lk_n lk_eq) lk_eq (lk_n (lk_n (lk_n (lk_n (lk_n (lk_n (lk_n (lk_n rfl)))))))) (a3 _ _ Z (O _ _ b5)) (a3 _ _ a6 a9) (λ a=>(b3 a).trans ⟨λ ⟨p,h1,h2,h3⟩=>?_,λ h=>⟨_,h,decide_eq_true rfl,rfl⟩⟩) (λ b=>(b7 b).trans ⟨λ ⟨p,h1,h2,h3⟩=>?_,λ h=>⟨_,h,decide_eq_true rfl,rfl⟩⟩) (by omega) (by omega) (a5 L (s7.kept (r:=x)) Z X) (a5 W (a0.kept (r:=x)) a6 U)
  ·rw [<-h3,<-of_decide_eq_true h2];exact h1
  ·rw [<-h3,<-of_decide_eq_true h2];exact h1
def CaAt (H:Hp) (m:Nat) (rs:List Rc) (ts:List (Str×Str)) (n:Nat) (r:Rc) (p:DD) (y:V):Prop:=∃x dx fs la lb as bs,y=.ref x/\H x=some (.ins 253 dx fs)/\fs.lookup ("number" : Str)=some (.int (n:Nat))/\fs.lookup ("thing" : Str)=some (.int (ixT ts p.nm:Nat))/\fs.lookup ("kind" : Str)=some (.str p.k)/\fs.lookup ("verb" : Str)=some r.v/\fs.lookup ("worth" : Str)=some r.x/\fs.lookup ("answer" : Str)=some r.a/\fs.lookup ("aheads" : Str)=some (.ref la)/\fs.lookup ("behinds" : Str)=some (.ref lb)/\fs.lookup ("may_stand" : Str)=none/\H la=some (.lst (nsV as))/\H lb=some (.lst (nsV bs))/\(∀a,a∈as↔z0f m rs a n=true)/\(∀b,b∈bs↔z0f m rs n b=true)/\as.length<=10000/\bs.length<=10000
theorem CaAt.same {H H':Hp} {m:Nat} {rs:List Rc} {ts:List (Str×Str)} {n:Nat} {r:Rc} {p:DD} {y:V} (s:Same H H') (h:CaAt H m rs ts n r p y):CaAt H' m rs ts n r p y:=by obtain ⟨x,a,fs,d,v,f,bs,z,g,w,c,t,j,u,l,q,o,e,i,b,k⟩:=h;exact ⟨x,a,fs,d,v,f,bs,z,s _ _ g,w,c,t,j,u,l,q,o,e,s _ _ i,s _ _ b,k⟩
def z18 (K:b0):Sp:=λ vs H Q _=>∃(y:V) (pa:Addr) (m n:Nat) (rs:List Rc) (ts:List (Str×Str)) (r:Rc) (p:DD) (ns:List Nat),vs=[y,.ref pa]/\CaAt H m rs ts n r p y/\SqT K H pa (nsV ns)/\Q (.bl (cP m rs ns n)) H
theorem z2m (T:TX (kx w) mg):Fo P w mg base CX0 1 250 y00 ["self","done"] (z18 (kx w)):=by
 refine (z1d w.params).ok sc_Candidate_may_stand (λ U H Q E h=>?_) (λ a1 A a0 s H U Q E hr h=>?_)
 ·obtain ⟨y,f,m,n,g,Y,r,p,d,rfl,_⟩:=h;rfl
 ·obtain ⟨y,f,m,n,g,Y,r,p,d,rfl,⟨x,B,fs,I,N,o,bs,rfl,F,Z,f2,f3,f4,f5,f6,W,f8,f9,J,L,O,M,al,bl⟩,D,q⟩:=h;refine ⟨_,(z02 (ps_if (z08 z1l (pe_fld (pv 0) rfl) (pv 1) (by with_unfolding_all rfl))
   (z04 (ps_ret pe_bl))
   z0d)
   (z02 (ps_for U1 rfl (z49 (pe_fld (pv 0) rfl)) (z0h (i:=2) sc_Candidate_may_stand.nd rfl (V0 rfl))
   (z04 (ps_if (z08 z15 (pv 2) (pv 1) (by with_unfolding_all rfl))
   (z04 (ps_ret pe_bl))
   z0d)))
   (z02 (ps_for U1 rfl (z49 (pe_fld (pv 0) rfl)) (z0h (i:=3) sc_Candidate_may_stand.nd rfl (V0 rfl))
   (z04 (ps_if (z08 z1l (pv 3) (pv 1) (by with_unfolding_all rfl))
   (z04 (ps_ret pe_bl))
   z0d)))
   (z04 (ps_ret pe_bl))))),?_⟩
  refine sq_if ?_;refine ⟨_,rfl,x,_,B,fs,_,rfl,F,z09 _,z0o _,Z,_,rfl,f,_,rfl,.inr D,rfl,z4f _,_,rfl,?_⟩;have q:=λ b (h:b=cP m g d n)=>(show Q (.bl b) H from h ▸ q)
  by_cases z1:n∈d
  ·refine iteP ?_ (q _ ?_)
   ·rw [inV_ns];exact decide_eq_true z1
   ·unfold cP cO;rw [decide_eq_false (λ h=>h z1)];rfl
  refine iteN (λ h=>z1 (of_decide_eq_true (by rw [inV_ns] at h;exact h))) ?_;refine t_nx ?_;have R :∀{o:List Nat} {j:Nat} {y:V},(nsV o)[j]? = some y->∃a,o[j]? = some a/\y=.int (a:Nat):=λ h=>by unfold nsV at h;rw [A1] at h;obtain ⟨a,h1,X⟩:=Option.map_eq_some_iff.mp h;exact ⟨a,h1,X.symm⟩
  refine ⟨_,rfl,x,_,B,fs,_,rfl,F,z09 _,z1o _,W,I,rfl,⟨_,SqL.of J⟩,?_⟩;refine z85 (K:=KX w.params) (a:=I) (xs:=nsV o) (λ i σ t=>t=H/\(∀k a,k < i->o[k]? = some a->a∈d)/\∃x2 x3,σ=[some (.ref x),some (.ref f),x2,x3]) ⟨rfl,λ k a c=>absurd c (R3 _),_,_,rfl⟩ (λ _ σ t _ h=>by rw [h.1];exact SqL.of J) ?_ ?_
  ·rintro j y σ t v ⟨rfl,fj,x2,x3,rfl⟩;obtain ⟨a,l,rfl⟩:=R v;refine g_name ⟨_,rfl,_,rfl,f,_,rfl,.inr D,rfl,z4f _,_,rfl,?_⟩;by_cases z2:a∈d
   ·refine iteN (λ h=>?_) ⟨rfl,λ k C c e=>?_,_,_,rfl⟩
    ·rw [inV_ns,decide_eq_true z2] at h;cases h
    ·by_cases z:k=j
     ·subst z;rw [l] at e;cases e;exact z2
     ·exact fj k C (by omega) e
   ·refine iteP ?_ (q _ ?_)
    ·rw [inV_ns,decide_eq_false z2];rfl
    ·have h:=(O a).mp (Q0 l);unfold cP cO;rw [decide_eq_false (p:=∀a∈N1 g.length,z0f m g a n=true->a∈d) (λ G=>z2 (G a (List.mem_range.mpr (z14 h).1) h)),Y9,W7]
  rintro σ t ⟨rfl,fj,x2,x3,rfl⟩;refine t_nx ?_;have S:cO m g d n=true:=by unfold cO;rw [A2,decide_eq_true_iff,decide_eq_true_iff];refine ⟨z1,λ a _ h=>?_⟩;obtain ⟨k,c⟩:=List.mem_iff_getElem?.mp ((O a).mpr h);exact fj k a (by rw [z75];exact (List.getElem?_eq_some_iff.mp c).1) c
  refine ⟨_,rfl,x,_,B,fs,_,rfl,F,z09 _,z1i _,f8,N,rfl,⟨_,SqL.of L⟩,?_⟩;refine z85 (K:=KX w.params) (a:=N) (xs:=nsV bs) (λ i σ u=>u=t/\(∀k a,k < i->bs[k]? = some a->a∉d)/\∃x2 x3,σ=[some (.ref x),some (.ref f),x2,x3]) ⟨rfl,λ k a c=>absurd c (R3 _),_,_,rfl⟩ (λ _ σ u _ h=>by rw [h.1];exact SqL.of L) ?_ ?_
  ·rintro j y σ u v ⟨rfl,gj,x2,x3,rfl⟩;obtain ⟨a,l,rfl⟩:=R v;refine g_name ⟨_,rfl,_,rfl,f,_,rfl,.inr D,rfl,z4f _,_,rfl,?_⟩;by_cases z2:a∈d
   ·refine iteP ?_ (q _ ?_)
    ·rw [inV_ns];exact decide_eq_true z2
    ·have h:=(M a).mp (Q0 l);unfold cP;rw [decide_eq_false (λ G=>G a (List.mem_range.mpr (z14 h).2) h z2),Y9]
   ·refine iteN (λ h=>?_) ⟨rfl,λ k C c e=>?_,_,_,rfl⟩
    ·rw [inV_ns] at h;exact z2 (of_decide_eq_true h)
    ·by_cases z:k=j
     ·subst z;rw [l] at e;cases e;exact z2
     ·exact gj k C (by omega) e
  rintro σ u ⟨rfl,gj,x2,x3,rfl⟩;refine t_nx (q _ ?_);unfold cP;rw [S,C8];refine (decide_eq_true λ b _ h=>?_).symm;obtain ⟨k,c⟩:=List.mem_iff_getElem?.mp ((M b).mpr h);exact gj k b (by rw [z75];exact (List.getElem?_eq_some_iff.mp c).1) c
theorem ze0 {X:Cx} {K:b0} (hK:X.K=K):OpR X (C2 .In) (rIn K false):=hK ▸ z1l
def PlZ (K:b0) (H:Hp) (p:Addr) (pl:Pl):Prop:=∃pa pb vs,SqT K H p [.ref pa,.ref pb]/\SqT K H pa (nsV pl.1)/\SqT K H pb vs/\All2 (StZ K H) pl.2 vs
theorem PlZ.tups {K:b0} {H H':Hp} {p:Addr} {pl:Pl} (t:Tups K H H') (h:PlZ K H p pl):PlZ K H' p pl:=by obtain ⟨c,a,b,g,e,f,d⟩:=h;exact ⟨c,a,b,t _ _ g,t _ _ e,t _ _ f,z01 (λ _ _ z=>StZ.tups t z) d⟩
def StpZ (K:b0) (H:Hp) (s:Stp) (y:V):Prop:=∃b p,y=.ref b/\SqT K H b [.int (s.1:Nat),s.2.1,.ref p]/\PlZ K H p s.2.2
theorem StpZ.tups {K:b0} {H H':Hp} {s:Stp} {y:V} (t:Tups K H H') (h:StpZ K H s y):StpZ K H' s y:=by obtain ⟨b,p,d,a,c⟩:=h;exact ⟨b,p,d,t _ _ a,c.tups t⟩
structure ThW (ts:List (Str×Str)):Prop where
 n6:ts.length<=6
 nd:(ts.map (·.1)).Nodup
 ks :∀t∈ts,t.2∈kinds5
theorem ThOk.thw {ts:List (Str×Str)} (h:ThOk ts):ThW ts:=⟨h.n6,h.nd,h.ks⟩
theorem zik {H:Hp} {k:Str} (hk:k∈kinds5) :∃v,kl_FIRST_STATES.lookup k=some v/\StZ (kx w) H (zeroK k) v:=by
 have a:SqT (kx w) H 100 []:=.inr ⟨⟨.type "tuple",none,.seq #[] 0,#[]⟩,#[],0,by kernel_rfl,rfl,rfl,by decide,.nil⟩;have b:SqT (kx w) H 101 []:=.inr ⟨⟨.type "tuple",none,.seq #[] 0,#[]⟩,#[],0,by kernel_rfl,rfl,rfl,by decide,.nil⟩;unfold kinds5 at hk;simp only [L1,u0,or_false] at hk;unfold zeroK;rcases hk with rfl|rfl|rfl|rfl|rfl
 ·exact ⟨.int 0,by decide +kernel,by rw [if_neg (by decide +kernel)];rfl⟩
 ·exact ⟨.int 0,by decide +kernel,by rw [if_neg (by decide +kernel)];rfl⟩
 ·exact ⟨.ref 100,by decide +kernel,by rw [if_pos (by decide +kernel)];exact ⟨_,rfl,a⟩⟩
 ·exact ⟨.ref 101,by decide +kernel,by rw [if_pos (by decide +kernel)];exact ⟨_,rfl,b⟩⟩
 ·exact ⟨.int 0,by decide +kernel,by rw [if_neg (by decide +kernel)];rfl⟩
def TaleAt (K:b0) (H:Hp) (t:Addr) (ts:List (Str×Str)) (es:List Ev):Prop:=∃pt te ys,H t=some (.tup [.ref pt,.ref te])/\ThAt H pt ts/\H te=some (.tup ys)/\All2 (EvAt K H) es ys
theorem TaleAt.tt {K:b0} {H H':Hp} {t:Addr} {ts:List (Str×Str)} {es:List Ev} (x:Tt K H H') (h:TaleAt K H t ts es):TaleAt K H' t ts es:=by obtain ⟨pt,f,b,a,c,e,d⟩:=h;exact ⟨pt,f,b,x.l _ _ a,c.tt x,x.l _ _ e,z01 (λ _ _ z=>EvAt.tups x.t z) d⟩
theorem ixT_at {ts:List (Str×Str)} (ok:ThW ts) {t:Str×Str} {i:Nat} (h:ts[i]? = some t):ixT ts t.1=i:=idx_eq ok.nd (by rw [A1,h];rfl)
theorem ixT_of {ts:List (Str×Str)} (ok:ThW ts) {nm k:Str} (h:(nm,k)∈ts):ts[ixT ts nm]? = some (nm,k):=by obtain ⟨i,a⟩:=List.mem_iff_getElem?.mp h;rw [show ixT ts nm=i from ixT_at ok a];exact a
theorem set_sl {K:b0} {σ:L2.St} {H:Hp} {Q:VK} {t1 t2 ti tv tj:TE} {pb:Addr} {vs:List V} {i:Nat} {v:V} (h1 :∀(H':Hp) (R:VK),Same H H'->R (.ref pb) H'->t1 σ H' R) (h2 :∀(H':Hp) (R:VK),Same H H'->R (.ref pb) H'->t2 σ H' R) (hi :∀(H':Hp) (R:VK),Same H H'->R (.int (i:Nat)) H'->ti σ H' R) (hv :∀(H':Hp) (R:VK),Same H H'->R v H'->tv σ H' R) (hj :∀(H':Hp) (R:VK),Same H H'->R (.int ((i:Int) + 1)) H'->tj σ H' R)
  (sq:SqT K H pb vs) (il:i < vs.length) (l9:vs.length<=90) (q :∀p5 H',Same H H'->SqT K H' p5 (vs.set i v)->Q (.ref p5) H') :
  tOp (λ x y H Q=>rCatS K x y H Q\/rCatT K x y H Q) (tOp (λ x y H Q=>rCatS K x y H Q\/rCatT K x y H Q) (tSl (λ x lo hi H Q=>rSlL K x lo hi H Q\/rSlT K x lo hi H Q\/rSlS x lo hi H Q) t1 zee (tPart ti)) (tTup (tCons tv tNil))) (tSl (λ x lo hi H Q=>rSlL K x lo hi H Q\/rSlT K x lo hi H Q\/rSlS x lo hi H Q) t2 (tPart tj) zee) σ H Q:=by
 refine h1 _ _ (Same.refl _) (hi _ _ (Same.refl _) ⟨i,rfl,.inr (.inl ⟨pb,vs,rfl,sq,λ z=>?_,λ e D=>?_⟩)⟩)
 ·have:=z.2;rw [HT.sIx_nat] at this;omega
 have F:cutV vs none (some (i:Int))=vs.take i:=by unfold cutV;rw [HT.sIx_none,HT.sIx_nat,u5,Nat.sub_zero,N9 (by omega)]
 have j:=Same.upd (o:=.tup (cutV vs none (some (i:Int)))) D;have k:upd H e (.tup (cutV vs none (some (i:Int)))) e=some (.tup (vs.take i)):=by rw [upd_same,F]
 generalize upd H e (.tup (cutV vs none (some (i:Int))))=H1 at j k⊢;refine hv _ _ j ⟨w_1,λ w s=>?_⟩;obtain ⟨I,t,r,E⟩:=newA (.tup [v]) s;rw [<-t];refine .inl ⟨e,w,vs.take i,[v],rfl,rfl,SqT.of (r _ _ k),SqT.of E,by simp,C0 (m:=100) (by rw [L3];show _ + 1<=100;omega) (by decide),λ n g u G=>?_⟩;have b:Same H g:=(j.trans r).trans u;refine h2 _ _ b (hj _ _ b ⟨_,rfl,.inr (.inl ⟨pb,vs,rfl,b.seqT sq,λ z=>?_,λ a A=>?_⟩)⟩)
 ·have:=z.1;rw [show (i:Int) + 1=((i + 1:Nat):Int) from rfl,HT.sIx_nat] at this;omega
 have B:cutV vs (some ((i:Int) + 1)) none=vs.drop (i + 1):=by unfold cutV;rw [show (i:Int) + 1=((i + 1:Nat):Int) from rfl,HT.sIx_none,HT.sIx_nat,N9 (by omega)];exact o5 (by rw [M5];exact A0 _)
 have d:=Same.upd (o:=.tup (cutV vs (some ((i:Int) + 1)) none)) A;have h:upd g a (.tup (cutV vs (some ((i:Int) + 1)) none)) a=some (.tup (vs.drop (i + 1))):=by rw [upd_same,B]
 generalize upd g a (.tup (cutV vs (some ((i:Int) + 1)) none))=H4 at d h⊢;have c:vs.take i++[v]++vs.drop (i + 1)=vs.set i v:=by rw [O8,if_pos il,K6];rfl
 have f:=d.seqT G;have p:(vs.take i++[v]).length + (vs.drop (i + 1)).length<=sizeLine:=C0 (m:=100) (by rw [<-G0,c,u9];omega) (by decide);by_cases hd:vs.drop (i + 1)=[]
 ·refine .inr ⟨n,a,_,_,rfl,rfl,f,SqT.of h,by simp,p,λ _=>?_,λ z=>absurd hd z⟩;rw [hd,j2] at c;rw [c] at f;exact q _ _ (b.trans d) f
 ·refine .inl ⟨n,a,_,_,rfl,rfl,f,SqT.of h,hd,p,λ p5 J C l=>?_⟩;rw [c] at l;exact q _ _ ((b.trans d).trans C) l
theorem zg8 {α β:Type} {R:α->β->Prop} {xs:List α} {ys:List β} {x:α} {y:β} (h:All2 R xs ys) (hx:R x y) :∀i,All2 R (xs.set i x) (ys.set i y):=by
 induction h with
 | nil=>intro i;exact .nil
 | cons a r ih=>
  intro i;cases i with
  | zero=>exact .cons hx r
  | succ i=>exact .cons a (ih i)
noncomputable def stq (ts:List (Str×Str)) (p:DD) (n:Nat) (pl:Pl) (s:Sv):Stp:=(n,(dz p.k p.vb p.dt s).2,(srtN (pl.1++[n]),pl.2.set (ixT ts p.nm) (dz p.k p.vb p.dt s).1))
theorem stp_of {ts:List (Str×Str)} {r:Rc} {p:DD} {n:Nat} {pl:Pl} {s:Sv} (h:pl.2[ixT ts p.nm]? = some s):stp ts r p n pl=if r.e.isNone || decide ((dz p.k p.vb p.dt s).2=r.a) then some (stq ts p n pl s) else none:=by unfold stp;rw [h];rfl
def z95 (K:b0):Sp:=λ vs H Q _=>∃(y:V) (pp:Addr) (m n k N:Nat) (rs:List Rc) (ts:List (Str×Str)) (r:Rc) (p:DD) (pl:Pl),vs=[y,.ref pp]/\CaAt H m rs ts n r p y/\RcGd K H ts r p/\ThW ts/\PlZ K H pp pl/\PlOk ts N k pl/\N<=63/\n < N/\n∉pl.1/\
 ∀s b q H',pl.2[ixT ts p.nm]? = some s->SvOk k p.k s->Same H H'->H' b=some (.tup [.int (n:Nat),(dz p.k p.vb p.dt s).2,.ref q])->StpZ K H' (stq ts p n pl s) (.ref b)->Q (.ref b) H'
theorem ze4 (T:TX (kx w) mg) (c0:Ca P w mg base "do" ["kind","state","verb","worth"] 5 (sp_do (kx w))):Fo P w mg base CX0 6 304 y1u ["candidate","place"] (z95 (kx w)):=by
 refine (z7w w.params).ok sc_step_of (λ d H Q E h=>?_) (λ c5 A c4 s H d Q E hr h=>?_)
 ·obtain ⟨y,S,m,n,k,N,rs,g,r,p,a,rfl,_⟩:=h;rfl
 ·obtain ⟨y,S,m,n,k,N,rs,g,r,p,a,rfl,⟨x,b,fs,la,lb,as,bs,rfl,e,f1,f2,f3,f4,f5,f6,f7,f8,f9,ea,eb,ma,mb,al,bl⟩,gd,ok,⟨pa,pb,d,sp,sa,sb,sz⟩,L,b8,hn,nn,q⟩:=h;refine ⟨_,(z02 (ps_set (i:=2) sc_step_of.nd rfl (V0 rfl) (pe_fld (pv 0) rfl))
   (z02 (ps_set (i:=3) sc_step_of.nd rfl (V0 rfl) (pe_ix ix_seq (pv 1) pe_int (λ _ _=>rfl)))
   (z02 (ps_set (i:=4) sc_step_of.nd rfl (V0 rfl) (pe_cal c0 (hr.mono (by decide)) rfl (z00 (pe_fld (pv 0) rfl) (z00 (pe_ix ix_seq (pv 3) (pv 2) (λ _ _=>rfl)) (z00 (pe_fld (pv 0) rfl) (z00 (pe_fld (pv 0) rfl) pa_nil))))))
   (z02 (ps_set (i:=5) sc_step_of.nd rfl (V0 rfl) (z0p z0j rfl (T.no (z2h _)) i4 (z00 (z0c z29 rfl (T.no (z67 _)) M8 (z00 (pe_op op_catS (pe_ix ix_seq (pv 1) pe_int (λ _ _=>rfl)) (pe_tup (z00 (pe_fld (pv 0) rfl) pa_nil))) pa_nil)) pa_nil)))
   (z04 (ps_ret (pe_tup (z00 (pe_fld (pv 0) rfl) (z00 (pe_ix ix_seq (pv 4) pe_int (λ _ _=>rfl)) (z00 (pe_tup (z00 (pv 5) (z00 (pe_op (op_catS.or z9j) (pe_op (op_catS.or z9j) (z1g slSeq (pv 3) z2p (z1k (pv 2))) (pe_tup (z00 (pe_ix ix_seq (pv 4) pe_int (λ _ _=>rfl)) pa_nil))) (z1g slSeq (pv 3) (z1k (pe_op opAdd (pv 2) pe_int)) z2p)) pa_nil))) pa_nil)))))))))),?_⟩
  obtain ⟨g1,g2,hm,dk,ix,wi,ga⟩:=gd;have b9:=ixT_of ok hm;obtain ⟨s,Y,so⟩:=z0t L.so b9;obtain ⟨v,X,hz⟩:=z0t sz Y;obtain ⟨c2,c3⟩:=L.n63 b8 hn nn;have vl:d.length=a.2.length:=z03 sz;have sl:a.2.length=g.length:=z03 L.so;have it:ixT g p.nm < d.length:=(List.getElem?_eq_some_iff.mp X).1;rw [g2] at f4;refine ⟨_,rfl,x,_,b,fs,_,rfl,e,z09 _,z20 _,f2,?_⟩;refine g_name (t_nx ?_);refine ⟨_,rfl,.inr (.inl ⟨S,_,1,.ref pb,rfl,rfl,sp,z05 (j:=1) rfl,?_⟩)⟩;refine g_name (t_nx ?_);refine ⟨_,rfl,x,_,b,fs,_,rfl,e,z09 _,z2e _,f3,?_⟩;refine ⟨_,rfl,_,rfl,.inr (.inl ⟨pb,d,_,v,rfl,rfl,sb,z05 X,?_⟩)⟩;refine ⟨_,rfl,x,_,b,fs,_,rfl,e,z09 _,z2f _,f4,?_⟩;refine ⟨_,rfl,x,_,b,fs,_,rfl,e,z09 _,z1x _,f5,?_⟩;refine do_can (w:=w) (E:=E0) so hz c2 dk ix wi λ p6 O K B e6 b0=>?_;refine g_name (t_nx ?_);refine z0s ?_;refine ⟨_,rfl,.inr (.inl ⟨S,_,0,.ref pa,rfl,rfl,B.seqT sp,z05 (j:=0) rfl,?_⟩)⟩;refine ⟨_,rfl,x,_,b,fs,_,rfl,B _ _ e,z09 _,z0o _,f1,w_1,λ C a5=>?_⟩;have r7:=B.trans (Same.upd (o:=.tup [.int (n:Nat)]) a5);have u7:=Same.upd (o:=.tup [.int (n:Nat)]) a5;have W:upd K C (.tup [.int (n:Nat)]) C=some (.tup [.int (n:Nat)]):=upd_same;generalize upd K C (.tup [.int (n:Nat)])=H7 at r7 u7 W⊢;refine ⟨pa,C,nsV a.1,[.int (n:Nat)],rfl,rfl,r7.seqT sa,SqT.of W,by simp,C0 (m:=100) (by rw [z75];show _ + 1<=100;omega) (by decide),λ b2 H8 r8 U=>?_⟩;rw [show nsV a.1++[.int (n:Nat)]=((a.1++[n]).map λ (n:Nat)=>(n:Int)).map V.int by unfold nsV;rw [T2,E1];rfl] at U;refine ⟨b2,_,rfl,.inr U,by rw [F0,G0];show _ + 1 < 64;omega,λ l3 c6 a8 pm pw=>?_⟩;rw [zhu pm pw];obtain ⟨H9,u,r9,e9⟩:=newA (.lst (nsV (srtN (a.1++[n])))) a8;rw [<-u];refine ⟨l3,_,rfl,.inl ⟨SqL.of e9,λ t b3=>?_⟩⟩;obtain ⟨a4,u,c1,a7⟩:=newA (.tup (nsV (srtN (a.1++[n])))) b3;rw [<-u];refine g_name ?_;have I:Same K a4:=((u7.trans r8).trans r9).trans c1;have F:=B.trans I;refine sq_ret ?_;refine ⟨_,rfl,x,_,b,fs,_,rfl,F _ _ e,z09 _,z0o _,f1,?_⟩;refine ⟨_,rfl,.inr (.inl ⟨p6,_,1,_,rfl,rfl,SqT.of (I _ _ e6),z05 (j:=1) rfl,?_⟩)⟩;refine ⟨_,rfl,zbk (set_sl (i:=ixT g p.nm) (v:=O) (λ D R f h=>⟨_,rfl,h⟩) (λ D R f h=>⟨_,rfl,h⟩) (λ D R f h=>⟨_,rfl,h⟩) (λ D R f h=>⟨_,rfl,.inr (.inl ⟨p6,_,0,O,rfl,rfl,SqT.of (f _ _ (I _ _ e6)),z05 (j:=0) rfl,h⟩)⟩) (λ D R f h=>⟨_,rfl,.inl ⟨_,1,rfl,rfl,h⟩⟩) (F.seqT sb) it (by have:=ok.n6;omega) λ l a0 a9 a6=>?_)⟩;refine ⟨w_2,λ c b7=>⟨w_3,λ b6 Z=>?_⟩⟩;have M:=Same.upd (o:=.tup [.ref t,.ref l]) b7;have a1:upd a0 c (.tup [.ref t,.ref l]) c=some (.tup [.ref t,.ref l]):=upd_same;generalize upd a0 c (.tup [.ref t,.ref l])=H12 at M a1 Z⊢;obtain ⟨a2,u,J,a3⟩:=newA (.tup [.int (n:Nat),(dz p.k p.vb p.dt s).2,.ref c]) Z;rw [<-u];have G:Same a4 a2:=(a9.trans M).trans J;refine q s b6 c a2 Y so (F.trans G) a3 ⟨b6,c,rfl,SqT.of a3,t,l,d.set (ixT g p.nm) O,SqT.of (J _ _ a1),SqT.of (G _ _ a7),(M.trans J).seqT a6,zg8 (z01 (λ _ _ z=>StZ.tups (.of (F.trans G)) z) sz) (b0.tups (.of (I.trans G))) _⟩
def EndL (rs:List Rc) (es:List Nat):Prop:=es.length<=rs.length/\∀n,n∈es↔∃r,rs[n]? = some r/\r.e.isSome=true
def z35 (K:b0):Sp:=λ vs H Q _=>∃(l:Addr) (zs:List V) (rs:List Rc),vs=[.ref l]/\H l=some (.lst zs)/\All2 (RcAt K H) rs zs/\rs.length<=100/\
 ∀le es H',Same H H'->H' le=some (.lst (nsV es))->EndL rs es->Q (.ref le) H'
theorem z5l (T:TX (kx w) mg):Fo P w mg base CX0 1 309 y09 ["told"] (z35 (kx w)):=by
 refine (z1s w.params).ok z6b (λ D H Q E h=>?_) (λ a0 A Z s H D Q E Y h=>?_)
 ·obtain ⟨l,k,f,rfl,_⟩:=h;rfl
 ·obtain ⟨l,k,f,rfl,O,t,X,q⟩:=h;refine ⟨_,(z04 (ps_ret (pe_cg (xs:=["number","deed"]) (g:=gTup (kx w) 2 (gCons (gName 0) (gCons (gName 1) gNil))) (fr:=[]) (z8c rfl (T.no (z1y _)) (z00 (pv 0) pa_nil)) (λ _ _ _ _ _=>(pg_tup rfl (z0a (pg_cn (N:=["number","deed"]) 0) (z0a (pg_cn (N:=["number","deed"]) 1) z10)))) (λ _ _ _ _ _=>(pf_one (z08 z77 (pe_ix (z9m (K:=KX w.params) rfl) (pv 1) pe_int (λ _ _=>rfl)) pe_non (nomark _)))) (λ _ _ _ _ _=>(pv 0))))),?_⟩;have o:k.length=f.length:=z03 t;refine sq_ret ?_;refine zh4 (K:=KX w.params) (a:=l) (xs:=k) (H1:=H) (λ i=>(f[i]?.map λ r=>r.e.isSome).getD false) (λ i y _=>y=.int (i:Nat)) (λ _ _ _ _ _ z=>z) (λ R h=>⟨_,rfl,h⟩) (SqL.of O) (C0 (m:=100) (by omega) (by decide)) ?_ ?_
  ·intro i U v J d u KT W b c;obtain ⟨x,G,B,rfl,M⟩:=u;obtain ⟨r,L,p,rfl,I⟩:=z0g t B;rw [L] at b c;refine ⟨G,_,rfl,SqT.of M,rfl,_,_,rfl,_,_,rfl,rfl,[some (.int (i:Nat)),some (.ref p)],rfl,rfl,?_⟩;refine ⟨_,rfl,.inr (.inl ⟨p,_,6,endV r.e,rfl,rfl,d.seqT I,z05 (j:=6) rfl,rfl,_,rfl,?_⟩)⟩;have b:=λ z=>b (show r.e.isSome=true from z);have c:=λ z=>c (show r.e.isSome=false from z);cases re:r.e with
   | none=>exact iteN (by show ¬ (!decide (V.non=V.non))=true;decide) (c (by rw [re];rfl) _ (Same.refl _))
   | some e=>exact iteP rfl ⟨_,rfl,b (by rw [re];rfl) _ _ (Same.refl _) rfl⟩
  intro le J S d C F;rw [zih F];refine q le _ _ (d.trans (Same.upd C)) upd_same ⟨?_,λ n=>?_⟩
  ·exact C0 (P2 _ _) (by rw [E2,o];exact A0 _)
  ·rw [List.mem_filter,List.mem_range,o];constructor
   ·rintro ⟨h1,h2⟩;rw [K0 h1] at h2;exact ⟨_,K0 h1,h2⟩
   ·rintro ⟨r,h1,h2⟩;exact ⟨(List.getElem?_eq_some_iff.mp h1).1,by rw [h1];exact h2⟩
def z6f (K:b0):Sp:=λ vs H Q _=>∃(pa le:Addr) (ns es:List Nat),vs=[.ref pa,.ref le]/\SqT K H pa (nsV ns)/\H le=some (.lst (nsV es))/\es.length<=100/\∀b H',Same H H'->(b=true↔∀n∈es,n∈ns)->Q (.bl b) H'
theorem zah (T:TX (kx w) mg):Fo P w mg base CX0 1 314 y16 ["done","numbers"] (z6f (kx w)):=by
 refine (z4n w.params).ok zaj (λ F H Q E h=>?_) (λ Y A X s H F Q E W h=>?_)
 ·obtain ⟨u,le,B,o,rfl,_⟩:=h;rfl
 ·obtain ⟨u,le,B,o,rfl,O,M,a0,q⟩:=h;refine ⟨_,(z04 (ps_ret (z0c (zcd rfl) rfl (T.no (n_all _)) boot_all (z00 (pe_cg (xs:=["number"]) (g:=gName 0) (fr:=[(0,"done")]) (z49 (pv 1)) (λ _ _ _ _ _=>(pg_cn (N:=["number","done"]) 0)) (λ _ _ _ _ _=>pf_nil) (λ _ _ _ _ _=>(z0r (ze0 (K:=KX w.params) rfl) (pv 0) (pv 1) (by with_unfolding_all rfl)))) pa_nil)))),?_⟩;refine sq_ret (e_cb1 ?_);refine zak (K:=KX w.params) (a:=le) (xs:=nsV o) (H1:=H) (λ _=>true) (λ i y _=>∃n,o[i]? = some n/\y=.bl (decide (n∈B))) (λ _ _ _ _ _ z=>z) (λ R h=>⟨_,rfl,h⟩) (SqL.of M) (C0 (m:=100) (by rw [z75];omega) (by decide)) ?_ ?_
  ·intro i b v I f p KT U J Z;unfold nsV at p;rw [A1] at p;obtain ⟨n,d,rfl⟩:=Option.map_eq_some_iff.mp p;refine ⟨[some (.int (n:Nat))],rfl,rfl,iteT ?_⟩;refine ⟨_,rfl,_,rfl,u,_,rfl,.inr (f.seqT O),rfl,z4f _,?_⟩;exact J rfl _ _ (Same.refl _) ⟨n,d,by rw [<-inV_ns];rfl⟩
  intro G I l f L c;rw [List.filter_eq_self.mpr (λ _ _=>rfl),z75] at c;have C:=z03 c;rw [E2] at C;refine ⟨G,l,rfl,SqL.of upd_same,λ y k=>?_,q _ _ (f.trans (Same.upd L)) ?_⟩
  ·obtain ⟨i,b⟩:=List.mem_iff_getElem?.mp k;obtain ⟨j,_,n,_,e⟩:=z0g c b;exact ⟨_,e⟩
  ·rw [Y6];constructor
   ·intro h n d;obtain ⟨i,b⟩:=List.mem_iff_getElem?.mp d;have D:=(List.getElem?_eq_some_iff.mp b).1;have r:l[i]? = some l[i]:=K0 (by omega);obtain ⟨j,x,S,t,e⟩:=z0g c r;rw [n8 D] at x;cases x;rw [b] at t;cases t;have:=of_decide_eq_true (h _ (Q0 r));rw [e] at this;exact of_decide_eq_true (V.bl.inj this)
   ·intro h y k;obtain ⟨i,b⟩:=List.mem_iff_getElem?.mp k;obtain ⟨j,_,n,d,e⟩:=z0g c b;rw [e,decide_eq_true (h n (Q0 d))];exact decide_eq_true rfl
theorem zgg {K:b0} {H:Hp} {ts:List (Str×Str)} {vs:List V} (al:All2 (λ (i:Nat) y=>∃t,ts[i]? = some t/\StZ K H (zeroK t.2) y) (N1 ts.length) vs):All2 (StZ K H) (ts.map λ t=>zeroK t.2) vs:=by have b:=z03 al;rw [E2] at b;refine z1z (by rw [F0,b]) λ i z v d f=>?_;rw [A1] at d;obtain ⟨t,c,rfl⟩:=Option.map_eq_some_iff.mp d;obtain ⟨j,a,h,e,g⟩:=z0g al f;rw [n8 (List.getElem?_eq_some_iff.mp c).1] at a;cases a;rw [c] at e;cases e;exact g
def z4j (K:b0):Sp:=λ vs H Q _=>∃(t:Addr) (ts:List (Str×Str)) (es:List Ev),vs=[.ref t]/\TaleAt K H t ts es/\ThW ts/\∀p H',Same H H'->PlZ K H' p ([],ts.map λ t=>zeroK t.2)->Q (.ref p) H'
theorem z8s (T:TX (kx w) mg) (c0:Ca P w mg base "first_state" ["kind"] 2 z41):Fo P w mg base CX0 3 319 y0p ["tale"] (z4j (kx w)):=by
 refine (z34 w.params).ok z84 (λ d H Q E h=>?_) (λ b0 A a9 s H d Q E X h=>?_)
 ·obtain ⟨t,B,I,rfl,_⟩:=h;rfl
 ·obtain ⟨t,B,I,rfl,⟨pt,te,ys,J,⟨S,O,n⟩,a8,al⟩,ok,q⟩:=h;refine ⟨_,(z04 (ps_ret (pe_tup (z00 (pe_tup pa_nil) (z00 (z0p z0j rfl (T.no (z2h _)) i4 (z00 (pe_cg (xs:=["name","kind"]) (g:=gTup (kx w) 2 (gCons (gName 0) (gCons (gName 1) gNil))) (fr:=[]) (pi_tup (pe_ix ix_seq (pv 0) pe_int (λ _ _=>rfl))) (λ _ _ _ _ _=>(pg_tup rfl (z0a (pg_cn (N:=["name","kind"]) 0) (z0a (pg_cn (N:=["name","kind"]) 1) z10)))) (λ _ _ _ _ _=>pf_nil) (λ _ _ _ _ _=>(pe_cal c0 (X.mono (by decide)) rfl (z00 (pv 1) pa_nil)))) pa_nil)) pa_nil))))),?_⟩;refine sq_ret ?_;refine ⟨w_0,λ x a6=>?_⟩;obtain ⟨F,c,f,L⟩:=newA (.tup []) a6;rw [<-c];refine zbk (e_cb1 ?_);refine z3b (K:=KX w.params) (a:=pt) (xs:=S) (H1:=F) (λ _=>true) (λ i y H'=>∃t,B[i]? = some t/\StZ (kx w) H' (zeroK t.2) y) (λ _ _ _ _ s ⟨t,h1,h2⟩=>⟨t,h1,h2.tups (.of s)⟩) (λ R h=>⟨_,rfl,.inr (.inl ⟨t,_,0,.ref pt,rfl,rfl,SqT.of (f _ _ J),z05 (j:=0) rfl,h⟩)⟩) (f.seqT (SqT.of O)) (C0 (m:=6) (by rw [z03 n];exact ok.n6) (by decide)) ?_ ?_
  ·intro i hi v o e k KT KF Z k2;obtain ⟨t,D,b,rfl,U⟩:=z0g n k;have a3:=(f.trans e) _ _ U;obtain ⟨v,k,hz⟩:=zik (w:=w) (H:=o) (ok.ks t (Q0 D));refine ⟨b,_,rfl,SqT.of a3,rfl,_,_,rfl,_,_,rfl,rfl,[some (.str t.1),some (.str t.2)],rfl,rfl,iteT ?_⟩;exact ⟨_,rfl,t.2,v,rfl,k,Z rfl _ _ (Same.refl _) ⟨t,D,hz⟩⟩
  intro V o d e a4 u;rw [List.filter_eq_self.mpr (λ _ _=>rfl),z03 n] at u;obtain ⟨H5,c,a7,e5⟩:=newA (.lst d) a4;rw [<-c];refine ⟨V,d,rfl,.inl ⟨SqL.of e5,λ p a1=>?_⟩⟩;obtain ⟨H6,c,W,M⟩:=newA (.tup d) a1;rw [<-c];refine ⟨w_2,λ Y a2=>?_⟩;obtain ⟨r,c,C,G⟩:=newA (.tup [.ref x,.ref p]) a2;rw [<-c];have l:Same o r:=(a7.trans W).trans C;exact q Y r ((f.trans e).trans l) ⟨x,p,d,SqT.of G,SqT.of ((e.trans l) _ _ L),SqT.of (C _ _ M),zgg (z01 (λ _ _ z=>z.elim λ t y=>⟨t,y.1,y.2.tups (.of l)⟩) u)⟩
noncomputable def hide (r:Addr) (H:Hp):Hp:=λ p=>if p=r then none else H p
theorem z5f {r p:Addr} {H:Hp} {o:HO} (n:p≠r) (e:H p=some o):hide r H p=some o:=by unfold hide;rw [if_neg n];exact e
theorem hide_same {r:Addr} {H:Hp}:Same (hide r H) H:=λ p o e=>by
 unfold hide at e;by_cases z:p=r
 ·rw [if_pos z] at e;cases e
 ·rw [if_neg z] at e;exact e
theorem zkr {r p:Addr} {H:Hp} {o:HO} (e:hide r H p=some o):p≠r:=λ z=>by unfold hide at e;rw [if_pos z] at e;cases e
theorem z80 {r:Addr} {H H':Hp} (s:Same H H'):Same (hide r H) (hide r H'):=λ p o e=>z5f (zkr e) (s _ _ (hide_same _ _ e))
theorem zex {l:Addr} {H:Hp} {o:HO}:hide l (upd H l o)=hide l H:=by
 funext q;unfold hide;by_cases z:q=l
 ·rw [if_pos z,if_pos z]
 ·rw [if_neg z,if_neg z,upd_ne z]
theorem z96 {ts:List (Str×Str)} {f:Str×Str->Str} {us:List V} (h:All2 (λ (i:Nat) y=>∃t,ts[i]? = some t/\y=V.str (f t)) (N1 ts.length) us):us=ts.map λ t=>V.str (f t):=by
 have b:=z03 h;rw [E2] at b;apply V8;intro i;rw [A1];cases hu:us[i]? with
 | none=>rw [L5 (by have:=List.getElem?_eq_none_iff.mp hu;omega)];rfl
 | some y=>obtain ⟨j,a,t,d,c⟩:=z0g h hu;rw [n8 (by have:=(List.getElem?_eq_some_iff.mp hu).1;omega)] at a;cases a;rw [d,c];rfl
def CaL (H:Hp) (m:Nat) (rs:List Rc) (ts:List (Str×Str)) (ps:List DD) (cs:List V):Prop:=∀n r p y,rs[n]? = some r->ps[n]? = some p->cs[n]? = some y->CaAt H m rs ts n r p y
structure BoF (K:b0) (H:Hp) (m:Nat) (rs:List Rc) (ts:List (Str×Str)) (ps:List DD) (fs:List (Str×V)):Prop where
 cand :∃lc cs,fs.lookup ("candidates" : Str)=some (.ref lc)/\H lc=some (.lst cs)/\cs.length=rs.length/\CaL H m rs ts ps cs
 first :∃p0,fs.lookup ("first" : Str)=some (.ref p0)/\PlZ K H p0 ([],ts.map λ t=>zeroK t.2)
 ended :∃le en,fs.lookup ("ended" : Str)=some (.ref le)/\H le=some (.lst (nsV en))/\EndL rs en
 kinds :∃lk,fs.lookup ("kinds" : Str)=some (.ref lk)/\H lk=some (.lst (ts.map λ t=>V.str t.2))
 nm :∀z:Str,z∈(["steps_from","ends_at","has_place"]:List Str)->fs.lookup z=none
theorem BoF.same {K:b0} {H H':Hp} {m:Nat} {rs:List Rc} {ts:List (Str×Str)} {ps:List DD} {fs:List (Str×V)} (s:Same H H') (h:BoF K H m rs ts ps fs):BoF K H' m rs ts ps fs:=
 ⟨h.cand.elim λ a z=>z.elim λ c y=>⟨a,c,y.1,s _ _ y.2.1,y.2.2.1,λ n r p v g d e=>(y.2.2.2 n r p v g d e).same s⟩,h.first.elim λ p z=>⟨p,z.1,z.2.tups (.of s)⟩,h.ended.elim λ le z=>z.elim λ b y=>⟨le,b,y.1,s _ _ y.2.1,y.2.2⟩,h.kinds.elim λ f z=>⟨f,z.1,s _ _ z.2⟩,h.nm⟩
def z1a (K:b0):Sp:=λ vs H Q _=>∃(x dx t:Addr) (ts:List (Str×Str)) (es:List Ev) (ps:List DD) (m:Nat),vs=[.ref x,.ref t,.str (z21 m)]/\H x=some (.ins 293 dx [])/\TaleAt K H t ts es/\ThW ts/\es.length<=63/\EWf [] es/\All2 (RcGd K H ts) (dAll 0 [] es) ps/\
 ∀fs H',Kept x H H'->H' x=some (.ins 293 dx fs)->BoF K H' m (dAll 0 [] es) ts ps fs->Q .non H'
theorem zji (T:TX (kx w) mg) (c0:Ca P w mg base "has_to" ["tale","strictness"] 2 (zbq (kx w))) (c1:Ca P w mg base "deeds" ["tale"] 1 (zam (kx w))) (c2:Ca P w mg base "first_place" ["tale"] 3 (z4j (kx w))) (c3:Ca P w mg base "ended_numbers" ["told"] 1 (z35 (kx w))) (c4:Fo P w mg base (CXE P w base) 1 243 y01 ["self","number","deed","thing","kind","pairs"] (z1c (kx w))):Fo P w mg base (CXE P w base) 5 269 y03 ["self","tale","strictness"] (z1a (kx w)):=by
 refine (z2x w.params).okE sc_Board___init__ (λ vs H Q E h=>?_) (λ l0 A k8 s H vs Q E hr h=>?_)
 ·obtain ⟨x,dx,t,u,J,ps,m,rfl,_⟩:=h;rfl
 ·obtain ⟨x,dx,t,u,J,ps,m,rfl,ex,ta,ok,l2,wf,gd,q⟩:=h;refine ⟨_,(z02 (ps_set (i:=3) sc_Board___init__.nd rfl (V0 rfl) (pe_cal c0 (hr.mono (by decide)) rfl (z00 (pv 1) (z00 (pv 2) pa_nil))))
   (z02 (ps_set (i:=4) sc_Board___init__.nd rfl (V0 rfl) (pe_cal c1 (hr.mono (by decide)) rfl (z00 (pv 1) pa_nil)))
   (z02 (ps_fld (pv 0) (pe_cg (xs:=["name","kind"]) (g:=gTup (kx w) 2 (gCons (gName 0) (gCons (gName 1) gNil))) (fr:=[]) (pi_tup (pe_ix ix_seq (pv 1) pe_int (λ _ _=>rfl))) (λ _ _ _ _ _=>(pg_tup rfl (z0a (pg_cn (N:=["name","kind"]) 0) (z0a (pg_cn (N:=["name","kind"]) 1) z10)))) (λ _ _ _ _ _=>pf_nil) (λ _ _ _ _ _=>(pv 1))) rfl)
   (z02 (ps_fld (pv 0) (pe_cal c2 (hr.mono (by decide)) rfl (z00 (pv 1) pa_nil)) rfl)
   (z02 (ps_fld (pv 0) (pe_cal c3 (hr.mono (by decide)) rfl (z00 (pv 4) pa_nil)) rfl)
   (z02 (ps_fld (pv 0) (pe_lst pa_nil) rfl)
   (z02 (zki (i:=5) sc_Board___init__.nd rfl (V0 rfl) (xs:=["name","kind"]) (g:=gTup (kx w) 2 (gCons (gName 0) (gCons (gName 1) gNil))) (fr:=[]) rfl (pi_tup (pe_ix ix_seq (pv 1) pe_int (λ _ _=>rfl))) (λ _ z=>absurd z u0) (zgt rfl) (λ _ z=>absurd z u0) (by decide +kernel) rfl (by decide +kernel) (λ _ _ _ _ _=>(pg_tup rfl (z0a (pg_cn (N:=["name","kind"]) 0) (z0a (pg_cn (N:=["name","kind"]) 1) z10)))) (λ _ _ _ _ _=>pf_nil) (λ _ _ _ _ _=>(pv 0)))
   (z04 (PS.nox (ps_for U1 rfl (z8c rfl (T.no (z1y _)) (z00 (pv 4) pa_nil)) (pg_tup rfl (z0a (z0h (i:=6) sc_Board___init__.nd rfl (V0 rfl)) (z0a (z0h (i:=7) sc_Board___init__.nd rfl (V0 rfl)) z10)))
   (z02 (ps_set (i:=8) sc_Board___init__.nd rfl (V0 rfl) (zeo (pv 5) (z00 (pe_ix ix_seq (pv 7) pe_int (λ _ _=>rfl)) pa_nil)))
   (z04 (z36 (z17 (pe_fld (pv 0) rfl) (z00 (zi1 (zbg _) c4 (hr.mono (by decide)) rfl (T.of (zd3 _)) (z3u _) .nil passN (z00 (pv 6) (z00 (pv 7) (z00 (pv 8) (z00 (pe_ix ix_seq (pe_fld (pv 0) rfl) (pv 8) (λ _ _=>rfl)) (z00 (pv 3) pa_nil)))))) pa_nil))))))))))))))),?_⟩
  obtain ⟨pt,te,ys,et,⟨yt,g5,U⟩,g7,al⟩:=id ta;obtain ⟨dw,os,DI⟩:=DInv.all DInv.nil wf;have rl:(dAll 0 [] J).length<=63:=by have:=zbh (i:=0) (rs:=[]) J;simp only [N7,G7] at this;omega
  refine ⟨_,rfl,_,rfl,t,te,.ref pt,ys,J,m,rfl,SqT.of et,SqT.of g7,al,by omega,dw,λ lp zp H1 s1 k6 c7 ap=>?_⟩;refine g_name (t_nx ?_);refine ⟨_,rfl,t,te,.ref pt,ys,J,rfl,s1.seqT (SqT.of et),s1.seqT (SqT.of g7),z01 (λ _ _ z=>EvAt.tups (.of s1) z) al,by omega,dw,λ lt zt C s2 l1 Y ar=>?_⟩;refine g_name (t_nx ?_);have a0:=s1.trans s2;generalize dAll 0 [] J=rs at *;have zl:zt.length=rs.length:=z03 ar;have pl:=z54 (m:=m) (rs:=rs) rs.length;have pm:rs.length * rs.length<=63 * 63:=b8 rl rl;have e6 :∀{a:Addr} {o:HO} {L:Hp},L x=some (.ins 293 dx [])->L a=some o->(∀d f,o≠.ins 293 d f)->a≠x:=λ e1 e2 n z=>by rw [z,e1] at e2;cases e2;exact n _ _ rfl
  have a1:=a0 _ _ ex;have j3:lp≠x:=e6 a1 (s2 _ _ c7) λ _ _ z=>by cases z
  have d3:lt≠x:=e6 a1 Y λ _ _ z=>by cases z
  refine z2r ?_;refine z3b (K:=KX w.params) (a:=pt) (xs:=yt) (H1:=C) (λ _=>true) (λ i y _=>∃t,u[i]? = some t/\y=.str t.2) (λ _ _ _ _ s z=>z) (λ R h=>⟨_,rfl,.inr (.inl ⟨t,_,0,.ref pt,rfl,rfl,SqT.of (a0 _ _ et),z05 (j:=0) rfl,h⟩)⟩) (a0.seqT (SqT.of g5)) (C0 (m:=6) (by rw [z03 U];exact ok.n6) (by decide)) ?_ ?_
  ·intro i hi v H3 s3 hv KT KF k1 k2;obtain ⟨t,ht,b,rfl,eb⟩:=z0g U hv;refine ⟨b,_,rfl,SqT.of ((a0.trans s3) _ _ eb),rfl,_,_,rfl,_,_,rfl,rfl,[some (.str t.1),some (.str t.2)],rfl,rfl,iteT ?_⟩;exact ⟨_,rfl,k1 rfl _ _ (Same.refl _) ⟨t,ht,rfl⟩⟩
  intro D H3 us s3 c6 e4;rw [List.filter_eq_self.mpr (λ _ _=>rfl),z03 U] at e4;rw [z96 (f:=λ t=>t.2) e4];have b4:=s3.trans (Same.upd (o:=.lst (u.map λ t=>V.str t.2)) c6);have d4:upd H3 D (.lst (u.map λ t=>V.str t.2)) D=some (.lst (u.map λ t=>V.str t.2)):=upd_same;have d9:D≠x:=λ z=>by rw [z,s3 _ _ a1] at c6;cases c6
  generalize upd H3 D (.lst (u.map λ t=>V.str t.2))=H4 at b4 d4⊢;have s4:=a0.trans b4;refine z1b s4.kept (s4 _ _ ex) rfl (z1h _) (z4b _) (n:=0) (A0 _) (by decide) λ H5 k5 g4 e5 Z=>?_;refine z2r ?_;refine ⟨_,rfl,t,u,J,rfl,ta.tt (ins_tt ex k5),ok,λ p0 H6 s6 pz=>?_⟩;refine z1b (k5.trans s6.kept) (s6 _ _ e5) rfl (z1h _) (z4c _) Z (by decide) λ H7 k7 d0 e7 Z=>?_;refine z2r ?_;have a8:Kept x C H7:=(b4.kept.trans g4).trans (s6.kept.trans d0);have i1:Tt (kx w) C H7:=ins_tt a1 a8;refine ⟨_,rfl,lt,zt,rs,rfl,a8 _ _ d3 Y,z01 (λ _ _ z=>RcAt.tups i1.t z) ar,by omega,λ le en H8 I b2 EL=>?_⟩;refine z1b (k7.trans I.kept) (I _ _ e7) rfl (z1h _) (z4a _) Z (by decide) λ H9 k9 W e9 Z=>?_;refine z2r ⟨w_0,λ c X=>?_⟩;have G:=Same.upd (o:=.lst []) X;have d7:upd H9 c (.lst []) c=some (.lst []):=upd_same;have b0:c≠x:=λ z=>by rw [z,e9] at X;cases X
  generalize upd H9 c (.lst [])=H10 at G d7⊢;refine z1b (k9.trans G.kept) (G _ _ e9) rfl (z1h _) (z0y _) Z (by decide) λ b7 g8 a7 g3 Z=>?_;have g9:=a7 _ _ b0 d7;have j0:Kept x C b7:=(a8.trans (I.kept.trans W)).trans (G.kept.trans a7);have d1:Tt (kx w) H b7:=ins_tt ex g8;refine z0s ?_;refine z3b (K:=KX w.params) (a:=pt) (xs:=yt) (H1:=b7) (λ _=>true) (λ i y _=>∃t,u[i]? = some t/\y=.str t.1) (λ _ _ _ _ s z=>z) (λ R h=>⟨_,rfl,.inr (.inl ⟨t,_,0,.ref pt,rfl,rfl,SqT.of (d1.l _ _ et),z05 (j:=0) rfl,h⟩)⟩) (d1.t _ _ (SqT.of g5)) (C0 (m:=6) (by rw [z03 U];exact ok.n6) (by decide)) ?_ ?_
  ·intro i hi v c9 a2 hv KT KF k1 k2;obtain ⟨t,ht,b,rfl,eb⟩:=z0g U hv;refine ⟨b,_,rfl,SqT.of (a2 _ _ (d1.l _ _ eb)),rfl,_,_,rfl,_,_,rfl,rfl,[some (.str t.1),some (.str t.2)],rfl,rfl,iteT ?_⟩;exact ⟨_,rfl,k1 rfl _ _ (Same.refl _) ⟨t,ht,rfl⟩⟩
  intro M c9 us a2 a5 d8;rw [List.filter_eq_self.mpr (λ _ _=>rfl),z03 U] at d8;rw [z96 (f:=λ t=>t.1) d8];have F:=a2.trans (Same.upd (o:=.lst (u.map λ t=>V.str t.1)) a5);have g0:upd c9 M (.lst (u.map λ t=>V.str t.1)) M=some (.lst (u.map λ t=>V.str t.1)):=upd_same;have l3:M≠x:=λ z=>by rw [z,a2 _ _ g3] at a5;cases a5
  have i3:M≠c:=λ z=>by rw [z,a2 _ _ g9] at a5;cases a5
  generalize upd c9 M (.lst (u.map λ t=>V.str t.1))=HB at F g0⊢;refine g_name ?_;have eB:=F _ _ g3;have b9:=F _ _ g9;have kB:Kept x H HB:=g8.trans F.kept;have b3:Kept x C HB:=j0.trans F.kept;have b6:C c=none:=by
   cases z:C c with
   | none=>rfl
   | some o=>have:=((a8.trans (I.kept.trans W))) _ _ b0 z;rw [X] at this;cases this
  have k3:H c=none:=a0.free b6;have i0:lt≠c:=λ z=>by rw [z,b6] at Y;cases Y
  have j4:lp≠c:=λ z=>by have:=s2 _ _ c7;rw [z,b6] at this;cases this
  have w5:Kept x H4 H5:=g4;have g6:Kept x H4 H9:=(w5.trans (s6.kept.trans d0)).trans (I.kept.trans W);have e3:D≠c:=λ z=>by have h:=g6 _ _ d9 d4;rw [z,X] at h;cases h
  have d5:HB D=some (.lst (u.map λ t=>V.str t.2)):=((g6.trans (G.kept.trans a7)).trans F.kept) _ _ d9 d4;refine ⟨_,rfl,lt,zt,rfl,SqL.of (b3 _ _ d3 Y),?_⟩;refine z7n (K:=KX w.params) (a:=lt) (xs:=zt) (λ i σ L=>∃B,KeptL [c] HB L/\L c=some (.lst B)/\B.length=i/\CaL (hide c L) m rs u ps B/\∃x6 x7 x8,σ=[some (.ref x),some (.ref t),some (.str (z21 m)),some (.ref lp),some (.ref lt),some (.ref M),x6,x7,x8])
   ⟨[],KeptL.refl,b9,rfl,λ n r p y _ _ h=>(by cases h),_,_,_,rfl⟩ (λ i σ L h=>?_) ?_ ?_
  ·obtain ⟨B,kk,_⟩:=h;exact SqL.of (kk _ _ (by simp [i0]) (b3 _ _ d3 Y))
  ·rintro i y σ a9 pq hy ⟨B,k13,e13,cl,ca,x6,x7,x8,rfl⟩ hpq;obtain ⟨a4,v_,sp,h9⟩:=newA (.tup [.int i,y]) hpq;rw [<-v_];refine ⟨pq,_,rfl,SqT.of h9,rfl,.int i,_,rfl,y,_,rfl,rfl,?_⟩;have k4:i < rs.length:=by rw [<-zl];exact (List.getElem?_eq_some_iff.mp hy).1
   obtain ⟨r,h5,py,rfl,h4⟩:=z0g ar hy;obtain ⟨O,h6,g1,g2,hm,dk,ix,wi,ga⟩:=z0t gd h5;have mB :∀l∈[c],MutAt HB l:=λ l hl=>by rw [List.mem_singleton.mp hl];exact .inl ⟨_,b9⟩
   have j1:Tt (kx w) C HB:=ins_tt a1 b3;have c5:Tt (kx w) C a4:=(j1.trans (KeptL.tt k13 mB)).trans (.of sp);have a6:KeptL [c] HB a4:=k13.trans sp.keptL;have d6:=c5.t _ _ h4;rw [g1] at d6;have d2:=ixT_of ok hm;have l5:ixT u O.nm < u.length:=(List.getElem?_eq_some_iff.mp d2).1;have h0:(u.map (·.1))[ixT u O.nm]? = some O.nm:=by rw [A1,d2];rfl
   have i8:u.map (λ t=>V.str t.1)=(u.map (·.1)).map V.str:=by rw [T2];rfl
   have b5:=a6 _ _ (by simp [i3]) g0;rw [i8] at b5;refine ⟨_,rfl,.inl ⟨rfl,_,SqL.of b5⟩,_,rfl,.inr (.inl ⟨py,_,1,.str O.nm,rfl,rfl,d6,z05 (j:=1) rfl,M,u.map (·.1),O.nm,ixT u O.nm,rfl,rfl,b5,C0 (m:=6) (by rw [F0];exact ok.n6) (by decide),h0,λ m' l4 e=>?_,?_⟩)⟩
   ·have:=(S8 (List.getElem?_eq_some_iff.mp e).1 ok.nd).mp (e.trans h0.symm);omega
   refine g_name (t_nx ?_);have f0:=a6 _ _ (by simp [b0.symm]) eB;have a3:=sp _ _ e13;have j9:=a6 _ _ (by simp [e3]) d5;have i4:=a6 _ _ (by simp [j4]) (b3 _ _ j3 (s2 _ _ c7));refine ⟨_,rfl,x,_,dx,_,_,rfl,f0,z1h _,z0y _,lk_eq,.inl ⟨rfl,_,SqL.of a3⟩,?_⟩;refine ⟨_,rfl,_,rfl,_,rfl,_,rfl,x,_,dx,_,_,rfl,f0,z1h _,z4b _,lk_n (lk_n (lk_n lk_eq)),?_⟩;refine ⟨_,rfl,.inl ⟨D,_,_,.str O.k,rfl,rfl,SqL.of j9,z05 (by rw [A1,d2];rfl),?_⟩⟩;refine ⟨_,rfl,λ xc dc b1 e8 nc=>?_⟩;have sC:Same a4 (upd (upd a4 dc (.own xc)) xc (.ins 253 dc [])):=(Same.upd e8).trans (Same.upd (by rw [upd_ne nc.symm];exact b1));refine ⟨xc,dc,lp,i,_,_,.ref py,zp,z2g m rs rs.length,r,rfl,upd_same,⟨py,rfl,sC.seqT (c5.t _ _ h4)⟩,sC _ _ i4,z01 (λ _ _ z=>z.elim λ b y=>⟨b,y.1,sC _ _ (c5.l _ _ (s2 _ _ y.2))⟩) ap,by omega,λ fs la lb as bs i2 i6 j8 f1 f2 f3 f4 f5 f6 f7 f8 f9 ea eb ma mb j7 h8 fa fb=>⟨rfl,?_⟩⟩;have c8:Same a4 i2:=zck b1 e8 i6;have j6:=c8 _ _ a3;refine ⟨c,B,_,rfl,rfl,j6,R1 (m:=100) (by omega) (by decide),?_⟩;have i9:xc≠c:=λ z=>by rw [z,a3] at b1;cases b1
   have i7:la≠c:=λ z=>by rw [z,sC _ _ a3] at fa;cases fa
   have k0:lb≠c:=λ z=>by rw [z,sC _ _ a3] at fb;cases fb
   refine ⟨B++[.ref xc],(a6.trans c8.keptL).trans (KeptL.set (by simp)),upd_same,by rw [G0];show B.length + 1=_;omega,λ n r' p' y' h1 h2 S=>?_,_,_,_,rfl⟩;rw [zex];by_cases z:n < B.length
   ·rw [B1 z] at S;exact (ca n r' p' y' h1 h2 S).same (z80 (sp.trans c8))
   ·have hn:n=B.length:=by have:=(List.getElem?_eq_some_iff.mp S).1;rw [G0] at this;have:n < B.length + 1:=this;omega
    rw [hn,O1 (A0 _),K7] at S;cases S;rw [hn,cl] at h1 h2;rw [h5] at h1;rw [h6] at h2;cases h1;cases h2;rw [hn,cl];exact ⟨xc,dc,fs,la,lb,as,bs,rfl,z5f i9 j8,f1,f2,f3,f4,f5,f6,f7,f8,f9,z5f i7 ea,z5f k0 eb,λ a=>(ma a).trans ⟨λ h=>(mem_pairsTo.mp h).2.2,λ h=>mem_pairsTo.mpr ⟨(z14 h).1,(z14 h).2,h⟩⟩,λ b=>(mb b).trans ⟨λ h=>(mem_pairsTo.mp h).2.2,λ h=>mem_pairsTo.mpr ⟨(z14 h).1,(z14 h).2,h⟩⟩,j7,h8⟩
  ·rintro σ a9 ⟨B,k13,e13,cl,ca,x6,x7,x8,rfl⟩;have j2 :∀b o,b≠x->b≠c->H8 b=some o->a9 b=some o:=λ b o n1 n2 e=>k13 _ _ (by simp [n2]) (F _ _ (a7 _ _ n1 (G _ _ (W _ _ n1 e))));have e0:le≠x:=λ z=>by rw [z,I _ _ e7] at b2;cases b2
   have i5:le≠c:=λ z=>by have h:=W _ _ e0 b2;rw [z,X] at h;cases h
   have h7 :∀l∈[c],MutAt HB l:=λ l hl=>by rw [List.mem_singleton.mp hl];exact .inl ⟨_,b9⟩
   have j5:Tt (kx w) H6 a9:=((ins_tt (s6 _ _ e5) d0).trans ((Tt.of I).trans ((ins_tt (I _ _ e7) W).trans ((Tt.of G).trans ((ins_tt (G _ _ e9) a7).trans (.of F)))))).trans (KeptL.tt k13 h7);refine q _ a9 (λ b o nb e=>k13 _ _ (λ z=>by rw [List.mem_singleton.mp z,k3] at e;cases e) (kB b o nb e)) (k13 _ _ (by simp [b0.symm]) eB) ⟨⟨c,B,lk_eq,e13,by omega,λ n r p y h1 h2 S=>(ca n r p y h1 h2 S).same hide_same⟩,⟨p0,lk_n (lk_n lk_eq),pz.tups j5.t⟩,⟨le,en,lk_n lk_eq,j2 _ _ e0 i5 b2,EL⟩,⟨D,lk_n (lk_n (lk_n lk_eq)),k13 _ _ (by simp [e3]) d5⟩,λ z hz=>?_⟩;simp only [L1,u0,or_false] at hz;rcases hz with rfl|rfl|rfl<;>exact (lk_n (lk_n (lk_n (lk_n rfl))))
theorem zdp {α β:Type} {R:α->β->Prop} {xs xs':List α} {ys ys':List β} (h:All2 R xs ys) (h':All2 R xs' ys'):All2 R (xs++xs') (ys++ys'):=by
 induction h with
 | nil=>exact h'
 | cons a r ih=>exact .cons a ih
theorem if_any {tc:TT} {ta tb:TS} {D:Ends} {σ:L2.St} {H:Hp} (R:Hp->Prop) (k :∀H',R H'->ta D σ H') (h:(∀H',R H'->ta D σ H')->tIfS tc ta tb D σ H):tIfS tc ta tb D σ H:=h k
def BoAt (K:b0) (H:Hp) (m:Nat) (rs:List Rc) (ts:List (Str×Str)) (ps:List DD) (b:Addr):Prop:=∃dx fs,H b=some (.ins 293 dx fs)/\BoF K H m rs ts ps fs
theorem BoAt.same {K:b0} {H H':Hp} {m:Nat} {rs:List Rc} {ts:List (Str×Str)} {ps:List DD} {b:Addr} (s:Same H H') (h:BoAt K H m rs ts ps b):BoAt K H' m rs ts ps b:=h.elim λ a z=>z.elim λ fs y=>⟨a,fs,s _ _ y.1,y.2.same s⟩
def z1n (K:b0):Sp:=λ vs H Q _=>∃(b pp:Addr) (m k:Nat) (rs:List Rc) (ts:List (Str×Str)) (ps:List DD) (pl:Pl),vs=[.ref b,.ref pp]/\BoAt K H m rs ts ps b/\All2 (RcGd K H ts) rs ps/\ThW ts/\PlZ K H pp pl/\PlOk ts rs.length k pl/\rs.length<=63/\
 ∀l ys H',Same H H'->H l=none->H' l=some (.lst ys)->All2 (StpZ K H') (nexT (cP m rs pl.1) ts rs ps pl rs.length) ys->Q (.ref l) H'
theorem z4i (T:TX (kx w) mg) (c0:Fo P w mg base CX0 1 250 y00 ["self","done"] (z18 (kx w))) (c1:Ca P w mg base "step_of" ["candidate","place"] 6 (z95 (kx w))):Fo P w mg base CX0 7 276 y02 ["self","place"] (z1n (kx w)):=by
 refine (z22 w.params).ok sc_Board_steps_from (λ vs H Q E h=>?_) (λ a7 A a6 s H vs Q E hr h=>?_)
 ·obtain ⟨b,u,m,k,d,l,C,c,rfl,_⟩:=h;rfl
 ·obtain ⟨b,u,m,k,d,l,C,c,rfl,⟨dx,fs,eb,⟨⟨lc,cs,fc,ec,cl,ca⟩,_,_,_,fn⟩⟩,gd,ok,pz,po,rl,q⟩:=h;refine ⟨_,(z02 (ps_set (i:=2) sc_Board_steps_from.nd rfl (V0 rfl) (pe_lst pa_nil))
   (z02 (ps_for U1 rfl (z49 (pe_fld (pv 0) rfl)) (z0h (i:=3) sc_Board_steps_from.nd rfl (V0 rfl))
   (z04 (ps_if (pt_val (zfa (pv 3) (z09 _) (z2n _) c0 (hr.mono (by decide)) (z3d _) .nil pass0 (z00 (pe_ix ix_seq (pv 1) pe_int (λ _ _=>rfl)) pa_nil)) (λ _=>rfl))
   (z02 (ps_set (i:=4) sc_Board_steps_from.nd rfl (V0 rfl) (pe_cal c1 (hr.mono (by decide)) rfl (z00 (pv 3) (z00 (pv 1) pa_nil))))
   (z04 (ps_if (PW.pt (pw_or (z08 op_isN (pe_fld (pv 3) rfl) pe_non (nomark _)) (pw_or1 (z08 opEq (pe_fld (pv 3) rfl) (pe_ix ix_seq (pv 4) pe_int (λ _ _=>rfl)) (nomark _)))))
   (z04 (z36 (z17 (pv 2) (z00 (pv 4) pa_nil))))
   z0d)))
   z0d)))
   (z04 (ps_ret (pv 2))))),?_⟩
  refine ⟨w_0,λ o S=>?_⟩;obtain ⟨H1,v_,M,F⟩:=newA (.lst []) S;rw [<-v_];refine g_name (t_nx ?_);refine ⟨_,rfl,b,_,dx,fs,_,rfl,M _ _ eb,z1h _,z0y _,fc,lc,rfl,⟨_,SqL.of (M _ _ ec)⟩,?_⟩;refine z85 (K:=KX w.params) (a:=lc) (xs:=cs) (λ i σ f=>∃ys,Same H f/\f o=some (.lst ys)/\All2 (StpZ (kx w) f) (nexT (cP m d c.1) l d C c i) ys/\∃x3 x4,σ=[some (.ref b),some (.ref u),some (.ref o),x3,x4])
   ⟨[],M,F,.nil,_,_,rfl⟩ (λ i σ f _ h=>SqL.of (h.choose_spec.1 _ _ ec)) ?_ ?_
  ·rintro i y σ J hy ⟨ys,s2,e2,al2,x3,x4,rfl⟩;have L:i < d.length:=by rw [<-cl];exact (List.getElem?_eq_some_iff.mp hy).1
   have D:d[i]? = some d[i]:=K0 L;obtain ⟨p,Z,g⟩:=z0t gd D;generalize d[i]=r at D g;have O:=(ca i r p y D Z hy).same s2;obtain ⟨N,pb,vs,sp,sa,sb,sz⟩:=id pz;refine g_name ?_;have a4 :∀{f:Hp} {R:VK},Same H f->R (.ref N) f->tOp (rIx (kx w)) (tVar 1) (tC (.int 0)) [some (.ref b),some (.ref u),some (.ref o),some y,x4] f R:=λ B h=>⟨_,rfl,.inr (.inl ⟨u,_,0,.ref N,rfl,rfl,B.seqT sp,z05 (j:=0) rfl,h⟩)⟩
   have skip:cP m d c.1 i=false\/stp l r p i c=none->∀{x3 x4:Option V} {f:Hp},Same J f->∃ys,Same H f/\f o=some (.lst ys)/\All2 (StpZ (kx w) f) (nexT (cP m d c.1) l d C c (i + 1)) ys/\∃x3' x4',[some (.ref b),some (.ref u),some (.ref o),x3,x4]=[some (.ref b),some (.ref u),some (.ref o),x3',x4']:=λ h {x3 x4 f} B=>by
    refine ⟨ys,s2.trans B,B _ _ e2,?_,_,_,rfl⟩;rw [z40,show nexAt (cP m d c.1) l d C c i=none by
     unfold nexAt;rcases h with h|h
     ·rw [h];rfl
     ·rw [D,Z];split<;>first|exact h|rfl]
    rw [m8,j2];exact z01 (λ _ _ z=>StpZ.tups (.of B) z) al2
   obtain ⟨x,a0,U,la,lb,as,bs,rfl,X,f1,f2,f3,f4,f5,f6,f7,f8,f9,_⟩:=id O;refine ⟨_,rfl,x,a0,U,rfl,X,f9,a4 s2 ⟨.ref x,N,m,i,d,l,r,p,c.1,rfl,O,s2.seqT sa,_,rfl,?_⟩⟩;cases hc:cP m d c.1 i with
   | false=>exact iteF (skip (.inl hc) (Same.refl _))
   | true=>
   refine iteT ?_;have ni:i∉c.1:=of_decide_eq_true (Bool.and_eq_true_iff.mp (Bool.and_eq_true_iff.mp hc).1).1;refine ⟨_,rfl,_,rfl,.ref x,u,m,i,k,d.length,d,l,r,p,c,rfl,O,g.tt (.of s2),ok,pz.tups (.of s2),po,rl,L,ni,λ Y W q6 G a2 so v e3 a3=>?_⟩;refine g_name (t_nx ?_);have I:=stp_of (r:=r) (n:=i) a2;refine if_any (λ f=>G=f/\stp l r p i c=some (stq l p i c Y)) ?_ λ put=>?_;rotate_left
   ·refine t_or ?_;refine ⟨_,rfl,x,_,a0,U,_,rfl,v _ _ X,z09 _,z0w _,f6,rfl,_,rfl,?_⟩;have a5:=dz_ok g.2.2.2.1 so (po.n63 rl L ni).1;rcases g.2.2.2.2.2.2 with ⟨h1,t⟩|⟨h1,t⟩
    ·refine iteP (by rw [t];rfl) (iteT (put _ ⟨rfl,?_⟩));rw [I,h1];rfl
    have na:¬ decide (r.a=V.non)=true:=λ h=>by have:=of_decide_eq_true h;rcases t with ⟨j,t⟩|⟨j,t⟩<;>(rw [t] at this;cases this)
    have F:r.e.isNone=false:=Option.isNone_eq_false_iff.mpr h1;refine iteN na ?_;refine ⟨_,rfl,x,_,a0,U,_,rfl,v _ _ X,z09 _,z0w _,f6,?_⟩;refine ⟨_,rfl,.inr (.inl ⟨W,_,1,_,rfl,rfl,SqT.of e3,z05 (j:=1) rfl,IsA.scal (.inl t) (.inl a5.2.isA),_,rfl,?_⟩)⟩;by_cases za:r.a=(dz p.k p.vb p.dt Y).2
    ·refine iteP (decide_eq_true za) (put _ ⟨rfl,?_⟩);rw [I,F,j0h,decide_eq_true za.symm];rfl
    ·refine iteN (λ h=>za (of_decide_eq_true h)) (skip (.inr ?_) v);rw [I,F,j0h,decide_eq_false (λ h=>za h.symm)];rfl
   rintro f ⟨rfl,hst⟩;have a1:=v _ _ e2;have yl:ys.length<=i:=by rw [z03 al2];exact zfn
   refine ⟨_,rfl,.inl ⟨rfl,_,SqL.of a1⟩,_,rfl,o,ys,_,rfl,rfl,a1,R1 (m:=100) (by omega) (by decide),?_⟩;have tu:Tups (kx w) G (upd G o (.lst (ys++[.ref W]))):=Tups.lst a1;refine ⟨ys++[.ref W],Same.keep (s2.trans v) S,upd_same,?_,_,_,rfl⟩;rw [z40,show nexAt (cP m d c.1) l d C c i=some (stq l p i c Y) by unfold nexAt;rw [if_pos hc,D,Z];exact hst];exact zdp (z01 (λ _ _ z=>(StpZ.tups (.of v) z).tups tu) al2) (.cons (a3.tups tu) .nil)
  ·rintro σ J ⟨ys,s2,e2,al2,x3,x4,rfl⟩;rw [cl] at al2;exact ⟨_,rfl,q o ys J s2 S e2 al2⟩
end
section
theorem cut_to {ys:List V} {m:Nat} (h:m<=ys.length):cutV ys none (some (m:Int))=ys.take m/\HT.sIx ys.length 0 none=0/\HT.sIx ys.length ys.length (some (m:Int))=m:=by
 have a:HT.sIx ys.length 0 none=0:=by simp [HT.sIx]
 have b:HT.sIx ys.length ys.length (some (m:Int))=m:=by simp [HT.sIx];rw [if_neg (by omega)];exact N9 h
 refine ⟨?_,a,b⟩;unfold cutV;rw [a,b,u5,Nat.sub_zero]
end
section
variable {P:Program} {w:P0} {mg:Str->Option Value} {base:Heap}
def z3j (K:b0):Sp:=λ vs H Q _=>∃(a:Addr) (ns:List Int),vs=[.ref a,.int 0]/\SqL K H a (ns.map V.int)/\∀i,Q (.int i) H
theorem z6x (T:TX (kx w) mg):Fo P w mg base CX0 1 354 y0f ["script","k"] (z3j (kx w)):=by
 refine (z27 w.params).ok z73 (λ d H Q E h=>?_) (λ g A e s H d Q E f h=>?_)
 ·obtain ⟨a,b,rfl,_⟩:=h;rfl
 ·obtain ⟨a,b,rfl,c,q⟩:=h;refine ⟨_,(z02 (ps_if (z08 op_lt (pv 1) (z0c z12 rfl (T.no (n_len _)) M3 (z00 (pv 0) pa_nil)) (nomark _))
   (z04 (ps_ret (pe_ix ix_seq (pv 0) (pv 1) (λ _ _=>rfl))))
   z0d)
   (z04 (ps_ret pe_int))),?_⟩
  refine ⟨_,rfl,_,rfl,.inl ⟨a,_,rfl,.inl c,_,_,rfl,rfl,_,rfl,?_⟩⟩;cases b with
  | nil=>exact iteF (q 0)
  | cons n b=>rw [if_pos (by simp)];exact ⟨_,rfl,_,rfl,.inl ⟨a,_,0,.int n,rfl,rfl,c,z05 (xs:=(n :: b).map V.int) (j:=0) rfl,q n⟩⟩
def DeckAt (H:Hp) (r:Addr) (n:Nat):Prop:=∃a b c:Int,H r=some (.lst [.int a,.int b,.int c])/\0<=b/\b < 2/\0<=c/\c<=n
theorem DeckAt.same {H H':Hp} {r:Addr} {n:Nat} (h:DeckAt H r n) (s:Same H H'):DeckAt H' r n:=by obtain ⟨a,b,c,e,z⟩:=h;exact ⟨a,b,c,s _ _ e,z⟩
theorem DeckAt.fresh {r p:Addr} {H:Hp} {n:Nat} (h:DeckAt H r n) (e:H p=none):p≠r:=λ z=>by obtain ⟨a,b,c,d,_⟩:=h;rw [z,d] at e;cases e
structure Dw (r:Addr) (n:Nat) (H H':Hp):Prop where
 k:Kept r H H'
 r:DeckAt H' r n
theorem Dw.trans {r:Addr} {n m:Nat} {H H1 H2:Hp} (a:Dw r n H H1) (b:Dw r m H1 H2):Dw r m H H2:=⟨a.k.trans b.k,b.r⟩
theorem Dw.same {r:Addr} {n:Nat} {H H1 H2:Hp} (a:Dw r n H H1) (s:Same H1 H2):Dw r n H H2:=⟨a.k.trans s.kept,a.r.same s⟩
theorem DeckAt.dw {r:Addr} {n:Nat} {H:Hp} (h:DeckAt H r n):Dw r n H H:=⟨.refl,h⟩
theorem Dw.free {r:Addr} {n:Nat} {H H':Hp} {p:Addr} (h:Dw r n H H') (e:H' p=none):H p=none:=by
 cases z:H p with
 | none=>rfl
 | some o=>rw [h.k _ _ (h.r.fresh e) z] at e;cases e
def z1f:Sp:=λ vs H Q _=>∃(r:Addr) (m:Int) (n:Nat),vs=[.ref r,.int m]/\DeckAt H r n/\n < 10000/\0 < m/\m < 2 ^ 64/\∀t H',Dw r (n + 1) H H'->0<=t->t < m->Q (.int t) H'
theorem zaz (T:TX (kx w) mg):Fo P w mg base CX0 1 361 y19 ["deck","many"] z1f:=by
 refine (z4s w.params).ok sc__law_take (λ o H Q E h=>?_) (λ B A y s H o Q E v h=>?_)
 ·obtain ⟨r,m,n,rfl,_⟩:=h;rfl
 ·obtain ⟨r,m,n,rfl,⟨a,b,c,e,g,j,l,F⟩,u,f,p,q⟩:=h;refine ⟨_,(z02 (ps_if (z08 opEq (pe_ix ix_seq (pv 0) pe_int (λ _ _=>rfl)) pe_int (nomark _))
   (z02 (ps_set (i:=2) sc__law_take.nd rfl (V0 rfl) (pe_op op_mod (pe_ix ix_seq (pv 0) pe_int (λ _ _=>rfl)) (pv 1)))
   (z02 (ps_asg (pe_op z8b (pe_ix ix_seq (pv 0) pe_int (λ _ _=>rfl)) (pv 1)) (pg_sub (pv 0) pe_int z4y))
   (z04 (ps_ret (pv 2)))))
   z0d)
   (z02 (ps_asg (pe_op opAdd (pe_ix ix_seq (pv 0) pe_int (λ _ _=>rfl)) pe_int) (pg_sub (pv 0) pe_int z4y))
   (z02 (ps_set (i:=3) sc__law_take.nd rfl (V0 rfl) (pe_op op_mod (pe_op opAdd (pe_op op_mul (pe_op op_mod (pe_ix ix_seq (pv 0) pe_int (λ _ _=>rfl)) pe_int) (pe_op opAdd (pe_op op_mul (pe_ix ix_seq (pv 0) pe_int (λ _ _=>rfl)) (pe_ix ix_seq (pv 0) pe_int (λ _ _=>rfl))) pe_int)) (pe_ix ix_seq (pv 0) pe_int (λ _ _=>rfl))) pe_int))
   (z02 (ps_set (i:=3) sc__law_take.nd rfl (V0 rfl) (pe_op op_mod (pe_op op_mul (pv 3) (pv 3)) pe_int))
   (z04 (ps_ret (pe_op op_mod (pe_op z8b (pe_op op_mod (pe_op op_mul (pv 3) pe_int) pe_int) pe_int) (pv 1)))))))),?_⟩
  refine ⟨_,rfl,.inl ⟨r,_,1,.int b,rfl,rfl,SqL.of e,rfl,rfl,_,rfl,?_⟩⟩;refine ite2 (λ _=>?_) λ _=>?_
  ·refine ⟨_,rfl,.inl ⟨r,_,0,.int a,rfl,rfl,SqL.of e,rfl,_,rfl,_,_,rfl,rfl,f,?_⟩⟩;refine ⟨_,rfl,.inl ⟨r,_,0,.int a,rfl,rfl,SqL.of e,rfl,_,rfl,_,_,rfl,rfl,⟨f,p⟩,?_⟩⟩;refine ⟨_,rfl,r,_,0,0,rfl,rfl,e,rfl,?_⟩;exact ⟨_,rfl,q _ _ ⟨.set,_,b,c,upd_same,g,j,l,by omega⟩ (Y5 _ (by omega)) (j5 _ f)⟩
  ·refine ⟨_,rfl,.inl ⟨r,_,2,.int c,rfl,rfl,SqL.of e,rfl,.inl ⟨_,_,rfl,rfl,?_⟩⟩⟩;refine ⟨_,rfl,r,_,2,2,rfl,rfl,e,rfl,?_⟩;have d:upd H r (.lst ([V.int a,.int b,.int c].set 2 (.int (c + 1)))) r=some (.lst [.int a,.int b,.int (c + 1)]):=upd_same;have k:Kept r H (upd H r (.lst ([V.int a,.int b,.int c].set 2 (.int (c + 1))))):=.set;generalize upd H r (.lst ([V.int a,.int b,.int c].set 2 (.int (c + 1))))=H2 at d k⊢;have z:0<=a % 2147483647:=Y5 _ (by decide);have D:a % 2147483647 < 2147483647:=j5 _ (by decide);refine ⟨_,rfl,.inl ⟨r,_,0,.int a,rfl,rfl,SqL.of d,rfl,_,_,rfl,rfl,(show (0:Int) < 2147483647 by decide),?_⟩⟩;refine ⟨_,rfl,.inl ⟨r,_,2,.int (c + 1),rfl,rfl,SqL.of d,rfl,_,rfl,.inl ⟨r,_,2,.int (c + 1),rfl,rfl,SqL.of d,rfl,_,_,rfl,rfl,.inl ⟨by omega,by omega⟩,.inl ⟨_,_,rfl,rfl,?_⟩⟩⟩⟩;refine ⟨_,_,rfl,rfl,.inl ⟨by omega,by omega⟩,_,rfl,.inl ⟨r,_,2,.int (c + 1),rfl,rfl,SqL.of d,rfl,.inl ⟨_,_,rfl,rfl,?_⟩⟩⟩;refine ⟨_,_,rfl,rfl,(show (0:Int) < 2147483629 by decide),?_⟩;generalize hx:(a % 2147483647 * ((c + 1) * (c + 1) + 48271) + (c + 1)) % 2147483629=x;have t:0<=x:=by rw [<-hx];exact Y5 _ (by decide)
   have C:x < 2147483629:=by rw [<-hx];exact j5 _ (by decide)
   refine ⟨_,rfl,_,rfl,_,_,rfl,rfl,.inl ⟨by omega,by omega⟩,_,_,rfl,rfl,(show (0:Int) < 2147483587 by decide),?_⟩;refine ⟨_,rfl,_,_,rfl,rfl,.inr (by decide),_,_,rfl,rfl,(show (0:Int) < 2147483563 by decide),_,_,rfl,rfl,⟨by decide,by decide⟩,_,rfl,_,_,rfl,rfl,f,?_⟩;exact q _ _ ⟨k,a,b,c + 1,d,g,j,by omega,by omega⟩ (Y5 _ (by omega)) (j5 _ f)
def z5a:Sp:=λ vs H Q _=>∃(r:Addr) (n:Nat),vs=[.ref r]/\DeckAt H r n/\n < 10000/\∀i H',Dw r (n + 1) H H'->near i->Q (.int i) H'
theorem za5 (T:TX (kx w) mg) (c0:Ca P w mg base "_law_take" ["deck","many"] 1 z1f):Fo P w mg base CX0 2 378 y0z ["deck"] z5a:=by
 refine (z3o w.params).ok z8w (λ f H Q E h=>?_) (λ x A u s H f Q E i h=>?_)
 ·obtain ⟨r,n,rfl,_⟩:=h;rfl
 ·obtain ⟨r,n,rfl,R,g,q⟩:=h;refine q_of (z42 (qs_ret (qe_ix ix_seq (qe_lst (z0e (QE.mk pe_int) (z0e (QE.mk pe_int) (z0e (QE.mk pe_int) (z0e (QE.mk pe_int) (z0e (QE.mk pe_int) (z0e (QE.mk pe_int) (z0e (QE.mk (pe_un un_neg pe_int)) (z0e (QE.mk (pe_op op_pow pe_int pe_int)) qa_nil))))))))) (QE.mk (pe_cal c0 (i.mono (by decide)) rfl (z00 (pv 0) (z00 pe_int pa_nil)))) (λ _ _=>rfl)))) ?_;refine ⟨_,rfl,_,_,rfl,rfl,p9,w_8,λ l a=>?_⟩;simp only [e9];refine ⟨_,rfl,r,8,n,rfl,R.same (Same.upd a),g,by decide,by decide,λ t p c e m=>?_⟩;obtain ⟨v,d,b⟩:=atI_of (xs:=[V.int 0,.int 1,.int 2,.int 3,.int 1,.int 2,.int (-1),.int 1000000000]) e m;refine .inl ⟨l,_,t,v,rfl,rfl,SqL.of (c.k _ _ (R.fresh a) upd_same),d,?_⟩;have j:=(R.dw.same (Same.upd (o:=.lst [V.int 0,.int 1,.int 2,.int 3,.int 1,.int 2,.int (-1),.int 1000000000]) a)).trans c;simp only [L1,u0,or_false] at b;rcases b with rfl|rfl|rfl|rfl|rfl|rfl|rfl|rfl<;>exact q _ _ j ⟨by decide,by decide⟩
def z5v (K:b0):Sp:=λ vs H Q _=>∃(r:Addr) (k:Str) (n:Nat),vs=[.ref r,.str k]/\DeckAt H r n/\n < 9000/\k∈kinds5/\∀p v x d H' m,Dw r m H H'->m<=n + 3->H' p=some (.tup [.str v,x])->H p=none->DeedOk k v d->IsDt K H' d x->WorthIn H' d x->Q (.ref p) H'
theorem zbb (T:TX (kx w) mg) (c0:Ca P w mg base "_law_take" ["deck","many"] 1 z1f) (c1:Ca P w mg base "_law_worth" ["deck"] 2 z5a):Fo P w mg base CX0 3 385 y1a ["deck","kind"] (z5v (kx w)):=by
 refine (z53 w.params).ok sc__law_verb (λ vs H Q E h=>?_) (λ b9 A b7 s H vs Q E u h=>?_)
 ·obtain ⟨r,k,n,rfl,_⟩:=h;rfl
 ·obtain ⟨r,k,n,rfl,R,hn,M,q⟩:=h;refine q_of (z0i (qs_set (i:=2) sc__law_verb.nd rfl (V0 rfl) (zjm (zbf (QE.mk pe_str) (qe_lst (z0e (QE.mk pe_str) (z0e (QE.mk pe_str) qa_nil))) (zbf (QE.mk pe_str) (qe_lst (z0e (QE.mk pe_str) (z0e (QE.mk pe_str) qa_nil))) (zbf (QE.mk pe_str) (qe_lst (z0e (QE.mk pe_str) (z0e (QE.mk pe_str) qa_nil))) zjv))) rfl rfl (by simp) (by decide)))
   (z0i (zg2 (hu_of u) (QE.mk (pv 2)) (QE.mk pe_str) (qe_lst (z0e (QE.mk pe_str) (z0e (QE.mk pe_str) (z0e (QE.mk pe_str) qa_nil)))) rfl)
   (z0i (zg2 (hu_of u) (QE.mk (pv 2)) (QE.mk pe_str) (qe_lst (z0e (QE.mk pe_str) (z0e (QE.mk pe_str) (z0e (QE.mk pe_str) (z0e (QE.mk pe_str) qa_nil))))) rfl)
   (z0i (QS.mk (ps_set (i:=3) sc__law_verb.nd rfl (V0 rfl) (pe_ix ix_seq (z5k (hu_of u) (pv 2) (pv 1) (λ _ _=>rfl)) (pe_cal c0 (u.mono (by decide)) rfl (z00 (pv 0) (z00 (z0c z12 rfl (T.no (n_len _)) M3 (z00 (z5k (hu_of u) (pv 2) (pv 1) (λ _ _=>rfl)) pa_nil)) pa_nil))) (λ _ _=>rfl))))
   (z0i (QS.mk (ps_if (z08 opEq (pv 3) pe_str (nomark _))
   (z04 (ps_ret (pe_tup (z00 (pv 3) (z00 (pe_tup (z00 (pe_cal c1 (u.mono (by decide)) rfl (z00 (pv 0) pa_nil)) (z00 (pe_cal c1 (u.mono (by decide)) rfl (z00 (pv 0) pa_nil)) pa_nil))) pa_nil)))))
   z0d))
   (z0i (QS.mk (ps_if (z08 z1l (pv 3) (pe_lst (z00 pe_str (z00 pe_str pa_nil))) (by with_unfolding_all rfl))
   (z04 (ps_ret (pe_tup (z00 (pv 3) (z00 pe_non pa_nil)))))
   z0d))
   (z42 (QS.mk (ps_ret (pe_tup (z00 (pv 3) (z00 (pe_cal c1 (u.mono (by decide)) rfl (z00 (pv 0) pa_nil)) pa_nil)))))))))))) ?_
  refine z0s ?_;intro p hp;refine ⟨w_2,λ O h1=>⟨w_2,λ X Y=>⟨w_2,λ Z h3=>?_⟩⟩⟩;obtain ⟨ep,H2,a9,s2,e2,f2⟩:=words3 (H:=H) (k1:="register") (k2:="counter") (k3:="queue") (w1:=["write","read"]) (w2:=["add","read"]) (w3:=["put","take"]) hp h1 Y h3 (by decide +kernel) (by decide +kernel) (by decide +kernel);refine ⟨ep,[(.inr "register",.ref O),(.inr "counter",.ref X),(.inr "queue",.ref Z)],rfl,(show (3:Nat)<=15 by decide),?_⟩;rw [show mergeK [] [((.inr "register" : Key),V.ref O),(.inr "counter",.ref X),(.inr "queue",.ref Z)]=[(.inr "register",.ref O),(.inr "counter",.ref X),(.inr "queue",.ref Z)] from rfl];refine g_name ?_;refine (show∀A,H2=A->tSeq _ _ _ _ A from ?_) _ a9;intro A G;subst G;refine ⟨w_3,λ l4 h4=>⟨_,rfl,p,_,rfl,DPut.k (k:=.inr "set") ((Same.upd h4) _ _ e2) (show (3:Nat) < sizeLine by decide),?_⟩⟩;obtain ⟨H4,a7,W4,k4⟩:=WordsAt.put (k:="set") (ws:=["put","cut","has"]) h4 e2 (n:=3) (A0 _) f2;refine (show∀A,H4=A->tSeq _ _ _ _ A from ?_) _ a7;intro A G;subst G;obtain ⟨b8,e4,n4,f4⟩:=W4.ex;refine ⟨w_4,λ l5 h5=>⟨_,rfl,p,_,rfl,DPut.k (k:=.inr "cell") ((Same.upd h5) _ _ e4) (R1 n4 (by decide)),?_⟩⟩;obtain ⟨W,a6,W5,k5⟩:=WordsAt.put (k:="cell") (ws:=["read","write","swap","swap"]) h5 e4 n4 f4;refine (show∀A,W=A->tSeq _ _ _ _ A from ?_) _ a6;intro A G;subst G;have s5:Same H W:=zao (L:=[p]) ((s2.keptL.trans k4).trans k5) (λ l hl=>by rw [List.mem_singleton.mp hl];exact hp);obtain ⟨c2,e5,_,f5⟩:=W5.ex;have w5:=R.dw.same s5;have fk:(if k = "cell" then some ["read","write","swap","swap"] else if k = "set" then some ["put","cut","has"] else if k = "register" then some ["write","read"] else if k = "counter" then some ["add","read"] else if k = "queue" then some ["put","take"] else none:Option (List Str))=some (verbsT k):=by have B:=M;unfold kinds5 at B;simp only [L1,u0,or_false] at B;rcases B with rfl|rfl|rfl|rfl|rfl<;>decide +kernel
  obtain ⟨C,v6,I⟩:=f5 k _ fk;have dg:DGet W p (.str k) (some (.ref C)):=by have:=DGet.k (k:=.inr k) e5;rw [v6] at this;exact this
  refine ⟨_,rfl,_,rfl,p,.ref C,rfl,dg,_,rfl,_,rfl,_,rfl,p,.ref C,rfl,dg,.inl ⟨C,_,rfl,.inl (SqL.of I),?_⟩⟩;have a4:0 < (verbsT k).length/\(verbsT k).length<=4:=by have B:=M;unfold kinds5 at B;simp only [L1,u0,or_false] at B;rcases B with rfl|rfl|rfl|rfl|rfl<;>decide +kernel
  refine ⟨r,_,n,rfl,w5.r,by omega,by rw [F0];omega,by rw [F0];omega,λ t7 H7 w7 b2 b3=>?_⟩;obtain ⟨v0,b1,a8⟩:=atI_of (xs:=(verbsT k).map V.str) b2 b3;obtain ⟨v,hv,rfl⟩:=List.mem_map.mp a8;have n6:C≠r:=λ z=>by
   obtain ⟨a,b,c,er,_⟩:=w5.r;rw [z,er] at I;cases hws:verbsT k with
   | nil=>rw [hws] at a4;exact absurd a4.1 (by decide)
   | cons y ys=>rw [hws] at I;cases I
  refine .inl ⟨C,_,t7,_,rfl,rfl,SqL.of (w7.k _ _ n6 I),b1,?_⟩;have b5:=w5.trans w7;have fr :∀{m:Nat} {H':Hp} {p':Addr},Dw r m H H'->H' p'=none->H p'=none:=λ hw e=>hw.free e;have J:Dw r (n + 1) H H7:=b5;have a1 :∀(d:Dt) (x:V) (f:Hp) (m:Nat),Dw r m H f->m<=n + 3->DeedOk k v d->IsDt (kx w) f d x->WorthIn f d x->∀p9,f p9=none->Q (.ref p9) (upd f p9 (.tup [.str v,x])):=λ d x f m g b0 dk ix wi p9 D=>q p9 v x d _ m (g.same (Same.upd D)) b0 upd_same (g.free D) dk (ix.same (Same.upd D)) (λ a b e=>(wi a b e).elim λ t z=>⟨t,z.1,(Same.upd D) _ _ z.2⟩);rcases zjc M hv with ⟨a3,F⟩|⟨hsw,F⟩|⟨h1,Y,h3,F⟩
  ·refine ⟨_,rfl,rfl,_,rfl,iteN (by rcases a3 with rfl|rfl<;>decide +kernel) ?_⟩;refine ⟨_,rfl,w_2,λ N K=>⟨N,[V.str "read",.str "take"],rfl,.inl (SqL.of upd_same),rfl,rfl,_,rfl,iteP (by rcases a3 with rfl|rfl<;>decide +kernel) ?_⟩⟩;exact ⟨_,rfl,w_2,λ p9 D=>a1 .non .non _ _ (J.same (Same.upd K)) (by omega) F rfl (λ _ _ e=>by cases e) p9 D⟩
  ·subst hsw;refine ⟨_,rfl,rfl,_,rfl,iteP (decide_eq_true rfl) ?_⟩;refine ⟨_,rfl,_,rfl,r,_,rfl,J.r,by omega,λ i f g S=>⟨_,rfl,r,_,rfl,g.r,by omega,λ j b6 a0 nj=>⟨w_2,λ a5 b4=>⟨w_2,λ U a2=>?_⟩⟩⟩⟩;exact a1 (.tup [.int i,.int j]) (.ref a5) _ _ (((J.trans g).trans a0).same (Same.upd b4)) (by omega) (F i j S nj) (.mkT upd_same (.mk2 rfl rfl)) (λ a b e=>by cases e;exact ⟨a5,rfl,upd_same⟩) U a2
  ·refine ⟨_,rfl,rfl,_,rfl,iteN (by rw [decide_eq_false λ e=>h3 (by injection e)];decide) ?_⟩;refine ⟨_,rfl,w_2,λ N K=>⟨N,[V.str "read",.str "take"],rfl,.inl (SqL.of upd_same),rfl,rfl,_,rfl,?_⟩⟩;have iv:inV (.str v) [.str "read",.str "take"]=decide (v∈(["read","take"]:List Str)):=zkc v ["read","take"];rw [if_neg M0,iv];refine iteN (λ z=>?_) ?_
   ·have:=of_decide_eq_true z;simp only [L1,u0,or_false] at this;rcases this with z|z
    ·exact h1 z
    ·exact Y z
   ·have g:=J.same (Same.upd (o:=.lst [V.str "read",.str "take"]) K);exact ⟨_,rfl,_,rfl,r,_,rfl,g.r,by omega,λ i f a0 S=>⟨w_2,λ U a2=>a1 (.int i) (.int i) _ _ (g.trans a0) (by omega) (F i S) rfl (λ _ _ e=>by cases e) U a2⟩⟩
theorem z9t {K:b0} {H:Hp} :∀ns:List Int,IsPds K H (ns.map B3) (ns.map V.int)
 | []=>rfl
 | n :: ns=>⟨.int n,ns.map V.int,rfl,rfl,z9t ns⟩
theorem z98 :∀ns:List Int,z0z (ns.map B3)=true
 | []=>rfl
 | n :: ns=>by show (true && z0z (ns.map B3))=true;rw [z98 ns];rfl
theorem z92 :∀ns:List Int,K2 (ns.map B3)<=1
 | []=>by decide
 | n :: ns=>by have:=z92 ns;show max (j0c (.int n)) (K2 (ns.map B3))<=1;exact Nat.max_le.mpr ⟨(show (0:Nat)<=1 by decide),this⟩
def z8z (K:b0):Sp:=λ vs H Q _=>∃(k v:Str) (st x:V) (d:Dt) (n:Nat) (sv:Sv),vs=[.str k,st,.str v,x]/\SvOk n k sv/\StZ K H sv st/\n < 63/\DeedOk k v d/\IsDt K H d x/\WorthIn H d x/\∀p st' H',Same H H'->H' p=some (.tup [st',(dz k v d sv).2])->StZ K H' (dz k v d sv).1 st'->Q (.ref p) H'
theorem zf8 (T:TX (kx w) mg):Fo P w mg base CX0 1 366 y1v ["kind","state","verb","worth"] (z8z (kx w)):=by
 refine (z7x w.params).ok sc__law_do (λ vs H Q E h=>?_) (λ b3 A b2 s H vs Q E hr h=>?_)
 ·obtain ⟨k,v,F,x,d,n,sv,rfl,_⟩:=h;rfl
 ·obtain ⟨k,v,F,x,d,n,sv,rfl,D,sz,hn,hd,I,wi,q⟩:=h;refine ⟨_,(z02 (ps_if (z08 opEq (pv 2) pe_str (nomark _))
   (z04 (ps_ret (pe_tup (z00 (pv 1) (z00 (pv 1) pa_nil)))))
   z0d)
   (z02 (ps_if (z08 opEq (pv 2) pe_str (nomark _))
   (z04 (ps_ret (pe_tup (z00 (pv 3) (z00 pe_str pa_nil)))))
   z0d)
   (z02 (ps_if (z08 opEq (pv 2) pe_str (nomark _))
   (z04 (ps_ret (pe_tup (z00 (pe_op opAdd (pv 1) (pv 3)) (z00 (pv 1) pa_nil)))))
   z0d)
   (z02 (ps_if (z08 opEq (pv 2) pe_str (nomark _))
   (z04 (ps_ret (pe_ix ix_seq (pe_lst (z00 (pe_tup (z00 (pv 1) (z00 pe_int pa_nil))) (z00 (pe_tup (z00 (pe_ix ix_seq (pv 3) pe_int (λ _ _=>rfl)) (z00 pe_int pa_nil))) pa_nil))) (z0p zaw rfl (T.no (n_int _)) j1g (z00 (z0r opEq (pv 1) (pe_ix ix_seq (pv 3) pe_int (λ _ _=>rfl)) (nomark _)) pa_nil)) (λ _ _=>rfl))))
   z0d)
   (z02 (ps_if (z08 opEq (pv 2) pe_str (nomark _))
   (z02 (ps_if (z08 (op_eqP hr) (pv 1) (pe_tup pa_nil) (nomark _))
   (z04 (ps_ret (pe_tup (z00 (pv 1) (z00 pe_str pa_nil)))))
   z0d)
   (z04 (ps_ret (pe_tup (z00 (z1g slSeq (pv 1) (z1k pe_int) z2p) (z00 (pe_ix ix_seq (pv 1) pe_int (λ _ _=>rfl)) pa_nil))))))
   z0d)
   (z02 (ps_if (z08 opEq (pv 0) pe_str (nomark _))
   (z04 (ps_ret (pe_tup (z00 (pe_op zcp (pv 1) (pe_tup (z00 (pv 3) pa_nil))) (z00 pe_str pa_nil)))))
   z0d)
   (z02 (ps_set (i:=4) sc__law_do.nd rfl (V0 rfl) (z0r z1l (pv 3) (pv 1) (by with_unfolding_all rfl)))
   (z02 (ps_if (PW.pt (pw_and (z08 opEq (pv 2) pe_str (nomark _)) (z9g (pt_not (pt_val (pv 4) (λ _=>rfl))))))
   (z04 (ps_ret (pe_tup (z00 (z0p z0j rfl (T.no (z2h _)) i4 (z00 (z0c z29 rfl (T.no (z67 _)) M8 (z00 (pe_op zcp (pv 1) (pe_tup (z00 (pv 3) pa_nil))) pa_nil)) pa_nil)) (z00 pe_int pa_nil)))))
   z0d)
   (z02 (ps_if (z08 opEq (pv 2) pe_str (nomark _))
   (z04 (ps_ret (pe_tup (z00 (pv 1) (z00 pe_int pa_nil)))))
   z0d)
   (z02 (ps_if (z08 opEq (pv 2) pe_str (nomark _))
   (z04 (ps_ret (pe_tup (z00 (z0p z0j rfl (T.no (z2h _)) i4 (z00 (pe_cg (xs:=["one"]) (g:=gName 0) (fr:=[(3,"worth")]) (pi_tup (pv 1)) (λ _ _ _ _ _=>(pg_cn (N:=["one","worth"]) 0)) (λ _ _ _ _ _=>(pf_one (z08 opNe (pv 0) (pv 1) (nomark _)))) (λ _ _ _ _ _=>(pv 0))) pa_nil)) (z00 (z0p zaw rfl (T.no (n_int _)) j1g (z00 (pv 4) pa_nil)) pa_nil)))))
   z0d)
   (z04 (ps_ret (pe_tup (z00 (pv 1) (z00 (z0p zaw rfl (T.no (n_int _)) j1g (z00 (pv 4) pa_nil)) pa_nil))))))))))))))),?_⟩
  have big :∀{b:List Int},b.length<=n->(b.map V.int).length + 1<=sizeLine:=λ l=>by rw [F0];exact C0 (m:=64) (by omega) (by decide)
  have a7 :∀(b:List Int) (i:Int),b.map V.int++[V.int i]=(b++[i]).map V.int:=λ b i=>by rw [E1];rfl
  have a6:rowK "queue":=.inl rfl;have Y:rowK "set":=.inr rfl;cases hd with
  | regR=>
   have B:¬ rowK "register":=by decide +kernel
   obtain ⟨a,rfl,_,_⟩:=D.isNum B;cases (show F=V.int a from sz);rw [zem] at q;refine ⟨_,rfl,rfl,_,rfl,iteP (decide_eq_true rfl) ?_⟩;exact ⟨_,rfl,_,rfl,w_2,λ p c=>q p _ _ (Same.upd c) upd_same rfl⟩
  | cntR=>
   have B:¬ rowK "counter":=by decide +kernel
   obtain ⟨a,rfl,_,_⟩:=D.isNum B;cases (show F=V.int a from sz);rw [zer] at q;refine ⟨_,rfl,rfl,_,rfl,iteP (decide_eq_true rfl) ?_⟩;exact ⟨_,rfl,_,rfl,w_2,λ p c=>q p _ _ (Same.upd c) upd_same rfl⟩
  | celR=>
   have B:¬ rowK "cell":=by decide +kernel
   obtain ⟨a,rfl,_,_⟩:=D.isNum B;cases (show F=V.int a from sz);rw [zfp] at q;refine ⟨_,rfl,rfl,_,rfl,iteP (decide_eq_true rfl) ?_⟩;exact ⟨_,rfl,_,rfl,w_2,λ p c=>q p _ _ (Same.upd c) upd_same rfl⟩
  | regW ni=>
   rename_i i;have B:¬ rowK "register":=by decide +kernel
   obtain ⟨a,rfl,_,_⟩:=D.isNum B;cases (show F=V.int a from sz);cases (show x=V.int i from I);rw [zed] at q;refine ⟨_,rfl,rfl,_,rfl,iteK ⟨_,rfl,rfl,_,rfl,iteP (decide_eq_true rfl) ?_⟩⟩;exact ⟨_,rfl,w_2,λ p c=>q p _ _ (Same.upd c) upd_same rfl⟩
  | celW ni=>
   rename_i i;have B:¬ rowK "cell":=by decide +kernel
   obtain ⟨a,rfl,_,_⟩:=D.isNum B;cases (show F=V.int a from sz);cases (show x=V.int i from I);rw [zek] at q;refine ⟨_,rfl,rfl,_,rfl,iteK ⟨_,rfl,rfl,_,rfl,iteP (decide_eq_true rfl) ?_⟩⟩;exact ⟨_,rfl,w_2,λ p c=>q p _ _ (Same.upd c) upd_same rfl⟩
  | cntA ni=>
   rename_i i;have B:¬ rowK "counter":=by decide +kernel
   obtain ⟨a,rfl,_,_⟩:=D.isNum B;cases (show F=V.int a from sz);cases (show x=V.int i from I);rw [zdu] at q;refine ⟨_,rfl,rfl,_,rfl,iteK ⟨_,rfl,rfl,_,rfl,iteK ⟨_,rfl,rfl,_,rfl,iteP (decide_eq_true rfl) ?_⟩⟩⟩;exact ⟨_,rfl,_,rfl,.inl ⟨a,i,rfl,rfl,_,rfl,w_2,λ p c=>q p _ _ (Same.upd c) upd_same rfl⟩⟩
  | celS ni nj=>
   rename_i i j;have B:¬ rowK "cell":=by decide +kernel
   obtain ⟨a,rfl,_,_⟩:=D.isNum B;cases (show F=V.int a from sz);obtain ⟨t,rfl,et⟩:=wi i j rfl;refine ⟨_,rfl,rfl,_,rfl,iteK ⟨_,rfl,rfl,_,rfl,iteK ⟨_,rfl,rfl,_,rfl,iteK ⟨_,rfl,rfl,_,rfl,iteP (decide_eq_true rfl) ?_⟩⟩⟩⟩;refine ⟨_,rfl,w_2,λ e J=>?_⟩;obtain ⟨H1,v_,C,X⟩:=newA (.tup [.int a,.int 0]) J;rw [<-v_];refine ⟨_,rfl,.inr (.inl ⟨t,_,1,.int j,rfl,rfl,SqT.of (C _ _ et),z05 (j:=1) rfl,w_2,λ u a8=>?_⟩)⟩;have M:=Same.upd (o:=.tup [.int j,.int 1]) a8;have e2:upd H1 u (.tup [.int j,.int 1]) u=some (.tup [.int j,.int 1]):=upd_same;have a1:=M _ _ X;generalize upd H1 u (.tup [.int j,.int 1])=W at M e2 a1⊢;refine ⟨w_2,λ l hl=>?_⟩;have G:=Same.upd (o:=.lst [.ref e,.ref u]) hl;have e3:upd W l (.lst [.ref e,.ref u]) l=some (.lst [.ref e,.ref u]):=upd_same;have a3:=G _ _ a1;have a5:=G _ _ e2;generalize upd W l (.lst [.ref e,.ref u])=H3 at G e3 a3 a5⊢;have sx:=(C.trans M).trans G;refine ⟨_,rfl,_,rfl,.inr (.inl ⟨t,_,0,.int i,rfl,rfl,SqT.of (sx _ _ et),z05 (j:=0) rfl,rfl,.inl (.inr ⟨_,rfl,?_⟩)⟩)⟩;by_cases z:decide (V.int a=V.int i)=true
   ·rw [zc2,if_pos (V.int.inj (of_decide_eq_true z))] at q;exact .inl ⟨l,_,_,.ref u,rfl,rfl,SqL.of e3,by rw [if_pos z];rfl,q u _ _ sx a5 rfl⟩
   ·rw [zc2,if_neg λ y=>z (decide_eq_true (congrArg V.int y))] at q;exact .inl ⟨l,_,_,.ref e,rfl,rfl,SqL.of e3,by rw [if_neg z];rfl,q e _ _ sx a3 rfl⟩
  | quT=>
   obtain ⟨b,rfl,L,_,_⟩:=D.isRow a6;obtain ⟨t,rfl,f⟩:=sz;refine ⟨_,rfl,rfl,_,rfl,iteK ⟨_,rfl,rfl,_,rfl,iteK ⟨_,rfl,rfl,_,rfl,iteK ⟨_,rfl,rfl,_,rfl,iteK ⟨_,rfl,rfl,_,rfl,iteP (decide_eq_true rfl) ?_⟩⟩⟩⟩⟩;refine ⟨_,rfl,w_0,λ p0 b0=>?_⟩;have S:=Same.upd (o:=.tup []) b0;refine ⟨.tuple (b.map B3),.tuple [],⟨t,_,rfl,S.seqT f,z9t b⟩,⟨p0,[],rfl,SqT.of upd_same,rfl⟩,z98 b,rfl,C0 (Nat.add_le_add_right (z92 b) 1) (by decide),_,rfl,?_⟩;generalize upd H p0 (.tup [])=H0 at S⊢;have Z:=S.seqT f;cases b with
   | nil=>rw [zdo] at q;exact iteP rfl ⟨_,rfl,w_2,λ p c=>q p _ _ (S.trans (Same.upd c)) upd_same ⟨t,rfl,(Same.upd c).seqT Z⟩⟩
   | cons m r=>
    refine iteN M0 ?_;refine ⟨_,rfl,_,rfl,.inr (.inl ⟨t,_,rfl,Z,?_,λ e J=>?_⟩)⟩
    ·intro z;have:HT.sIx ((m :: r).map V.int).length 0 (some 1)=1:=by rw [F0,W0];simp [HT.sIx]
     omega
    ·have ec:cutV ((m :: r).map V.int) (some 1) none=r.map V.int:=by unfold cutV;simp [HT.sIx];exact o5 (by rw [F0];exact A0 _)
     have C:=Same.upd (o:=.tup (cutV ((m :: r).map V.int) (some 1) none)) J;have X:upd H0 e (.tup (cutV ((m :: r).map V.int) (some 1) none)) e=some (.tup (r.map V.int)):=by rw [upd_same,ec]
     generalize upd H0 e (.tup (cutV ((m :: r).map V.int) (some 1) none))=H1 at C X⊢;refine ⟨_,rfl,.inr (.inl ⟨t,_,0,.int m,rfl,rfl,C.seqT Z,z05 (j:=0) rfl,w_2,λ p c=>?_⟩)⟩;rw [dz_quT] at q;exact q p _ _ ((S.trans C).trans (Same.upd c)) upd_same ⟨e,rfl,(Same.upd c).seqT (SqT.of X)⟩
  | quP ni=>rename_i i;obtain ⟨b,rfl,L,_,_⟩:=D.isRow a6;obtain ⟨t,rfl,f⟩:=sz;cases (show x=V.int i from I);refine ⟨_,rfl,rfl,_,rfl,iteK ⟨_,rfl,rfl,_,rfl,iteK ⟨_,rfl,rfl,_,rfl,iteK ⟨_,rfl,rfl,_,rfl,iteK ⟨_,rfl,rfl,_,rfl,iteK ⟨_,rfl,rfl,_,rfl,iteP (decide_eq_true rfl) ?_⟩⟩⟩⟩⟩⟩;refine ⟨_,rfl,_,rfl,w_1,λ e J=>?_⟩;have C:=Same.upd (o:=.tup [.int i]) J;refine ⟨t,e,b.map V.int,[.int i],rfl,rfl,C.seqT f,SqT.of upd_same,big L,λ u W M O=>?_⟩;rw [a7] at O;rw [dz_quP] at q;exact ⟨w_2,λ p3 a2=>q p3 _ _ ((C.trans M).trans (Same.upd a2)) upd_same ⟨u,rfl,(Same.upd a2).seqT O⟩⟩
  | setP ni=>
   rename_i i;obtain ⟨b,rfl,L,_,a4⟩:=D.isRow Y;obtain ⟨t,rfl,f⟩:=sz;cases (show x=V.int i from I);refine ⟨_,rfl,rfl,_,rfl,iteK ⟨_,rfl,rfl,_,rfl,iteK ⟨_,rfl,rfl,_,rfl,iteK ⟨_,rfl,rfl,_,rfl,iteK ⟨_,rfl,rfl,_,rfl,iteK ⟨_,rfl,rfl,_,rfl,iteK ?_⟩⟩⟩⟩⟩⟩;refine ⟨_,rfl,_,rfl,t,_,rfl,.inr f,rfl,z3a b,?_⟩;rw [if_neg M0,z51];refine ⟨_,rfl,rfl,_,rfl,iteP (decide_eq_true rfl) ⟨_,rfl,_,rfl,?_⟩⟩;by_cases hi:i∈b
   ·rw [decide_eq_true hi];refine iteN (by decide) ⟨_,rfl,rfl,_,rfl,iteP (decide_eq_true rfl) ?_⟩;rw [zch,if_pos hi] at q;exact ⟨_,rfl,w_2,λ p c=>q p _ _ (Same.upd c) upd_same ⟨t,rfl,(Same.upd c).seqT f⟩⟩
   ·rw [decide_eq_false hi];refine iteP rfl ?_;refine ⟨_,rfl,_,rfl,w_1,λ e J=>?_⟩;have C:=Same.upd (o:=.tup [.int i]) J;refine ⟨t,e,b.map V.int,[.int i],rfl,rfl,C.seqT f,SqT.of upd_same,big L,λ u W M O=>?_⟩;rw [a7] at O;refine ⟨u,b++[i],rfl,.inr O,by rw [G0];exact (show b.length + 1 < 64 by omega),λ l b1 hl pm pw=>?_⟩;have G:=Same.upd (o:=.lst (b1.map V.int)) hl;refine ⟨l,_,rfl,.inl ⟨SqL.of upd_same,λ p4 a0=>⟨w_2,λ p5 U=>?_⟩⟩⟩;rw [zch,if_neg hi] at q;rw [zc4 (pm.trans (z8e _).symm) pw (z4u _)] at *;exact q p5 _ _ ((((C.trans M).trans G).trans (Same.upd a0)).trans (Same.upd U)) upd_same ⟨p4,rfl,SqT.of ((Same.upd U) _ _ upd_same)⟩
  | setC ni=>
   rename_i i;obtain ⟨b,rfl,L,_,a4⟩:=D.isRow Y;obtain ⟨t,rfl,f⟩:=sz;cases (show x=V.int i from I);refine ⟨_,rfl,rfl,_,rfl,iteK ⟨_,rfl,rfl,_,rfl,iteK ⟨_,rfl,rfl,_,rfl,iteK ⟨_,rfl,rfl,_,rfl,iteK ⟨_,rfl,rfl,_,rfl,iteK ⟨_,rfl,rfl,_,rfl,iteK ?_⟩⟩⟩⟩⟩⟩;refine ⟨_,rfl,_,rfl,t,_,rfl,.inr f,rfl,z3a b,?_⟩;rw [if_neg M0,z51];refine ⟨_,rfl,rfl,_,rfl,iteK ?_⟩;refine iteN M0 ⟨_,rfl,rfl,_,rfl,iteK ⟨_,rfl,rfl,_,rfl,iteP (decide_eq_true rfl) ?_⟩⟩;have zl:(b.map V.int).length<=sizeLine:=C0 (A3 _) (big L);simp only [tRet,tTup,tCB,tCons,tNil];refine z3b (K:=KX w.params) (a:=t) (xs:=b.map V.int) (H1:=H) (λ j=>(b[j]?.map λ n=>!decide (n=i)).getD false) (λ j y _=>b[j]?.map V.int=some y) (λ _ _ _ _ _ z=>z) (λ R h=>⟨_,rfl,h⟩) f zl (λ j hj v H' s' hv KT KF k1 k2=>?_) λ l H' ys s' a9 al=>?_
   ·rw [A1] at hv;obtain ⟨n,hn,rfl⟩:=Option.map_eq_some_iff.mp hv;rw [hn] at k1 k2;refine ⟨[some (.int n)],rfl,rfl,_,rfl,_,rfl,rfl,_,rfl,?_⟩;rw [dec_i0];exact ite2 (λ z=>⟨_,rfl,k1 z _ _ (Same.refl _) rfl⟩) λ z=>k2 (Bool.eq_false_iff.mpr z) _ (Same.refl _)
   ·rw [F0] at al;rw [zbw b ys al];have G:=Same.upd (o:=.lst ((b.filter λ j=>!decide (j=i)).map V.int)) a9;refine ⟨l,_,rfl,.inl ⟨SqL.of upd_same,λ p4 a0=>⟨_,rfl,.inl (.inr ⟨_,rfl,w_2,λ p5 U=>?_⟩)⟩⟩⟩;rw [zf0] at q;exact q p5 _ _ (((s'.trans G).trans (Same.upd a0)).trans (Same.upd U)) (upd_same.trans (by simp)) ⟨p4,rfl,SqT.of ((Same.upd U) _ _ upd_same)⟩
  | setH ni=>rename_i i;obtain ⟨b,rfl,L,_,a4⟩:=D.isRow Y;obtain ⟨t,rfl,f⟩:=sz;cases (show x=V.int i from I);refine ⟨_,rfl,rfl,_,rfl,iteK ⟨_,rfl,rfl,_,rfl,iteK ⟨_,rfl,rfl,_,rfl,iteK ⟨_,rfl,rfl,_,rfl,iteK ⟨_,rfl,rfl,_,rfl,iteK ⟨_,rfl,rfl,_,rfl,iteK ?_⟩⟩⟩⟩⟩⟩;refine ⟨_,rfl,_,rfl,t,_,rfl,.inr f,rfl,z3a b,?_⟩;rw [if_neg M0,z51];refine ⟨_,rfl,rfl,_,rfl,iteK ?_⟩;refine iteN M0 ⟨_,rfl,rfl,_,rfl,iteK ⟨_,rfl,rfl,_,rfl,iteK ?_⟩⟩;rw [zf4] at q;exact ⟨_,rfl,_,rfl,.inl (.inr ⟨_,rfl,w_2,λ p c=>q p _ _ (Same.upd c) (upd_same.trans (by simp)) ⟨t,rfl,(Same.upd c).seqT f⟩⟩)⟩
def AnsI (a:V):Prop:=(∃i,a=.int i)\/a=.str "ok"\/a=.str "none"
theorem AnsV.ansI {a:V} (h:AnsV a):AnsI a:=by
 rcases h with h|h|⟨i,h,_⟩
 ·exact .inr (.inl h)
 ·exact .inr (.inr h)
 ·exact .inl ⟨i,h⟩
def StsZ (K:b0) (H:Hp) (p:Addr) (ts:List (Str×Str)) (n:Nat) (ss:List Sv):Prop:=∃vs,SqT K H p vs/\All2 (StZ K H) ss vs/\All2 (λ (t:Str×Str) s=>SvOk n t.2 s) ts ss
theorem StsZ.tups {K:b0} {H H':Hp} {p:Addr} {ts:List (Str×Str)} {n:Nat} {ss:List Sv} (t:Tups K H H') (h:StsZ K H p ts n ss):StsZ K H' p ts n ss:=h.elim λ a z=>⟨a,t _ _ z.1,z01 (λ _ _ y=>y.tups t) z.2.1,z.2.2⟩
def StsT (K:b0) (H:Hp) (p:Addr) (ts:List (Str×Str)) (n:Nat):Prop:=∃ss,StsZ K H p ts n ss
theorem StsT.tups {K:b0} {H H':Hp} {p:Addr} {ts:List (Str×Str)} {n:Nat} (t:Tups K H H') (h:StsT K H p ts n):StsT K H' p ts n:=h.elim λ a z=>⟨a,z.tups t⟩
theorem StsT.le {K:b0} {H:Hp} {p:Addr} {ts:List (Str×Str)} {n m:Nat} (l:n<=m) (h:StsT K H p ts n):StsT K H p ts m:=h.elim λ b z=>⟨b,z.elim λ a y=>⟨a,y.1,y.2.1,z01 (λ _ _ x=>SvOk.le l x) y.2.2⟩⟩
def ZrAt (H:Hp) (k:Str) (v:V):Prop:=(rowK k/\∃a,v=.ref a/\H a=some (.tup []))\/(¬ rowK k/\v=.int 0)
theorem ZrAt.same {H H':Hp} {k:Str} {v:V} (s:Same H H') (h:ZrAt H k v):ZrAt H' k v:=h.imp (λ z=>⟨z.1,z.2.elim λ a y=>⟨a,y.1,s _ _ y.2⟩⟩) id
def ZrT (H:Hp) (p:Addr) (ts:List (Str×Str)):Prop:=∃vs,H p=some (.tup vs)/\All2 (λ (t:Str×Str) y=>ZrAt H t.2 y) ts vs
theorem ZrAt.stz {K:b0} {H:Hp} {k:Str} {v:V} (h:ZrAt H k v):StZ K H (zeroK k) v:=by
 unfold zeroK;rcases h with ⟨b,a,rfl,c⟩|⟨b,rfl⟩
 ·rw [if_pos b];exact ⟨a,rfl,SqT.of c⟩
 ·rw [if_neg b];rfl
theorem zg9 {α β γ:Type} {R:β->γ->Prop} {f:α->β} {xs:List α} {ys:List γ} (h:All2 (λ x y=>R (f x) y) xs ys):All2 R (xs.map f) ys:=by
 induction h with
 | nil=>exact .nil
 | cons a r ih=>exact .cons a ih
theorem zi3 :∀{ts:List (Str×Str)},All2 (λ (t:Str×Str) s=>SvOk 0 t.2 s) ts (ts.map λ t=>zeroK t.2)
 | []=>.nil
 | _ :: _=>.cons (zfr _) zi3
theorem ZrT.stz {K:b0} {H:Hp} {p:Addr} {ts:List (Str×Str)} (h:ZrT H p ts):StsZ K H p ts 0 (ts.map λ t=>zeroK t.2):=h.elim λ a z=>⟨a,SqT.of z.1,zg9 (z01 (λ _ _ y=>y.stz) z.2),zi3⟩
theorem ZrT.sts {K:b0} {H:Hp} {p:Addr} {ts:List (Str×Str)} (h:ZrT H p ts):StsT K H p ts 0:=⟨_,h.stz⟩
theorem z9q {H:Hp} :∀{ts:List (Str×Str)} {ys zs:List V},All2 (λ (t:Str×Str) y=>∃b,y=.ref b/\H b=some (.tup [.str t.1,.str t.2])) ts ys->All2 (λ x y=>∃(n k:Str) (b:Addr),x=.ref b/\H b=some (.tup [.str n,.str k])/\ZrAt H k y) ys zs->All2 (λ (t:Str×Str) y=>ZrAt H t.2 y) ts zs
 | [],_,_,.nil,.nil=>.nil
 | t :: ts,_,_,.cons a r,.cons a' r'=>by
  refine .cons ?_ (z9q r r');obtain ⟨b,rfl,f⟩:=a;obtain ⟨n,k,i,d,c,g⟩:=a';cases d;rw [f] at c;injection c with c;injection c with c;have e:t.2=k:=by injection c with _ h;injection h with h _;injection h
  rw [e];exact g
def z2v (K:b0):Sp:=λ vs H Q _=>∃(pt:Addr) (ts:List (Str×Str)),vs=[.ref pt]/\ThAt H pt ts/\ts.length<=6/\∀p H',Same H H'->ZrT H' p ts->Q (.ref p) H'
theorem zae (T:TX (kx w) mg):Fo P w mg base CX0 1 371 y0y ["things"] (z2v (kx w)):=by
 refine (z3n w.params).ok z9d (λ vs H Q E h=>?_) (λ a7 A a6 s H vs Q E hr h=>?_)
 ·obtain ⟨pt,O,rfl,_⟩:=h;rfl
 ·obtain ⟨pt,O,rfl,⟨L,a0,C⟩,a2,q⟩:=h;refine ⟨_,(z04 (ps_ret (z0p z0j rfl (T.no (z2h _)) i4 (z00 (pe_cg (xs:=["name","kind"]) (g:=gTup (kx w) 2 (gCons (gName 0) (gCons (gName 1) gNil))) (fr:=[]) (pi_tup (pv 0)) (λ _ _ _ _ _=>(pg_tup rfl (z0a (pg_cn (N:=["name","kind"]) 0) (z0a (pg_cn (N:=["name","kind"]) 1) z10)))) (λ _ _ _ _ _=>pf_nil) (λ _ _ _ _ _=>(zie (hu_of hr) (zhs (zb3 pe_str (pe_tup pa_nil) (zb3 pe_str (pe_tup pa_nil) zhn)) rfl rfl (by simp) (by decide)) (pv 1) pe_int ⟨rfl,rfl,rfl,rfl⟩))) pa_nil)))),?_⟩;refine zhw ?_;refine za4 (S:=Same) (K:=KX w.params) (a:=pt) (xs:=L) (λ x y H=>∃(n k:Str) (b:Addr),x=.ref b/\H b=some (.tup [.str n,.str k])/\ZrAt H k y) (Same.refl _) (λ _ _ _ a b=>a.trans b) (λ _ _=>Same.refl _) ?_ (λ R h=>⟨_,rfl,h⟩) (λ H' s'=>s'.seqT (SqT.of a0)) (C0 (C5 (z03 C)) (C0 a2 (by decide))) ?_ ?_
  ·rintro x y j l i ⟨n,k,b,B,G,e3⟩;exact ⟨n,k,b,B,i _ _ G,e3.same i⟩
  ·intro v hv j r KT a4 KF;obtain ⟨m,hm⟩:=List.mem_iff_getElem?.mp hv;obtain ⟨t,ht,b,rfl,eb⟩:=z0g C hm;have J:=r _ _ eb;refine ⟨b,_,rfl,SqT.of J,rfl,_,_,rfl,_,_,rfl,rfl,[some (.str t.1),some (.str t.2)],rfl,rfl,iteT ?_⟩;intro p I;refine ⟨w_0,λ f X=>⟨w_0,λ d D=>?_⟩⟩;have F:p≠f:=z07 upd_same X;have M:p≠d:=z07 (by rw [upd_ne F];exact upd_same) D;have a3:f≠d:=z07 upd_same D;refine ⟨by rw [upd_ne M,upd_ne F];exact upd_same,[(.inr "queue",.ref f),(.inr "set",.ref d)],rfl,(show (2:Nat)<=15 by decide),?_⟩;rw [show mergeK [] [((.inr "queue" : Key),V.ref f),(.inr "set",.ref d)]=[(.inr "queue",.ref f),(.inr "set",.ref d)] from rfl];generalize hH4:upd (upd (upd (upd j p (.dK [])) f (.tup [])) d (.tup [])) p (.dK [(.inr "queue",.ref f),(.inr "set",.ref d)])=l;have U:l p=some (.dK [(.inr "queue",.ref f),(.inr "set",.ref d)]):=by rw [<-hH4];exact upd_same
   have B:l f=some (.tup []):=by rw [<-hH4,upd_ne F.symm,upd_ne a3];exact upd_same
   have G:l d=some (.tup []):=by rw [<-hH4,upd_ne M.symm];exact upd_same
   have i:Same j l:=λ c o e=>by rw [<-hH4,upd_ne (z07 e I)];exact ((((Same.upd I).trans (Same.upd X)).trans (Same.upd D))) c o e
   refine ⟨p,rfl,.inl ⟨_,.inl U⟩,_,rfl,_,DGet.k (k:=.inr t.2) U,?_⟩;refine a4 _ _ i ⟨t.1,t.2,b,rfl,i _ _ J,?_⟩;by_cases z1:t.2 = "queue"
   ·rw [z1,z0n rfl];exact .inl ⟨.inl rfl,_,rfl,B⟩
   ·rw [z0k (λ e=>z1 (B7 e).symm)];by_cases z2:t.2 = "set"
    ·rw [z2,z0n rfl];exact .inl ⟨.inr rfl,_,rfl,G⟩
    ·rw [z0k (λ e=>z2 (B7 e).symm)];exact .inr ⟨λ h=>h.elim z1 z2,rfl⟩
  ·intro l3 j u r a5 Y;refine ⟨l3,u,rfl,.inl ⟨SqL.of upd_same,λ p4 Z=>?_⟩⟩;have a1:All2 (λ (t:Str×Str) y=>∃b,y=.ref b/\j b=some (.tup [.str t.1,.str t.2])) O L:=z01 (λ _ _ z=>z.elim λ b y=>⟨b,y.1,r _ _ y.2⟩) C;have W:=(Same.upd (o:=.lst u) a5).trans (Same.upd (o:=.tup u) Z);exact q p4 _ (r.trans W) ⟨u,upd_same,z01 (λ _ _ z=>z.same W) (z9q a1 Y)⟩
theorem zkk {tl:TE} {K:b0} {m:Nat} {fr:List (Nat×Str)} {g:TG} {tc:TT} {te:TE} {σ:L2.St} {H:Hp} {Q:VK} (Pr:Addr->Hp->Prop) (h1 :∀R:VK,(∀l H1,Pr l H1->R (.ref l) H1)->tl σ H R) (h2 :∀l H1,Pr l H1->tCompG (iList K λ _ _ R=>R (.ref l) H1) m fr g tc te σ H Q):tCompG (iList K tl) m fr g tc te σ H Q:=h1 _ λ l H1 p=>h2 l H1 p
theorem seq_bm {K:b0} {N:String} {r:V->List V->Hp->VK->Prop} {to:TE} {t:TA} {g:TG} {rest:TS} {D:Ends} {σ:L2.St} {H:Hp} (h:to σ H λ x H1=>tyV K N x H1/\t σ H1 λ xs H2=>r x xs H2 λ y H3=>g y σ H3 (rest D)):tSeq (tAsg (tBM K N r to t) g) rest D σ H:=h
def OwnAt (K:b0) (H:Hp) (ts:List (Str×Str)) (p:Addr):Prop:=∃(nm vb:Str) (x a:V) (k:Str) (d:Dt),H p=some (.lst [.str nm,.str vb,x,a])/\(nm,k)∈ts/\DeedOk k vb d/\IsDt K H d x/\WorthIn H d x/\(a=.non\/AnsI a)
theorem z9a {H:Hp} :∀{ts:List (Str×Str)} {ys zs:List V},All2 (λ (t:Str×Str) y=>∃b,y=.ref b/\H b=some (.tup [.str t.1,.str t.2])) ts ys->All2 (λ x y=>∃(n k:Str) (b:Addr),x=.ref b/\H b=some (.tup [.str n,.str k])/\y=.str n) ys zs->zs=(ts.map (·.1)).map V.str
 | [],_,_,.nil,.nil=>rfl
 | t :: ts,_,_,.cons a r,.cons a' r'=>by
  rw [z9a r r'];obtain ⟨b,rfl,e⟩:=a;obtain ⟨n,k,g,d,c,rfl⟩:=a';cases d;rw [e] at c;injection c with c;injection c with c;have f:t.1=n:=by injection c with h _;injection h
  rw [<-f];rfl
theorem zen {α β:Type} {R S:α->β->Prop} {y:β} :∀{xs:List α} {ys:List β} {j:Nat} {x:α},(∀a b,R a b->S a b)->All2 R xs ys->xs[j]? = some x->S x y->All2 S xs (ys.set j y)
 | _,_,_,_,_,.nil,e,_=>by simp at e
 | _,_,0,x,f,.cons a r,e,h=>by rw [J2] at e;cases e;exact .cons h (z01 f r)
 | _,_,j + 1,x,f,.cons a r,e,h=>by rw [W1] at e;exact .cons (f _ _ a) (zen f r e h)
theorem zbs {α β:Type} {R S:α->β->Prop} {y:β} :∀{xs:List α} {ys:List β} {j:Nat} {x x':α},(∀a b,R a b->S a b)->All2 R xs ys->xs[j]? = some x'->S x y->All2 S (xs.set j x) (ys.set j y)
 | _,_,_,_,_,_,.nil,e,_=>by simp at e
 | _,_,0,x,_,f,.cons a r,_,h=>.cons h (z01 f r)
 | _,_,j + 1,x,_,f,.cons a r,e,h=>by rw [W1] at e;exact .cons (f _ _ a) (zbs f r e h)
theorem cut_at {ys:List V} {m:Nat} (h:m < ys.length):cutV ys none (some (m:Int))=ys.take m/\cutV ys (some ((m:Int) + 1)) none=ys.drop (m + 1)/\HT.sIx ys.length ys.length (some (m:Int))=m/\HT.sIx ys.length 0 (some ((m:Int) + 1))=m + 1:=by
 obtain ⟨a,_,c⟩:=cut_to (G3 h);have b:HT.sIx ys.length 0 (some ((m:Int) + 1))=m + 1:=by simp [HT.sIx];rw [if_neg (by omega)];omega
 refine ⟨a,?_,c,b⟩;unfold cutV;rw [b,show HT.sIx ys.length ys.length none=ys.length by simp [HT.sIx]];exact o5 (by rw [M5];exact A0 _)
theorem zgd {ys:List V} {m:Nat} {y:V} (h:m < ys.length):ys.take m++[y]++ys.drop (m + 1)=ys.set m y:=by rw [O8,if_pos h];simp
def z1t (K:b0):Sp:=λ vs H Q _=>∃(pt ps po:Addr) (ts:List (Str×Str)) (n:Nat) (ss:List Sv) (nm vb:Str) (x a0:V) (k:Str) (d:Dt),vs=[.ref pt,.ref ps,.ref po]/\ThAt H pt ts/\ThW ts/\StsZ K H ps ts n ss/\n < 63/\H po=some (.lst [.str nm,.str vb,x,a0])/\(nm,k)∈ts/\DeedOk k vb d/\IsDt K H d x/\WorthIn H d x/\∀p H' s,ss[ixT ts nm]? = some s->KeptL [po] H H'->H' po=some (.lst [.str nm,.str vb,x,(dz k vb d s).2])->StsZ K H' p ts (n + 1) (ss.set (ixT ts nm) (dz k vb d s).1)->SvOk n k s->Q (.ref p) H'
theorem z6l (T:TX (kx w) mg) (c0:Ca P w mg base "_law_do" ["kind","state","verb","worth"] 1 (z8z (kx w))):Fo P w mg base CX0 2 395 y0g ["things","states","own"] (z1t (kx w)):=by
 refine (z2d w.params).ok sc__law_applied (λ f H Q E h=>?_) (λ e0 A d9 s H f Q E hr h=>?_)
 ·obtain ⟨pt,X,r,C,n,ss,l,B,x,a0,k,d,rfl,_⟩:=h;rfl
 ·obtain ⟨pt,X,r,C,n,ss,l,B,x,a0,k,d,rfl,⟨yt,b4,U⟩,ok,⟨f,a8,a4,a5⟩,hn,O,hm,dk,ix,wi,q⟩:=h;refine ⟨_,(z02 (ps_set (i:=3) sc__law_applied.nd rfl (V0 rfl) (zeo (pe_cg (xs:=["name","kind"]) (g:=gTup (kx w) 2 (gCons (gName 0) (gCons (gName 1) gNil))) (fr:=[]) (pi_tup (pv 0)) (λ _ _ _ _ _=>(pg_tup rfl (z0a (pg_cn (N:=["name","kind"]) 0) (z0a (pg_cn (N:=["name","kind"]) 1) z10)))) (λ _ _ _ _ _=>pf_nil) (λ _ _ _ _ _=>(pv 0))) (z00 (pe_ix ix_seq (pv 2) pe_int (λ _ _=>rfl)) pa_nil)))
   (z02 (ps_asg (pe_cal c0 (hr.mono (by decide)) rfl (z00 (pe_ix ix_seq (pe_ix ix_seq (pv 0) (pv 3) (λ _ _=>rfl)) pe_int (λ _ _=>rfl)) (z00 (pe_ix ix_seq (pv 1) (pv 3) (λ _ _=>rfl)) (z00 (pe_ix ix_seq (pv 2) pe_int (λ _ _=>rfl)) (z00 (pe_ix ix_seq (pv 2) pe_int (λ _ _=>rfl)) pa_nil))))) (pg_tup rfl (z0a (z0h (i:=4) sc__law_applied.nd rfl (V0 rfl)) (z0a (z0h (i:=5) sc__law_applied.nd rfl (V0 rfl)) z10))))
   (z02 (ps_asg (pv 5) (pg_sub (pv 2) pe_int z4y))
   (z04 (ps_ret (pe_op zcp (pe_op zcp (z1g slSeq (pv 1) z2p (z1k (pv 3))) (pe_tup (z00 (pv 4) pa_nil))) (z1g slSeq (pv 1) (z1k (pe_op opAdd (pv 3) pe_int)) z2p))))))),?_⟩
  refine seq_bm ?_;refine za4 (S:=Same) (K:=KX w.params) (a:=pt) (xs:=yt) (λ x y H=>∃(n k:Str) (b:Addr),x=.ref b/\H b=some (.tup [.str n,.str k])/\y=.str n) (Same.refl _) (λ _ _ _ a b=>a.trans b) (λ _ _=>Same.refl _) ?_ (λ R h=>⟨_,rfl,h⟩) (λ F s'=>s'.seqT (SqT.of b4)) (C0 (C5 (z03 U)) (C0 ok.n6 (by decide))) ?_ ?_
  ·rintro x y I H4 u ⟨n,k,b,e1,e2,e3⟩;exact ⟨n,k,b,e1,u _ _ e2,e3⟩
  ·intro v hv I J KT d3 KF;obtain ⟨m,hm⟩:=List.mem_iff_getElem?.mp hv;obtain ⟨t,ht,b,rfl,eb⟩:=z0g U hm;exact ⟨b,_,rfl,SqT.of (J _ _ eb),rfl,_,_,rfl,_,_,rfl,rfl,[some (.str t.1),some (.str t.2)],rfl,rfl,iteT ⟨_,rfl,d3 _ _ (Same.refl _) ⟨t.1,t.2,b,rfl,J _ _ eb,rfl⟩⟩⟩
  intro W I zs J c7 d0;have c5:All2 (λ (t:Str×Str) y=>∃b,y=.ref b/\I b=some (.tup [.str t.1,.str t.2])) C yt:=z01 (λ _ _ z=>z.elim λ b y=>⟨b,y.1,J _ _ y.2⟩) U;have ez:=z9a c5 d0;subst ez;have sl:=Same.upd (o:=.lst ((C.map (·.1)).map V.str)) c7;have el:upd I W (.lst ((C.map (·.1)).map V.str)) W=some (.lst ((C.map (·.1)).map V.str)):=upd_same;have u:=J.trans sl;generalize upd I W (.lst ((C.map (·.1)).map V.str))=H4 at sl el u⊢;obtain ⟨j,L⟩:=List.mem_iff_getElem?.mp hm;have a3:(C.map (·.1))[j]? = some l:=by rw [A1,L];rfl
  have d8:j < C.length:=(List.getElem?_eq_some_iff.mp L).1;refine ⟨.inl ⟨rfl,_,SqL.of el⟩,_,rfl,.inl ⟨r,_,0,.str l,rfl,rfl,SqL.of (u _ _ O),z05 (j:=0) rfl,W,C.map (·.1),l,j,rfl,rfl,el,by rw [F0];exact C0 ok.n6 (by decide),a3,λ m lt e=>?_,?_⟩⟩
  ·have:=(S8 (by rw [F0];omega) ok.nd).mp (e.trans a3.symm);omega
  refine g_name ?_;obtain ⟨yj,d6,bj,rfl,d1⟩:=z0t U L;obtain ⟨Y,a1,so⟩:=z0t a5 L;obtain ⟨vj,b9,sj⟩:=z0t a4 a1;have d4:ixT C l=j:=idx_eq ok.nd a3;rw [d4] at q;refine ⟨_,rfl,_,rfl,.inr (.inl ⟨pt,yt,j,.ref bj,rfl,rfl,SqT.of (u _ _ b4),z05 d6,.inr (.inl ⟨bj,_,1,.str k,rfl,rfl,SqT.of (u _ _ d1),z05 (j:=1) rfl,?_⟩)⟩)⟩;refine ⟨_,rfl,_,rfl,.inr (.inl ⟨X,f,j,vj,rfl,rfl,u.seqT a8,z05 b9,?_⟩)⟩;refine ⟨_,rfl,.inl ⟨r,_,1,.str B,rfl,rfl,SqL.of (u _ _ O),z05 (j:=1) rfl,?_⟩⟩;refine ⟨_,rfl,.inl ⟨r,_,2,x,rfl,rfl,SqL.of (u _ _ O),z05 (j:=2) rfl,?_⟩⟩;refine ⟨k,B,vj,x,d,n,Y,rfl,so,sj.tups (.of u),hn,dk,ix.same u,wi.tt (.of (K:=KX w.params) u),λ p2 M D G e5 a7=>?_⟩;have q:=λ p F=>q p F Y a1;have d5:=dz_ok dk so hn;generalize hdz:dz k B d Y=z at *;obtain ⟨z1,a⟩:=z;change D p2=some (.tup [M,a]) at e5;change StZ (kx w) D z1 M at a7;change∀p F,KeptL [r] H F->F r=some (.lst [.str l,.str B,x,a])->StsZ (kx w) F p C (n + 1) (ss.set j z1)->SvOk n k Y->Q (.ref p) F at q;have G:=u.trans G;refine ⟨p2,_,rfl,SqT.of e5,rfl,_,_,rfl,_,_,rfl,rfl,?_⟩;refine ⟨_,rfl,_,rfl,r,_,3,3,rfl,rfl,G _ _ O,rfl,?_⟩;rw [show [V.str l,.str B,x,a0].set 3 a=[.str l,.str B,x,a] from rfl];have k6:KeptL [r] D (upd D r (.lst [.str l,.str B,x,a])):=KeptL.set (by simp);have T6:Tt (kx w) D (upd D r (.lst [.str l,.str B,x,a])):=KeptL.tt k6 λ c hc=>by rw [List.mem_singleton.mp hc];exact .inl ⟨_,G _ _ O⟩
  have e6:upd D r (.lst [.str l,.str B,x,a]) r=some (.lst [.str l,.str B,x,a]):=upd_same;generalize upd D r (.lst [.str l,.str B,x,a])=H6 at k6 T6 e6⊢;have b0:Tt (kx w) H H6:=Tt.trans (.of G) T6;have b5:=b0.t _ _ a8;have vl:f.length=C.length:=(z03 a4).trans (z03 a5);have b1:j < f.length:=by omega
  obtain ⟨c1,c2,c3,c4⟩:=cut_at b1;refine ⟨_,rfl,_,rfl,_,rfl,.inr (.inl ⟨X,f,rfl,b5,λ z=>by have:=z.2;rw [c3] at this;omega,λ p7 d7=>?_⟩)⟩;rw [c1];obtain ⟨H7,v_,s7,e7⟩:=newA (.tup (f.take j)) d7;rw [<-v_];refine ⟨_,rfl,w_1,λ p8 b8=>?_⟩;have s8:=Same.upd (o:=.tup [M]) b8;refine ⟨p7,p8,f.take j,[M],rfl,rfl,s8.seqT (SqT.of e7),SqT.of upd_same,?_,λ p9 H9 Z b7=>?_⟩
  ·rw [L3];exact C0 (m:=10) (by have:=ok.n6;show min j f.length + 1<=10;omega) (by decide)
  have Z:=(s7.trans s8).trans Z;have d2:=Z.seqT b5;refine ⟨_,rfl,_,rfl,.inl ⟨_,_,rfl,rfl,_,rfl,.inr (.inl ⟨X,f,rfl,d2,λ z=>by have:=z.1;rw [c4] at this;omega,λ b6 c6=>?_⟩)⟩⟩;rw [c2];have b3:=Same.upd (o:=.tup (f.drop (j + 1))) c6;refine ⟨p9,b6,f.take j++[M],f.drop (j + 1),rfl,rfl,b3.seqT b7,SqT.of upd_same,?_,λ c9 a6 c8 a9=>?_⟩
  ·rw [G0,L3,M5];exact C0 (m:=20) (by have:=ok.n6;show min j f.length + 1 + (f.length - (j + 1))<=20;omega) (by decide)
  rw [zgd b1] at a9;have a2:=(Z.trans b3).trans c8;have b2:Tt (kx w) H6 a6:=.of a2;refine q c9 a6 ((G.keptL.trans k6).trans a2.keptL) (a2 _ _ e6) ⟨_,a9,zbs (λ _ _ z=>z.tups (b0.trans b2).t) a4 a1 (a7.tups (T6.trans b2).t),zen (λ _ _ z=>SvOk.le (A3 _) z) a5 L d5.1⟩ so
theorem zbp {K:b0} {H:Hp} {R:Addr->Hp->Prop} {po:Addr} {ts:List (Str×Str)} {n:Nat} {ss:List Sv} {nm vb:Str} {x a:V} {k:Str} {d:Dt} (hn:n < 63) (eo:H po=some (.lst [.str nm,.str vb,x,a])) (hm:(nm,k)∈ts) (dk:DeedOk k vb d) (ix:IsDt K H d x) (wi:WorthIn H d x) (q :∀p H',KeptL [po] H H'->OwnAt K H' ts po->(∃a xs,H' po=some (.lst (xs++[a]))/\xs.length=3/\AnsI a)->StsT K H' p ts (n + 1)->R p H') :∀p H' s,ss[ixT ts nm]? = some s->KeptL [po] H H'->H' po=some (.lst [.str nm,.str vb,x,(dz k vb d s).2])->StsZ K H' p ts (n + 1) (ss.set (ixT ts nm) (dz k vb d s).1)->SvOk n k s->R p H':=by
 intro p H' s j f e g i;have T:Tt K H H':=KeptL.tt f λ c h=>by rw [List.mem_singleton.mp h];exact .inl ⟨_,eo⟩
 have b:=(dz_ok dk i hn).2.ansI;exact q p H' f ⟨nm,vb,x,_,k,d,e,hm,dk,IsDt.mono' T.t _ _ ix,wi.tt T,.inr b⟩ ⟨_,[.str nm,.str vb,x],e,rfl,b⟩ ⟨_,g⟩
theorem valV_isSomeK {kvs:List (Key×V)} {k:Key}:(valV kvs k).isSome=true↔k∈kvs.map (·.1):=by
 induction kvs with
 | nil=>simp [valV]
 | cons p r ih=>
  obtain ⟨a,pv⟩:=p;by_cases y:a=k
  ·subst y;rw [z0n rfl];simp
  ·rw [z0k y,ih,Y0,L1];exact ⟨λ z=>.inr z,λ z=>z.resolve_left λ x=>y x.symm⟩
theorem zk3 {kvs:List (Key×V)} {k:Key} {v:V} (h:k∈kvs.map (·.1)):(putK kvs k v).map (·.1)=kvs.map (·.1):=by
 unfold putK;obtain ⟨p,a,e⟩:=List.mem_map.mp h;rw [if_pos (List.any_eq_true.mpr ⟨p,a,decide_eq_true e⟩),T2];refine List.map_congr_left λ q _=>?_;show (if q.1=k then (q.1,v) else q).1=q.1;by_cases y:q.1=k
 ·rw [if_pos y]
 ·rw [if_neg y]
theorem zey {kvs:List (Key×V)} {k:Key} {v:V} (h:k∉kvs.map (·.1)):putK kvs k v=kvs++[(k,v)]:=by unfold putK;rw [if_neg];intro z;obtain ⟨p,a,e⟩:=List.any_eq_true.mp z;exact h (List.mem_map.mpr ⟨p,a,of_decide_eq_true e⟩)
def z4k:Sp:=λ vs H Q _=>∃(r:Addr) (n:Nat),vs=[.ref r]/\DeckAt H r n/\n < 100/\∀p ts H',Dw r (n + 20) H H'->H p=none->ThAt H' p ts->ThOk ts->(∀t∈ts,U6 t.1=true/\t.1.length<=8)->Q (.ref p) H'
theorem DeckAt.le {H:Hp} {r:Addr} {n m:Nat} (l:n<=m) (h:DeckAt H r n):DeckAt H r m:=by obtain ⟨a,b,c,e,g,d,f,i⟩:=h;exact ⟨a,b,c,e,g,d,f,by omega⟩
theorem Dw.le {r:Addr} {n m:Nat} {H H':Hp} (l:n<=m) (h:Dw r n H H'):Dw r m H H':=⟨h.k,h.r.le l⟩
theorem z7z (T:TX (kx w) mg) (c0:Ca P w mg base "_law_take" ["deck","many"] 1 z1f):Fo P w mg base CX0 2 390 y0q ["deck"] z4k:=by
 refine (z2t w.params).ok sc__law_things (λ vs H Q E h=>?_) (λ d3 A d2 s H vs Q E J h=>?_)
 ·obtain ⟨r,n,rfl,_⟩:=h;rfl
 ·obtain ⟨r,n,rfl,R,hn,q⟩:=h;refine q_of (z0i (qs_set (i:=1) sc__law_things.nd rfl (V0 rfl) (qe_lst (z0e (QE.mk pe_str) (z0e (QE.mk pe_str) (z0e (QE.mk pe_str) (z0e (QE.mk pe_str) (z0e (QE.mk pe_str) (z0e (QE.mk pe_str) (z0e (QE.mk pe_str) (z0e (QE.mk pe_str) qa_nil))))))))))
   (z0i (QS.mk (ps_set (i:=2) sc__law_things.nd rfl (U0 rfl) z7y))
   (z0i (qs_for U1 rfl (z23 rfl (T.no (z6d _)) (z00 (pe_op opAdd pe_int (pe_cal c0 (J.mono (by decide)) rfl (z00 (pv 0) (z00 pe_int pa_nil)))) pa_nil)) (z0h (i:=3) sc__law_things.nd rfl (V0 rfl))
   (z42 (zg2 (hu_of J) (QE.mk (pv 2)) (QE.mk (pe_ix ix_seq (pv 1) (pe_cal c0 (J.mono (by decide)) rfl (z00 (pv 0) (z00 pe_int pa_nil))) (λ _ _=>rfl))) (qe_ix ix_seq (qe_lst (z0e (QE.mk pe_str) (z0e (QE.mk pe_str) (z0e (QE.mk pe_str) (z0e (QE.mk pe_str) (z0e (QE.mk pe_str) qa_nil)))))) (QE.mk (pe_cal c0 (J.mono (by decide)) rfl (z00 (pv 0) (z00 pe_int pa_nil)))) (λ _ _=>rfl)) rfl)))
   (z42 (QS.mk (ps_ret (z0p z0j rfl (T.no (z2h _)) i4 (z00 (pe_cg (xs:=["name"]) (g:=gName 0) (fr:=[(2,"told")]) (z49 (z0c (z9l rfl) rfl (T.no (z67 _)) M8 (z00 (pv 2) pa_nil))) (λ _ _ _ _ _=>(pg_cn (N:=["name","told"]) 0)) (λ _ _ _ _ _=>pf_nil) (λ _ _ _ _ _=>(pe_tup (z00 (pv 0) (z00 (z5k (hu_of J) (pv 1) (pv 0) (λ _ _=>rfl)) pa_nil))))) pa_nil)))))))) ?_
  refine z0s ?_;refine ⟨w_8,λ l hl=>?_⟩;refine g_name ?_;have nl:l≠r:=R.fresh hl;have L:=Same.upd (o:=.lst [.str "q",.str "a",.str "zz",.str "begin",.str "reg",.str "abcdefgh",.str "b",.str "thing"]) hl;have e1:upd H l (.lst [.str "q",.str "a",.str "zz",.str "begin",.str "reg",.str "abcdefgh",.str "b",.str "thing"]) l=some (.lst ((["q","a","zz","begin","reg","abcdefgh","b","thing"]:List Str).map V.str)):=upd_same;generalize upd H l (.lst [.str "q",.str "a",.str "zz",.str "begin",.str "reg",.str "abcdefgh",.str "b",.str "thing"])=H1 at L e1⊢;refine z0s ?_;intro d M;refine g_name ?_;have O:d≠r:=(R.same L).fresh M;have a3:l≠d:=z07 e1 M;have fd:H d=none:=L.free M;have s2:=Same.upd (o:=.dK []) M;have e2:=s2 _ _ e1;have a6:upd H1 d (.dK []) d=some (.dK []):=upd_same;have a5:=L.trans s2;generalize upd H1 d (.dK [])=H2 at s2 e2 a6 a5⊢;have w2:Dw r n H H2:=R.dw.same a5;refine ⟨_,rfl,r,3,n,rfl,w2.r,by omega,by decide,by decide,λ t H3 G d1 d4=>.inl ⟨1,t,rfl,rfl,1 + t,rfl,by omega,by omega,?_⟩⟩;have e3:=G.k _ _ nl e2;have d0:=G.k _ _ O a6;have G:=w2.trans G;have tn:(1 + t).toNat<=3:=by omega
  have tp:0 < (1 + t).toNat:=by omega
  generalize (1 + t).toNat=tt at tn tp⊢;refine z39 (lo:=0) (n:=tt) (λ i σ W=>∃kvs ss,Dw r (n + 1 + 2 * i) H W/\W l=some (.lst ((["q","a","zz","begin","reg","abcdefgh","b","thing"]:List Str).map V.str))/\W d=some (.dK kvs)/\kvs.map (·.1)=ss.map Sum.inr/\ss.Nodup/\(∀z∈ss,U6 z=true/\z.length<=8)/\ss.length<=i/\(0 < i->0 < ss.length)/\(∀k v,valV kvs k=some v->∃z,z∈kinds5/\v=.str z)/\∃x3,σ=[some (.ref r),some (.ref l),some (.ref d),x3])
   ⟨[],[],G,e3,d0,rfl,.nil,λ _ z=>absurd z u0,A0 _,λ h=>h,(λ k v e=>by cases e),_,rfl⟩ ?_ ?_
  ·rintro i σ U hi ⟨kvs,ss,w4,e4,ed4,ek,sn,so,sl,sp,kv,x3,rfl⟩;refine g_name ?_;refine ⟨w_5,λ j u=>⟨_,rfl,r,5,_,rfl,w4.r.same (Same.upd u),by omega,by decide,by decide,λ t5 H5 C c2 b7=>?_⟩⟩;obtain ⟨v5,c7,b2⟩:=atI_of (xs:=kinds5.map V.str) c2 b7;obtain ⟨I,b5,rfl⟩:=List.mem_map.mp b2;refine .inl ⟨j,_,t5,_,rfl,rfl,SqL.of (C.k _ _ (w4.r.fresh u) upd_same),c7,?_⟩;have e5:=C.k _ _ nl ((Same.upd (o:=.lst (kinds5.map V.str)) u) _ _ e4);have a0:=C.k _ _ O ((Same.upd (o:=.lst (kinds5.map V.str)) u) _ _ ed4);have C:=(w4.same (Same.upd (o:=.lst (kinds5.map V.str)) u)).trans C;refine ⟨_,rfl,_,rfl,_,rfl,r,8,_,rfl,C.r,by omega,by decide,by decide,λ t6 H6 F c9 b0=>?_⟩;obtain ⟨v6,a8,b6⟩:=atI_of (xs:=(["q","a","zz","begin","reg","abcdefgh","b","thing"]:List Str).map V.str) c9 b0;obtain ⟨c,b9,rfl⟩:=List.mem_map.mp b6;have c6:U6 c=true/\c.length<=8:=(by decide +kernel :∀z∈(["q","a","zz","begin","reg","abcdefgh","b","thing"]:List Str),U6 z=true/\z.length<=8) c b9;have e6:=F.k _ _ nl e5;have b3:=F.k _ _ O a0;have F:=C.trans F;have kl:kvs.length=ss.length:=by have:=congrArg j27 ek;simpa using this
   refine .inl ⟨l,_,t6,_,rfl,rfl,SqL.of e6,a8,d,_,rfl,DPut.k (k:=.inr c) b3 (R1 (m:=100) (by omega) (by decide)),?_⟩;have w7:Dw r (n + 1 + 2 * (i + 1)) H (upd H6 d (.dK (putK kvs (.inr c) (.str I)))):=by refine ⟨λ b o hb e=>by rw [upd_ne (z07 e fd)];exact F.k b o hb e,?_⟩;obtain ⟨a1,Z,c1,ee,D⟩:=F.r;exact ⟨a1,Z,c1,by rw [upd_ne O.symm];exact ee,D.1,D.2.1,D.2.2.1,by have:=D.2.2.2;omega⟩
   have a2 :∀k v,valV (putK kvs (.inr c) (.str I)) k=some v->∃z,z∈kinds5/\v=.str z:=λ k v e=>by
    rw [z3s] at e;by_cases z:k=.inr c
    ·rw [if_pos z] at e;cases e;exact ⟨I,b5,rfl⟩
    ·rw [if_neg z] at e;exact kv k v e
   by_cases z:c∈ss
   ·have kk:=zk3 (kvs:=kvs) (k:=(.inr c:Key)) (v:=.str I) (by rw [ek];exact List.mem_map.mpr ⟨c,z,rfl⟩);exact ⟨_,ss,w7,by rw [upd_ne a3];exact e6,upd_same,kk.trans ek,sn,so,by omega,λ _=>List.length_pos_of_mem z,a2,_,rfl⟩
   ·have kk:=zey (kvs:=kvs) (k:=(.inr c:Key)) (v:=.str I) (by rw [ek];exact λ y=>z (by obtain ⟨a,ha,e⟩:=List.mem_map.mp y;cases e;exact ha));refine ⟨_,ss++[c],w7,by rw [upd_ne a3];exact e6,upd_same,by rw [kk,E1,ek,E1];rfl,?_,λ z hz=>?_,?_,λ _=>?_,a2,_,rfl⟩
    ·rw [F4];refine ⟨sn,by simp,λ a ha b hb=>?_⟩;rw [List.mem_singleton.mp hb];exact λ e=>z (e ▸ ha)
    ·rcases List.mem_append.mp hz with y|y
     ·exact so z y
     ·rw [List.mem_singleton.mp y];exact c6
    ·rw [G0];show ss.length + 1<=i + 1;omega
    ·rw [G0];exact Nat.succ_pos _
  ·rintro σ U ⟨kvs,ss,w4,e4,ed4,ek,sn,so,sl,sp,kv,x3,rfl⟩;refine t_nx (zhw ?_);refine zkk (λ j H5=>∃f:List Str,U j=none/\f.Perm ss/\H5=upd U j (.lst (f.map V.str))) (λ R h=>⟨_,rfl,d,kvs,ss,rfl,ed4,ek,by omega,λ j f h5 B _=>h j _ ⟨f,h5,B,rfl⟩⟩) ?_;rintro j H5 ⟨f,u,B,rfl⟩;have s5:=Same.upd (o:=.lst (f.map V.str)) u;have a0:=s5 _ _ ed4;have e5:upd U j (.lst (f.map V.str)) j=some (.lst (f.map V.str)):=upd_same;have b4:f.length<=3:=by rw [B.length_eq];omega
   refine zd7 (S:=Same) (K:=KX w.params) (a:=j) (xs:=f.map V.str) (kindR (kx w)) (Same.refl _) (λ _ _ _ a b=>a.trans b) (λ _ _=>Same.refl _) ?_ (λ R h=>h) (λ W s'=>SqL.of (s' _ _ e5)) (by rw [F0];exact C0 b4 (by decide)) ?_ ?_
   ·rintro x y Ha Hb c8 ⟨p,k1,Z,D,z2,z3,z4⟩;exact ⟨p,k1,Z,D,z2,z3,c8 _ _ z4⟩
   ·intro v hv H6 s6 KT c4 KF;obtain ⟨p,c3,rfl⟩:=List.mem_map.mp hv;refine ⟨[some (.str p)],rfl,rfl,iteT ?_⟩;have hs:(valV kvs (.inr p)).isSome=true:=valV_isSomeK.mpr (by rw [ek];exact List.mem_map.mpr ⟨p,B.mem_iff.mp c3,rfl⟩);obtain ⟨v1,a4⟩:=Option.isSome_iff_exists.mp hs;obtain ⟨z,hz,rfl⟩:=kv _ _ a4;have dg:DGet H6 d (.str p) (some (.str z)):=by have:=DGet.k (k:=.inr p) (s6 _ _ a0);rw [a4] at this;exact this
    exact ⟨_,rfl,_,rfl,_,rfl,d,_,rfl,dg,w_2,λ p7 c5=>c4 _ _ (Same.upd c5) ⟨p,z,p7,rfl,rfl,hz,upd_same⟩⟩
   ·intro l7 H7 X s7 b8 a7;obtain ⟨ts,f1,f2,a9⟩:=z7g a7;have s8:=Same.upd (o:=.lst X) b8;refine ⟨l7,X,rfl,.inl ⟨SqL.of upd_same,λ p8 Y=>?_⟩⟩;have w8:=(w4.same (s5.trans s7)).same s8;have s9:=s8.trans (Same.upd (o:=.tup X) Y);have tl:ts.length=f.length:=by rw [<-f1,F0]
    have pl:=B.length_eq;have:=sp tp;exact q p8 ts _ ((w8.same (Same.upd Y)).le (by omega)) (w8.free Y) ⟨X,upd_same,z01 (λ _ _ z=>z.elim λ b y=>⟨b,y.1,s9 _ _ y.2⟩) a9⟩ ⟨by omega,by omega,by rw [f1];exact B.nodup_iff.mpr sn,f2⟩ (λ t ht=>so t.1 (B.mem_iff.mp (by rw [<-f1];exact List.mem_map.mpr ⟨t,ht,rfl⟩)))
def EvW (K:b0) (H:Hp) (z:Str) (y:V):Prop:=∃(p:Addr) (r:List V),y=.ref p/\SqT K H p (.str z :: r)
theorem EvW.tups {K:b0} {H H':Hp} {z:Str} {y:V} (t:Tups K H H') (h:EvW K H z y):EvW K H' z y:=by obtain ⟨p,r,e,s⟩:=h;exact ⟨p,r,e,t _ _ s⟩
theorem OwnAt.tt {K:b0} {H H':Hp} {ts:List (Str×Str)} {p:Addr} (t:Tt K H H') (e :∀o,H p=some o->H' p=some o) (h:OwnAt K H ts p):OwnAt K H' ts p:=by obtain ⟨f,b,x,a,k,d,m,g,i,c,j,l⟩:=h;exact ⟨f,b,x,a,k,d,e _ m,g,i,IsDt.mono' t.t d x c,j.tt t,l⟩
theorem OwnAt.mutAt {K:b0} {H:Hp} {ts:List (Str×Str)} {p:Addr} (h:OwnAt K H ts p):MutAt H p:=by obtain ⟨e,c,x,a,k,d,b,_⟩:=h;exact .inl ⟨_,b⟩
theorem DeckAt.mutAt {H:Hp} {r:Addr} {n:Nat} (h:DeckAt H r n):MutAt H r:=by obtain ⟨a,b,c,e,_⟩:=h;exact .inl ⟨_,e⟩
theorem Dw.keptL {r:Addr} {n:Nat} {H H':Hp} {L:List Addr} (h:Dw r n H H') (hr:r∈L):KeptL L H H':=λ b o n e=>h.k b o (λ z=>n (z ▸ hr)) e
theorem Dw.tt {K:b0} {r:Addr} {n m:Nat} {H H':Hp} (R:DeckAt H r m) (h:Dw r n H H'):Tt K H H':=KeptL.tt (h.keptL (List.mem_singleton.mpr rfl)) λ l a=>by rw [List.mem_singleton.mp a];exact R.mutAt
theorem z19 {L:List Addr} {H H1 H2:Hp} (s:Same H H1) (k:KeptL L H1 H2) (n :∀l∈L,H l=none):Same H H2:=λ c o e=>k c o (λ z=>by rw [n c z] at e;cases e) (s c o e)
theorem zdt {kvs:List (Key×V)} {k j:Key} {v:V} (h:valV (dropK kvs k) j=some v):valV kvs j=some v:=by
 induction kvs with
 | nil=>cases h
 | cons p r ih=>
  obtain ⟨a,pv⟩:=p;by_cases z:a=k
  ·rw [zcj z] at h;have b:j≠a:=λ y=>by
    have:(valV (dropK r k) j).isSome=true:=by rw [h];rfl
    have:=valV_isSomeK.mp this;obtain ⟨q,c,e⟩:=List.mem_map.mp this;have:=of_decide_eq_true (List.mem_filter.mp c).2;exact this (e.trans (y.trans z))
   rw [z0k (λ e=>b e.symm)];exact ih h
  ·rw [zco z] at h;by_cases y:a=j
   ·subst y;rw [z0n rfl] at h⊢;exact h
   ·rw [z0k y] at h⊢;exact ih h
noncomputable def evH:Ev->Int
 | .beg h _ _ _=>h
 | .fin h _=>h
theorem zel {hs:List Int} {es:List Ev} {e:Ev} (h :∀e∈es,evH e∈hs) (he:evH e∈hs) :∀x∈es++[e],evH x∈hs:=λ x a=>by
 rcases List.mem_append.mp a with z|z
 ·exact h x z
 ·rw [List.mem_singleton.mp z];exact he
noncomputable def wordE:Ev->Str
 | .beg _ _ _ _=>"begin"
 | .fin _ _=>"end"
noncomputable def isBg (e:Ev):Bool:=decide (V.str (wordE e)=V.str "begin")
theorem zez {h:Int} {n v x:V}:isBg (.beg h n v x)=true:=by show decide (V.str "begin" = V.str "begin")=true;decide +kernel
theorem zds {h:Int} {a:V}:isBg (.fin h a)=false:=by show decide (V.str "end" = V.str "begin")=false;decide +kernel
noncomputable def bgN (es:List Ev):Nat:=(es.filter isBg).length
theorem zke {es:List Ev} {h:Int} {a:V}:bgN (es++[.fin h a])=bgN es:=by unfold bgN;rw [o6,G0];rw [Z3 (by rw [zds];decide)];rfl
theorem zk0 {es:List Ev} {h:Int} {n v x:V}:bgN (es++[.beg h n v x])=bgN es + 1:=by unfold bgN;rw [o6,G0,Y3 zez];rfl
theorem zhx {p:Ev->Bool} :∀{es:List Ev} {ys:List V},es.length=ys.length->((es.zip ys).filter λ a=>p a.1).length=(es.filter p).length
 | [],[],_=>rfl
 | e :: es,y :: ys,h=>by
  have b:=zhx (p:=p) (es:=es) (ys:=ys) (by simpa using h);rw [List.zip_cons_cons];cases c:p e with
  | true=>rw [Y3 (by exact c),Y3 c,W0,W0,b]
  | false=>rw [Z3 (by show ¬ p e=true;rw [c];decide),Z3 (by rw [c];decide),b]
theorem zi8 :∀{es:List Ev} {i:Nat} {rs:List Rc},(dAll i rs es).length=rs.length + bgN es
 | [],_,_=>rfl
 | e :: es,i,rs=>by
  have b:=zi8 (es:=es) (i:=i + 1) (rs:=dstep i rs e);show (dAll (i + 1) (dstep i rs e) es).length=_;rw [b];cases e with
  | beg hd n v x=>
   have d:(dstep i rs (.beg hd n v x)).length=rs.length + 1:=by show (rs++[_]).length=_;rw [G0];rfl
   have c:bgN (Ev.beg hd n v x :: es)=bgN es + 1:=by unfold bgN;rw [Y3 zez,W0]
   omega
  | fin hd a=>
   have d:(dstep i rs (.fin hd a)).length=rs.length:=by
    unfold dstep;dsimp only;cases lastI hd (rs.map Rc.h) with
    | none=>rfl
    | some j=>exact d5 ..
   have c:bgN (Ev.fin hd a :: es)=bgN es:=by unfold bgN;rw [Z3 (by rw [zds];decide)]
   omega
structure EvQ (K:b0) (ts:List (Str×Str)) (H:Hp) (e:Ev) (y:V):Prop where
 a:EvAt K H e y
 w:EvW K H (wordE e) y
 n:EvGd K H ts e
theorem EvQ.tt {K:b0} {ts:List (Str×Str)} {H H':Hp} {e:Ev} {y:V} (t:Tt K H H') (h:EvQ K ts H e y):EvQ K ts H' e y:=⟨EvAt.tups t.t h.a,h.w.tups t.t,h.n.tt t⟩
theorem zdv {K:b0} {ts:List (Str×Str)} {H:Hp} :∀{es:List Ev} {ys:List V},All2 (EvQ K ts H) es ys->All2 (λ (a:Ev×V) v=>a.2=v/\EvQ K ts H a.1 v) (es.zip ys) ys
 | _,_,.nil=>.nil
 | _,_,.cons a r=>.cons ⟨rfl,a⟩ (zdv r)
def UwAt (K:b0) (H H0:Hp) (u l ha:Addr) (ts:List (Str×Str)) (m:Nat) (os:List Int):Prop:=∃kvs:List (Key×V),H u=some (.dK kvs)/\kvs.length<=m/\kvs.map (·.1)=os.map Sum.inl/\∀k v,valV kvs k=some v->∃p,v=.ref p/\OwnAt K H ts p/\p≠l/\p≠ha/\H0 p=none
structure TaJ (K:b0) (H H0:Hp) (pt ps u l ha:Addr) (ts:List (Str×Str)) (hs:List Int) (i:Nat) (os:List Int) (es:List Ev):Prop where
 th:ThAt H pt ts
 st:StsT K H ps ts i
 uw:UwAt K H H0 u l ha ts i os
 ev :∃ys,H l=some (.lst ys)/\All2 (EvQ K ts H) es ys
 hn:H ha=some (.lst (hs.map V.int))
 ln:es.length<=i
 wf:EWf [] es
 cn:bgN es<=5
 hb :∀e∈es,evH e∈hs
theorem TaJ.tt {K:b0} {H H' H0:Hp} {pt ps u l ha:Addr} {ts:List (Str×Str)} {hs:List Int} {i:Nat} {os:List Int} {es:List Ev} (t:Tt K H H') (L:List Addr) (k:KeptL L H H') (n:u∉L/\l∉L/\ha∉L) (po :∀p∈L,∀q:OwnAt K H ts p,OwnAt K H' ts p) (h:TaJ K H H0 pt ps u l ha ts hs i os es):TaJ K H' H0 pt ps u l ha ts hs i os es:=by
 refine ⟨h.th.tt t,h.st.tups t.t,?_,h.ev.elim λ d z=>⟨d,k _ _ n.2.1 z.1,z01 (λ _ _ y=>y.tt t) z.2⟩,k _ _ n.2.2 h.hn,h.ln,h.wf,h.cn,h.hb⟩;obtain ⟨c,e,m,g,f⟩:=h.uw;refine ⟨c,k _ _ n.1 e,m,g,λ a v j=>?_⟩;obtain ⟨p,s,b,r⟩:=f a v j;refine ⟨p,s,?_,r⟩;rcases Classical.em (p∈L) with z|z
 ·exact po p z b
 ·exact b.tt t λ o e=>k _ _ z e
theorem TaJ.same {K:b0} {H H' H0:Hp} {pt ps u l ha:Addr} {ts:List (Str×Str)} {hs:List Int} {i:Nat} {os:List Int} {es:List Ev} (s:Same H H') (h:TaJ K H H0 pt ps u l ha ts hs i os es):TaJ K H' H0 pt ps u l ha ts hs i os es:=h.tt (.of s) [] s.keptL ⟨u0,u0,u0⟩ (λ _ z=>absurd z u0)
theorem TaJ.le {K:b0} {H H0:Hp} {pt ps u l ha:Addr} {ts:List (Str×Str)} {hs:List Int} {i:Nat} {os:List Int} {es:List Ev} (h:TaJ K H H0 pt ps u l ha ts hs i os es):TaJ K H H0 pt ps u l ha ts hs (i + 1) os es:=⟨h.th,h.st.le (A3 _),h.uw.elim λ a z=>⟨a,z.1,O4 z.2.1,z.2.2⟩,h.ev,h.hn,O4 h.ln,h.wf,h.cn,h.hb⟩
theorem TaJ.dw {K:b0} {H H' H0:Hp} {pt ps u l ha r:Addr} {ts:List (Str×Str)} {hs:List Int} {i n m:Nat} {os:List Int} {es:List Ev} (R:DeckAt H r n) (w:Dw r m H H') (nr:u≠r/\l≠r/\ha≠r) (h:TaJ K H H0 pt ps u l ha ts hs i os es):TaJ K H' H0 pt ps u l ha ts hs i os es:=by refine h.tt (w.tt R) [r] (w.keptL (by simp)) ⟨by simp [nr.1],by simp [nr.2.1],by simp [nr.2.2]⟩ λ p c o=>?_;rw [List.mem_singleton.mp c] at o⊢;obtain ⟨s,f,x,a,k,d,e,_⟩:=o;obtain ⟨j,g,q,b,_⟩:=R;rw [e] at b;cases b
def z5o (K:b0):Sp:=λ vs H Q _=>∃(sc:Addr) (ns:List Int),vs=[.ref sc,.int 5]/\SqL K H sc (ns.map V.int)/\ns.length<=63/\
 ∀t pt te ys es ts H',Same H H'->H' t=some (.tup [.ref pt,.ref te])->H' te=some (.tup ys)->ThAt H' pt ts->ThOk ts->(∀t∈ts,U6 t.1=true/\t.1.length<=8)->All2 (EvQ K ts H') es ys->es.length<=20->EWf [] es->bgN es<=5->(∀e∈es,0<=evH e/\evH e<=5)->Q (.ref t) H'
theorem zb1 (T:TX (kx w) mg) (c0:Ca P w mg base "_law_cell_at" ["script","k"] 1 (z3j (kx w))) (c2:Ca P w mg base "_law_take" ["deck","many"] 1 z1f) (c3:Ca P w mg base "_law_things" ["deck"] 2 z4k) (c4:Ca P w mg base "_law_first" ["things"] 1 (z2v (kx w))) (c5:Ca P w mg base "_law_applied" ["things","states","own"] 2 (z1t (kx w))) (c6:Ca P w mg base "_law_verb" ["deck","kind"] 3 (z5v (kx w))):Fo P w mg base CX0 4 400 y1b ["script","most"] (z5o (kx w)):=by
 refine (z4v w.params).ok sc__law_tale (λ vs H Q E h=>?_) (λ y2 A x0 s H vs Q E I h=>?_)
 ·obtain ⟨sc,M,rfl,_⟩:=h;rfl
 ·obtain ⟨sc,M,rfl,sq,hn,q⟩:=h;refine q_of (z0i (QS.mk (ps_set (i:=2) sc__law_tale.nd rfl (V0 rfl) (pe_op op_mod (pe_cal c0 (I.mono (by decide)) rfl (z00 (pv 0) (z00 pe_int pa_nil))) pe_int)))
   (z0i (QS.mk (ps_set (i:=3) sc__law_tale.nd rfl (V0 rfl) (pe_lst (z00 (pe_op z8b (pe_cal c0 (I.mono (by decide)) rfl (z00 (pv 0) (z00 pe_int pa_nil))) pe_int) (z00 (pv 2) (z00 pe_int pa_nil))))))
   (z0i (QS.mk (ps_set (i:=4) sc__law_tale.nd rfl (V0 rfl) (pe_cal c3 (I.mono (by decide)) rfl (z00 (pv 3) pa_nil))))
   (z0i (QS.mk (ps_set (i:=5) sc__law_tale.nd rfl (V0 rfl) (z1g slSeq (pe_ix ix_seq (pe_lst (z00 (pe_lst (z00 pe_int (z00 pe_int (z00 pe_int (z00 pe_int pa_nil))))) (z00 (pe_lst (z00 pe_int (z00 pe_int (z00 pe_int (z00 pe_int pa_nil))))) pa_nil))) (pe_cal c2 (I.mono (by decide)) rfl (z00 (pv 3) (z00 pe_int pa_nil))) (λ _ _=>rfl)) z2p (z1k (pe_op opAdd pe_int (pe_cal c2 (I.mono (by decide)) rfl (z00 (pv 3) (z00 pe_int pa_nil))))))))
   (z0i (qs_set (i:=6) sc__law_tale.nd rfl (V0 rfl) (qe_ix ix_seq (qe_lst (z0e (QE.mk pe_int) (z0e (QE.mk pe_int) (z0e (QE.mk pe_int) (z0e (QE.mk pe_int) qa_nil))))) (QE.mk (pe_cal c2 (I.mono (by decide)) rfl (z00 (pv 3) (z00 pe_int pa_nil)))) (λ _ _=>rfl)))
   (z0i (QS.mk (ps_set (i:=7) sc__law_tale.nd rfl (V0 rfl) (pe_cal c4 (I.mono (by decide)) rfl (z00 (pv 4) pa_nil))))
   (z0i (QS.mk (ps_set (i:=8) sc__law_tale.nd rfl (V0 rfl) (pe_lst pa_nil)))
   (z0i (QS.mk (ps_set (i:=9) sc__law_tale.nd rfl (V0 rfl) z7y))
   (z0i (qs_for U1 rfl (z23 rfl (T.no (z6d _)) (z00 (z0c (zgv rfl) rfl (T.no (n_min _)) boot_min (z00 (pe_op op_mul pe_int (pv 1)) (z00 (z0c (zgk rfl) rfl (T.no (n_max _)) boot_max (z00 pe_int (z00 (pe_op op_sub (z0c z12 rfl (T.no (n_len _)) M3 (z00 (pv 0) pa_nil)) pe_int) pa_nil))) pa_nil))) pa_nil)) (z0h (i:=10) sc__law_tale.nd rfl (V0 rfl))
   (z0i (QS.mk (ps_set (i:=3) sc__law_tale.nd rfl (V0 rfl) (pe_lst (z00 (z0c (zh5 rfl) rfl (T.no (n_sum _)) boot_sum (z00 (zhl (pv 0) (z1k (pe_op opAdd pe_int (pv 10))) (z1k pe_int) (z1k (pe_op op_mul pe_int (pv 1)))) pa_nil)) (z00 (pv 2) (z00 (pe_op opAdd pe_int (pe_op op_mul pe_int (pv 10))) pa_nil))))))
   (z0i (QS.mk (ps_set (i:=11) sc__law_tale.nd rfl (V0 rfl) (pe_ix ix_seq (pv 5) (pe_cal c2 (I.mono (by decide)) rfl (z00 (pv 3) (z00 (z0c z12 rfl (T.no (n_len _)) M3 (z00 (pv 5) pa_nil)) pa_nil))) (λ _ _=>rfl))))
   (z42 (qs_if (pt_cmp (pc_din (hu_of I) (pv 11) (pv 9)) (by with_unfolding_all rfl))
   (z0i (QS.mk (ps_set (i:=12) sc__law_tale.nd rfl (V0 rfl) (zig (pv 9) (pv 11) ⟨rfl,rfl,rfl,rfl⟩)))
   (z0i (QS.mk (ps_if (z08 op_isN (pe_ix ix_seq (pv 12) pe_int (λ _ _=>rfl)) pe_non (nomark _))
   (z04 (ps_set (i:=7) sc__law_tale.nd rfl (V0 rfl) (pe_cal c5 (I.mono (by decide)) rfl (z00 (pv 4) (z00 (pv 7) (z00 (pv 12) pa_nil))))))
   z0d))
   (z0i (QS.mk (ps_set (i:=13) sc__law_tale.nd rfl (V0 rfl) (pe_ix ix_seq (pv 12) pe_int (λ _ _=>rfl))))
   (z0i (qs_if (PW.pt (pw_or (pt_val (z0c z0q rfl (T.no (z0l _)) F3 (z00 (pv 13) (z00 (z45 (v:=.ty "tuple") rfl (T.no (z2h _)) i4 rfl) pa_nil))) (λ _=>rfl)) (pw_or1 (z08 opEq (pe_cal c2 (I.mono (by decide)) rfl (z00 (pv 3) (z00 (pv 6) pa_nil))) pe_int (nomark _)))))
   (z42 (qs_set (i:=13) sc__law_tale.nd rfl (V0 rfl) (qe_ix ix_seq (qe_lst (z0e (QE.mk pe_str) (z0e (QE.mk pe_str) (z0e (QE.mk pe_int) (z0e (QE.mk pe_int) (z0e (QE.mk pe_int) (z0e (QE.mk (pe_op op_pow pe_int pe_int)) (z0e (QE.mk (pe_un un_neg pe_int)) qa_nil)))))))) (QE.mk (pe_cal c2 (I.mono (by decide)) rfl (z00 (pv 3) (z00 pe_int pa_nil)))) (λ _ _=>rfl))))
   (QSs.mk z0d))
   (z42 (QS.mk (z36 (z17 (pv 8) (z00 (pe_tup (z00 pe_str (z00 (pv 11) (z00 (pv 13) pa_nil)))) pa_nil)))))))))
   (z42 (QS.mk (ps_if (z08 op_lt (z0c z12 rfl (T.no (n_len _)) M3 (z00 (pe_cg (xs:=["event"]) (g:=gName 0) (fr:=[]) (z49 (pv 8)) (λ _ _ _ _ _=>(pg_cn (N:=["event"]) 0)) (λ _ _ _ _ _=>(pf_one (z08 opEq (pe_ix (z9m (K:=KX w.params) rfl) (pv 0) pe_int (λ _ _=>rfl)) pe_str (nomark _)))) (λ _ _ _ _ _=>(pv 0))) pa_nil)) (pv 1) (nomark _))
   (z02 (ps_asg (pe_ix ix_seq (pv 4) (pe_cal c2 (I.mono (by decide)) rfl (z00 (pv 3) (z00 (z0c z12 rfl (T.no (n_len _)) M3 (z00 (pv 4) pa_nil)) pa_nil))) (λ _ _=>rfl)) (pg_tup rfl (z0a (z0h (i:=14) sc__law_tale.nd rfl (V0 rfl)) (z0a (z0h (i:=15) sc__law_tale.nd rfl (V0 rfl)) z10))))
   (z02 (ps_asg (pe_cal c6 (I.mono (by decide)) rfl (z00 (pv 3) (z00 (pv 15) pa_nil))) (pg_tup rfl (z0a (z0h (i:=16) sc__law_tale.nd rfl (V0 rfl)) (z0a (z0h (i:=17) sc__law_tale.nd rfl (V0 rfl)) z10))))
   (z02 (z36 (z17 (pv 8) (z00 (pe_tup (z00 pe_str (z00 (pv 11) (z00 (pv 14) (z00 (pv 16) (z00 (pv 17) pa_nil)))))) pa_nil)))
   (z02 (zbz (hu_of I) (pv 9) (pv 11) (pe_lst (z00 (pv 14) (z00 (pv 16) (z00 (pv 17) (z00 pe_non pa_nil))))) rfl)
   (z04 (ps_if (z08 opEq (pe_cal c2 (I.mono (by decide)) rfl (z00 (pv 3) (z00 pe_int pa_nil))) pe_int (nomark _))
   (z04 (ps_set (i:=7) sc__law_tale.nd rfl (V0 rfl) (pe_cal c5 (I.mono (by decide)) rfl (z00 (pv 4) (z00 (pv 7) (z00 (z5k (hu_of I) (pv 9) (pv 11) (λ _ _=>rfl)) pa_nil))))))
   z0d))))))
   z0d))))))))
   (z42 (QS.mk (ps_ret (pe_tup (z00 (pv 4) (z00 (z0p z0j rfl (T.no (z2h _)) i4 (z00 (pv 8) pa_nil)) pa_nil))))))))))))))) ?_
  refine z0s ?_;refine ⟨_,rfl,sc,M,rfl,sq,λ i0=>⟨_,_,rfl,rfl,(show (0:Int) < 2 by decide),?_⟩⟩;refine g_name ?_;have y0:0<=i0 % 2:=Y5 _ (by decide);have y1:i0 % 2 < 2:=j5 _ (by decide);refine z0s ?_;refine ⟨_,rfl,sc,M,rfl,sq,λ i1=>⟨_,_,rfl,rfl,⟨by decide,by decide⟩,_,rfl,w_3,λ Z k9=>?_⟩⟩;refine g_name ?_;have s1:=Same.upd (o:=.lst [.int (i1 / 2),.int (i0 % 2),.int 0]) k9;have D1:DeckAt (upd H Z (.lst [.int (i1 / 2),.int (i0 % 2),.int 0])) Z 0:=⟨_,_,_,upd_same,y0,y1,z9 _,z9 _⟩
  generalize upd H Z (.lst [.int (i1 / 2),.int (i0 % 2),.int 0])=H1 at s1 D1⊢;have only :∀{n:Nat} {Ha Hb:Hp},Same H Ha->Dw Z n Ha Hb->Same H Hb:=λ sa wa=>z19 sa (wa.keptL (L:=[Z]) (by simp)) λ c B=>by rw [List.mem_singleton.mp B];exact k9
  refine ⟨_,rfl,Z,0,rfl,D1,by decide,λ pt S H2 w2 x8 th ok u5=>?_⟩;have s2:=only s1 w2;refine g_name (t_nx ?_);refine z0s ?_;refine ⟨w_4,λ G h1=>⟨w_4,λ a2 h2=>⟨w_2,λ a3 h3=>?_⟩⟩⟩;have q1:=Same.upd (o:=.lst [V.int 0,.int 1,.int 2,.int 5]) h1;have q2:=Same.upd (o:=.lst [V.int 5,.int 4,.int 3,.int 0]) h2;have q3:=Same.upd (o:=.lst [.ref G,.ref a2]) h3;have f1:=q3 _ _ (q2 _ _ (upd_same (H:=H2) (a:=G) (o:=.lst [V.int 0,.int 1,.int 2,.int 5])));have f2:=q3 _ _ (upd_same (H:=upd H2 G (.lst [V.int 0,.int 1,.int 2,.int 5])) (a:=a2) (o:=.lst [V.int 5,.int 4,.int 3,.int 0]));have f3:=upd_same (H:=upd (upd H2 G (.lst [V.int 0,.int 1,.int 2,.int 5])) a2 (.lst [V.int 5,.int 4,.int 3,.int 0])) (a:=a3) (o:=.lst [.ref G,.ref a2]);have n1:G≠Z:=w2.r.fresh h1;have n2:a2≠Z:=(w2.r.same q1).fresh h2;have n3:a3≠Z:=(w2.r.same (q1.trans q2)).fresh h3;have g5:=(q1.trans q2).trans q3;generalize upd (upd (upd H2 G (.lst [V.int 0,.int 1,.int 2,.int 5])) a2 (.lst [V.int 5,.int 4,.int 3,.int 0])) a3 (.lst [.ref G,.ref a2])=H3 at f1 f2 f3 g5⊢;have D3:=w2.r.same g5;have t0:=th.tt (.of (K:=KX w.params) g5);have s3:=s2.trans g5;refine ⟨_,rfl,Z,2,_,rfl,D3,by decide,by decide,by decide,λ t4 H4 w4 w8 r6=>?_⟩;obtain ⟨v4,p0,j3⟩:=atI_of (xs:=[V.ref G,.ref a2]) w8 r6;obtain ⟨aX,a8,rfl,eX,nX,lX,bX⟩ :∃(aX:Addr) (a8:List Int),v4=.ref aX/\H3 aX=some (.lst (a8.map V.int))/\aX≠Z/\a8.length=4/\∀x∈a8,0<=x/\x<=5:=by
   simp only [L1,u0,or_false] at j3;rcases j3 with rfl|rfl
   ·exact ⟨G,[0,1,2,5],rfl,f1,n1,rfl,by decide⟩
   ·exact ⟨a2,[5,4,3,0],rfl,f2,n2,rfl,by decide⟩
  refine .inl ⟨a3,_,t4,_,rfl,rfl,SqL.of (w4.k _ _ n3 f3),p0,?_⟩;have o0:=w4.k _ _ nX eX;have s4:=only s3 w4;have u2:=t0.tt (w4.tt (K:=KX w.params) D3);refine ⟨_,rfl,Z,4,_,rfl,w4.r,by decide,by decide,by decide,λ t5 H5 w5 t3 x2=>.inl ⟨1,t5,rfl,rfl,_,rfl,.inl ⟨aX,_,rfl,SqL.of (w5.k _ _ nX o0),λ C g9=>?_⟩⟩⟩;have s5:=only s4 w5;have r8:=u2.tt (w5.tt (K:=KX w.params) w4.r);obtain ⟨m5,rfl⟩:=Int.eq_ofNat_of_zero_le t3;have ec:cutV (a8.map V.int) none (some (1 + (m5:Int)))=(a8.take (1 + m5)).map V.int:=by rw [show (1:Int) + (m5:Int)=((1 + m5:Nat):Int) by omega,(cut_to (ys:=a8.map V.int) (m:=1 + m5) (by rw [F0];omega)).1,List.map_take]
  rw [ec];have o2:(a8.take (1 + m5)).length=1 + m5:=by rw [L3];omega
  have m3 :∀x∈a8.take (1 + m5),0<=x/\x<=5:=λ x hx=>bX x (List.mem_of_mem_take hx);generalize a8.take (1 + m5)=hs at o2 m3⊢;refine g_name ?_;have q6:=Same.upd (o:=.lst (hs.map V.int)) g9;have e6:upd H5 C (.lst (hs.map V.int)) C=some (.lst (hs.map V.int)):=upd_same;have r2:C≠Z:=w5.r.fresh g9;have x7:H C=none:=s5.free g9;generalize upd H5 C (.lst (hs.map V.int))=H6 at q6 e6⊢;have D6:=w5.r.same q6;have s6:=s5.trans q6;have u6:=r8.tt (.of (K:=KX w.params) q6);refine z0s ?_;refine ⟨w_4,λ a7 h7=>⟨_,rfl,Z,4,_,rfl,D6.same (Same.upd h7),by decide,by decide,by decide,λ t7 H7 w7 q0 o8=>?_⟩⟩;obtain ⟨v7,o1,l6⟩:=atI_of (xs:=[V.int 3,.int 8,.int 40,.int 40]) q0 o8;obtain ⟨b8,rfl,p7,x4⟩ :∃b8:Int,v7=.int b8/\0 < b8/\b8<=40:=by simp only [L1,u0,or_false] at l6;rcases l6 with rfl|rfl|rfl|rfl<;>exact ⟨_,rfl,by decide,by decide⟩
  refine .inl ⟨a7,_,t7,_,rfl,rfl,SqL.of (w7.k _ _ (D6.fresh h7) upd_same),o1,?_⟩;refine g_name ?_;have e7:=w7.k _ _ r2 ((Same.upd (o:=.lst [V.int 3,.int 8,.int 40,.int 40]) h7) _ _ e6);have l2:=(u6.tt (.of (K:=KX w.params) (Same.upd (o:=.lst [V.int 3,.int 8,.int 40,.int 40]) h7))).tt (w7.tt (K:=KX w.params) (D6.same (Same.upd h7)));have s7:=only (s6.trans (Same.upd (o:=.lst [V.int 3,.int 8,.int 40,.int 40]) h7)) w7;refine ⟨_,rfl,pt,S,rfl,l2,ok.n6,λ U O s8 f4=>?_⟩;have e8:=s8 _ _ e7;have u9:=l2.tt (.of (K:=KX w.params) s8);have s8:=s7.trans s8;refine ⟨w_0,λ l hl=>?_⟩;have q9:=Same.upd (o:=.lst []) hl;have d1:upd O l (.lst []) l=some (.lst []):=upd_same;have j4:l≠C:=λ z=>by rw [z,e8] at hl;cases hl
  have fl:H l=none:=s8.free hl;have e9:=q9 _ _ e8;have k4:=u9.tt (.of (K:=KX w.params) q9);have f8:=(f4.sts (K:=KX w.params)).tups (.of q9);have s9:=s8.trans q9;generalize upd O l (.lst [])=H9 at q9 d1 e9 k4 f8 s9⊢;intro u hu;have a4:=Same.upd (o:=.dK []) hu;have fu:H u=none:=s9.free hu;have d7:l≠u:=λ z=>by rw [<-z,d1] at hu;cases hu
  have h8:C≠u:=λ z=>by rw [<-z,e9] at hu;cases hu
  have J0:TaJ (kx w) (upd H9 u (.dK [])) H pt U u l C S hs 0 [] []:=⟨k4.tt (.of (K:=KX w.params) a4),f8.tups (.of a4),⟨[],upd_same,A0 _,rfl,λ k v e=>by cases e⟩,⟨[],a4 _ _ d1,.nil⟩,a4 _ _ e9,A0 _,trivial,Z1 _,λ _ h=>absurd h u0⟩
  have f0:=s9.trans a4;generalize upd H9 u (.dK [])=a5 at J0 f0⊢;have hb :∀L:Int,0<=(if (if L > 0 then L else 0) < 2 * 5 then (if L > 0 then L else 0) else 2 * 5)/\(if (if L > 0 then L else 0) < 2 * 5 then (if L > 0 then L else 0) else 2 * 5)<=20:=λ L=>by split<;>split<;>omega
  obtain ⟨b1,b2⟩:=hb (((M.map V.int).length:Int) - 1);refine ⟨_,rfl,_,_,rfl,rfl,.inl ⟨by decide,by decide⟩,_,rfl,.inl ⟨sc,_,rfl,.inl (f0.seq sq),_,_,rfl,rfl,_,_,rfl,_,_,rfl,(if (if ((M.map V.int).length:Int) - 1 > 0 then ((M.map V.int).length:Int) - 1 else 0) < 2 * 5 then (if ((M.map V.int).length:Int) - 1 > 0 then ((M.map V.int).length:Int) - 1 else 0) else 2 * 5),rfl,by omega,by omega,?_⟩⟩;generalize (if (if ((M.map V.int).length:Int) - 1 > 0 then ((M.map V.int).length:Int) - 1 else 0) < 2 * 5 then (if ((M.map V.int).length:Int) - 1 > 0 then ((M.map V.int).length:Int) - 1 else 0) else 2 * 5)=JJ at b1 b2⊢;have tn:JJ.toNat<=20:=by omega
  generalize JJ.toNat=tt at tn⊢;refine z39 (lo:=0) (n:=tt) (λ i σ H'=>∃U es,TaJ (kx w) H' H pt U u l C S hs i (es.foldl oStep []) es/\Same H H'/\∃x3 X x11 x12 x13 x14 x15 x16 x17,σ=[some (.ref sc),some (.int 5),some (.int (i0 % 2)),x3,some (.ref pt),some (.ref C),some (.int b8),some (.ref U),some (.ref l),some (.ref u),X,x11,x12,x13,x14,x15,x16,x17])
   ⟨U,[],J0,f0,_,_,_,_,_,_,_,_,_,rfl⟩ ?_ ?_
  ·rintro i σ H3 hi ⟨U,es,J,s3,x3,X,x11,x12,x13,x14,x15,x16,x17,rfl⟩;rw [j6];refine g_name ?_;obtain ⟨ms,em⟩ :∃ms:List Int,pickV (M.map V.int) (some (1 + (i:Int))) (some 63) (some (2 * 5))=ms.map V.int:=zht λ y hy=>by obtain ⟨c,_,rfl⟩:=List.mem_map.mp (zgo hy);exact ⟨c,rfl⟩
   have pl:(pickV (M.map V.int) (some (1 + (i:Int))) (some 63) (some (2 * 5))).length<=sizeLine:=C0 (zg6 (by omega)) (by rw [F0];exact C0 hn (by decide));refine z0s ?_;refine ⟨_,rfl,_,rfl,.inl ⟨_,_,rfl,rfl,_,rfl,63,rfl,_,rfl,_,_,rfl,rfl,.inl ⟨by decide,by decide⟩,_,rfl,sc,_,rfl,s3.seq sq,(show (some (2 * 5:Int))≠some 0 from λ e=>by injection e with e;omega),pl,λ p4 p5=>?_⟩⟩;have q4:=Same.upd (o:=.lst (pickV (M.map V.int) (some (1 + (i:Int))) (some 63) (some (2 * 5)))) p5;refine ⟨p4,ms,rfl,SqL.of (by rw [<-em];exact upd_same),?_⟩;refine ⟨_,rfl,_,rfl,_,_,rfl,rfl,.inl ⟨by decide,by decide⟩,.inl ⟨_,_,rfl,rfl,w_3,λ D d9=>?_⟩⟩;refine g_name ?_;have q5:=Same.upd (o:=.lst [.int ms.sum,.int (i0 % 2),.int (9 + 5 * (i:Int))]) d9;have D5:DeckAt (upd (upd H3 p4 (.lst (pickV (M.map V.int) (some (1 + (i:Int))) (some 63) (some (2 * 5))))) D (.lst [.int ms.sum,.int (i0 % 2),.int (9 + 5 * (i:Int))])) D (9 + 5 * i):=⟨_,_,_,upd_same,y0,y1,by omega,by omega⟩
   have J5:=(J.same q4).same q5;have t8:H D=none:=(s3.trans q4).free d9;have s5:=(s3.trans q4).trans q5;generalize upd (upd H3 p4 (.lst (pickV (M.map V.int) (some (1 + (i:Int))) (some 63) (some (2 * 5))))) D (.lst [.int ms.sum,.int (i0 % 2),.int (9 + 5 * (i:Int))])=H5 at D5 J5 s5⊢;have nd:u≠D/\l≠D/\C≠D:=by
    obtain ⟨G,b1,c1,e1,_⟩:=D5;refine ⟨λ z=>?_,λ z=>?_,λ z=>?_⟩
    ·obtain ⟨kv,e,_⟩:=(J.same q4).uw;rw [z,d9] at e;cases e
    ·obtain ⟨kv,e,_⟩:=(J.same q4).ev;rw [z,d9] at e;cases e
    ·have e:=(J.same q4).hn;rw [z,d9] at e;cases e
   have g0 :∀{n:Nat} {Ha Hb:Hp},Same H Ha->Dw D n Ha Hb->Same H Hb:=λ sa wa=>z19 sa (wa.keptL (L:=[D]) (by simp)) λ c B=>by rw [List.mem_singleton.mp B];exact t8
   refine z0s ?_;refine ⟨_,rfl,_,rfl,_,rfl,.inl ⟨C,_,rfl,.inl (SqL.of J5.hn),D,_,_,rfl,D5,by omega,by rw [F0];omega,by rw [F0];omega,λ t6 H6 w6 r3 r5=>?_⟩⟩;obtain ⟨v6,r4,v3⟩:=atI_of (xs:=hs.map V.int) r3 r5;obtain ⟨b,m7,rfl⟩:=List.mem_map.mp v3;have J6:=J5.dw D5 w6 nd;have s6:=g0 s5 w6;have D6:=w6.r;refine .inl ⟨C,_,t6,_,rfl,rfl,SqL.of J6.hn,r4,?_⟩;refine g_name ?_;obtain ⟨a6,b4,o5,g6,k1⟩:=J6.uw;have dg:DGet H6 u (.int b) (valV a6 (.inl b)):=DGet.k (k:=.inl b) b4;refine ⟨_,rfl,_,rfl,u,_,rfl,dg,_,rfl,?_⟩;cases hv:valV a6 (.inl b) with
   | some v=>
    refine iteP rfl ?_;obtain ⟨f,rfl,ow,g8,g7,f5⟩:=k1 _ _ hv;refine z0s ?_;refine ⟨_,rfl,u,rfl,.inl ⟨_,.inl b4⟩,_,rfl,a6,.inl b,.ref f,b4,rfl,hv,?_⟩;refine g_name ?_;have k7:KeptL [u] H6 (upd H6 u (.dK (dropK a6 (.inl b)))):=KeptL.set (by simp);have T7:Tt (kx w) H6 (upd H6 u (.dK (dropK a6 (.inl b)))):=KeptL.tt k7 λ c B=>by rw [List.mem_singleton.mp B];exact .inr ⟨_,b4⟩
    have k2:upd H6 u (.dK (dropK a6 (.inl b))) u=some (.dK (dropK a6 (.inl b))):=upd_same;generalize upd H6 u (.dK (dropK a6 (.inl b)))=H7 at k7 T7 k2⊢;obtain ⟨ys,c7,e0⟩:=J6.ev;have d7:l≠u:=λ z=>by rw [z,b4] at c7;cases c7
    have h8:C≠u:=λ z=>by have:=J6.hn;rw [z,b4] at this;cases this
    have d5 :∀{p:Addr},OwnAt (kx w) H6 S p->p≠u:=λ o z=>by obtain ⟨_,_,_,_,_,_,e,_⟩:=o;rw [z,b4] at e;cases e
    have v8:b∈es.foldl oStep []:=by have:(Sum.inl b:Key)∈a6.map (·.1):=valV_isSomeK.mp (by rw [hv];rfl);rw [g6] at this;obtain ⟨k,hk,e⟩:=List.mem_map.mp this;exact C7 e ▸ hk
    have J7:TaJ (kx w) H7 H pt U u l C S hs i ((es.foldl oStep []).filter λ k=>decide (k≠b)) es:=⟨J6.th.tt T7,J6.st.tups T7.t,⟨_,k2,C0 (zfk _ _) o5,zhb g6,λ k v e=>by obtain ⟨p,h1,h2,h3⟩:=k1 k v (zdt e);exact ⟨p,h1,h2.tt T7 λ o e=>k7 _ _ (by simp [d5 h2]) e,h3⟩⟩,⟨ys,k7 _ _ (by simp [d7]) c7,z01 (λ _ _ y=>y.tt T7) e0⟩,k7 _ _ (by simp [h8]) J6.hn,J6.ln,J6.wf,J6.cn,J6.hb⟩
    have g3:=ow.tt T7 λ o e=>k7 _ _ (by simp [d5 ow]) e;have D7:DeckAt H7 D (9 + 5 * i + 1):=by obtain ⟨G,b1,c1,e1,z1⟩:=D6;exact ⟨G,b1,c1,k7 _ _ (by simp [V3 nd.1]) e1,z1⟩
    have s7:Same H H7:=z19 s6 k7 λ c B=>by rw [List.mem_singleton.mp B];exact fu
    have h9:f≠D:=λ z=>by obtain ⟨_,_,_,_,_,_,e,_⟩:=g3;obtain ⟨G,b1,c1,e1,_⟩:=D7;rw [z,e1] at e;cases e
    obtain ⟨nm,vb,x,a,k,d,eo,hm,b7,ix,wi,an⟩:=id g3;refine zg1 (λ σ1 O=>∃ps' a' xs,KeptL [f] H7 O/\OwnAt (kx w) O S f/\O f=some (.lst (xs++[a']))/\xs.length=3/\AnsI a'/\StsT (kx w) O ps' S (i + 1)/\σ1=[some (.ref sc),some (.int 5),some (.int (i0 % 2)),some (.ref D),some (.ref pt),some (.ref C),some (.int b8),some (.ref ps'),some (.ref l),some (.ref u),some (.int (i:Int)),some (.int b),some (.ref f),x13,x14,x15,x16,x17]) ?_ (λ tl=>?_);rotate_left
    ·refine ⟨_,rfl,.inl ⟨f,_,3,a,rfl,rfl,SqL.of eo,z05 (j:=3) rfl,rfl,_,rfl,?_⟩⟩;by_cases za:a=.non
     ·refine iteP (decide_eq_true za) ?_;obtain ⟨n8,r9⟩:=J7.st;refine ⟨_,rfl,_,rfl,_,rfl,pt,U,f,S,i,n8,nm,vb,x,a,k,d,rfl,J7.th,ok.thw,r9,by omega,eo,hm,b7,ix,wi,zbp (by omega) eo hm b7 ix wi ?_⟩;rintro p' O k8 i6 ⟨a',xs,e8,l8,ai⟩ f4;exact tl _ _ ⟨p',a',xs,k8,i6,e8,l8,ai,f4,rfl⟩
     ·exact iteN (by rw [decide_eq_false za];decide) (tl _ _ ⟨U,a,[.str nm,.str vb,x],KeptL.refl,g3,eo,rfl,an.resolve_left za,J7.st.le (A3 _),rfl⟩)
    rintro σ8 O ⟨ps',a',xs8,k8,i6,e8,l8,ai,f4,rfl⟩;have T8:Tt (kx w) H7 O:=KeptL.tt k8 λ c B=>by rw [List.mem_singleton.mp B];exact g3.mutAt
    have J8:TaJ (kx w) O H pt U u l C S hs i ((es.foldl oStep []).filter λ k=>decide (k≠b)) es:=J7.tt T8 [f] k8 ⟨by simp [V3 (d5 ow)],by simp [V3 g8],by simp [V3 g7]⟩ λ p hp _=>by rw [List.mem_singleton.mp hp];exact i6
    have D8:DeckAt O D (9 + 5 * i + 1):=by obtain ⟨G,b1,c1,e1,z1⟩:=D7;exact ⟨G,b1,c1,k8 _ _ (by simp [V3 h9]) e1,z1⟩
    have s8:Same H O:=z19 s7 k8 λ c B=>by rw [List.mem_singleton.mp B];exact f5
    refine z0s ?_;refine ⟨_,rfl,.inl ⟨f,_,3,a',rfl,rfl,SqL.of e8,z05 (j:=3) (by rw [O1 (by omega),l8];rfl),?_⟩⟩;refine g_name ?_;refine zg1 (λ σ1 H9=>∃a9 n9,Dw D n9 O H9/\AnsI a9/\σ1=[some (.ref sc),some (.int 5),some (.int (i0 % 2)),some (.ref D),some (.ref pt),some (.ref C),some (.int b8),some (.ref ps'),some (.ref l),some (.ref u),some (.int (i:Int)),some (.int b),some (.ref f),some a9,x14,x15,x16,x17]) ?_ (λ k5=>?_);rotate_left
    ·obtain ⟨T0,tg,nt⟩ :∃T0,TagOf O a' T0/\instB T0 "tuple" = false:=by
      rcases ai with ⟨i9,rfl⟩|rfl|rfl
      ·exact ⟨"int",rfl,by decide⟩
      ·exact ⟨"str",rfl,by decide⟩
      ·exact ⟨"str",rfl,by decide⟩
     refine ⟨_,rfl,_,_,T0,rfl,tg,by decide,_,rfl,?_⟩;rw [nt];refine iteF ?_;refine ⟨_,rfl,_,rfl,D,b8,_,rfl,D8,by omega,p7,by omega,λ t9 H9 w9 _ _=>⟨rfl,_,rfl,ite2 (λ _=>?_) λ _=>k5 _ _ ⟨a',_,w9,ai,rfl⟩⟩⟩;refine ⟨_,_,rfl,rfl,p9,_,rfl,w_7,λ l9 i3=>?_⟩;refine ⟨_,rfl,D,7,_,rfl,w9.r.same (Same.upd i3),by omega,by decide,by decide,λ r0 a5 e5 h0 h1=>?_⟩;obtain ⟨Y,p1,i8⟩:=atI_of (xs:=[V.str "ok",.str "none",.int 0,.int 1,.int 2,.int (10 ^ (9:Int).toNat),.int (-1)]) h0 h1;refine .inl ⟨l9,_,r0,Y,rfl,rfl,SqL.of (e5.k _ _ (w9.r.fresh i3) upd_same),p1,k5 _ _ ⟨Y,_,(w9.same (Same.upd i3)).trans e5,?_,rfl⟩⟩;simp only [L1,u0,or_false] at i8;rcases i8 with rfl|rfl|rfl|rfl|rfl|rfl|rfl
     ·exact .inr (.inl rfl)
     ·exact .inr (.inr rfl)
     ·exact .inl ⟨_,rfl⟩
     ·exact .inl ⟨_,rfl⟩
     ·exact .inl ⟨_,rfl⟩
     ·exact .inl ⟨_,rfl⟩
     ·exact .inl ⟨_,rfl⟩
    rintro σ9 H9 ⟨a9,n9,w9,ai9,rfl⟩;have J9:=J8.dw D8 w9 nd;have f8:=f4.tups (w9.tt D8).t;have s9:=g0 s8 w9;obtain ⟨W,d1,j7⟩:=J9.ev;have h5:W.length<=20:=by rw [z03 j7];have:=J9.ln;omega
    refine ⟨_,rfl,.inl ⟨rfl,_,SqL.of d1⟩,_,rfl,_,rfl,w_3,λ a0 u8=>?_⟩;have a4:=Same.upd (o:=.tup [.str "end",.int b,a9]) u8;have f6:upd H9 a0 (.tup [.str "end",.int b,a9]) a0=some (.tup [.str "end",.int b,a9]):=upd_same;have F:=J9.same a4;have n4:=f8.tups (.of a4);generalize upd H9 a0 (.tup [.str "end",.int b,a9])=a5 at a4 f6 F n4⊢;have e2:=a4 _ _ d1;have f7:=z01 (λ _ _ z=>EvQ.tt (.of a4) z) j7;refine ⟨l,W,_,rfl,rfl,e2,R1 h5 (by decide),?_⟩;have d3:KeptL [l] a5 (upd a5 l (.lst (W++[.ref a0]))):=KeptL.set (by simp);have d2:Tt (kx w) a5 (upd a5 l (.lst (W++[.ref a0]))):=KeptL.tt d3 λ c B=>by rw [List.mem_singleton.mp B];exact .inl ⟨_,e2⟩
    have e3:upd a5 l (.lst (W++[.ref a0])) l=some (.lst (W++[.ref a0])):=upd_same;generalize upd a5 l (.lst (W++[.ref a0]))=b5 at d3 d2 e3⊢;obtain ⟨b0,g4,m6,f9,h6⟩:=F.uw;have g2:C≠l:=λ z=>j4 z.symm;have j0:u≠l:=λ z=>d7 z.symm;refine ⟨ps',es++[.fin b a9],⟨F.th.tt d2,n4.tups d2.t,⟨b0,d3 _ _ (by simp [j0]) g4,O4 m6,by rw [U8];exact f9,λ k v e=>?_⟩,⟨_,e3,?_⟩,d3 _ _ (by simp [g2]) F.hn,?_,EWf.snoc (e:=.fin b a9) F.wf v8,C0 (C5 zke) F.cn,zel (e:=.fin b a9) F.hb m7⟩,z19 (s9.trans a4) d3 (λ c B=>by rw [List.mem_singleton.mp B];exact fl),_,_,_,_,_,_,_,_,_,rfl⟩
    ·obtain ⟨p,h1,h2,h3⟩:=h6 k v e;exact ⟨p,h1,h2.tt d2 λ o e=>d3 _ _ (by simp [h3.1]) e,h3⟩
    ·refine z0v (z01 (λ _ _ z=>EvQ.tt d2 z) f7) ?_;have se:=d2.l _ _ f6;refine ⟨⟨a0,rfl,SqT.of se⟩,⟨a0,_,rfl,SqT.of se⟩,?_⟩;rcases ai9 with ⟨i9,rfl⟩|rfl|rfl
     ·exact .inl ⟨_,rfl⟩
     ·exact .inr ⟨_,rfl⟩
     ·exact .inr ⟨_,rfl⟩
    ·rw [G0];exact O5 F.ln
   | none=>
    refine iteN (by decide) ?_;obtain ⟨ys,c7,e0⟩:=J6.ev;have d7:l≠u:=λ z=>by rw [z,b4] at c7;cases c7
    have p3:ys.length<=20:=by rw [z03 e0];have:=J6.ln;omega
    refine z5x (zj5 ?_);refine zd8 (α:=Ev×V) (K:=KX w.params) (l:=l) (rs:=es.zip ys) (xs:=ys) (RA:=λ H a v=>a.2=v/\EvQ (kx w) S H a.1 v) (.fin 0 .non,.non) (λ a=>decide (V.str (wordE a.1)=V.str "begin")) (λ a=>a.2) (λ R h=>⟨_,rfl,h⟩) (SqL.of c7) (λ H H' a v s z=>⟨z.1,z.2.tt (.of s)⟩) (zdv e0) ?_ ?_ ?_
    ·exact C0 (by rw [List.length_zip];exact Nat.min_le_right _ _) (C0 p3 (by decide))
    ·rintro ⟨z,v⟩ _ v' H7 s7 ⟨rfl,⟨_,⟨p,r,rfl,sqp⟩,_⟩⟩ KT KF h1 h2;refine ⟨[some (.ref p)],rfl,rfl,?_⟩;refine ⟨_,rfl,.inr (.inl ⟨p,_,0,.str (wordE z),rfl,rfl,sqp,z05 (j:=0) rfl,rfl,_,rfl,?_⟩)⟩;by_cases y:decide (V.str (wordE z)=V.str "begin")=true
     ·exact iteP y ⟨_,rfl,h1 y _ (Same.refl _)⟩
     ·exact iteN y (h2 (by simpa using y) _ (Same.refl _))
    intro l7 H7 q7 o3;have q8:=Same.upd (o:=.lst (((es.zip ys).filter λ a=>decide (V.str (wordE a.1)=V.str "begin")).map λ a=>a.2)) o3;refine .inl ⟨l7,_,rfl,.inl (SqL.of upd_same),_,rfl,_,_,rfl,rfl,_,rfl,?_⟩;have J8:=J6.same (q7.trans q8);have D8:=D6.same (q7.trans q8);have s8:=s6.trans (q7.trans q8);generalize upd H7 l7 (.lst (((es.zip ys).filter λ a=>decide (V.str (wordE a.1)=V.str "begin")).map λ a=>a.2))=O at J8 D8 s8⊢;refine ite2 (λ g1=>?_) λ _=>⟨U,es,J8.le,s8,_,_,_,_,_,_,_,_,_,rfl⟩
    have p2:bgN es + 1<=5:=by have g1:=of_decide_eq_true g1;have hz:((es.zip ys).filter λ a=>decide (V.str (wordE a.1)=V.str "begin")).length=bgN es:=zhx (p:=isBg) (z03 e0).symm;rw [F0,hz] at g1;exact Int.ofNat_lt.mp g1
    obtain ⟨yt,m2,l4⟩:=J8.th;have x1:yt.length=S.length:=z03 l4;have x6:=ok.n0;have x5:=ok.n6;refine ⟨_,rfl,_,rfl,_,rfl,.inl ⟨pt,yt,rfl,.inr (SqT.of m2),D,_,_,rfl,D8,by omega,by omega,by omega,λ t9 H9 w9 s0 r7=>?_⟩⟩;obtain ⟨v9,u7,p8⟩:=atI_of (xs:=yt) s0 r7;obtain ⟨j,hj⟩:=List.mem_iff_getElem?.mp p8;obtain ⟨t,ht,b9,rfl,e9⟩:=z0g l4 hj;have j1:=Q0 ht;have T9:Tt (kx w) O H9:=w9.tt D8;refine .inr (.inl ⟨pt,yt,t9,_,rfl,rfl,SqT.of (T9.l _ _ m2),u7,b9,_,rfl,SqT.of (T9.l _ _ e9),rfl,_,_,rfl,_,_,rfl,rfl,?_⟩);refine ⟨_,rfl,_,rfl,D,t.2,_,rfl,w9.r,by omega,ok.ks t j1,λ a0 Y X j9 a5 n5 e5 i8 f6 _ b7 ix wi=>⟨a0,_,rfl,SqT.of f6,rfl,_,_,rfl,_,_,rfl,rfl,?_⟩⟩;have m0:=w9.trans e5;have F:=J8.dw D8 m0 nd;have u1:=e5.r;have f0:=g0 s8 m0;obtain ⟨W,e2,f7⟩:=F.ev;have h5:W.length<=20:=by rw [z03 f7];have:=F.ln;omega
    refine ⟨_,rfl,.inl ⟨rfl,_,SqL.of e2⟩,_,rfl,_,rfl,_,rfl,_,rfl,w_5,λ c8 r1=>?_⟩;obtain ⟨b5,v_,d4,o6⟩:=newA (.tup [.str "begin",.int b,.str t.1,.str Y,X]) r1;rw [<-v_];have e3:=d4 _ _ e2;refine ⟨l,W,_,rfl,rfl,e3,R1 h5 (by decide),?_⟩;have d6:KeptL [l] b5 (upd b5 l (.lst (W++[.ref c8]))):=KeptL.set (by simp);have l3:Tt (kx w) b5 (upd b5 l (.lst (W++[.ref c8]))):=KeptL.tt d6 λ c B=>by rw [List.mem_singleton.mp B];exact .inl ⟨_,e3⟩
    have j2:upd b5 l (.lst (W++[.ref c8])) l=some (.lst (W++[.ref c8])):=upd_same;generalize upd b5 l (.lst (W++[.ref c8]))=H12 at d6 l3 j2⊢;obtain ⟨b0,g4,m6,f9,h6⟩:=F.uw;have g2:C≠l:=λ z=>j4 z.symm;have j0:u≠l:=λ z=>d7 z.symm;have k6:Same H H12:=z19 (f0.trans d4) d6 λ c B=>by rw [List.mem_singleton.mp B];exact fl
    have m4:=d6 _ _ (show u∉[l] by simp [j0]) (d4 _ _ g4);have v1:=d6 _ _ (show C∉[l] by simp [g2]) (d4 _ _ F.hn);refine ⟨_,rfl,_,rfl,_,rfl,w_4,λ f b3=>?_⟩;have c9:=Same.upd (o:=.lst [.str t.1,.str Y,X,.non]) b3;have l5:upd H12 f (.lst [.str t.1,.str Y,X,.non]) f=some (.lst [.str t.1,.str Y,X,.non]):=upd_same;have g8:f≠l:=λ z=>by rw [z,j2] at b3;cases b3
    have g7:f≠C:=λ z=>by rw [z,v1] at b3;cases b3
    have d5:f≠u:=λ z=>by rw [z,m4] at b3;cases b3
    have f5:H f=none:=k6.free b3;generalize upd H12 f (.lst [.str t.1,.str Y,X,.non])=H13 at c9 l5⊢;have l0:=c9 _ _ m4;refine ⟨_,rfl,_,rfl,u,_,rfl,DPut.k (k:=.inl b) l0 (R1 (m:=100) (by omega) (by decide)),?_⟩;have d8:KeptL [u] H13 (upd H13 u (.dK (putK b0 (.inl b) (.ref f)))):=KeptL.set (by simp);have k0:Tt (kx w) H13 (upd H13 u (.dK (putK b0 (.inl b) (.ref f)))):=KeptL.tt d8 λ c B=>by rw [List.mem_singleton.mp B];exact .inr ⟨_,l0⟩
    have h4:upd H13 u (.dK (putK b0 (.inl b) (.ref f))) u=some (.dK (putK b0 (.inl b) (.ref f))):=upd_same;generalize upd H13 u (.dK (putK b0 (.inl b) (.ref f)))=H14 at d8 k0 h4⊢;have l1:Tt (kx w) b5 H14:=(l3.trans (.of c9)).trans k0;have T:Tt (kx w) a5 H14:=Tt.trans (.of d4) l1;have kk:KeptL [l,u] a5 H14:=λ c o n e=>by simp only [L1,u0,or_false,not_or] at n;exact d8 _ _ (by simp [n]) (c9 _ _ (d6 _ _ (by simp [n]) (d4 _ _ e)))
    have w1:Same H H14:=z19 (k6.trans c9) d8 λ c B=>by rw [List.mem_singleton.mp B];exact fu
    have k3:=d8 _ _ (show f∉[u] by simp [d5]) l5;have m8:OwnAt (kx w) H14 S f:=⟨t.1,Y,X,.non,t.2,j9,k3,j1,b7,IsDt.mono' T.t _ _ ix,wi.tt T,.inl rfl⟩
    have m1:(Sum.inl b:Key)∉a6.map (·.1):=λ z=>by have:=valV_isSomeK.mpr z;rw [hv] at this;cases this
    have t1:b∉es.foldl oStep []:=λ z=>m1 (by rw [g6];exact List.mem_map.mpr ⟨b,z,rfl⟩);have o7:TaJ (kx w) H14 H pt U u l C S hs (i + 1) ((es++[Ev.beg b (.str t.1) (.str Y) X]).foldl oStep []) (es++[.beg b (.str t.1) (.str Y) X]):=by
     refine ⟨F.th.tt T,(F.st.tups T.t).le (A3 _),⟨_,h4,C0 (zc1 _ _ _) (by omega),?_,λ k v e=>?_⟩,⟨_,d8 _ _ (show l∉[u] by simp [d7]) (c9 _ _ j2),?_⟩,kk _ _ (by simp [g2,h8]) F.hn,?_,EWf.snoc (e:=.beg b (.str t.1) (.str Y) X) F.wf t1,C0 (C5 zk0) p2,zel (e:=.beg b (.str t.1) (.str Y) X) F.hb m7⟩
     ·have w3:(Sum.inl b:Key)∉b0.map (·.1):=by rw [f9,<-g6];exact m1
      rw [U8,zey w3,E1,f9];show _=((es.foldl oStep [])++[b]).map Sum.inl;rw [E1];rfl
     ·rw [z3s] at e;by_cases z:k=.inl b
      ·rw [if_pos z] at e;cases e;exact ⟨f,rfl,m8,g8,g7,f5⟩
      ·rw [if_neg z] at e;obtain ⟨p,h1,h2,h3⟩:=h6 k v e;refine ⟨p,h1,h2.tt T λ o e=>kk _ _ ?_ e,h3⟩;have:p≠u:=λ y=>by obtain ⟨_,_,_,_,_,_,e,_⟩:=h2;rw [y,g4] at e;cases e
       simp [h3.1,this]
     ·refine z0v (z01 (λ _ _ z=>EvQ.tt T z) f7) ?_;have se:=l1.l _ _ o6;exact ⟨⟨c8,rfl,SqT.of se⟩,⟨c8,_,rfl,SqT.of se⟩,⟨t.1,t.2,Y,j9,rfl,rfl,j1,b7,IsDt.mono' T.t _ _ ix,wi.tt T⟩⟩
     ·rw [G0];exact O5 F.ln
    have e4:DeckAt H14 D n5:=by obtain ⟨G,b1,c1,e1,z1⟩:=u1;exact ⟨G,b1,c1,kk _ _ (by simp [V3 nd.1,V3 nd.2.1]) e1,z1⟩
    have h9:f≠D:=λ z=>by obtain ⟨G,b1,c1,e1,_⟩:=e4;rw [<-z,k3] at e1;cases e1
    refine ⟨_,rfl,D,2,_,rfl,e4,by omega,by decide,by decide,λ x9 i5 d0 _ _=>⟨rfl,_,rfl,?_⟩⟩;have i7:=o7.dw e4 d0 nd;have j8:=g0 w1 d0;have t2:=d0.k _ _ nd.1 h4;have m9:OwnAt (kx w) i5 S f:=m8.tt (d0.tt e4) λ o e=>d0.k _ _ h9 e;refine ite2 (λ _=>?_) λ _=>⟨U,_,i7,j8,_,_,_,_,_,_,_,_,_,rfl⟩
    have w0:DGet i5 u (.int b) (some (.ref f)):=by have:=DGet.k (k:=.inl b) t2;rw [z3s,if_pos rfl] at this;exact this
    obtain ⟨nm,vb,x,a,k,d,eo,hm,b7,ix,wi,an⟩:=id m9;obtain ⟨v2,u4⟩:=F.st.tups (T.trans (d0.tt e4)).t;refine ⟨_,rfl,_,rfl,_,rfl,_,rfl,u,.ref f,rfl,w0,pt,U,f,S,i,v2,nm,vb,x,a,k,d,rfl,i7.th,ok.thw,u4,by omega,eo,hm,b7,ix,wi,zbp (by omega) eo hm b7 ix wi ?_⟩;rintro p' v5 i2 o9 _ v0;have n7:Tt (kx w) i5 v5:=KeptL.tt i2 λ c B=>by rw [List.mem_singleton.mp B];exact m9.mutAt
    have b6:=i7.tt n7 [f] i2 ⟨by simp [V3 d5],by simp [V3 g8],by simp [V3 g7]⟩ λ p hp _=>by rw [List.mem_singleton.mp hp];exact o9
    exact ⟨p',_,⟨b6.th,v0,b6.uw,b6.ev,b6.hn,b6.ln,b6.wf,b6.cn,b6.hb⟩,z19 j8 i2 (λ c B=>by rw [List.mem_singleton.mp B];exact f5),_,_,_,_,_,_,_,_,_,rfl⟩
  ·rintro σ H3 ⟨U,es,J,s3,x3,X,x11,x12,x13,x14,x15,x16,x17,rfl⟩;obtain ⟨ys,p6,u3⟩:=J.ev;refine ⟨_,rfl,_,rfl,l,ys,rfl,.inl ⟨SqL.of p6,λ te o4=>⟨w_2,λ t ht=>?_⟩⟩⟩;have sE:=Same.upd (o:=.tup ys) o4;have sF:=sE.trans (Same.upd (o:=.tup [.ref pt,.ref te]) ht);exact q t pt te ys es S _ (s3.trans sF) upd_same ((Same.upd ht) _ _ upd_same) (J.th.tt (.of (K:=KX w.params) sF)) ok u5 (z01 (λ _ _ z=>EvQ.tt (.of sF) z) u3) (C0 J.ln tn) J.wf J.cn (λ e he=>m3 _ (J.hb e he))
noncomputable def svD:Sv->PyData
 | .num i=>.int i
 | .row ns=>.tuple (ns.map B3)
noncomputable def plD (pl:Pl):PyData:=.tuple [.tuple (pl.1.map λ (n:Nat)=>.int (n:Int)),.tuple (pl.2.map svD)]
theorem zdz {K:b0} {H:Hp} :∀ns:List Int,IsPds K H (ns.map B3) (ns.map V.int)
 | []=>rfl
 | n :: ns=>⟨_,_,rfl,rfl,zdz ns⟩
theorem zi9 {K:b0} {H:Hp} :∀ns:List Nat,IsPds K H (ns.map λ (n:Nat)=>.int (n:Int)) (nsV ns)
 | []=>rfl
 | n :: ns=>⟨_,_,rfl,rfl,zi9 ns⟩
theorem stz_pd {K:b0} {H:Hp} :∀{s:Sv} {v:V},StZ K H s v->IsPd K H (svD s) v
 | .num _,_,h=>h
 | .row ns,_,h=>h.elim λ p z=>⟨p,_,z.1,z.2,zdz ns⟩
theorem zkj {K:b0} {H:Hp} {ss:List Sv} {vs:List V} (h:All2 (StZ K H) ss vs):IsPds K H (ss.map svD) vs:=by
 induction h with
 | nil=>exact (rfl:([]:List V)=[])
 | cons a r ih=>exact ⟨_,_,rfl,stz_pd a,ih⟩
theorem plz_pd {K:b0} {H:Hp} {p:Addr} {pl:Pl} (h:PlZ K H p pl):IsPd K H (plD pl) (.ref p):=by obtain ⟨b,a,g,f,d,e,c⟩:=h;exact ⟨p,_,rfl,f,_,_,rfl,⟨b,_,rfl,d,zi9 _⟩,_,_,rfl,⟨a,_,rfl,e,zkj c⟩,rfl⟩
theorem z3c {α:Type} {f:α->PyData} :∀{xs:List α},(∀x∈xs,plainP (f x)=true)->z0z (xs.map f)=true
 | [],_=>rfl
 | x :: xs,h=>by show (plainP (f x) && z0z (xs.map f))=true;rw [h x j1,z3c λ y a=>h y (Z0 _ a)];rfl
theorem z47 {α:Type} {f:α->PyData} {n:Nat} :∀{xs:List α},(∀x∈xs,(f x).depth<=n)->K2 (xs.map f)<=n
 | [],_=>Z1 _
 | x :: xs,h=>by have c:=h x j1;have b:=z47 (f:=f) (n:=n) (xs:=xs) λ y a=>h y (Z0 _ a);show max (f x).depth (K2 (xs.map f))<=n;omega
theorem zdx (s:Sv):plainP (svD s)=true/\(svD s).depth<=1:=by
 cases s with
 | num i=>exact ⟨rfl,Z1 _⟩
 | row ns=>exact ⟨z3c λ _ _=>rfl,by have:=z47 (f:=B3) (n:=0) (xs:=ns) (λ _ _=>A0 _);simp only [svD,j0c];omega⟩
theorem ziw (pl:Pl):plainP (plD pl)=true/\(plD pl).depth<=3:=by
 have a:z0z (pl.1.map λ (n:Nat)=>B3 (n:Int))=true:=z3c λ _ _=>rfl;have b:z0z (pl.2.map svD)=true:=z3c λ s _=>(zdx s).1;have c:=z47 (f:=λ (n:Nat)=>B3 (n:Int)) (n:=0) (xs:=pl.1) (λ _ _=>A0 _);have d:=z47 (f:=svD) (n:=1) (xs:=pl.2) (λ s _=>(zdx s).2);refine ⟨?_,?_⟩
 ·show (z0z _ && (z0z _ && true))=true;rw [a,b];rfl
 ·unfold plD;simp only [j0c,K2];omega
theorem zjs {K:b0} {H:Hp} {c:Nat->Bool} {ts:List (Str×Str)} {rs:List Rc} {ps:List DD} {pl:Pl} {k N i:Nat} (gd:All2 (RcGd K H ts) rs ps) (ok:ThW ts) (po:PlOk ts N k pl) (rl:N<=63) (hN:N=rs.length) (hc :∀n,c n=true->n∉pl.1) (hi:i<=N) :∀s∈nexT c ts rs ps pl i,AnsV s.2.1/\∃n r p sv,n < N/\c n=true/\rs[n]? = some r/\ps[n]? = some p/\pl.2[ixT ts p.nm]? = some sv/\SvOk k p.k sv/\s=stq ts p n pl sv:=by
 intro s b;unfold nexT at b;obtain ⟨n,f,e⟩:=List.mem_filterMap.mp b;have f:=List.mem_range.mp f;unfold nexAt at e;cases h:c n with
 | false=>rw [h] at e;cases e
 | true=>
  have d:rs[n]? = some rs[n]:=K0 (by omega);obtain ⟨p,l,g⟩:=z0t gd d;rw [if_pos h,d,l] at e;generalize rs[n]=r at d g e;have q:=ixT_of ok g.2.2.1;obtain ⟨sv,b,m⟩:=z0t po.so q;have e:stp ts r p n pl=some s:=e;rw [stp_of b] at e;cases hb:r.e.isNone || decide ((dz p.k p.vb p.dt sv).2=r.a) with
  | false=>rw [hb] at e;cases e
  | true=>rw [hb] at e;have e:stq ts p n pl sv=s:=Q1 e;have o:=dz_ok g.2.2.2.1 m (po.n63 rl (j:=n) (by omega) (hc n h)).1;rw [<-e];exact ⟨o.2,n,r,p,sv,by omega,h,d,l,b,m,rfl⟩
theorem cP_no {m:Nat} {rs:List Rc} {ns:List Nat} {n:Nat} (h:cP m rs ns n=true):n∉ns:=of_decide_eq_true (Bool.and_eq_true_iff.mp (Bool.and_eq_true_iff.mp h).1).1
theorem new1 {H:Hp} {p:Addr} (o:HO) (h:H p=none) :∃H',H'=upd H p o/\Same H H'/\H' p=some o:=⟨_,rfl,Same.upd h,upd_same⟩
theorem zid {K:b0} {H:Hp} {m:Nat} {ts:List (Str×Str)} {rs:List Rc} {ps:List DD} {pl:Pl} (gd:All2 (RcGd K H ts) rs ps) (ok:ThW ts) (po:PlOk ts rs.length pl.1.length pl) (rl:rs.length<=63) :∀s∈nexT (cP m rs pl.1) ts rs ps pl rs.length,PlOk ts rs.length s.2.2.1.length s.2.2/\s.2.2.1.length=pl.1.length + 1:=by
 intro s F;obtain ⟨_,n,r,p,A,u,I,G,B,y,E,rfl⟩:=zjs (c:=cP m rs pl.1) gd ok po rl rfl (λ n h=>cP_no h) (A0 _) s F;have v:=cP_no I;have f:=z7k (pl.1++[n]);have o:(srtN (pl.1++[n])).length=pl.1.length + 1:=by rw [f.length_eq,G0];rfl
 obtain ⟨P,l,g⟩:=z0t gd G;rw [B] at l;cases l;have M:=dz_ok g.2.2.2.1 E (po.n63 rl u v).1;show PlOk ts rs.length (srtN (pl.1++[n])).length (srtN (pl.1++[n]),pl.2.set (ixT ts p.nm) (dz p.k p.vb p.dt A).1)/\(srtN (pl.1++[n])).length=pl.1.length + 1;refine ⟨⟨?_,λ x w=>?_,?_,.inr (A0 _)⟩,o⟩
 ·refine f.nodup_iff.mpr ?_;rw [F4];exact ⟨po.nd,by simp,λ a C b N e=>v (by rw [<-List.mem_singleton.mp N,<-e];exact C)⟩
 ·rcases List.mem_append.mp (f.mem_iff.mp w) with z|z
  ·exact po.lt x z
  ·rw [List.mem_singleton.mp z];exact u
 ·rw [o];have J:pl.2.length=ts.length:=z03 po.so;refine z1z (by rw [u9,J]) λ i t O j d=>?_;rw [List.getElem?_set] at d;by_cases z:ixT ts p.nm=i
  ·subst z;have D:=ixT_of ok g.2.2.1;rw [D] at j;cases j;rw [if_pos rfl,if_pos (List.getElem?_eq_some_iff.mp y).1] at d;cases d;exact M.1
  ·rw [if_neg z] at d;obtain ⟨Q,q,L⟩:=z0g po.so d;rw [j] at q;cases q;exact L.le (A3 _)
theorem zhi {c:Nat->Bool} {ts:List (Str×Str)} {rs:List Rc} {ps:List DD} {pl:Pl} {i:Nat} {s:Stp} (h:nexAt c ts rs ps pl i=some s):s.1=i/\c i=true:=by
 unfold nexAt at h;cases e:c i with
 | false=>rw [e] at h;cases h
 | true=>
  rw [if_pos e] at h;refine ⟨?_,rfl⟩;cases hr:rs[i]? with
  | none=>rw [hr] at h;cases h
  | some r=>
   cases hp:ps[i]? with
   | none=>rw [hr,hp] at h;cases h
   | some p=>
    rw [hr,hp] at h;have h:stp ts r p i pl=some s:=h;unfold stp at h;cases hs:pl.2[ixT ts p.nm]? with
    | none=>rw [hs] at h;cases h
    | some sv=>
     rw [hs] at h;dsimp only at h;split at h
     ·cases h;rfl
     ·cases h
theorem zce {m:Nat} {ts:List (Str×Str)} {rs:List Rc} {ps:List DD} {pl:Pl} (nd:pl.1.Nodup) (lt :∀x∈pl.1,x < rs.length):pl.1.length + (nexT (cP m rs pl.1) ts rs ps pl rs.length).length<=rs.length:=by
 have j :∀i,(((nexT (cP m rs pl.1) ts rs ps pl i).map (·.1)).Nodup/\∀x∈(nexT (cP m rs pl.1) ts rs ps pl i).map (·.1),x < i/\x∉pl.1):=λ i=>by
  induction i with
  | zero=>exact ⟨.nil,λ x c=>absurd c u0⟩
  | succ i ih=>
   rw [z40,E1];cases h:nexAt (cP m rs pl.1) ts rs ps pl i with
   | none=>rw [m8,u4,j2];exact ⟨ih.1,λ x c=>⟨Y1 (ih.2 x c).1,(ih.2 x c).2⟩⟩
   | some s=>
    obtain ⟨e,k⟩:=zhi h;rw [Option.toList_some,Y0,u4,e];refine ⟨?_,λ x c=>?_⟩
    ·rw [F4];refine ⟨ih.1,by simp,λ a d b f z=>?_⟩;have:=(ih.2 a d).1;rw [List.mem_singleton.mp f] at z;omega
    ·rcases List.mem_append.mp c with z|z
     ·exact ⟨Y1 (ih.2 x z).1,(ih.2 x z).2⟩
     ·rw [List.mem_singleton.mp z];exact ⟨B2 i,cP_no k⟩
 obtain ⟨l,g⟩:=j rs.length;have:=z5c rs.length (pl.1++(nexT (cP m rs pl.1) ts rs ps pl rs.length).map (·.1)) (by
  rw [F4];exact ⟨nd,l,λ a d b f e=>(g b f).2 (e ▸ d)⟩) λ x c=>by
   rcases List.mem_append.mp c with z|z
   ·exact lt x z
   ·exact (g x z).1
 rwa [G0,F0] at this
theorem z5d {α:Type} {f:α->PyData} :∀{xs:List α},(∀x∈xs,keyD (f x)=true)->keyDs (xs.map f)=true
 | [],_=>rfl
 | x :: xs,h=>by show (keyD (f x) && keyDs (xs.map f))=true;rw [h x j1,z5d λ y a=>h y (Z0 _ a)];rfl
theorem sv_key (s:Sv):keyD (svD s)=true:=by
 cases s with
 | num i=>rfl
 | row ns=>exact z5d λ _ _=>rfl
theorem pl_key (pl:Pl):keyD (plD pl)=true:=by have a:keyDs (pl.1.map λ (n:Nat)=>B3 (n:Int))=true:=z5d λ _ _=>rfl;have b:keyDs (pl.2.map svD)=true:=z5d λ s _=>sv_key s;show (keyDs _ && (keyDs _ && true))=true;rw [a,b];rfl
theorem pl_dep (pl:Pl):(plD pl).depth<=7:=C0 (ziw pl).2 (by decide)
theorem zea (ts:List (Str×Str)) (N:Nat):PlOk ts N 0 ([],ts.map λ t=>zeroK t.2):=⟨.nil,λ _ h=>absurd h u0,by refine z1z (by rw [F0]) λ i t s b a=>?_;rw [A1,b] at a;cases a;exact zfr _,.inl (Z1 _)⟩
noncomputable def wkN:Nat->Nat
 | 0=>1
 | n + 1=>1 + (n + 1) * (wkN n + 1)
noncomputable def wkP (N:Nat) (ws:List Pl):Nat:=(ws.map λ pl=>wkN (N - pl.1.length)).sum
theorem z9x {N:Nat} {xs ys:List Pl}:wkP N (xs++ys)=wkP N xs + wkP N ys:=by unfold wkP;rw [E1,List.sum_append]
theorem z7f {N:Nat} {x:Pl}:wkP N [x]=wkN (N - x.1.length):=by unfold wkP;simp
theorem zjw :∀{a b:Sv},svD a=svD b->a=b
 | .num i,.num j,h=>by injection h with h;rw [h]
 | .num _,.row _,h=>by cases h
 | .row _,.num _,h=>by cases h
 | .row xs,.row c,h=>by
  injection h with h;have:xs=c:=by
   have inj :∀{xs c:List Int},xs.map B3=c.map B3->xs=c:=λ {xs}=>by
    induction xs with
    | nil=>intro c h;cases c with|nil=>rfl|cons y r=>cases h
    | cons x r ih=>
     intro c h;cases c with
     | nil=>cases h
     | cons y s=>rw [Y0,Y0] at h;injection h with h1 h2;injection h1 with h1;rw [h1,ih h2]
   exact inj h
  rw [this]
theorem zeu {α β:Type} {f:α->β} (hf :∀a b,f a=f b->a=b) :∀{xs ys:List α},xs.map f=ys.map f->xs=ys
 | [],[],_=>rfl
 | [],_ :: _,h=>by cases h
 | _ :: _,[],h=>by cases h
 | x :: xs,y :: ys,h=>by rw [Y0,Y0] at h;injection h with h1 h2;rw [hf _ _ h1,zeu hf h2]
theorem zfb {a b:Pl} (h:plD a=plD b):a=b:=by unfold plD at h;injection h with h;injection h with h1 h2;injection h2 with h2 _;injection h1 with h1;injection h2 with h2;have c:a.1=b.1:=zeu (λ x y z=>by injection z with z;omega) h1;have d:a.2=b.2:=zeu (λ x y z=>zjw z) h2;exact j26 c d
noncomputable abbrev Oa:=Nat×V
noncomputable abbrev nxT (m:Nat) (ts:List (Str×Str)) (rs:List Rc) (ps:List DD) (pl:Pl):List Stp:=nexT (cP m rs pl.1) ts rs ps pl rs.length
inductive Wk (m:Nat) (ts:List (Str×Str)) (rs:List Rc) (ps:List DD):List Oa->Pl->Prop
 | nil:Wk m ts rs ps [] ([],ts.map λ t=>zeroK t.2)
 | snoc {o:List Oa} {pl:Pl} {s:Stp}:Wk m ts rs ps o pl->s∈nxT m ts rs ps pl->Wk m ts rs ps (o++[(s.1,s.2.1)]) s.2.2
def FullP (rs:List Rc) (pl:Pl):Prop:=∀n r,rs[n]? = some r->r.e.isSome=true->n∈pl.1
theorem z60 {m:Nat} {ts:List (Str×Str)} {rs:List Rc} {ps:List DD} {G:Pl->Prop} (h0:G ([],ts.map λ t=>zeroK t.2)) (hs :∀pl,G pl->∀s∈nxT m ts rs ps pl,G s.2.2) :∀{o:List Oa} {pl:Pl},Wk m ts rs ps o pl->G pl
 | _,_,.nil=>h0
 | _,_,.snoc w h=>hs _ (z60 h0 hs w) _ h
theorem tn_x {D:Ends} {σ:L2.St} {H:Hp} (h:D.nx σ H):tNext D σ H:=h
theorem z7m {c:TT} {tb:TS} {D:Ends} {σ:L2.St} {H:Hp} (W B:Nat->L2.St->Hp->Prop) (m0:Nat) (w0:W m0 σ H)
  (body :∀m σ H1,B m σ H1->tb { D with nx:=λ σ' H'=>∃m',m' < m/\W m' σ' H',ct:=λ σ' H'=>∃m',m' < m/\W m' σ' H',bk:=D.nx } σ H1)
  (cond :∀m σ H,W m σ H->(∀H1,B m σ H1->∃N:L2.St->Hp->Prop,(∀σ' H',N σ' H'->∃m',m' < m/\W m' σ' H')/\tb { D with nx:=N,ct:=N,bk:=D.nx } σ H1)->c σ H λ b H1=>if b=true then∃N:L2.St->Hp->Prop,(∀σ' H',N σ' H'->∃m',m' < m/\W m' σ' H')/\tb { D with nx:=N,ct:=N,bk:=D.nx } σ H1 else D.nx σ H1):tWhile c tb D σ H:=
 ⟨W,⟨m0,w0⟩,λ m σ H h=>cond m σ H h λ H1 b=>⟨_,λ _ _ z=>z,body m σ H1 b⟩⟩
def KeyI (K:b0) (H:Hp) (G:Pl->Prop) (ks:List (PyData×Addr)):Prop:=∀k∈ks,∃pl,k.1=plD pl/\PlZ K H k.2 pl/\G pl
theorem KeyI.same {K:b0} {H H':Hp} {G:Pl->Prop} {ks:List (PyData×Addr)} (s:Same H H') (h:KeyI K H G ks):KeyI K H' G ks:=λ k a=>(h k a).elim λ b z=>⟨b,z.1,z.2.1.tups (.of s),z.2.2⟩
theorem KeyI.put {K:b0} {H:Hp} {G:Pl->Prop} {ks:List (PyData×Addr)} {pl:Pl} {b:Addr} (h:KeyI K H G ks) (z:PlZ K H b pl) (g:G pl):KeyI K H G (putN ks (plD pl) b):=λ k a=>by
 unfold L2.putN at a;split at a
 ·exact h k a
 ·rcases List.mem_append.mp a with y|y
  ·exact h k y
  ·rw [List.mem_singleton.mp y];exact ⟨pl,rfl,z,g⟩
theorem KeyI.at_ {K:b0} {H:Hp} {G:Pl->Prop} {ks:List (PyData×Addr)} {a:Addr} (r:Rd H a (NsO a ks)) (h:KeyI K H G ks):NsAt K H a ks:=⟨r,λ k c=>by obtain ⟨b,e,z,_⟩:=h k c;rw [e];exact ⟨pl_key b,pl_dep b,plz_pd z⟩⟩
theorem zal {c:TT} {tb rest:TS} {D:Ends} {σ:L2.St} {H:Hp} (h:tWhile c tb { D with nx:=rest D } σ H):tSeq (tWhile c tb) rest D σ H:=h
noncomputable def hid2 (a b:Addr) (H:Hp):Hp:=hide a (hide b H)
theorem z5e {a b:Addr} {H H':Hp} (s:Same H H'):Same (hid2 a b H) (hid2 a b H'):=z80 (z80 s)
theorem hid2_same {a b:Addr} {H:Hp}:Same (hid2 a b H) H:=hide_same.trans hide_same
theorem hid2_b {a b:Addr} {H:Hp} {o:HO}:hid2 a b (upd H b o)=hid2 a b H:=by unfold hid2;rw [zex]
theorem hid2_a {a b:Addr} {H:Hp} {o:HO}:hid2 a b (upd H a o)=hid2 a b H:=by
 funext p;unfold hid2 hide;by_cases z:p=a
 ·rw [if_pos z,if_pos z]
 ·rw [if_neg z,if_neg z,upd_ne z]
theorem z3f {a b p:Addr} {H:Hp} {o:HO} (n1:p≠a) (n2:p≠b) (e:H p=some o):hid2 a b H p=some o:=z5f n1 (z5f n2 e)
theorem zeg {a b:Addr} {H H':Hp} (n1:H a=none) (n2:H b=none) (s:Same H H'):Same H (hid2 a b H'):=λ p o e=>z3f (λ z=>by rw [z,n1] at e;cases e) (λ z=>by rw [z,n2] at e;cases e) (s _ _ e)
theorem zbu {K:b0} {a b:Addr} {H:Hp} {f:Heap->Prop} {xs:List V} (ea:H a=some (.ext f)) (eb:H b=some (.lst xs)):Tups K H (hid2 a b H):=λ p xs h=>by
 rcases h with (h|⟨ob,h⟩)|h
 ·exact .inl (.inl (z3f (λ z=>by rw [z,ea] at h;cases h) (λ z=>by rw [z,eb] at h;cases h) h))
 ·exact .inl (.inr ⟨ob,z3f (λ z=>by rw [z,ea] at h;cases h) (λ z=>by rw [z,eb] at h;cases h) h⟩)
 ·exact .inr h
theorem wk_pos :∀n,1<=wkN n
 | 0=>A0 _
 | n + 1=>by unfold wkN;omega
theorem zfu {N:Nat} :∀ws:List Pl,ws.length<=wkP N ws
 | []=>Z1 _
 | w :: ws=>by
  have c:=zfu (N:=N) ws;have b:wkP N (w :: ws)=wkN (N - w.1.length) + wkP N ws:=by
   have:=z9x (N:=N) (xs:=[w]) (ys:=ws)
   rwa [z7f] at this
  have a:=wk_pos (N - w.1.length);rw [W0];omega
theorem zia :∀{n j:Nat},j<=n->j * wkN (n - 1) + j < wkN n
 | 0,j,h=>by rw [Nat.le_zero.mp h];decide
 | n + 1,j,h=>by have:=T5 (wkN n + 1) h;have e:j * (wkN n + 1)=j * wkN n + j:=Nat.mul_succ _ _;show j * wkN n + j < 1 + (n + 1) * (wkN n + 1);omega
theorem zin {α β:Type} {R:α->β->Prop} {xs:List α} {ys:List β} (h:All2 R xs ys):All2 R xs.reverse ys.reverse:=by
 induction h with
 | nil=>exact .nil
 | cons a r ih=>rw [List.reverse_cons,List.reverse_cons];exact z0v ih a
theorem KeyI.mono {K:b0} {H:Hp} {G G':Pl->Prop} {ks:List (PyData×Addr)} (g :∀pl,G pl->G' pl) (h:KeyI K H G ks):KeyI K H G' ks:=λ k a=>(h k a).elim λ pl z=>⟨pl,z.1,z.2.1,g pl z.2.2⟩
theorem zcq {ks:List (PyData×Addr)} {d:PyData} {b:Addr}:d∈(putN ks d b).map (·.1):=by
 unfold L2.putN;split
 ·assumption
 ·rw [E1];exact List.mem_append.mpr (.inr (List.mem_singleton.mpr rfl))
theorem z82 {ks:List (PyData×Addr)} {d e:PyData} {b:Addr} (h:e∈ks.map (·.1)):e∈(putN ks d b).map (·.1):=by
 unfold L2.putN;split
 ·exact h
 ·rw [E1];exact List.mem_append.mpr (.inl h)
def z2q (K:b0):Sp:=λ vs H Q _=>∃(b pp:Addr) (m:Nat) (rs:List Rc) (ts:List (Str×Str)) (ps:List DD) (pl:Pl),vs=[.ref b,.ref pp]/\BoAt K H m rs ts ps b/\rs.length<=63/\PlZ K H pp pl/\∀b H',Same H H'->(b=true↔FullP rs pl)->Q (.bl b) H'
theorem z68 (T:TX (kx w) mg) (c0:Ca P w mg base "holds_all" ["done","numbers"] 1 (z6f (kx w))):Fo P w mg base CX0 2 283 y04 ["self","place"] (z2q (kx w)):=by
 refine (z3h w.params).ok z5h (λ f H Q E h=>?_) (λ M A L s H f Q E B h=>?_)
 ·obtain ⟨b,i,m,u,D,o,e,rfl,_⟩:=h;rfl
 ·obtain ⟨b,i,m,u,D,o,e,rfl,⟨p,fs,z,F⟩,K,⟨g,N,f,C,J,O,sz⟩,q⟩:=h;refine ⟨_,(z04 (ps_ret (pe_cal c0 (B.mono (by decide)) rfl (z00 (pe_ix ix_seq (pv 1) pe_int (λ _ _=>rfl)) (z00 (pe_fld (pv 0) rfl) pa_nil))))),?_⟩;obtain ⟨le,k,t,x,c⟩:=F.ended;refine ⟨_,rfl,.inr (.inl ⟨i,_,0,.ref g,rfl,rfl,C,z05 (j:=0) rfl,?_⟩)⟩;refine ⟨_,rfl,b,_,p,fs,_,rfl,z,z1h _,z4a _,t,?_⟩;refine ⟨g,le,e.1,k,rfl,J,x,by have:=c.1;omega,λ I l v G=>q I l v (G.trans ⟨λ h n r d a=>h n ((c.2 n).mpr ⟨r,d,a⟩),λ h n y=>?_⟩)⟩;obtain ⟨r,d,a⟩:=(c.2 n).mp y;exact h n r d a
def TlP (K:b0) (H:Hp) (t:Addr) (ts:List (Str×Str)) (es:List Ev) (ps:List DD):Prop:=TaleAt K H t ts es/\ThW ts/\es.length<=63/\EWf [] es/\All2 (RcGd K H ts) (dAll 0 [] es) ps/\(dAll 0 [] es).length<=5
theorem TlP.same {K:b0} {H H':Hp} {t:Addr} {ts:List (Str×Str)} {es:List Ev} {ps:List DD} (s:Same H H') (h:TlP K H t ts es ps):TlP K H' t ts es ps:=⟨h.1.tt (.of s),h.2.1,h.2.2.1,h.2.2.2.1,z01 (λ _ _ z=>RcGd.tt (.of s) z) h.2.2.2.2.1,h.2.2.2.2.2⟩
theorem zj8 {i:Nat} {rest:TS} {D:Ends} {σ:L2.St} {H:Hp} {tA:TA} {t:Addr} {ts:List (Str×Str)} {es:List Ev} {ps:List DD} {m:Nat} (tp:TlP (kx w) H t ts es ps) (ha :∀R:List V->Hp->Prop,R [.ref t,.str (z21 m)] H->tA σ H R)
  (q :∀x dx fs H1,Same H H1->(dAll 0 [] es).length<=5->ThW ts->All2 (RcGd (kx w) H1 ts) (dAll 0 [] es) ps->H1 x=some (.ins 293 dx fs)->BoF (kx w) H1 m (dAll 0 [] es) ts ps fs->rest D (σ.set i (some (.ref x))) H1):tSeq (tAsg (tMake 293 (z1a (kx w)) [] E0 tA) (gName i)) rest D σ H:=by
 obtain ⟨k,ok,l,h,c,o⟩:=tp;refine ha _ λ x dx a e g=>?_;have p:Same H (upd (upd H dx (.own x)) x (.ins 293 dx [])):=(Same.upd e).trans (Same.upd (by rw [upd_ne g.symm];exact a));have b:Tt (kx w) H (upd (upd H dx (.own x)) x (.ins 293 dx [])):=.of p;refine ⟨x,dx,t,ts,es,ps,m,rfl,upd_same,k.tt b,ok,l,h,z01 (λ _ _ z=>RcGd.tt b z) c,λ fs H1 n f j=>⟨rfl,?_⟩⟩;have d:Same H H1:=zck a e n;exact q x dx fs H1 d o ok (z01 (λ _ _ z=>RcGd.tt (.of d) z) c) f j
def OaAt (H:Hp) (o:Oa) (y:V):Prop:=∃p,y=.ref p/\H p=some (.tup [.int (o.1:Nat),o.2])
theorem OaAt.same {H H':Hp} {o:Oa} {y:V} (s:Same H H') (h:OaAt H o y):OaAt H' o y:=h.elim λ p z=>⟨p,z.1,s _ _ z.2⟩
def WtAt (K:b0) (H:Hp) (q:List Oa×Pl) (y:V):Prop:=∃p l p2 xs,y=.ref p/\H p=some (.tup [.ref l,.ref p2])/\H l=some (.lst xs)/\All2 (OaAt H) q.1 xs/\PlZ K H p2 q.2
theorem WtAt.same {K:b0} {H H':Hp} {q:List Oa×Pl} {y:V} (s:Same H H') (h:WtAt K H q y):WtAt K H' q y:=by obtain ⟨p,l,g,a,f,c,d,b,e⟩:=h;exact ⟨p,l,g,a,f,s _ _ c,s _ _ d,z01 (λ _ _ z=>z.same s) b,e.tups (.of s)⟩
theorem zca {α β:Type} {R:α->β->Prop} {xs:List α} {ys:List β} {y:β} (h:All2 R xs (ys++[y])) :∃xr x,xs=xr++[x]/\All2 R xr ys/\R x y:=by
 induction ys generalizing xs with
 | nil=>
  cases h with
  | cons a r=>cases r;exact ⟨[],_,rfl,.nil,a⟩
 | cons z ys ih=>
  cases h with
  | cons a r=>obtain ⟨xr,x,rfl,c,b⟩:=ih r;exact ⟨_ :: xr,x,rfl,.cons a c,b⟩
theorem wkN_5 {n:Nat} (h:n<=5):wkN n<=651:=(by decide :∀n,n < 6->wkN n<=651) n (by omega)
def WqOk (m:Nat) (ts:List (Str×Str)) (rs:List Rc) (ps:List DD) (q:List Oa×Pl):Prop:=PlOk ts rs.length q.2.1.length q.2/\Wk m ts rs ps q.1 q.2/\q.1.length=q.2.1.length
structure Lk (m:Nat) (ts:List (Str×Str)) (rs:List Rc) (ps:List DD) (vis:List Pl) (ds:List PyData):Prop where
 c :∀pl∈vis,¬ FullP rs pl/\∀s∈nxT m ts rs ps pl,plD s.2.2∈ds
def zbr (K:b0):Sp:=λ vs H Q _=>∃(t:Addr) (ts:List (Str×Str)) (es:List Ev) (ps:List DD) (m:Nat),vs=[.ref t,.str (z21 m)]/\TlP K H t ts es ps/\
 (∀H',Same H H'->(∀o pl,Wk m ts (dAll 0 [] es) ps o pl->¬ FullP (dAll 0 [] es) pl)->Q .non H')/\∀l xs o pl H',Same H H'->H' l=some (.lst xs)->All2 (OaAt H') o xs->Wk m ts (dAll 0 [] es) ps o pl->FullP (dAll 0 [] es) pl->Q (.ref l) H'
theorem zh6 (T:TX (kx w) mg) (c0:Fo P w mg base (CXE P w base) 5 269 y03 ["self","tale","strictness"] (z1a (kx w))) (c1:Fo P w mg base CX0 2 283 y04 ["self","place"] (z2q (kx w))) (c2:Fo P w mg base CX0 7 276 y02 ["self","place"] (z1n (kx w))):Fo P w mg base CX0 8 326 y29 ["tale","strictness"] (zbr (kx w)):=by
 refine (zb5 w.params).ok sc_judged (λ vs H Q E h=>?_) (λ j0 A i8 s H vs Q E hr h=>?_)
 ·obtain ⟨t,ts,es,ps,m,rfl,_⟩:=h;rfl
 ·obtain ⟨t,ts,es,ps,m,rfl,tp,qn,q⟩:=h;refine ⟨_,(z02 (ps_set (i:=2) sc_judged.nd rfl (V0 rfl) (zi1 (ziu _) c0 (hr.mono (by decide)) rfl (T.of (zk4 _)) (z61 _) .nil passN (z00 (pv 0) (z00 (pv 1) pa_nil))))
   (z02 (ps_set (i:=3) sc_judged.nd rfl (V0 rfl) zjk)
   (z02 (ps_set (i:=4) sc_judged.nd rfl (V0 rfl) (pe_lst (z00 (pe_tup (z00 (pe_lst pa_nil) (z00 (pe_fld (pv 2) rfl) pa_nil))) pa_nil)))
   (z02 (zb0 U1 (z08 op_gt (z0c z12 rfl (T.no (n_len _)) M3 (z00 (pv 4) pa_nil)) pe_int (nomark _))
   (z02 (ps_set (i:=5) sc_judged.nd rfl (V0 rfl) (zib (pv 4)))
   (z02 (ps_if (pt_val (zfa (pv 2) (z1h _) (z5g _) c1 (hr.mono (by decide)) (z6o _) .nil pass0 (z00 (pe_ix ix_seq (pv 5) pe_int (λ _ _=>rfl)) pa_nil)) (λ _=>rfl))
   (z04 (ps_ret (pe_ix ix_seq (pv 5) pe_int (λ _ _=>rfl))))
   z0d)
   (z04 (ps_for U1 rfl (zjo rfl (T.no (zew _)) (zfa (pv 2) (z1h _) (z43 _) c2 (hr.mono (by decide)) (z52 _) .nil pass0 (z00 (pe_ix ix_seq (pv 5) pe_int (λ _ _=>rfl)) pa_nil))) (pg_tup rfl (z0a (z0h (i:=6) sc_judged.nd rfl (V0 rfl)) (z0a (z0h (i:=7) sc_judged.nd rfl (V0 rfl)) (z0a (z0h (i:=8) sc_judged.nd rfl (V0 rfl)) z10))))
   (z04 (ps_if (z08 (zcr hr) (pv 8) (pv 3) (by with_unfolding_all rfl))
   (z02 (zi6 hr (pv 3) (pv 8) pe_bl rfl)
   (z04 (z36 (z17 (pv 4) (z00 (pe_tup (z00 (pe_op opAdd (pe_ix ix_seq (pv 5) pe_int (λ _ _=>rfl)) (pe_lst (z00 (pe_tup (z00 (pv 6) (z00 (pv 7) pa_nil))) pa_nil))) (z00 (pv 8) pa_nil))) pa_nil)))))
   z0d)))))))
   (z04 (ps_ret pe_non)))))),?_⟩
  refine zj8 tp (λ R h=>⟨_,rfl,_,rfl,h⟩) λ x dx fs M s1 rl ok c7 e1 bf=>?_;have bo:BoAt (kx w) M m (dAll 0 [] es) ts ps x:=⟨dx,fs,e1,bf⟩
  obtain ⟨p0,h0,f8⟩:=bf.first;generalize dAll 0 [] es=rs at rl c7 bo bf qn q;refine z0s ?_;intro f d0;refine g_name ?_;have s2:=Same.upd (o:=NsO f []) d0;have e2:upd M f (NsO f []) f=some (NsO f []):=upd_same;have f2:Same M (hide f (upd M f (NsO f []))):=λ p o e=>z5f (λ z=>by rw [z,d0] at e;cases e) (s2 _ _ e);generalize upd M f (NsO f [])=H2 at s2 e2 f2⊢;refine z0s ?_;refine ⟨w_0,λ K a6=>⟨_,rfl,x,_,dx,fs,_,rfl,(s2.trans (Same.upd a6)) _ _ e1,z1h _,z4c _,h0,w_2,λ I b0=>⟨w_1,λ n U=>?_⟩⟩⟩;refine g_name ?_;have f1:M n=none:=((s2.trans (Same.upd a6)).trans (Same.upd b0)).free U;have D:=Same.upd (o:=.lst []) a6;have q1:=Same.upd (o:=.tup [.ref K,.ref p0]) b0;have q2:=Same.upd (o:=.lst [.ref I]) U;have h4:K≠f:=λ z=>by rw [z,e2] at a6;cases a6
  have f7:I≠f:=λ z=>by rw [z,D _ _ e2] at b0;cases b0
  have d1:f≠n:=λ z=>by rw [<-z,q1 _ _ (D _ _ e2)] at U;cases U
  have h2:K≠n:=λ z=>by rw [<-z,q1 _ _ upd_same] at U;cases U
  have g8:I≠n:=λ z=>by rw [<-z,upd_same] at U;cases U
  have g0:=q2 _ _ (q1 _ _ (upd_same (H:=H2) (a:=K) (o:=.lst [])));have g1:=q2 _ _ (upd_same (H:=upd H2 K (.lst [])) (a:=I) (o:=.tup [.ref K,.ref p0]));have g2:=upd_same (H:=upd (upd H2 K (.lst [])) I (.tup [.ref K,.ref p0])) (a:=n) (o:=.lst [.ref I]);have g3:=q2 _ _ (q1 _ _ (D _ _ e2));have s3:=zeg d0 f1 (s2.trans ((D.trans q1).trans q2));generalize upd (upd (upd H2 K (.lst [])) I (.tup [.ref K,.ref p0])) n (.lst [.ref I])=H3 at g0 g1 g2 g3 s3⊢;refine zal (z7m (λ k σ C=>∃ks zs ws vis x5 x6 x7 x8,k=wkP rs.length (ws.map (·.2))/\Same M (hid2 f n C)/\C f=some (NsO f ks)/\C n=some (.lst zs)/\KeyI (kx w) (hid2 f n C) (λ u=>u∈vis\/u∈ws.map (·.2)) ks/\All2 (WtAt (kx w) (hid2 f n C)) ws zs/\(∀q∈ws,WqOk m ts rs ps q)/\Lk m ts rs ps vis (ks.map (·.1))/\(([],ts.map λ t=>zeroK t.2)∈vis\/([],ts.map λ t=>zeroK t.2)∈ws.map (·.2))/\ks.length + wkP rs.length (ws.map (·.2))<=651/\σ=[some (.ref t),some (.str (z21 m)),some (.ref x),some (.ref f),some (.ref n),x5,x6,x7,x8])
   (λ k σ C=>∃ks zs y ws D vis x5 x6 x7 x8,k=wkP rs.length ((ws++[D]).map (·.2))/\Same M (hid2 f n C)/\C f=some (NsO f ks)/\C n=some (.lst (zs++[y]))/\KeyI (kx w) (hid2 f n C) (λ u=>u∈vis\/u∈(ws++[D]).map (·.2)) ks/\All2 (WtAt (kx w) (hid2 f n C)) ws zs/\WtAt (kx w) (hid2 f n C) D y/\(∀q∈ws++[D],WqOk m ts rs ps q)/\Lk m ts rs ps vis (ks.map (·.1))/\(([],ts.map λ t=>zeroK t.2)∈vis\/([],ts.map λ t=>zeroK t.2)∈(ws++[D]).map (·.2))/\ks.length + wkP rs.length ((ws++[D]).map (·.2))<=651/\σ=[some (.ref t),some (.str (z21 m)),some (.ref x),some (.ref f),some (.ref n),x5,x6,x7,x8])
   (wkP rs.length [([],ts.map λ t=>zeroK t.2)]) ⟨[],[.ref I],[([],([],ts.map λ t=>zeroK t.2))],[],_,_,_,_,rfl,s3,g3,g2,λ k hk=>absurd hk u0,.cons ⟨I,K,p0,[],rfl,z3f f7 g8 g1,z3f h4 h2 g0,.nil,f8.tups (.of s3)⟩ .nil,λ u hp=>by rw [List.mem_singleton.mp hp];exact ⟨zea ts _,.nil,rfl⟩,⟨λ _ h=>absurd h u0⟩,.inr (List.mem_singleton.mpr rfl),by show 0 + wkP rs.length [([],ts.map λ t=>zeroK t.2)]<=651;rw [z7f,G7];exact wkN_5 (C0 (Nat.sub_le _ _) rl),rfl⟩ ?_ ?_)
  ·rintro k σ H4 ⟨ks,zs,y,ws,⟨o,u⟩,vis,x5,x6,x7,x8,rfl,s4,es4,ew4,ki,aw,⟨p,l,p2,xs,rfl,ep,el,ax,pz⟩,po,lk,fv,kw,rfl⟩;obtain ⟨Y,wk,ol⟩:=po _ (List.mem_append.mpr (.inr (List.mem_singleton.mpr rfl)));change PlOk ts rs.length u.1.length u at Y;change o.length=u.1.length at ol;have po :∀q∈ws,WqOk m ts rs ps q:=λ q hq=>po q (List.mem_append.mpr (.inl hq));have mm :∀{a:Pl},a∈vis\/a∈(ws++[(o,u)]).map (·.2)->a∈u :: vis\/a∈ws.map (·.2):=λ {a} h=>by
    rcases h with h|h
    ·exact .inl (Z0 _ h)
    ·rw [E1] at h;rcases List.mem_append.mp h with h|h
     ·exact .inr h
     ·rw [List.mem_singleton.mp h];exact .inl j1
   refine z0s ?_;refine ⟨_,rfl,.inl ⟨rfl,_,SqL.of ew4⟩,n,zs++[.ref p],.ref p,rfl,rfl,ew4,by simp,?_⟩;refine g_name ?_;rw [j29];have h5:hid2 f n (upd H4 n (.lst zs))=hid2 f n H4:=hid2_b;have d2:upd H4 n (.lst zs) f=some (NsO f ks):=by rw [upd_ne d1];exact es4
   have c8:upd H4 n (.lst zs) n=some (.lst zs):=upd_same;generalize upd H4 n (.lst zs)=H5 at h5 d2 c8⊢;rw [<-h5] at s4 ki aw ep el pz ax;have s5:Same M H5:=s4.trans hid2_same;have b4 :∀{C:Hp} {R:VK} {x6 x7 x8:Option V} {j:Nat} {v:V},Same (hid2 f n H5) C->([.ref l,.ref p2]:List V)[j]? = some v->R v C->tOp (rIx (kx w)) (tVar 5) (tC (.int j)) [some (.ref t),some (.str (z21 m)),some (.ref x),some (.ref f),some (.ref n),some (.ref p),x6,x7,x8] C R:=λ s' hj h=>⟨_,rfl,.inr (.inl ⟨p,_,_,_,rfl,rfl,SqT.of (s' _ _ ep),z05 hj,h⟩)⟩
   refine sq_if ?_;refine ⟨_,rfl,x,dx,fs,rfl,s5 _ _ e1,bf.nm _ (by simp),b4 (j:=1) hid2_same rfl ⟨x,p2,m,rs,ts,ps,u,rfl,bo.same s5,by omega,pz.tups (.of hid2_same),λ b6 H6 W d5=>⟨_,rfl,?_⟩⟩⟩;have a8:Same (hid2 f n H5) H6:=hid2_same.trans W;refine ite2 (λ hb=>?_) λ hb=>?_
   ·exact b4 (j:=0) a8 rfl (q l xs o u _ (s1.trans (s5.trans W)) (a8 _ _ el) (z01 (λ _ _ z=>z.same a8) ax) wk (d5.mp hb))
   have nf:¬ FullP rs u:=λ z=>hb (d5.mpr z);refine tn_x (t_nx ?_);have h8:=bo.same (s5.trans W);have g5:=z01 (λ _ _ z=>RcGd.tt (.of (s5.trans W)) z) c7;refine ⟨_,rfl,x,dx,fs,rfl,(s5.trans W) _ _ e1,bf.nm _ (by simp),b4 (j:=1) a8 rfl ⟨x,p2,m,_,rs,ts,ps,u,rfl,h8,g5,ok,pz.tups (.of a8),Y,by omega,λ l7 y7 H7 s7 b2 e4 c5=>⟨l7,y7,rfl,e4,?_⟩⟩⟩;have d3:=W.trans s7;have e5:=d3 _ _ d2;have e0:=d3 _ _ c8;have b3:Same (hid2 f n H5) (hid2 f n H7):=z5e d3;have i1:l7≠f:=λ z=>by rw [z,W _ _ d2] at b2;cases b2
   have g9:l7≠n:=λ z=>by rw [z,W _ _ c8] at b2;cases b2
   have g4:=zin (z01 (λ _ _ z=>StpZ.tups (zbu e5 e0) z) c5);have nx:=zid c7 ok Y (by omega) (m:=m);have j2:=zce (m:=m) (ts:=ts) (ps:=ps) Y.nd Y.lt;have i3:y7.length<=rs.length - u.1.length:=by rw [z03 c5];omega
   have c4:wkN (rs.length - u.1.length - 1)<=651:=wkN_5 (by omega);have i4:wkP rs.length ((ws++[(o,u)]).map (·.2))=wkP rs.length (ws.map (·.2)) + wkN (rs.length - u.1.length):=by rw [E1,z9x];congr 1
   refine zkl (a:=l7) (xs:=y7) (λ j σ C=>∃ks' zs' ws' jj,jj<=j/\Same (hid2 f n H7) (hid2 f n C)/\C f=some (NsO f ks')/\C n=some (.lst zs')/\KeyI (kx w) (hid2 f n C) (λ a=>a∈u :: vis\/a∈ws'.map (·.2)) ks'/\All2 (WtAt (kx w) (hid2 f n C)) ws' zs'/\(∀q∈ws',WqOk m ts rs ps q)/\(∀d∈ks.map (·.1),d∈ks'.map (·.1))/\(∀s∈(nxT m ts rs ps u).reverse.take j,plD s.2.2∈ks'.map (·.1))/\(([],ts.map λ t=>zeroK t.2)∈u :: vis\/([],ts.map λ t=>zeroK t.2)∈ws'.map (·.2))/\ks'.length<=ks.length + jj/\wkP rs.length (ws'.map (·.2))=wkP rs.length (ws.map (·.2)) + jj * wkN (rs.length - u.1.length - 1)/\∃x6 x7 x8,σ=[some (.ref t),some (.str (z21 m)),some (.ref x),some (.ref f),some (.ref n),some (.ref p),x6,x7,x8])
    ⟨ks,zs,ws,0,A0 _,Same.refl _,e5,e0,(ki.same b3).mono λ a h=>mm h,z01 (λ _ _ z=>z.same b3) aw,po,λ _ h=>h,λ _ h=>absurd h (by rw [U9];exact u0),mm fv,A0 _,by rw [Nat.zero_mul];rfl,_,_,_,rfl⟩ (λ j σ C h=>?_) ?_ ?_
   ·obtain ⟨_,_,_,_,_,h,_⟩:=h;exact hid2_same _ _ (h _ _ (z3f i1 g9 e4))
   ·rintro j y σ X hy ⟨ks',zs',ws',jj,lj,s8,es8,ew8,ki8,aw8,po8,ko8,pr8,fv8,kl8,wk8,x6,x7,x8,rfl⟩;have jl:j < y7.length:=by have:=(List.getElem?_eq_some_iff.mp hy).1;rwa [List.length_reverse] at this
    obtain ⟨B,e3,b9,J,rfl,f5,g6⟩:=z0g g4 hy;have d4:B∈nxT m ts rs ps u:=List.mem_reverse.mp (Q0 e3);have c3:=nx B d4;have tk :∀s∈(nxT m ts rs ps u).reverse.take (j + 1),s∈(nxT m ts rs ps u).reverse.take j\/s=B:=λ s F=>by
     rw [List.take_add_one,e3] at F;rcases List.mem_append.mp F with z|z
     ·exact .inl z
     ·exact .inr (List.mem_singleton.mp z)
    have f9:Same (hid2 f n H7) X:=s8.trans hid2_same;have b1:=g6.tups (.of s8);have i7:jj * wkN (rs.length - u.1.length - 1)<=5 * 651:=b8 (by omega) c4;have zl:zs'.length < 10000:=by have h1:=zfu (N:=rs.length) (ws'.map (·.2));rw [F0] at h1;rw [z03 aw8];omega
    refine ⟨b9,_,rfl,f9.seqT f5,rfl,_,_,rfl,_,_,rfl,_,_,rfl,rfl,?_⟩;have d6:=(ki8.same hid2_same).at_ (.inl es8);have d9:=plz_pd (b1.tups (.of hid2_same));refine ⟨_,rfl,_,rfl,f,J,ks',plD B.2.2,rfl,rfl,d6,pl_key _,pl_dep _,d9,_,rfl,?_⟩;refine ite2 (λ _=>?_) λ h6=>⟨ks',zs',ws',jj,by omega,s8,es8,ew8,ki8,aw8,po8,ko8,λ s F=>?_,fv8,kl8,wk8,_,_,_,rfl⟩
    rotate_left
    ·rcases tk s F with z|z
     ·exact pr8 s z
     ·rw [z];by_cases L:plD B.2.2∈ks'.map (·.1)
      ·exact L
      ·exact absurd (by rw [decide_eq_false L];rfl) h6
    refine ⟨_,rfl,_,rfl,f,J,ks',plD B.2.2,rfl,rfl,rfl,es8,d6,R1 kl8 (u1 (m:=1000) (by omega) (by decide)),pl_key _,pl_dep _,d9,t_nx ?_⟩;have h9:hid2 f n (upd X f (NsO f (putN ks' (plD B.2.2) J)))=hid2 f n X:=hid2_a;have a5:upd X f (NsO f (putN ks' (plD B.2.2) J)) f=some (NsO f (putN ks' (plD B.2.2) J)):=upd_same;have a0:upd X f (NsO f (putN ks' (plD B.2.2) J)) n=some (.lst zs'):=by rw [upd_ne d1.symm];exact ew8
    generalize upd X f (NsO f (putN ks' (plD B.2.2) J))=H9 at h9 a5 a0⊢;rw [<-h9] at s8 ki8 aw8 b1;have e7:Same (hid2 f n H5) (hid2 f n H9):=b3.trans s8;have e9:Same (hid2 f n H5) H9:=e7.trans hid2_same;have i6:=e9 _ _ el;refine ⟨_,rfl,.inl ⟨rfl,_,SqL.of a0⟩,b4 (j:=0) e9 rfl ?_⟩;refine ⟨_,rfl,_,rfl,w_2,λ S a7=>?_⟩;obtain ⟨Ha,va,i5,ea⟩:=new1 (.tup [.int (B.1:Nat),B.2.1]) a7;rw [<-va];refine ⟨w_1,λ f3 h7=>?_⟩;obtain ⟨c6,vb,d8,i2⟩:=new1 (.lst [.ref S]) h7;rw [<-vb];have a3:=i5.trans d8;have xl:xs.length<=5:=by rw [z03 ax,ol];have:=z5c _ _ Y.nd Y.lt;omega
    refine .inr (.inr (.inl ⟨l,f3,xs,[.ref S],rfl,rfl,a3 _ _ i6,i2,C0 (m:=100) (by show xs.length + 1<=100;omega) (by decide),λ O a9=>⟨_,rfl,w_2,λ Z a4=>?_⟩⟩));have b7:=Same.upd (o:=.lst (xs++[.ref S])) a9;have c9:=Same.upd (o:=.tup [.ref O,.ref J]) a4;have e8:=c9 _ _ (upd_same (H:=c6) (a:=O) (o:=.lst (xs++[.ref S])));have d7:=upd_same (H:=upd c6 O (.lst (xs++[.ref S]))) (a:=Z) (o:=.tup [.ref O,.ref J]);have i0:S≠f:=λ z=>by rw [z,a5] at a7;cases a7
    have h3:S≠n:=λ z=>by rw [z,a0] at a7;cases a7
    have f0:O≠f:=λ z=>by rw [z,a3 _ _ a5] at a9;cases a9
    have g7:O≠n:=λ z=>by rw [z,a3 _ _ a0] at a9;cases a9
    have f6:Z≠f:=λ z=>by rw [z,b7 _ _ (a3 _ _ a5)] at a4;cases a4
    have f4:Z≠n:=λ z=>by rw [z,b7 _ _ (a3 _ _ a0)] at a4;cases a4
    have e6:=c9 _ _ (b7 _ _ (d8 _ _ ea));have b5:=(a3.trans b7).trans c9;generalize upd (upd c6 O (.lst (xs++[.ref S]))) Z (.tup [.ref O,.ref J])=H13 at e6 e8 d7 b5⊢;have L:=z5e (a:=f) (b:=n) b5;refine ⟨n,zs',_,rfl,rfl,b5 _ _ a0,u1 zl (by decide),?_⟩;refine ⟨putN ks' (plD B.2.2) J,zs'++[.ref Z],ws'++[(o++[(B.1,B.2.1)],B.2.2)],jj + 1,by omega,?_,by rw [upd_ne d1];exact b5 _ _ a5,upd_same,?_,?_,λ q' hp=>?_,λ d hd=>z82 (ko8 d hd),λ s F=>?_,?_,C0 z7q (by omega),?_,_,_,_,rfl⟩
    ·rw [hid2_b];exact s8.trans L
    ·rw [hid2_b];refine ((ki8.same L).mono λ a h=>h.imp id λ z=>?_).put (b1.tups (.of L)) (.inr ?_)
     ·rw [E1];exact List.mem_append.mpr (.inr (List.mem_singleton.mpr rfl))
     ·rw [E1];exact List.mem_append.mpr (.inl z)
    ·rw [hid2_b];exact z0v (z01 (λ _ _ z=>z.same L) aw8) ⟨Z,O,J,_,rfl,z3f f6 f4 d7,z3f f0 g7 e8,z0v (z01 (λ _ _ z=>z.same (e7.trans L)) ax) ⟨S,rfl,z3f i0 h3 e6⟩,b1.tups (.of L)⟩
    ·rcases List.mem_append.mp hp with z|z
     ·exact po8 q' z
     ·rw [List.mem_singleton.mp z];exact ⟨c3.1,.snoc wk d4,by show (o++[(B.1,B.2.1)]).length=B.2.2.1.length;rw [G0,c3.2];show o.length + 1=_;rw [ol]⟩
    ·rcases tk s F with z|z
     ·exact z82 (pr8 s z)
     ·rw [z];exact zcq
    ·exact fv8.imp id λ z=>by rw [E1];exact List.mem_append.mpr (.inl z)
    ·rw [E1,z9x,wk8,Nat.succ_mul];have:wkP rs.length ([(o++[(B.1,B.2.1)],B.2.2)].map (·.2))=wkN (rs.length - u.1.length - 1):=by show wkP rs.length [B.2.2]=_;rw [z7f,c3.2,show rs.length - (u.1.length + 1)=rs.length - u.1.length - 1 by omega]
     omega
   ·rintro σ X ⟨ks',zs',ws',jj,lj,s8,es8,ew8,ki8,aw8,po8,ko8,pr8,fv8,kl8,wk8,x6,x7,x8,rfl⟩;have B:=zia (C0 lj i3);rw [show y7.length=(nxT m ts rs ps u).reverse.length by rw [List.length_reverse,z03 c5],K3] at pr8;refine ⟨wkP rs.length (ws'.map (·.2)),by rw [i4,wk8];omega,ks',zs',ws',u :: vis,_,_,_,_,rfl,(s4.trans b3).trans s8,es8,ew8,ki8,aw8,po8,⟨λ a ha=>?_⟩,fv8,by rw [wk8];omega,rfl⟩;rcases List.mem_cons.mp ha with z|z
    ·rw [z];exact ⟨nf,λ s F=>pr8 s (List.mem_reverse.mpr F)⟩
    ·exact ⟨(lk.c a z).1,λ s F=>ko8 _ ((lk.c a z).2 s F)⟩
  ·rintro k σ H4 ⟨ks,zs,ws,vis,x5,x6,x7,x8,rfl,s4,es4,ew4,ki,aw,po,lk,fv,kw,rfl⟩ body;refine ⟨_,rfl,.inl ⟨n,zs,rfl,.inl (SqL.of ew4),_,_,rfl,rfl,_,rfl,?_⟩⟩;refine ite2 (λ h=>?_) λ h=>?_
   ·have h:(0:Int) < (zs.length:Int):=of_decide_eq_true h;have hz:zs≠[]:=λ z=>by rw [z] at h;exact absurd h (by decide)
    have ez:=(B4 hz).symm;rw [ez] at aw ew4;obtain ⟨wr,D,rfl,I,a2⟩:=zca aw;exact body _ ⟨ks,_,_,wr,D,vis,x5,x6,x7,x8,rfl,s4,es4,ew4,ki,I,a2,po,lk,fv,kw,rfl⟩
   ·have zn:zs=[]:=by
     cases zs with
     | nil=>rfl
     | cons z r=>exact absurd (decide_eq_true (show (0:Int) < ((z :: r).length:Int) by rw [W0];omega)) h
    subst zn;cases aw;refine qn _ (s1.trans (s4.trans hid2_same)) λ o u wk=>(lk.c u ?_).1;refine z60 (G:=λ u=>u∈vis) (fv.resolve_right u0) (λ u hp s F=>?_) wk;obtain ⟨k,hk,e⟩:=List.mem_map.mp ((lk.c u hp).2 s F);obtain ⟨i9,e',_,g⟩:=ki k hk;rw [zfb (e.symm.trans e')];exact g.resolve_right u0
theorem t_and {t u:TT} {σ:L2.St} {H:Hp} {Q:Bool->Hp->Prop} (h:t σ H λ c H1=>if c=true then u σ H1 Q else Q false H1):tAnd t u σ H Q:=h
def TaP (K:b0) (H:Hp) (t:Addr) (es:List Ev):Prop:=∃ts,TaleAt K H t ts es/\es.length<=63/\EWf [] es
def ActAt (H:Hp) (r:Rc) (y:V):Prop:=∃p,y=.ref p/\H p=some (.lst [.int r.h,r.n,r.v,r.x,r.a,.int r.b,endV r.e])
theorem ActAt.same {H H':Hp} {r:Rc} {y:V} (s:Same H H') (h:ActAt H r y):ActAt H' r y:=h.elim λ p z=>⟨p,z.1,s _ _ z.2⟩
theorem ActAt.wrote {H:Hp} {l:Addr} {o:HO} {r:Rc} {y:V} (n:y≠.ref l) (h:ActAt H r y):ActAt (upd H l o) r y:=h.elim λ p z=>⟨p,z.1,by rw [upd_ne (λ e=>n (by rw [z.1,e]))];exact z.2⟩
def z31 (K:b0):Sp:=λ vs H Q _=>∃(t:Addr) (es:List Ev),vs=[.ref t]/\TaP K H t es/\∀l zs H',Same H H'->H' l=some (.lst zs)->All2 (ActAt H') (dAll 0 [] es) zs->Q (.ref l) H'
theorem z9p (T:TX (kx w) mg):Fo P w mg base CX0 1 407 y10 ["tale"] (z31 (kx w)):=by
 refine (z3t w.params).ok sc__law_deeds (λ vs H Q E h=>?_) (λ c9 A c7 s H vs Q E hr h=>?_)
 ·obtain ⟨t,g,rfl,_⟩:=h;rfl
 ·obtain ⟨t,g,rfl,⟨ts,⟨pt,K,F,et,th,c4,al⟩,d0,c5⟩,q⟩:=h;have st:SqT (kx w) H t [.ref pt,.ref K]:=SqT.of et;have se:SqT (kx w) H K F:=SqT.of c4;have hl:g.length<=100:=by omega
  obtain ⟨wf,_⟩:=DInv.all DInv.nil c5;refine ⟨_,(z02 (ps_set (i:=1) sc__law_deeds.nd rfl (V0 rfl) (pe_lst pa_nil))
   (z02 (ps_set (i:=2) sc__law_deeds.nd rfl (V0 rfl) z7y)
   (z02 (ps_for U1 rfl (z23 rfl (T.no (z6d _)) (z00 (z0c z12 rfl (T.no (n_len _)) M3 (z00 (pe_ix ix_seq (pv 0) pe_int (λ _ _=>rfl)) pa_nil)) pa_nil)) (z0h (i:=3) sc__law_deeds.nd rfl (V0 rfl))
   (z02 (ps_set (i:=4) sc__law_deeds.nd rfl (V0 rfl) (pe_ix ix_seq (pe_ix ix_seq (pv 0) pe_int (λ _ _=>rfl)) (pv 3) (λ _ _=>rfl)))
   (z04 (ps_if (z08 opEq (pe_ix ix_seq (pv 4) pe_int (λ _ _=>rfl)) pe_str (nomark _))
   (z02 (zbz (hu_of hr) (pv 2) (pe_ix ix_seq (pv 4) pe_int (λ _ _=>rfl)) (z0c z12 rfl (T.no (n_len _)) M3 (z00 (pv 1) pa_nil)) rfl)
   (z04 (z36 (z17 (pv 1) (z00 (pe_lst (z00 (pe_ix ix_seq (pv 4) pe_int (λ _ _=>rfl)) (z00 (pe_ix ix_seq (pv 4) pe_int (λ _ _=>rfl)) (z00 (pe_ix ix_seq (pv 4) pe_int (λ _ _=>rfl)) (z00 (pe_ix ix_seq (pv 4) pe_int (λ _ _=>rfl)) (z00 pe_non (z00 (pv 3) (z00 pe_non pa_nil)))))))) pa_nil)))))
   (z02 (ps_asg (pe_ix ix_seq (pv 4) pe_int (λ _ _=>rfl)) (pg_sub (pe_ix ix_seq (pv 1) (z5k (hu_of hr) (pv 2) (pe_ix ix_seq (pv 4) pe_int (λ _ _=>rfl)) (λ _ _=>rfl)) (λ _ _=>rfl)) pe_int z4y))
   (z04 (ps_asg (pv 3) (pg_sub (pe_ix ix_seq (pv 1) (z5k (hu_of hr) (pv 2) (pe_ix ix_seq (pv 4) pe_int (λ _ _=>rfl)) (λ _ _=>rfl)) (λ _ _=>rfl)) pe_int z4y))))))))
   (z04 (ps_ret (pv 1)))))),?_⟩
  refine ⟨w_0,λ l a6=>?_⟩;intro d a2;have Z:l≠d:=z07 upd_same a2;have c1:H d=none:=by rwa [upd_ne Z.symm] at a2
  have s2:Same H (upd (upd H l (.lst [])) d (.dK [])):=(Same.upd a6).trans (Same.upd a2);have L:upd (upd H l (.lst [])) d (.dK []) l=some (.lst []):=by rw [upd_ne Z];exact upd_same
  have D:upd (upd H l (.lst [])) d (.dK []) d=some (.dK []):=upd_same;generalize upd (upd H l (.lst [])) d (.dK [])=H2 at s2 L D⊢;have c2:=z03 al;have c6:100<=sizeLine:=by decide
  refine ⟨_,rfl,.inr (.inl ⟨t,_,1,.ref K,rfl,rfl,s2.seqT st,z05 (j:=1) rfl,.inl ⟨K,F,rfl,.inr (s2.seqT se),F.length,rfl,by omega,by omega,?_⟩⟩)⟩;refine z39 (lo:=0) (n:=F.length) (λ i σ H'=>∃rs zs kvs,H' l=some (.lst zs)/\All2 (ActAt H') rs zs/\zs.Nodup/\(∀p,V.ref p∈zs->p≠l/\H p=none)/\H' d=some (.dK kvs)/\kvs.length<=i/\rs.length<=i/\(∀h,valV kvs (.inl h)=(lastI h (rs.map Rc.h)).map λ j=>V.int (j:Nat))/\dAll i rs (g.drop i)=dAll 0 [] g/\dWf i rs (g.drop i)/\Same H H'/\∃x3 x4,σ=[some (.ref t),some (.ref l),some (.ref d),x3,x4])
   ⟨[],[],[],L,.nil,.nil,λ _ z=>absurd z u0,D,A0 _,A0 _,λ h=>rfl,by rw [u5],by rw [u5];exact wf,s2,_,_,rfl⟩ ?_ ?_
  ·rintro i σ u hi ⟨rs,zs,kvs,el4,ar4,nd,nzl,ed4,hk,hr',hv,C,dw,s4,x3,x4,rfl⟩;rw [j6];have b4:i < g.length:=by omega
   have hy:F[i]? = some F[i]:=K0 hi;obtain ⟨e,he,ev⟩:=z0g al hy;obtain ⟨_,ee⟩:=List.getElem?_eq_some_iff.mp he;have dr:g.drop i=e :: g.drop (i + 1):=by rw [j05 b4,ee]
   rw [dr] at C dw;have a1:=EvAt.tups (.of s4) ev;have c8:i < 100:=u1 b4 hl;have lz:zs.length=rs.length:=z03 ar4;refine g_name ?_;refine ⟨_,rfl,.inr (.inl ⟨t,_,1,.ref K,rfl,rfl,s4.seqT st,z05 (j:=1) rfl,_,rfl,.inr (.inl ⟨K,F,i,F[i],rfl,rfl,s4.seqT se,z05 hy,?_⟩)⟩)⟩;generalize F[i]=y at a1⊢;cases e with
   | beg h n v x=>
    obtain ⟨B,rfl,G⟩:=a1;refine ⟨_,rfl,.inr (.inl ⟨B,_,0,.str "begin",rfl,rfl,G,z05 (j:=0) rfl,rfl,_,rfl,iteP (decide_eq_true rfl) ?_⟩)⟩;refine ⟨_,rfl,.inl ⟨l,zs,rfl,.inl (SqL.of el4),⟨_,rfl,⟨_,rfl,.inr (.inl ⟨B,_,1,.int h,rfl,rfl,G,z05 (j:=1) rfl,d,_,rfl,DPut.k (k:=.inl h) ed4 (R1 (m:=100) (by omega) (by decide)),?_⟩)⟩⟩⟩⟩;have U:Tups (kx w) u (upd u d (.dK (putK kvs (.inl h) (.int (zs.length:Nat))))):=Tups.dict ed4;have s5:=Same.keep (o:=.dK (putK kvs (.inl h) (.int (zs.length:Nat)))) s4 c1;have I:upd u d (.dK (putK kvs (.inl h) (.int (zs.length:Nat)))) l=some (.lst zs):=by rw [upd_ne Z];exact el4
    have S:upd u d (.dK (putK kvs (.inl h) (.int (zs.length:Nat)))) d=some (.dK (putK kvs (.inl h) (.int (zs.length:Nat)))):=upd_same;have a3:All2 (ActAt (upd u d (.dK (putK kvs (.inl h) (.int (zs.length:Nat)))))) rs zs:=z01 (λ a b z=>z.wrote (λ e=>by obtain ⟨p,L,D⟩:=z;rw [L] at e;cases e;rw [ed4] at D;cases D)) ar4;generalize upd u d (.dK (putK kvs (.inl h) (.int (zs.length:Nat))))=H5 at U s5 I S a3⊢;have N:=U _ _ G;refine ⟨_,rfl,.inl ⟨rfl,zs,SqL.of I⟩,?_⟩;refine ⟨_,rfl,.inr (.inl ⟨B,_,1,.int h,rfl,rfl,N,z05 (j:=1) rfl,_,rfl,.inr (.inl ⟨B,_,2,n,rfl,rfl,N,z05 (j:=2) rfl,_,rfl,.inr (.inl ⟨B,_,3,v,rfl,rfl,N,z05 (j:=3) rfl,_,rfl,.inr (.inl ⟨B,_,4,x,rfl,rfl,N,z05 (j:=4) rfl,_,rfl,w_7,λ J R=>?_⟩)⟩)⟩)⟩)⟩;have O:=Same.upd (o:=.lst [.int h,n,v,x,.non,.int (i:Nat),.non]) R;have e6:upd H5 J (.lst [.int h,n,v,x,.non,.int (i:Nat),.non]) J=some (.lst [.int h,n,v,x,.non,.int (i:Nat),.non]):=upd_same;have fr :∀z∈zs,z≠.ref J:=λ z hz e=>by obtain ⟨m,hm⟩:=List.mem_iff_getElem?.mp hz;obtain ⟨_,_,p,L,D⟩:=z0g a3 hm;rw [L] at e;cases e;rw [R] at D;cases D
    have b1:J≠l:=λ z=>by rw [z,I] at R;cases R
    generalize upd H5 J (.lst [.int h,n,v,x,.non,.int (i:Nat),.non])=H6 at O e6⊢;have b9:=O _ _ I;have b7:=O _ _ S;have c3:=z01 (λ a b z=>ActAt.same O z) a3;refine ⟨l,zs,_,rfl,rfl,b9,R1 (m:=100) (by omega) (by decide),?_⟩;refine ⟨rs++[⟨h,n,v,x,.non,i,none⟩],zs++[.ref J],putK kvs (.inl h) (.int (zs.length:Nat)),upd_same,?_,?_,?_,?_,?_,?_,?_,(show dAll (i + 1) (dstep i rs (.beg h n v x)) _=_ from C),dw.2,Same.keep (s5.trans O) a6,_,_,rfl⟩
    ·refine z0v ?_ ⟨J,rfl,by rw [upd_ne b1];exact e6⟩;refine z7h (λ a b hb z=>ActAt.wrote (λ e=>(nzl l (e ▸ hb)).1 rfl) z) c3
    ·rw [F4];refine ⟨nd,by simp,λ a ha b hb=>?_⟩;rw [List.mem_singleton.mp hb];exact fr a ha
    ·intro p hz;rcases List.mem_append.mp hz with y|y
     ·exact nzl p y
     ·have e:=List.mem_singleton.mp y;cases e;exact ⟨b1,s5.free R⟩
    ·rw [upd_ne Z.symm];exact b7
    ·exact C0 ze7 (by omega)
    ·rw [G0];show rs.length + 1<=i + 1;omega
    ·intro k;rw [z3s,E1];show _=o9 _ (lastI k (rs.map Rc.h++[h]));rw [z2k,F0,lz];by_cases z:h=k
     ·rw [if_pos z,if_pos (by rw [z])];rfl
     ·rw [if_neg z,if_neg (λ y=>z (C7 y).symm)];exact hv k
   | fin h a=>
    obtain ⟨B,rfl,G⟩:=a1;obtain ⟨j,hj⟩:=Option.isSome_iff_exists.mp (dw.1 h a rfl);have b6:valV kvs (.inl h)=some (.int (j:Nat)):=by rw [hv h,hj];rfl
    have b8:j < rs.length:=by have:=z6h hj;rwa [F0] at this
    have b0:rs[j]? = some rs[j]:=K0 b8;obtain ⟨yj,M,c,rfl,ej⟩:=z0t ar4 b0;have b2 :∀{H5:Hp},H5 d=some (.dK kvs)->DGet H5 d (.int h) (some (.int (j:Nat))):=λ e5=>b6 ▸ DGet.k (k:=.inl h) e5;refine ⟨_,rfl,.inr (.inl ⟨B,_,0,.str "end",rfl,rfl,G,z05 (j:=0) rfl,rfl,_,rfl,iteK ?_⟩)⟩;obtain ⟨b5,c0⟩:=nzl c (Q0 M);have a7:c≠d:=λ z=>by rw [z,ed4] at ej;cases ej
    refine ⟨_,rfl,.inr (.inl ⟨B,_,2,a,rfl,rfl,G,z05 (j:=2) rfl,?_⟩)⟩;refine ⟨_,rfl,_,rfl,_,rfl,.inr (.inl ⟨B,_,1,.int h,rfl,rfl,G,z05 (j:=1) rfl,d,_,rfl,b2 ed4,.inl ⟨l,zs,j,.ref c,rfl,rfl,SqL.of el4,z05 M,c,_,4,4,rfl,rfl,ej,rfl,?_⟩⟩)⟩;rw [show [V.int rs[j].h,rs[j].n,rs[j].v,rs[j].x,rs[j].a,.int rs[j].b,endV rs[j].e].set 4 a=[.int rs[j].h,rs[j].n,rs[j].v,rs[j].x,a,.int rs[j].b,endV rs[j].e] from rfl];have W:KeptL [c] u (upd u c (.lst [.int rs[j].h,rs[j].n,rs[j].v,rs[j].x,a,.int rs[j].b,endV rs[j].e])):=KeptL.set (by simp);have U:Tups (kx w) u (upd u c (.lst [.int rs[j].h,rs[j].n,rs[j].v,rs[j].x,a,.int rs[j].b,endV rs[j].e])):=Tups.lst ej;have b3:upd u c (.lst [.int rs[j].h,rs[j].n,rs[j].v,rs[j].x,a,.int rs[j].b,endV rs[j].e]) c=some (.lst [.int rs[j].h,rs[j].n,rs[j].v,rs[j].x,a,.int rs[j].b,endV rs[j].e]):=upd_same;generalize upd u c (.lst [.int rs[j].h,rs[j].n,rs[j].v,rs[j].x,a,.int rs[j].b,endV rs[j].e])=H5 at W U b3⊢;have I:=W _ _ (show l∉[c] by simp [b5.symm]) el4;have S:=W _ _ (show d∉[c] by simp [a7.symm]) ed4;have N:=U _ _ G;refine ⟨_,rfl,?_⟩;refine ⟨_,rfl,_,rfl,_,rfl,.inr (.inl ⟨B,_,1,.int h,rfl,rfl,N,z05 (j:=1) rfl,d,_,rfl,b2 S,.inl ⟨l,zs,j,.ref c,rfl,rfl,SqL.of I,z05 M,c,_,6,6,rfl,rfl,b3,rfl,?_⟩⟩)⟩;rw [show [V.int rs[j].h,rs[j].n,rs[j].v,rs[j].x,a,.int rs[j].b,endV rs[j].e].set 6 (.int (i:Nat))=[.int rs[j].h,rs[j].n,rs[j].v,rs[j].x,a,.int rs[j].b,.int (i:Nat)] from rfl];have hd:dstep i rs (.fin h a)=rs.modify j (λ r=>{ r with a:=a,e:=some i }):=by unfold dstep;dsimp only;rw [hj]
    have C:dAll (i + 1) (dstep i rs (.fin h a)) (g.drop (i + 1))=_:=C;have a9:dWf (i + 1) (dstep i rs (.fin h a)) (g.drop (i + 1)):=dw.2;rw [hd] at C a9;have X:KeptL [c] H5 (upd H5 c (.lst [.int rs[j].h,rs[j].n,rs[j].v,rs[j].x,a,.int rs[j].b,.int (i:Nat)])):=KeptL.set (by simp);have j7:upd H5 c (.lst [.int rs[j].h,rs[j].n,rs[j].v,rs[j].x,a,.int rs[j].b,.int (i:Nat)]) c=some (.lst [.int rs[j].h,rs[j].n,rs[j].v,rs[j].x,a,.int rs[j].b,.int (i:Nat)]):=upd_same;generalize upd H5 c (.lst [.int rs[j].h,rs[j].n,rs[j].v,rs[j].x,a,.int rs[j].b,.int (i:Nat)])=H7 at X j7⊢;have a5:=W.trans X;refine ⟨rs.modify j (λ r=>{ r with a:=a,e:=some i }),zs,kvs,X _ _ (by simp [b5.symm]) I,?_,nd,nzl,X _ _ (by simp [a7.symm]) S,by omega,by rw [d5];omega,?_,C,a9,?_,_,_,rfl⟩
    ·refine z1z (by rw [d5];exact z03 ar4) λ k r y hk Y=>?_;rw [N2] at hk;obtain ⟨r',a4,a0⟩:=Option.map_eq_some_iff.mp hk;obtain ⟨y2,a8,p2,rfl,D⟩:=z0t ar4 a4;rw [Y] at a8;cases a8;by_cases z:j=k
     ·subst z;rw [M] at Y;cases Y;rw [if_pos rfl] at a0;rw [b0] at a4;cases a4;subst a0;exact ⟨c,rfl,j7⟩
     ·rw [if_neg z] at a0;subst a0;refine ⟨p2,rfl,a5 _ _ (λ e=>z ?_) D⟩;have e:=List.mem_singleton.mp e;subst e;have h1:j < zs.length:=(List.getElem?_eq_some_iff.mp M).1;exact (S8 h1 nd).mp (M.trans Y.symm)
    ·intro k;rw [zbo (f:=λ r=>{ r with a:=a,e:=some i }) (λ r=>rfl)];exact hv k
    ·intro b o e;exact a5 b o (λ z=>by rw [List.mem_singleton.mp z,c0] at e;cases e) (s4 b o e)
  ·rintro σ H3 ⟨rs,zs,kvs,el,ar,_,_,_,_,_,_,C,_,s3,x3,x4,rfl⟩;have:g.drop F.length=[]:=by rw [c2];exact List.drop_length
   rw [this] at C;have C:rs=dAll 0 [] g:=C;rw [<-C] at q;exact ⟨_,rfl,q l zs H3 s3 el ar⟩
def z2z:Sp:=λ vs H Q _=>∃(y z:V) (r q:Rc),vs=[.str "strict",y,z]/\ActAt H r y/\ActAt H q z/\Q (.bl (ltO r.e q.b)) H
theorem z5i (T:TX (kx w) mg):Fo P w mg base CX0 1 414 y0b ["strictness","one","other"] z2z:=by
 refine (z1w w.params).ok z5m (λ g H Q E h=>?_) (λ l A i s H g Q E k h=>?_)
 ·obtain ⟨y,z,r,q,rfl,_⟩:=h;rfl
 ·obtain ⟨y,z,r,q,rfl,⟨c,rfl,a⟩,⟨f,rfl,d⟩,h⟩:=h;refine ⟨_,(z02 (ps_if (z08 opEq (pv 0) pe_str (nomark _))
   (z04 (ps_ret (pe_and (z0r z77 (pe_ix ix_seq (pv 1) pe_int (λ _ _=>rfl)) pe_non (nomark _)) (pe_one (z0r op_lt (pe_ix ix_seq (pv 1) pe_int (λ _ _=>rfl)) (pe_ix ix_seq (pv 2) pe_int (λ _ _=>rfl)) (nomark _))))))
   z0d)
   (z04 (ps_ret (pe_and (z0r opEq (pv 0) pe_str (nomark _)) (pe_and (z0r opEq (pe_ix ix_seq (pv 1) pe_int (λ _ _=>rfl)) (pe_ix ix_seq (pv 2) pe_int (λ _ _=>rfl)) (nomark _)) (pe_one (z0r op_lt (pe_ix ix_seq (pv 1) pe_int (λ _ _=>rfl)) (pe_ix ix_seq (pv 2) pe_int (λ _ _=>rfl)) (nomark _)))))))),?_⟩
  refine ⟨_,rfl,rfl,_,rfl,iteP (decide_eq_true rfl) ?_⟩;refine ⟨_,rfl,.inl ⟨c,_,6,endV r.e,rfl,rfl,SqL.of a,z05 (j:=6) rfl,rfl,_,rfl,?_⟩⟩;cases re:r.e with
  | none=>refine iteN (by show ¬ (!decide (V.non=V.non))=true;decide) ?_;rw [re] at h;exact h
  | some b=>refine iteP rfl ?_;refine ⟨_,rfl,.inl ⟨c,_,6,.int (b:Nat),rfl,rfl,SqL.of a,z05 (j:=6) (by rw [re];rfl),?_⟩⟩;refine ⟨_,rfl,.inl ⟨f,_,5,.int (q.b:Nat),rfl,rfl,SqL.of d,z05 (j:=5) rfl,b,q.b,rfl,rfl,?_⟩⟩;rw [re] at h;exact (show Q (.bl (decide ((b:Int) < (q.b:Int)))) H by rw [dec_lt];exact h)
def okM (rs:List Rc) (ns:List Nat) (n x:Nat):Prop:=(x∈ns->z0f 0 rs n x=false)/\(x∉ns->(∃r,rs[x]? = some r/\r.e.isSome=true)->z0f 0 rs x n=false)
theorem cM_of {rs:List Rc} {ns:List Nat} {n:Nat} (lt :∀x∈ns,x < rs.length) (h :∀x,x < rs.length->okM rs ns n x):cM 0 rs ns n = !decide (n∈ns):=by
 unfold cM;rw [decide_eq_true (p:=∀a∈N1 rs.length,z0f 0 rs a n=true->(∃r,rs[a]? = some r/\r.e.isSome=true)->a∈ns) (λ a f d g=>d9 λ z=>by rw [(h a (List.mem_range.mp f)).2 z g] at d;cases d),decide_eq_true (p:=∀b∈ns,z0f 0 rs n b=false) (λ b c=>(h b (lt b c)).1 c),Bool.and_true,Bool.and_true];by_cases z:n∈ns
 ·rw [decide_eq_true z,decide_eq_false (λ h=>h z)];rfl
 ·rw [decide_eq_false z,decide_eq_true z];rfl
theorem cM_not {rs:List Rc} {ns:List Nat} {n x:Nat} (hx:x < rs.length) (h:¬ okM rs ns n x):cM 0 rs ns n=false:=by
 cases e:cM 0 rs ns n with
 | false=>rfl
 | true=>
  refine absurd ?_ h;unfold cM at e;simp only [A2,decide_eq_true_iff] at e;refine ⟨λ z=>e.2 x z,λ z a=>?_⟩;cases e2:z0f 0 rs x n with
  | false=>rfl
  | true=>exact absurd (e.1.2 x (List.mem_range.mpr hx) e2 a) z
def z1m (K:b0):Sp:=λ vs H Q _=>∃(la pa:Addr) (zs:List V) (rs:List Rc) (ns:List Nat) (n:Nat),vs=[.ref la,.str "strict",.ref pa,.int (n:Nat)]/\H la=some (.lst zs)/\All2 (ActAt H) rs zs/\rs.length<=63/\SqT K H pa (nsV ns)/\(∀x∈ns,x < rs.length)/\n < rs.length/\Q (.bl (cM 0 rs ns n)) H
theorem z4d (T:TX (kx w) mg) (c0:Ca P w mg base "_law_is_ahead" ["strictness","one","other"] 1 z2z):Fo P w mg base CX0 2 421 y06 ["some","strictness","done","number"] (z1m (kx w)):=by
 refine (z13 w.params).ok sc__law_may_be_next (λ N H Q E h=>?_) (λ a1 A a0 s H N Q E L h=>?_)
 ·obtain ⟨d,c,f,a,g,n,rfl,_⟩:=h;rfl
 ·obtain ⟨d,c,f,a,g,n,rfl,I,y,rl,t,lt,S,q⟩:=h;refine ⟨_,(z02 (ps_for U1 rfl (z23 rfl (T.no (z6d _)) (z00 (z0c z12 rfl (T.no (n_len _)) M3 (z00 (pv 0) pa_nil)) pa_nil)) (z0h (i:=4) sc__law_may_be_next.nd rfl (V0 rfl))
   (z02 (ps_if (PW.pt (pw_and (z08 z1l (pv 4) (pv 2) (by with_unfolding_all rfl)) (z9g (pt_val (pe_cal c0 (L.mono (by decide)) rfl (z00 (pv 1) (z00 (pe_ix ix_seq (pv 0) (pv 3) (λ _ _=>rfl)) (z00 (pe_ix ix_seq (pv 0) (pv 4) (λ _ _=>rfl)) pa_nil)))) (λ _=>rfl)))))
   (z04 (ps_ret pe_bl))
   z0d)
   (z04 (ps_if (PW.pt (pw_and (z08 z15 (pv 4) (pv 2) (by with_unfolding_all rfl)) (pw_and (z08 z77 (pe_ix ix_seq (pe_ix ix_seq (pv 0) (pv 4) (λ _ _=>rfl)) pe_int (λ _ _=>rfl)) pe_non (nomark _)) (z9g (pt_val (pe_cal c0 (L.mono (by decide)) rfl (z00 (pv 1) (z00 (pe_ix ix_seq (pv 0) (pv 4) (λ _ _=>rfl)) (z00 (pe_ix ix_seq (pv 0) (pv 3) (λ _ _=>rfl)) pa_nil)))) (λ _=>rfl))))))
   (z04 (ps_ret pe_bl))
   z0d))))
   (z04 (ps_ret (z0r z15 (pv 3) (pv 2) (by with_unfolding_all rfl))))),?_⟩
  have lz:f.length=a.length:=z03 y;have q:=λ b (h:b=cM 0 a g n)=>(show Q (.bl b) H from h ▸ q)
  have r:a[n]? = some a[n]:=K0 S;obtain ⟨p,U,F⟩:=z0t y r;generalize a[n]=r0 at r F;refine ⟨_,rfl,.inl ⟨d,f,rfl,.inl (SqL.of I),f.length,rfl,by omega,by omega,?_⟩⟩;refine z39 (lo:=0) (n:=f.length) (λ i σ X=>X=H/\(∀x,x < i->okM a g n x)/\∃x4,σ=[some (.ref d),some (.str "strict"),some (.ref c),some (.int (n:Nat)),x4]) ⟨rfl,λ x u=>absurd u (R3 _),_,rfl⟩ ?_ ?_
  ·rintro i σ m Z ⟨rfl,fi,x4,rfl⟩;rw [j6];refine g_name ?_;have C:i < a.length:=by omega
   have l:a[i]? = some a[i]:=K0 C;obtain ⟨v,W,o⟩:=z0t y l;generalize a[i]=r1 at l o;have K :∀{R:VK} {x4:Option V},R p m->tOp (rIx (kx w)) (tVar 0) (tVar 3) [some (.ref d),some (.str "strict"),some (.ref c),some (.int (n:Nat)),x4] m R:=λ h=>⟨_,rfl,_,rfl,.inl ⟨d,f,n,p,rfl,rfl,SqL.of I,z05 U,h⟩⟩
   have B :∀{R:VK},R v m->tOp (rIx (kx w)) (tVar 0) (tVar 4) [some (.ref d),some (.str "strict"),some (.ref c),some (.int (n:Nat)),some (.int (i:Nat))] m R:=λ h=>⟨_,rfl,_,rfl,.inl ⟨d,f,i,v,rfl,rfl,SqL.of I,z05 W,h⟩⟩
   have J:z0f 0 a n i=ltO r0.e r1.b:=z2b r l;have G:z0f 0 a i n=ltO r1.e r0.b:=z2b l r;have D:okM a g n i->∀x,x < i + 1->okM a g n x:=λ h x u=>by
    by_cases z:x=i
    ·rw [z];exact h
    ·exact fi x (by omega)
   refine sq_if (t_and ?_);refine ⟨_,rfl,_,rfl,c,_,rfl,.inr t,rfl,z4f _,_,rfl,?_⟩;by_cases z:i∈g
   ·refine iteP (by rw [inV_ns];exact decide_eq_true z) ?_;refine ⟨_,rfl,K (B ⟨p,v,r0,r1,rfl,F,o,_,rfl,?_⟩)⟩;cases h:ltO r0.e r1.b with
    | true=>refine iteT (q _ (cM_not C λ k=>?_).symm);have:=k.1 z;rw [J,h] at this;cases this
    | false=>refine iteF (t_nx (z5x (t_and ?_)));refine ⟨_,rfl,_,rfl,c,_,rfl,.inr t,rfl,z4f _,_,rfl,iteN (by rw [inV_ns,decide_eq_true z];decide) (iteF ?_)⟩;exact ⟨rfl,D ⟨λ _=>J.trans h,λ Y=>absurd z Y⟩,_,rfl⟩
   ·refine iteN (λ h=>z (of_decide_eq_true (by rw [inV_ns] at h;exact h))) (iteF (t_nx (z5x (t_and ?_))));refine ⟨_,rfl,_,rfl,c,_,rfl,.inr t,rfl,z4f _,_,rfl,iteP (by rw [inV_ns,decide_eq_false z];rfl) (t_and ?_)⟩;obtain ⟨O,rfl,M⟩:=id o;refine B (.inl ⟨O,_,6,endV r1.e,rfl,rfl,SqL.of M,z05 (j:=6) rfl,rfl,_,rfl,?_⟩);cases he:r1.e with
    | none=>refine iteN (by show ¬ (!decide (V.non=V.non))=true;decide) (iteF ⟨rfl,D ⟨λ h=>absurd h z,λ _ h=>?_⟩,_,rfl⟩);rw [G,he];rfl
    | some e=>
     refine iteP rfl ?_;refine ⟨_,rfl,B (K ⟨_,p,r1,r0,rfl,o,F,_,rfl,?_⟩)⟩;cases h:ltO r1.e r0.b with
     | true=>refine iteT (q _ (cM_not C λ k=>?_).symm);have:=k.2 z ⟨r1,l,by rw [he];rfl⟩;rw [G,h] at this;cases this
     | false=>exact iteF ⟨rfl,D ⟨λ h=>absurd h z,λ _ _=>G.trans h⟩,_,rfl⟩
  ·rintro σ m ⟨rfl,fi,x4,rfl⟩;refine ⟨_,rfl,_,rfl,c,_,rfl,.inr t,rfl,z4f _,q _ ?_⟩;rw [cM_of lt λ x u=>fi x (by omega),inV_ns];rfl
theorem z9o {X:Cx} {K:b0} (hK:X.K=K):OpR X (C2 .NotIn) (rIn K true):=hK ▸ z15
theorem zfi {c:Nat->Bool} {ts:List (Str×Str)} {rs:List Rc} {ps:List DD} {pl:Pl} {i:Nat} {r:Rc} {p:DD} (hr:rs[i]? = some r) (hp:ps[i]? = some p) (h:c i=false\/stp ts r p i pl=none):nexAt c ts rs ps pl i=none:=by
 unfold nexAt;rcases h with h|h
 ·rw [h];rfl
 ·rw [hr,hp];split<;>first|exact h|rfl
theorem zej {c:Nat->Bool} {ts:List (Str×Str)} {rs:List Rc} {ps:List DD} {pl:Pl} {i:Nat} {r:Rc} {p:DD} {s:Stp} (hr:rs[i]? = some r) (hp:ps[i]? = some p) (hc:c i=true) (h:stp ts r p i pl=some s):nexAt c ts rs ps pl i=some s:=by unfold nexAt;rw [if_pos hc,hr,hp];exact h
theorem tup2 {A B:TE} {σ:L2.St} {H:Hp} {Q:VK} (h:A σ H λ x H1=>B σ H1 λ y H2=>(2:Nat)<=sizeLine/\∀p,H2 p=none->Q (.ref p) (upd H2 p (.tup [x,y]))):tTup (tCons A (tCons B tNil)) σ H Q:=h
theorem srt_in {K:b0} {σ:L2.St} {H:Hp} {Q:VK} {tp tn:TE} {pa:Addr} {ns:List Nat} {n:Nat} (hp :∀R:VK,R (.ref pa) H->tp σ H R) (hn :∀R:VK,R (.int (n:Nat)) H->tn σ H R) (sa:SqT K H pa (nsV ns)) (l63:ns.length < 63) (q :∀b4 H',Same H H'->H' b4=some (.tup (nsV (srtN (ns++[n]))))->Q (.ref b4) H') :
  tCB (λ xs H Q=>∃p ys,xs=[.ref p]/\((SqL K H p ys/\∀l,H l=none->Q (.ref l) (upd H l (.tup ys)))\/(SqT K H p ys/\Q (.ref p) H))) (tCons (tCB (λ xs H Q=>∃a ns,xs=[.ref a]/\(SqL K H a (ns.map V.int)\/SqT K H a (ns.map V.int))/\ns.length < 64/\srt ns H Q) (tCons (tOp (rCatS K) tp (tTup (tCons tn tNil))) tNil)) tNil) σ H Q:=by
 refine hp _ (hn _ ⟨w_1,λ j r=>?_⟩);obtain ⟨v,b,d,k⟩:=newA (.tup [.int (n:Nat)]) r;rw [<-b];refine ⟨pa,j,nsV ns,[.int (n:Nat)],rfl,rfl,d.seqT sa,SqT.of k,by simp,C0 (m:=100) (by rw [z75];show _ + 1<=100;omega) (by decide),λ g w h c=>?_⟩;rw [show nsV ns++[.int (n:Nat)]=((ns++[n]).map λ (n:Nat)=>(n:Int)).map V.int by unfold nsV;rw [T2,E1];rfl] at c;refine ⟨g,_,rfl,.inr c,by rw [F0,G0];show _ + 1 < 64;omega,λ o y u i s=>?_⟩;rw [zhu i s];obtain ⟨x,b,e,t⟩:=newA (.lst (nsV (srtN (ns++[n])))) u;rw [<-b];exact ⟨o,_,rfl,.inl ⟨SqL.of t,λ b4 f=>q b4 _ (((d.trans h).trans e).trans (Same.upd f)) upd_same⟩⟩
def z3g (K:b0):Sp:=λ vs H Q _=>∃(l p pa:Addr) (zs:List V) (rs:List Rc) (ns:List Nat) (x:V),vs=[.ref l,.ref p]/\H l=some (.lst zs)/\All2 (ActAt H) rs zs/\rs.length<=63/\SqT K H p [.ref pa,x]/\SqT K H pa (nsV ns)/\∀b H',Same H H'->(b=true↔∀n r,rs[n]? = some r->r.e.isSome=true->n∈ns)->Q (.bl b) H'
theorem z6n (T:TX (kx w) mg):Fo P w mg base CX0 1 433 y0h ["some","place"] (z3g (kx w)):=by
 refine (z2c w.params).ok z74 (λ vs H Q E h=>?_) (λ a2 A a1 s H vs Q E hr h=>?_)
 ·obtain ⟨l,p,D,u,c,ns,x,rfl,_⟩:=h;rfl
 ·obtain ⟨l,p,D,u,c,ns,x,rfl,O,G,rl,sp,sa,q⟩:=h;refine ⟨_,(z04 (ps_ret (z0r (zk9 hr) (ze6 (xs:=["number"]) (g:=gName 0) (fr:=[(1,"place"),(0,"some")]) rfl (z23 rfl (T.no (z6d _)) (z00 (z0c z12 rfl (T.no (n_len _)) M3 (z00 (pv 0) pa_nil)) pa_nil)) (by intro p o;simp only [L1,u0,or_false] at o;rcases o with rfl|rfl<;>first|exact ⟨rfl,.inl rfl⟩|exact ⟨rfl,.inr rfl⟩) (zk7 (ns:=["place","some"]) (by decide +kernel) (by intro n t k;simp only [L1,u0,or_false] at t;rcases t with rfl|rfl<;>first|exact .inl rfl|exact .inr rfl)) (by intro p o;simp only [L1,u0,or_false] at o;rcases o with rfl|rfl<;>exact ⟨by decide +kernel,by first|exact .inl rfl|exact .inr rfl⟩) (by decide +kernel) rfl (by decide +kernel) (λ _ _ _ _ _=>(pg_cn (N:=["number","place","some"]) 0)) (λ _ _ _ _ _=>(pf_one (PW.pt (pw_and (z08 z77 (pe_ix (z9m (K:=KX w.params) rfl) (pe_ix (z9m (K:=KX w.params) rfl) (pv 2) (pv 0) (λ _ _=>rfl)) pe_int (λ _ _=>rfl)) pe_non (nomark _)) (z9g (z08 (z9o (K:=KX w.params) rfl) (pv 0) (pe_ix (z9m (K:=KX w.params) rfl) (pv 1) pe_int (λ _ _=>rfl)) (by with_unfolding_all rfl))))))) (λ _ _ _ _ _=>(pv 0))) (pe_lst pa_nil) (nomark _)))),?_⟩;have lz:u.length=c.length:=z03 G;refine sq_ret ?_;refine zdy (S:=Same) (n:=u.length) (λ k=>((c[k]?.map λ r=>r.e.isSome).getD false) && !decide (k∈ns)) (λ k y _=>True) (Same.refl _) (λ _ _ _ a b=>a.trans b) (λ _ _=>Same.refl _) (λ _ _ _ _ _ z=>z) (λ R h=>⟨_,rfl,.inl ⟨l,u,rfl,.inl (SqL.of O),h⟩⟩) (C0 (m:=63) (by omega) (by decide)) (λ k F Z d KT KF v i=>?_) λ l7 Z X d Y fa=>?_
  ·have M:k < c.length:=by omega
   obtain ⟨y,W,I,rfl,ek⟩:=z0t G (K0 M);have B:c[k]? = some c[k]:=K0 M;generalize c[k]=r at *;rw [B] at v i;refine ⟨[some (.int (k:Nat))],rfl,rfl,?_⟩;refine ⟨_,rfl,_,rfl,.inl ⟨l,u,k,.ref I,rfl,rfl,SqL.of (d _ _ O),z05 W,.inl ⟨I,_,6,endV r.e,rfl,rfl,SqL.of (d _ _ ek),z05 (j:=6) rfl,rfl,_,rfl,?_⟩⟩⟩;cases re:r.e with
   | none=>refine iteN (by show ¬ (!decide (V.non=V.non))=true;decide) (iteF (i ?_ _ (Same.refl _)));show (r.e.isSome && _)=false;rw [re];rfl
   | some e=>
    refine iteP rfl ?_;refine ⟨_,rfl,_,rfl,.inr (.inl ⟨p,_,0,.ref D,rfl,rfl,d.seqT sp,z05 (j:=0) rfl,D,_,rfl,.inr (d.seqT sa),rfl,z4f _,_,rfl,?_⟩)⟩;rw [inV_ns];have v:=λ z=>v (show (r.e.isSome && _)=true from z);have i:=λ z=>i (show (r.e.isSome && _)=false from z);rw [re] at v i;cases hb:decide (k∈ns) with
    | true=>exact iteF (i (by rw [hb];rfl) _ (Same.refl _))
    | false=>exact iteT ⟨_,rfl,v (by rw [hb];rfl) _ _ (Same.refl _) trivial⟩
  ·refine ⟨w_0,λ U L=>?_⟩;refine ⟨l7,U,X,rfl,rfl,SqL.of ((Same.upd L) _ _ upd_same),SqL.of upd_same,q _ _ (d.trans ((Same.upd Y).trans (Same.upd L))) ?_⟩;have C:=z03 fa;rw [decide_eq_true_iff];constructor
   ·intro e n r t he;rw [e] at C;have lf:=List.eq_nil_of_length_eq_zero C.symm;have a0:=(List.getElem?_eq_some_iff.mp t).1;have:=List.filter_eq_nil_iff.mp lf n (List.mem_range.mpr (by omega));rw [t] at this;have this:¬ (r.e.isSome && !decide (n∈ns))=true:=this;rw [he,C8] at this;by_cases z:n∈ns
    ·exact z
    ·exact absurd (by rw [decide_eq_false z];rfl) this
   ·intro f;refine List.eq_nil_of_length_eq_zero (C.trans ?_);rw [List.length_eq_zero_iff,List.filter_eq_nil_iff];intro k F z;rw [A2] at z;have F:=List.mem_range.mp F;have B:c[k]? = some c[k]:=K0 (by omega);rw [B] at z;have J:=z.2;rw [decide_eq_true (f k _ B z.1)] at J;cases J
def z57 (K:b0):Sp:=λ vs H Q _=>∃(t la p pt te:Addr) (zs:List V) (ts:List (Str×Str)) (rs:List Rc) (ps:List DD) (di:Nat) (os:List Int) (pl:Pl),vs=[.ref t,.ref la,.str "strict",.ref p]/\H t=some (.tup [.ref pt,.ref te])/\ThAt H pt ts/\ThW ts/\H la=some (.lst zs)/\All2 (ActAt H) rs zs/\All2 (RcGd K H ts) rs ps/\rs.length<=63/\DInv di rs os/\PlZ K H p pl/\PlOk ts rs.length pl.1.length pl/\
 ∀l ys H',Same H H'->H l=none->H' l=some (.lst ys)->All2 (StpZ K H') (nxT 0 ts rs ps pl) ys->Q (.ref l) H'
theorem zac (T:TX (kx w) mg) (c0:Ca P w mg base "_law_may_be_next" ["some","strictness","done","number"] 2 (z1m (kx w))) (c1:Ca P w mg base "_law_applied" ["things","states","own"] 2 (z1t (kx w))):Fo P w mg base CX0 3 428 y11 ["tale","some","strictness","place"] (z57 (kx w)):=by
 refine (z3z w.params).ok sc__law_nexts (λ M H Q E h=>?_) (λ d4 A d3 s H M Q E hr h=>?_)
 ·obtain ⟨t,C,p,pt,te,D,ts,l,ps,di,os,pl,rfl,_⟩:=h;rfl
 ·obtain ⟨t,C,p,pt,te,D,ts,l,ps,di,os,⟨u,B⟩,rfl,et,th,ok,el,aa,gd,rl,DI,⟨F,I,M,sp,S,sb,sz⟩,N,q⟩:=h;refine ⟨_,(z02 (ps_set (i:=4) sc__law_nexts.nd rfl (V0 rfl) (pe_lst pa_nil))
   (z02 (ps_asg (pv 3) (pg_tup rfl (z0a (z0h (i:=5) sc__law_nexts.nd rfl (V0 rfl)) (z0a (z0h (i:=6) sc__law_nexts.nd rfl (V0 rfl)) z10))))
   (z02 (ps_for U1 rfl (z23 rfl (T.no (z6d _)) (z00 (z0c z12 rfl (T.no (n_len _)) M3 (z00 (pv 1) pa_nil)) pa_nil)) (z0h (i:=7) sc__law_nexts.nd rfl (V0 rfl))
   (z04 (ps_if (pt_val (pe_cal c0 (hr.mono (by decide)) rfl (z00 (pv 1) (z00 (pv 2) (z00 (pv 5) (z00 (pv 7) pa_nil))))) (λ _=>rfl))
   (z02 (ps_set (i:=8) sc__law_nexts.nd rfl (V0 rfl) (pe_lst (z00 (pe_ix ix_seq (pe_ix ix_seq (pv 1) (pv 7) (λ _ _=>rfl)) pe_int (λ _ _=>rfl)) (z00 (pe_ix ix_seq (pe_ix ix_seq (pv 1) (pv 7) (λ _ _=>rfl)) pe_int (λ _ _=>rfl)) (z00 (pe_ix ix_seq (pe_ix ix_seq (pv 1) (pv 7) (λ _ _=>rfl)) pe_int (λ _ _=>rfl)) (z00 pe_non pa_nil))))))
   (z02 (ps_set (i:=9) sc__law_nexts.nd rfl (V0 rfl) (pe_cal c1 (hr.mono (by decide)) rfl (z00 (pe_ix ix_seq (pv 0) pe_int (λ _ _=>rfl)) (z00 (pv 6) (z00 (pv 8) pa_nil)))))
   (z04 (ps_if (PW.pt (pw_or (z08 op_isN (pe_ix ix_seq (pe_ix ix_seq (pv 1) (pv 7) (λ _ _=>rfl)) pe_int (λ _ _=>rfl)) pe_non (nomark _)) (pw_or1 (z08 opEq (pe_ix ix_seq (pv 8) pe_int (λ _ _=>rfl)) (pe_ix ix_seq (pe_ix ix_seq (pv 1) (pv 7) (λ _ _=>rfl)) pe_int (λ _ _=>rfl)) (nomark _)))))
   (z04 (z36 (z17 (pv 4) (z00 (pe_tup (z00 (pv 7) (z00 (pe_ix ix_seq (pv 8) pe_int (λ _ _=>rfl)) (z00 (pe_tup (z00 (z0p z0j rfl (T.no (z2h _)) i4 (z00 (z0c z29 rfl (T.no (z67 _)) M8 (z00 (pe_op op_catS (pv 5) (pe_tup (z00 (pv 7) pa_nil))) pa_nil)) pa_nil)) (z00 (pv 9) pa_nil))) pa_nil)))) pa_nil))))
   z0d))))
   z0d)))
   (z04 (ps_ret (pv 4)))))),?_⟩
  have lz:D.length=l.length:=z03 aa;have S:SqT (kx w) H F (nsV u):=S;have sz:All2 (StZ (kx w) H) B M:=sz;have c7 :∀n,cM 0 l u n=cP 0 l u n:=λ n=>cM_cP DI N.lt;refine ⟨w_0,λ lt a2=>?_⟩;obtain ⟨H1,v1,W,e1⟩:=new1 (.lst []) a2;rw [<-v1];refine g_name (t_nx ?_);refine ⟨_,rfl,p,_,rfl,W.seqT sp,rfl,.ref F,_,rfl,.ref I,_,rfl,rfl,t_nx ?_⟩;refine ⟨_,rfl,.inl ⟨C,D,rfl,.inl (SqL.of (W _ _ el)),D.length,rfl,by omega,by omega,?_⟩⟩;refine z39 (lo:=0) (n:=D.length) (λ i σ f=>∃ys,Same H f/\f lt=some (.lst ys)/\All2 (StpZ (kx w) f) (nexT (cP 0 l u) ts l ps (u,B) i) ys/\∃x7 x8 x9,σ=[some (.ref t),some (.ref C),some (.str "strict"),some (.ref p),some (.ref lt),some (.ref F),some (.ref I),x7,x8,x9]) ⟨[],W,e1,.nil,_,_,_,rfl⟩ ?_ ?_
  ·rintro j σ H7 hj ⟨ys,s7,e7,al7,x7,x8,x9,rfl⟩;rw [j6];refine g_name ?_;have a1:j < l.length:=by omega
   have K:l[j]? = some l[j]:=K0 a1;obtain ⟨y,hy,pk,rfl,Z⟩:=z0t aa K;obtain ⟨d,a4,a5⟩:=z0t gd K;generalize l[j]=r at K Z a5;have skip:cP 0 l u j=false\/stp ts r d j (u,B)=none->∀{y8 y9:Option V} {f:Hp},Same H7 f->∃ys,Same H f/\f lt=some (.lst ys)/\All2 (StpZ (kx w) f) (nexT (cP 0 l u) ts l ps (u,B) (j + 1)) ys/\∃x7 x8 x9,[some (.ref t),some (.ref C),some (.str "strict"),some (.ref p),some (.ref lt),some (.ref F),some (.ref I),some (.int (j:Nat)),y8,y9]=[some (.ref t),some (.ref C),some (.str "strict"),some (.ref p),some (.ref lt),some (.ref F),some (.ref I),x7,x8,x9]:=λ h {y8 y9 f} G=>by refine ⟨ys,s7.trans G,G _ _ e7,?_,_,_,_,rfl⟩;rw [z40,zfi K a4 h,m8,j2];exact z01 (λ _ _ z=>StpZ.tups (.of G) z) al7
   refine z5x ⟨_,rfl,_,rfl,_,rfl,_,rfl,C,F,D,l,u,j,rfl,s7 _ _ el,z01 (λ _ _ z=>z.same s7) aa,rl,s7.seqT S,N.lt,a1,_,rfl,?_⟩;rw [c7];cases hc:cP 0 l u j with
   | false=>exact iteF (skip (.inl hc) (Same.refl _))
   | true=>
   refine iteT ?_;have b9:=cP_no hc;obtain ⟨g1,g2,hm,dk,ix,wi,ga⟩:=a5;rw [g1,g2] at Z;have J :∀{f:Hp} {R:VK} {x8 x9:Option V} {i:Nat} {v:V},Same H f->([.int r.h,.str d.nm,.str d.vb,r.x,r.a,.int r.b,endV r.e]:List V)[i]? = some v->R v f->tOp (rIx (kx w)) (tOp (rIx (kx w)) (tVar 1) (tVar 7)) (tC (.int i)) [some (.ref t),some (.ref C),some (.str "strict"),some (.ref p),some (.ref lt),some (.ref F),some (.ref I),some (.int (j:Nat)),x8,x9] f R:=λ G hi h=>⟨_,rfl,_,rfl,.inl ⟨C,D,j,.ref pk,rfl,rfl,SqL.of (G _ _ el),z05 hy,.inl ⟨pk,_,_,_,rfl,rfl,SqL.of (G _ _ Z),z05 hi,h⟩⟩⟩
   refine J (i:=1) s7 rfl (J (i:=2) s7 rfl (J (i:=3) s7 rfl ⟨w_4,λ X a7=>?_⟩));obtain ⟨H8,v8,q8,e8⟩:=new1 (.lst [.str d.nm,.str d.vb,r.x,.non]) a7;rw [<-v8];refine g_name (t_nx ?_);have s8:=s7.trans q8;have O:Tt (kx w) H H8:=.of s8;obtain ⟨b0,c3⟩:=N.n63 rl a1 b9;refine ⟨_,rfl,.inr (.inl ⟨t,_,0,.ref pt,rfl,rfl,SqT.of (s8 _ _ et),z05 (j:=0) rfl,_,rfl,_,rfl,?_⟩)⟩;refine ⟨pt,I,X,ts,_,B,d.nm,d.vb,r.x,.non,d.k,d.dt,rfl,th.tt O,ok,⟨M,s8.seqT sb,z01 (λ _ _ z=>StZ.tups O.t z) sz,N.so⟩,b0,e8,hm,dk,IsDt.mono' O.t _ _ ix,wi.tt O,λ p9 H9 sv b1 k9 e9 c2 so=>?_⟩;refine g_name (t_nx ?_);have L:Same H7 H9:=λ c o e=>k9 c o (λ z=>by rw [List.mem_singleton.mp z,a7] at e;cases e) (q8 c o e);have s9:=s7.trans L;have c9:=dz_ok dk so b0;have U:=stp_of (ts:=ts) (r:=r) (n:=j) (pl:=(u,B)) b1;refine if_any (λ f=>H9=f/\stp ts r d j (u,B)=some (stq ts d j (u,B) sv)) ?_ λ put=>?_;rotate_left
   ·refine t_or (J (i:=6) s9 rfl ⟨rfl,_,rfl,?_⟩);cases re:r.e with
    | none=>refine iteP rfl (iteT (put _ ⟨rfl,?_⟩));rw [U,re];rfl
    | some e=>
    refine iteN (by simp [endV]) ?_;have rA:IsA r.a:=by
     rcases ga with ⟨g,_⟩|⟨_,g⟩
     ·rw [re] at g;cases g
     ·exact g
    refine ⟨_,rfl,.inl ⟨X,_,3,_,rfl,rfl,SqL.of e9,z05 (j:=3) rfl,J (i:=4) s9 rfl ⟨IsA.scal (.inl c9.2.isA) (.inl rA),_,rfl,?_⟩⟩⟩;by_cases za:(dz d.k d.vb d.dt sv).2=r.a
    ·refine iteP (decide_eq_true za) (put _ ⟨rfl,?_⟩);rw [U,decide_eq_true za,Bool.or_true];rfl
    ·refine iteN (λ h=>za (of_decide_eq_true h)) (skip (.inr ?_) L);rw [U,re,decide_eq_false za];rfl
   rintro f ⟨rfl,hst⟩;refine ⟨_,rfl,.inl ⟨rfl,_,SqL.of (L _ _ e7)⟩,_,rfl,_,rfl,.inl ⟨X,_,3,_,rfl,rfl,SqL.of e9,z05 (j:=3) rfl,?_⟩⟩;refine zbk (tup2 (srt_in (n:=j) (λ R h=>⟨_,rfl,h⟩) (λ R h=>⟨_,rfl,h⟩) (s9.seqT S) c3 λ b4 d6 c8 b2=>⟨_,rfl,w_2,λ b5 c5=>?_⟩));obtain ⟨d5,c4,a8,d2⟩:=new1 (.tup [.ref b4,.ref p9]) c5;rw [<-c4];refine ⟨w_3,λ b6 b7=>?_⟩;obtain ⟨a6,d0,a3,c6⟩:=new1 (.tup [.int (j:Nat),(dz d.k d.vb d.dt sv).2,.ref b5]) b7;rw [<-d0];have a0:=(c8.trans a8).trans a3;have Y:=L.trans a0;have a9:=Y _ _ e7;have yl:ys.length<=j:=by rw [z03 al7];exact zfn
   refine ⟨lt,ys,_,rfl,rfl,a9,R1 (m:=100) (by omega) (by decide),?_⟩;have tu:Tups (kx w) a6 (upd a6 lt (.lst (ys++[.ref b6]))):=Tups.lst a9;refine ⟨ys++[.ref b6],Same.keep (s7.trans Y) a2,upd_same,?_,_,_,_,rfl⟩;rw [z40,zej K a4 hc hst];obtain ⟨b8,b3,d1,_⟩:=c2;exact zdp (z01 (λ _ _ z=>(StpZ.tups (.of Y) z).tups tu) al7) (.cons (StpZ.tups tu ⟨b6,b5,rfl,SqT.of c6,b4,p9,b8,SqT.of (a3 _ _ d2),SqT.of ((a8.trans a3) _ _ b2),a0.seqT b3,z01 (λ _ _ z=>StZ.tups (.of a0) z) d1⟩) .nil)
  ·rintro σ H7 ⟨ys,s7,e7,al7,x7,x8,x9,rfl⟩;rw [lz] at al7;exact ⟨_,rfl,q _ _ _ s7 a2 e7 al7⟩
def PzAt (K:b0) (H:Hp) (pl:Pl) (y:V):Prop:=∃p,y=.ref p/\PlZ K H p pl
theorem PzAt.same {K:b0} {H H':Hp} {pl:Pl} {y:V} (s:Same H H') (h:PzAt K H pl y):PzAt K H' pl y:=h.elim λ p z=>⟨p,z.1,z.2.tups (.of s)⟩
def Com (ts:List (Str×Str)) (rs:List Rc) (ps:List DD) (pl:Pl):Prop:=∃o,Wk 0 ts rs ps o pl
def z4h (K:b0):Sp:=λ vs H Q _=>∃(t:Addr) (ts:List (Str×Str)) (es:List Ev) (ps:List DD),vs=[.ref t,.str "strict"]/\TlP K H t ts es ps/\
 ∀d ks H',Same H H'->H d=none->H' d=some (NsO d ks)->ks.length<=1000->KeyI K H' (Com ts (dAll 0 [] es) ps) ks->(∀pl,Com ts (dAll 0 [] es) ps pl->plD pl∈ks.map (·.1))->Q (.ref d) H'
theorem z88 (T:TX (kx w) mg) (c0:Ca P w mg base "_law_deeds" ["tale"] 1 (z31 (kx w))) (c1:Ca P w mg base "_law_first" ["things"] 1 (z2v (kx w))) (c2:Ca P w mg base "_law_nexts" ["tale","some","strictness","place"] 3 (z57 (kx w))):Fo P w mg base CX0 4 440 y0r ["tale","strictness"] (z4h (kx w)):=by
 refine (z2o w.params).ok sc__law_places (λ vs H Q E h=>?_) (λ f6 A f4 s H vs Q E I h=>?_)
 ·obtain ⟨t,ts,es,ps,rfl,_⟩:=h;rfl
 ·obtain ⟨t,ts,es,ps,rfl,⟨ta,ok,e5,wf,gd,rl⟩,q⟩:=h;refine ⟨_,(z02 (ps_set (i:=2) sc__law_places.nd rfl (V0 rfl) (pe_cal c0 (I.mono (by decide)) rfl (z00 (pv 0) pa_nil)))
   (z02 (ps_set (i:=3) sc__law_places.nd rfl (V0 rfl) (pe_tup (z00 (pe_tup pa_nil) (z00 (pe_cal c1 (I.mono (by decide)) rfl (z00 (pe_ix ix_seq (pv 0) pe_int (λ _ _=>rfl)) pa_nil)) pa_nil))))
   (z02 (ps_set (i:=4) sc__law_places.nd rfl (V0 rfl) (zgx I (pv 3) pe_bl))
   (z02 (ps_set (i:=5) sc__law_places.nd rfl (V0 rfl) (pe_lst (z00 (pv 3) pa_nil)))
   (z02 (zb0 U1 (z08 (zic I) (pv 5) (pe_lst pa_nil) (nomark _))
   (z04 (ps_for U1 rfl (z49 (pe_cal c2 (I.mono (by decide)) rfl (z00 (pv 0) (z00 (pv 2) (z00 (pv 1) (z00 (zib (pv 5)) pa_nil)))))) (pg_tup rfl (z0a (z0h (i:=6) sc__law_places.nd rfl (V0 rfl)) (z0a (z0h (i:=7) sc__law_places.nd rfl (V0 rfl)) (z0a (z0h (i:=8) sc__law_places.nd rfl (V0 rfl)) z10))))
   (z04 (ps_if (z08 (zcr I) (pv 8) (pv 4) (by with_unfolding_all rfl))
   (z02 (zi6 I (pv 4) (pv 8) pe_bl rfl)
   (z04 (z36 (z17 (pv 5) (z00 (pv 8) pa_nil)))))
   z0d)))))
   (z04 (ps_ret (pv 4)))))))),?_⟩
  obtain ⟨_,os,DI⟩:=DInv.all DInv.nil wf;refine z0s ⟨_,rfl,t,es,rfl,⟨ts,ta,e5,wf⟩,λ la zs H0 s0 el aa=>?_⟩;refine g_name ?_;obtain ⟨pt,te,ys,et,th,f7,al⟩:=ta;generalize dAll 0 [] es=rs at gd rl DI aa q;refine z0s ?_;refine ⟨w_0,λ a0 e0=>?_⟩;obtain ⟨Ha,va,sa,ea⟩:=new1 (.tup []) e0;rw [<-va];have b0:=s0.trans sa;refine ⟨_,rfl,.inr (.inl ⟨t,_,0,.ref pt,rfl,rfl,SqT.of (b0 _ _ et),z05 (j:=0) rfl,pt,ts,rfl,th.tt (.of (K:=KX w.params) b0),ok.n6,λ pb Hb sb zb=>?_⟩)⟩;refine ⟨w_2,λ r d5=>?_⟩;obtain ⟨L,v1,s1,e1⟩:=new1 (.tup [.ref a0,.ref pb]) d5;rw [<-v1];refine g_name ?_;have a4:=sb.trans s1;have R:=b0.trans a4;obtain ⟨e8,q0,z0,_⟩:=zb.stz (K:=KX w.params);have a6:PlZ (kx w) L r ([],ts.map λ t=>zeroK t.2):=⟨a0,pb,e8,SqT.of e1,SqT.of (a4 _ _ ea),s1.seqT q0,z01 (λ _ _ z=>StZ.tups (.of s1) z) z0⟩
  have d7:=(sa.trans a4) _ _ el;have f2:=z01 (λ _ _ z=>z.same (sa.trans a4)) aa;have b6:=z01 (λ _ _ z=>RcGd.tt (.of R) z) gd;have d9:=th.tt (.of (K:=KX w.params) R);have d6:=R _ _ et;clear el aa th et gd;refine z0s ?_;intro c a3;obtain ⟨W,v2,s2,e2⟩:=new1 (NsO c []) a3;rw [<-v2];have d0:IsPd (kx w) W (plD ([],ts.map λ t=>zeroK t.2)) (.ref r):=plz_pd (a6.tups (.of s2));refine ⟨_,rfl,r,_,rfl,rfl,e2,pl_key _,pl_dep _,d0,?_⟩;refine g_name ?_;have e3:upd W c (NsO c [(plD ([],ts.map λ t=>zeroK t.2),r)]) c=some (NsO c [(plD ([],ts.map λ t=>zeroK t.2),r)]):=upd_same;have s3:Same L (upd W c (NsO c [(plD ([],ts.map λ t=>zeroK t.2),r)])):=Same.keep s2 a3;generalize upd W c (NsO c [(plD ([],ts.map λ t=>zeroK t.2),r)])=H3 at e3 s3⊢;refine z0s ⟨_,rfl,w_1,λ l O=>?_⟩;refine g_name ?_;have f1:L l=none:=s3.free O;have b1:c≠l:=λ z=>by rw [<-z,e3] at O;cases O
  have g3:=(Same.upd (o:=.lst [.ref r]) O) _ _ e3;have g2:=upd_same (H:=H3) (a:=l) (o:=.lst [.ref r]);have v:=zeg a3 f1 (s3.trans (Same.upd (o:=.lst [.ref r]) O));generalize upd H3 l (.lst [.ref r])=F at g3 g2 v⊢;refine zal (z7m (λ k σ n=>∃ks zw ws,∃vis:List Pl,∃x6 x7 x8,k=wkP rs.length ws/\Same L (hid2 c l n)/\n c=some (NsO c ks)/\n l=some (.lst zw)/\KeyI (kx w) (hid2 c l n) (λ f=>f∈vis\/f∈ws) ks/\All2 (PzAt (kx w) (hid2 c l n)) ws zw/\(∀f∈ws,PlOk ts rs.length f.1.length f/\Com ts rs ps f)/\(∀f∈vis,Com ts rs ps f/\∀s∈nxT 0 ts rs ps f,plD s.2.2∈ks.map (·.1))/\plD ([],ts.map λ t=>zeroK t.2)∈ks.map (·.1)/\ks.length + wkP rs.length ws<=652/\σ=[some (.ref t),some (.str "strict"),some (.ref la),some (.ref r),some (.ref c),some (.ref l),x6,x7,x8])
   (λ k σ n=>∃ks zw y ws f,∃vis:List Pl,∃x6 x7 x8,k=wkP rs.length (ws++[f])/\Same L (hid2 c l n)/\n c=some (NsO c ks)/\n l=some (.lst (zw++[y]))/\KeyI (kx w) (hid2 c l n) (λ a=>a∈vis\/a∈ws++[f]) ks/\All2 (PzAt (kx w) (hid2 c l n)) ws zw/\PzAt (kx w) (hid2 c l n) f y/\(∀a∈ws++[f],PlOk ts rs.length a.1.length a/\Com ts rs ps a)/\(∀f∈vis,Com ts rs ps f/\∀s∈nxT 0 ts rs ps f,plD s.2.2∈ks.map (·.1))/\plD ([],ts.map λ t=>zeroK t.2)∈ks.map (·.1)/\ks.length + wkP rs.length (ws++[f])<=652/\σ=[some (.ref t),some (.str "strict"),some (.ref la),some (.ref r),some (.ref c),some (.ref l),x6,x7,x8])
   (wkP rs.length [([],ts.map λ t=>zeroK t.2)]) ⟨[(plD ([],ts.map λ t=>zeroK t.2),r)],[.ref r],[([],ts.map λ t=>zeroK t.2)],[],_,_,_,rfl,v,g3,g2,λ k hk=>?_,.cons ⟨r,rfl,a6.tups (.of v)⟩ .nil,λ f hp=>by rw [List.mem_singleton.mp hp];exact ⟨zea ts _,[],.nil⟩,λ _ h=>absurd h u0,List.mem_singleton.mpr rfl,by show 1 + wkP rs.length [([],ts.map λ t=>zeroK t.2)]<=652;rw [z7f];have:=wkN_5 (C0 (Nat.sub_le rs.length 0) rl);show 1 + wkN (rs.length - 0)<=652;omega,rfl⟩ ?_ ?_)
  ·rw [List.mem_singleton.mp hk];exact ⟨_,rfl,a6.tups (.of v),.inr (List.mem_singleton.mpr rfl)⟩
  ·rintro k σ F ⟨ks,zw,y,ws,f,vis,x6,x7,x8,rfl,v,es4,ew4,ki,aw,⟨p,rfl,pz⟩,M,lk,fv,kw,rfl⟩;obtain ⟨pp,J⟩:=M _ (List.mem_append.mpr (.inr (List.mem_singleton.mpr rfl)));have M :∀a∈ws,PlOk ts rs.length a.1.length a/\Com ts rs ps a:=λ a V=>M a (List.mem_append.mpr (.inl V));have mm :∀{a:Pl},a∈vis\/a∈ws++[f]->a∈f :: vis\/a∈ws:=λ {a} h=>by
    rcases h with h|h
    ·exact .inl (Z0 _ h)
    ·rcases List.mem_append.mp h with h|h
     ·exact .inr h
     ·rw [List.mem_singleton.mp h];exact .inl j1
   refine ⟨_,rfl,_,rfl,_,rfl,_,rfl,.inl ⟨rfl,_,SqL.of ew4⟩,l,zw++[.ref p],.ref p,rfl,rfl,ew4,by simp,?_⟩;rw [j29];have h5:hid2 c l (upd F l (.lst zw))=hid2 c l F:=hid2_b;have b2:upd F l (.lst zw) c=some (NsO c ks):=by rw [upd_ne b1];exact es4
   have a7:upd F l (.lst zw) l=some (.lst zw):=upd_same;generalize upd F l (.lst zw)=H5 at h5 b2 a7⊢;rw [<-h5] at v ki aw pz;have U:Same L H5:=v.trans hid2_same;refine ⟨t,la,p,pt,te,zs,ts,rs,ps,_,os,f,rfl,U _ _ d6,d9.tt (.of (K:=KX w.params) U),ok,U _ _ d7,z01 (λ _ _ z=>z.same U) f2,z01 (λ _ _ z=>RcGd.tt (.of U) z) b6,by omega,DI,pz.tups (.of hid2_same),pp,λ X y7 H7 s7 Z c7 a5=>⟨X,rfl,⟨_,SqL.of c7⟩,?_⟩⟩;have c8:=s7 _ _ b2;have c5:=s7 _ _ a7;have a9:Same (hid2 c l H5) (hid2 c l H7):=z5e s7;have e4:X≠c:=λ z=>by rw [z,b2] at Z;cases Z
   have d4:X≠l:=λ z=>by rw [z,a7] at Z;cases Z
   have d2:=z01 (λ _ _ z=>StpZ.tups (zbu c8 c5) z) a5;have nx:=zid b6 ok pp (by omega) (m:=0);have f8:=zce (m:=0) (ts:=ts) (ps:=ps) pp.nd pp.lt;have e7:y7.length<=rs.length - f.1.length:=by rw [z03 a5];show (nexT (cP 0 rs f.1) ts rs ps f rs.length).length<=_;omega
   have c4:wkN (rs.length - f.1.length - 1)<=651:=wkN_5 (by omega);have f0:wkP rs.length (ws++[f])=wkP rs.length ws + wkN (rs.length - f.1.length):=by rw [z9x,z7f]
   refine z85 (K:=KX w.params) (a:=X) (xs:=y7) (λ j σ n=>∃ks' zs' ws' jj,jj<=j/\Same (hid2 c l H7) (hid2 c l n)/\n c=some (NsO c ks')/\n l=some (.lst zs')/\KeyI (kx w) (hid2 c l n) (λ a=>a∈f :: vis\/a∈ws') ks'/\All2 (PzAt (kx w) (hid2 c l n)) ws' zs'/\(∀a∈ws',PlOk ts rs.length a.1.length a/\Com ts rs ps a)/\(∀d∈ks.map (·.1),d∈ks'.map (·.1))/\(∀s∈(nxT 0 ts rs ps f).take j,plD s.2.2∈ks'.map (·.1))/\ks'.length<=ks.length + jj/\wkP rs.length ws'=wkP rs.length ws + jj * wkN (rs.length - f.1.length - 1)/\∃x6 x7 x8,σ=[some (.ref t),some (.str "strict"),some (.ref la),some (.ref r),some (.ref c),some (.ref l),x6,x7,x8])
    ⟨ks,zw,ws,0,A0 _,Same.refl _,c8,c5,(ki.same a9).mono λ a h=>mm h,z01 (λ _ _ z=>z.same a9) aw,M,λ _ h=>h,λ _ h=>absurd h (by rw [U9];exact u0),A0 _,by rw [Nat.zero_mul];rfl,_,_,_,rfl⟩ (λ j σ n _ h=>?_) ?_ ?_
   ·obtain ⟨_,_,_,_,_,h,_⟩:=h;exact SqL.of (hid2_same _ _ (h _ _ (z3f e4 d4 c7)))
   ·rintro j y σ D hy ⟨ks',zs',ws',jj,lj,s8,es8,ew8,ki8,aw8,po8,ko8,pr8,kl8,wk8,x6,x7,x8,rfl⟩;have jl:j < y7.length:=(List.getElem?_eq_some_iff.mp hy).1;obtain ⟨u,c6,b9,B,rfl,c9,d3⟩:=z0g d2 hy;have b3:u∈nxT 0 ts rs ps f:=Q0 c6;have b4:=nx u b3;have tk :∀s∈(nxT 0 ts rs ps f).take (j + 1),s∈(nxT 0 ts rs ps f).take j\/s=u:=λ s x=>by
     rw [List.take_add_one,c6] at x;rcases List.mem_append.mp x with z|z
     ·exact .inl z
     ·exact .inr (List.mem_singleton.mp z)
    have d1:Same (hid2 c l H7) D:=s8.trans hid2_same;have Y:=d3.tups (.of s8);have f3:jj * wkN (rs.length - f.1.length - 1)<=5 * 651:=b8 (by omega) c4;have zl:zs'.length < 10000:=by have h1:=zfu (N:=rs.length) ws';rw [z03 aw8];omega
    refine ⟨b9,_,rfl,d1.seqT c9,rfl,_,_,rfl,_,_,rfl,_,_,rfl,rfl,?_⟩;have b7:=(ki8.same hid2_same).at_ (.inl es8);have c3:=plz_pd (Y.tups (.of hid2_same));refine z5x ⟨_,rfl,_,rfl,c,B,ks',plD u.2.2,rfl,rfl,b7,pl_key _,pl_dep _,c3,_,rfl,?_⟩;refine ite2 (λ _=>?_) λ d8=>⟨ks',zs',ws',jj,by omega,s8,es8,ew8,ki8,aw8,po8,ko8,λ s x=>?_,kl8,wk8,_,_,_,rfl⟩
    rotate_left
    ·rcases tk s x with z|z
     ·exact pr8 s z
     ·rw [z];by_cases C:plD u.2.2∈ks'.map (·.1)
      ·exact C
      ·exact absurd (by rw [decide_eq_false C];rfl) d8
    refine ⟨_,rfl,_,rfl,c,B,ks',plD u.2.2,rfl,rfl,rfl,es8,b7,R1 kl8 (u1 (m:=1000) (by omega) (by decide)),pl_key _,pl_dep _,c3,t_nx ?_⟩;have h9:hid2 c l (upd D c (NsO c (putN ks' (plD u.2.2) B)))=hid2 c l D:=hid2_a;have b5:upd D c (NsO c (putN ks' (plD u.2.2) B)) c=some (NsO c (putN ks' (plD u.2.2) B)):=upd_same;have a8:upd D c (NsO c (putN ks' (plD u.2.2) B)) l=some (.lst zs'):=by rw [upd_ne b1.symm];exact ew8
    generalize upd D c (NsO c (putN ks' (plD u.2.2) B))=H9 at h9 b5 a8⊢;rw [<-h9] at s8 ki8 aw8 Y;refine ⟨_,rfl,.inl ⟨rfl,_,SqL.of a8⟩,_,rfl,l,zs',_,rfl,rfl,a8,u1 zl (by decide),?_⟩;refine ⟨putN ks' (plD u.2.2) B,zs'++[.ref B],ws'++[u.2.2],jj + 1,by omega,by rw [hid2_b];exact s8,by rw [upd_ne b1];exact b5,upd_same,?_,?_,λ a V=>?_,λ d hd=>z82 (ko8 d hd),λ s x=>?_,C0 z7q (by omega),?_,_,_,_,rfl⟩
    ·rw [hid2_b];exact (ki8.mono λ a h=>h.imp id λ z=>List.mem_append.mpr (.inl z)).put Y (.inr (List.mem_append.mpr (.inr (List.mem_singleton.mpr rfl))))
    ·rw [hid2_b];exact z0v aw8 ⟨B,rfl,Y⟩
    ·rcases List.mem_append.mp V with z|z
     ·exact po8 a z
     ·rw [List.mem_singleton.mp z];exact ⟨b4.1,J.elim λ o z=>⟨_,.snoc z b3⟩⟩
    ·rcases tk s x with z|z
     ·exact z82 (pr8 s z)
     ·rw [z];exact zcq
    ·rw [z9x,wk8,Nat.succ_mul,z7f,b4.2,show rs.length - (f.1.length + 1)=rs.length - f.1.length - 1 by omega];omega
   ·rintro σ D ⟨ks',zs',ws',jj,lj,s8,es8,ew8,ki8,aw8,po8,ko8,pr8,kl8,wk8,x6,x7,x8,rfl⟩;have u:=zia (C0 lj e7);rw [show y7.length=(nxT 0 ts rs ps f).length from z03 a5,K3] at pr8;refine ⟨wkP rs.length ws',by rw [f0,wk8];omega,ks',zs',ws',f :: vis,_,_,_,rfl,(v.trans a9).trans s8,es8,ew8,ki8,aw8,po8,λ a V=>?_,ko8 _ fv,by rw [wk8];omega,rfl⟩;rcases List.mem_cons.mp V with z|z
    ·rw [z];exact ⟨J,pr8⟩
    ·exact ⟨(lk a z).1,λ s x=>ko8 _ ((lk a z).2 s x)⟩
  ·rintro k σ F ⟨ks,zw,ws,vis,x6,x7,x8,rfl,v,es4,ew4,ki,aw,M,lk,fv,kw,rfl⟩ body;refine ⟨_,rfl,w_0,λ l9 e6=>?_⟩;obtain ⟨H9,v9,S,e9⟩:=new1 (.lst []) e6;rw [<-v9];have C:=z5e (a:=c) (b:=l) S;refine ⟨l,l9,zw,rfl,rfl,SqL.of (S _ _ ew4),SqL.of e9,_,rfl,?_⟩;by_cases hz:zw=[]
   ·refine iteN (by rw [hz];decide) ?_;subst hz;cases aw;have kc:KeyI (kx w) H9 (Com ts rs ps) ks:=(((ki.same C).same hid2_same).mono λ a h=>(lk a (h.resolve_right u0)).1)
    refine ⟨_,rfl,q c ks H9 (R.trans ((v.trans C).trans hid2_same)) (R.free a3) (S _ _ es4) (by omega) kc λ f J=>?_⟩;obtain ⟨o,J⟩:=J;refine z60 (G:=λ f=>plD f∈ks.map (·.1)) fv (λ f hp s x=>?_) J;obtain ⟨k,hk,e⟩:=List.mem_map.mp hp;obtain ⟨f5,e',_,g⟩:=ki k hk;have:=zfb (e.symm.trans e');subst this;exact (lk f (g.resolve_right u0)).2 s x
   ·refine iteP (decide_eq_true hz) ?_;have ez:=(B4 hz).symm;rw [ez] at aw ew4;obtain ⟨wr,q0,rfl,a1,a2⟩:=zca aw;exact body _ ⟨ks,_,_,wr,q0,vis,x6,x7,x8,rfl,v.trans C,S _ _ es4,S _ _ ew4,ki.same C,z01 (λ _ _ z=>z.same C) a1,a2.same C,M,lk,fv,kw,rfl⟩
theorem zj6 {K:b0} {H:Hp} {a:Addr} {o:HO} {f:Heap->Prop} (e:H a=some (.ext f)):Tups K H (upd H a o):=λ p b h=>by
 rcases h with (h|⟨ob,h⟩)|h
 ·exact .inl (.inl (by rw [upd_ne (λ z=>by rw [z,e] at h;cases h)];exact h))
 ·exact .inl (.inr ⟨ob,by rw [upd_ne (λ z=>by rw [z,e] at h;cases h)];exact h⟩)
 ·exact .inr h
noncomputable def fullK (rs:List Rc) (ks:List (PyData×Addr)) (i:Nat):Bool:=(ks[i]?.map λ k=>@decide (∃pl,k.1=plD pl/\FullP rs pl) (X4 _)).getD false
theorem zb7 {rs:List Rc} {ks:List (PyData×Addr)} {i:Nat} {k:PyData×Addr} {pl:Pl} (h:ks[i]? = some k) (e:k.1=plD pl):fullK rs ks i=true↔FullP rs pl:=by
 unfold fullK;rw [h];show @decide _ (X4 _)=true↔_;rw [@decide_eq_true_iff _ (X4 _)];constructor
 ·rintro ⟨pl',e',f⟩;rw [zfb (e.symm.trans e')];exact f
 ·exact λ f=>⟨pl,e,f⟩
def z3k (K:b0):Sp:=λ vs H Q _=>∃(t:Addr) (ts:List (Str×Str)) (es:List Ev) (ps:List DD),vs=[.ref t,.str "strict"]/\TlP K H t ts es ps/\∀b H',Same H H'->(b=true↔∃o pl,Wk 0 ts (dAll 0 [] es) ps o pl/\FullP (dAll 0 [] es) pl)->Q (.bl b) H'
theorem z6q (T:TX (kx w) mg) (c0:Ca P w mg base "_law_deeds" ["tale"] 1 (z31 (kx w))) (c1:Ca P w mg base "_law_places" ["tale","strictness"] 4 (z4h (kx w))) (c2:Ca P w mg base "_law_is_full" ["some","place"] 1 (z3g (kx w))):Fo P w mg base CX0 5 445 y0i ["tale","strictness"] (z3k (kx w)):=by
 refine (z24 w.params).ok sc__law_is_good (λ S H Q E h=>?_) (λ a3 A a2 s H S Q E C h=>?_)
 ·obtain ⟨t,v,j,y,rfl,_⟩:=h;rfl
 ·obtain ⟨t,v,j,y,rfl,tp,q⟩:=h;refine ⟨_,(z02 (ps_set (i:=2) sc__law_is_good.nd rfl (U0 rfl) (pe_cal c0 (C.mono (by decide)) rfl (z00 (pv 0) pa_nil)))
   (z04 (ps_ret (z0r (zic C) (pe_cg (xs:=["place"]) (g:=gName 0) (fr:=[(2,"some")]) (zje (pe_cal c1 (C.mono (by decide)) rfl (z00 (pv 0) (z00 (pv 1) pa_nil)))) (λ _ _ _ _ _=>(pg_cn (N:=["place","some"]) 0)) (λ _ _ _ _ _=>(pf_one (pt_val (pe_cal c2 (C.mono (by decide)) rfl (z00 (pv 1) (z00 (pv 0) pa_nil))) (λ _=>rfl)))) (λ _ _ _ _ _=>(pv 0))) (pe_lst pa_nil) (nomark _))))),?_⟩
  refine z0s ⟨_,rfl,t,j,rfl,⟨v,tp.1,tp.2.2.1,tp.2.2.2.1⟩,λ la zs J W el aa=>?_⟩;refine g_name ?_;have a1:=tp.same W;have rl:=tp.2.2.2.2.2;refine sq_ret ?_;refine tcompN (λ a e m=>Same J m/\J a=none/\m a=some (NsO a e)/\e.length<=1000/\KeyI (kx w) m (Com v (dAll 0 [] j) y) e/\∀n,Com v (dAll 0 [] j) y n->plD n∈e.map (·.1)) (fullK (dAll 0 [] j)) (λ _ _ _=>True) (λ R h=>⟨_,rfl,_,rfl,t,v,j,y,rfl,a1,λ d e m x hd ed I u D=>h d e m ⟨x,hd,ed,I,u,D⟩⟩) (λ a e m h=>⟨h.2.2.1,C0 h.2.2.2.1 (by decide)⟩) ?_ ?_
  ·rintro a e m ob ⟨x,ha,ea,I,u,D⟩ i k p F s3 KT KF k1 k2;obtain ⟨n,r,⟨pa,pb,S,sp,sa,_⟩,_⟩:=u k (Q0 p);have O:Same J F:=(Same.keep x ha).trans s3;have X:Tups (kx w) m F:=λ c xs z=>s3.seqT (zj6 ea _ _ z);refine ⟨[some (.ref k.2)],rfl,rfl,?_⟩;refine ⟨_,rfl,_,rfl,la,k.2,pa,zs,_,n.1,.ref pb,rfl,O _ _ el,z01 (λ _ _ z=>z.same O) aa,by omega,X _ _ sp,X _ _ sa,λ b H4 L Y=>⟨_,rfl,?_⟩⟩;have U:=zb7 (rs:=dAll 0 [] j) p r;refine ite2 (λ h=>⟨_,rfl,k1 (U.mpr (Y.mp h)) _ _ L trivial⟩) λ h=>k2 ?_ _ L;cases hz:fullK (dAll 0 [] j) e i with
   | false=>rfl
   | true=>exact absurd (Y.mpr (U.mp hz)) h
  ·rintro a e m ob l F V ⟨x,ha,ea,I,u,D⟩ s3 hl fa;obtain ⟨H4,v4,q4,e4⟩:=new1 (.lst V) hl;rw [<-v4];refine ⟨w_0,λ l5 a0=>?_⟩;obtain ⟨H5,v5,M,e5⟩:=new1 (.lst []) a0;rw [<-v5];refine ⟨l,l5,V,rfl,rfl,SqL.of (M _ _ e4),SqL.of e5,q _ _ (W.trans (((Same.keep x ha).trans s3).trans (q4.trans M))) ?_⟩;have G:=z03 fa;rw [decide_eq_true_iff];constructor
   ·intro ne;have hp:0 < ((N1 e.length).filter (fullK (dAll 0 [] j) e)).length:=by rw [<-G];exact List.length_pos_iff.mpr ne
    obtain ⟨i,B⟩:=List.exists_mem_of_length_pos hp;obtain ⟨Z,h2⟩:=List.mem_filter.mp B;have p:=K0 (List.mem_range.mp Z);obtain ⟨n,r,_,o,K⟩:=u _ (Q0 p);exact ⟨o,n,K,(zb7 p r).mp h2⟩
   ·rintro ⟨o,n,K,f⟩ z;rw [z] at G;obtain ⟨k,p,r⟩:=List.mem_map.mp (D n ⟨o,K⟩);obtain ⟨i,B⟩:=List.mem_iff_getElem?.mp p;have:=List.filter_eq_nil_iff.mp (List.eq_nil_of_length_eq_zero G.symm) i (List.mem_range.mpr (List.getElem?_eq_some_iff.mp B).1);exact this ((zb7 B r).mpr f)
end
section
theorem EWf.take :∀{es:List Ev} {os:List Int} (m:Nat),EWf os es->EWf os (es.take m)
 | [],_,m,_=>by rw [M6];exact trivial
 | _ :: _,_,0,_=>trivial
 | _ :: es,_,m + 1,h=>⟨h.1,EWf.take m h.2⟩
theorem zjj {es:List Ev} (m:Nat):bgN (es.take m)<=bgN es:=by unfold bgN;exact ((List.take_sublist m es).filter _).length_le
theorem zc0 {α β:Type} {R:α->β->Prop} :∀{xs:List α} {ys:List β},All2 R xs ys->∀m,All2 R (xs.take m) (ys.take m)
 | _,_,.nil,m=>by rw [M6,M6];exact .nil
 | _,_,.cons _ _,0=>.nil
 | _,_,.cons a r,m + 1=>.cons a (zc0 r m)
theorem cP_iff {m:Nat} {rs:List Rc} {ns:List Nat} {n:Nat}:cP m rs ns n=true↔n∉ns/\(∀a,z0f m rs a n=true->a∈ns)/\∀b,z0f m rs n b=true->b∉ns:=by unfold cP cO;simp only [A2,decide_eq_true_iff];exact ⟨λ h=>⟨h.1.1,λ a c=>h.1.2 a (List.mem_range.mpr (z14 c).1) c,λ b d=>h.2 b (List.mem_range.mpr (z14 d).2) d⟩,λ h=>⟨⟨h.1,λ a _ c=>h.2.1 a c⟩,λ b _ d=>h.2.2 b d⟩⟩
theorem mem_nx {m:Nat} {ts:List (Str×Str)} {rs:List Rc} {ps:List DD} {pl:Pl} {s:Stp}:s∈nxT m ts rs ps pl↔∃n r p,cP m rs pl.1 n=true/\rs[n]? = some r/\ps[n]? = some p/\stp ts r p n pl=some s:=by
 unfold nxT nexT;rw [List.mem_filterMap];constructor
 ·rintro ⟨n,_,e⟩;unfold nexAt at e;split at e
  ·rename_i h;split at e
   ·rename_i r p hr hp;exact ⟨n,r,p,h,hr,hp,e⟩
   ·cases e
  ·cases e
 ·rintro ⟨n,r,p,h,hr,hp,e⟩;refine ⟨n,List.mem_range.mpr (List.getElem?_eq_some_iff.mp hr).1,?_⟩;unfold nexAt;rw [if_pos h,hr,hp];exact e
theorem stp_le {ts:List (Str×Str)} {r r':Rc} {p:DD} {n:Nat} {pl:Pl} {s:Stp} (h:r'.e=none\/r'=r) (e:stp ts r p n pl=some s):stp ts r' p n pl=some s:=by
 rcases h with h|h
 ·unfold stp at e⊢;rw [h];split at e
  ·split at e
   ·exact e
   ·cases e
  ·cases e
 ·rw [h];exact e
theorem stp_to {ts:List (Str×Str)} {r:Rc} {p:DD} {n:Nat} {pl:Pl} {s:Stp} (e:stp ts r p n pl=some s) :∀x,x∈s.2.2.1↔x∈pl.1\/x=n:=by
 unfold stp at e;split at e
 ·split at e
  ·cases e;intro x;show x∈srtN (pl.1++[n])↔_;rw [(z7k _).mem_iff,List.mem_append,List.mem_singleton]
  ·cases e
 ·cases e
def Gd (ts:List (Str×Str)) (ps:List DD) (es:List Ev):Prop:=∃o pl,Wk 0 ts (dAll 0 [] es) ps o pl/\FullP (dAll 0 [] es) pl
def Opn (rs:List Rc) (os:List Int):Prop:=∀h∈os,∀j,lastI h (rs.map Rc.h)=some j->∃r,rs[j]? = some r/\r.e=none
theorem Opn.step {i:Nat} {rs:List Rc} {os:List Int} {e:Ev} (I:Opn rs os) (ok:oOk os e):Opn (dstep i rs e) (oStep os e):=by
 cases e with
 | beg h0 n v x=>
  intro h d j b;change lastI h ((rs++[_]).map Rc.h)=some j at b;rw [E1,Y0,u4,z2k] at b;show∃r,(rs++[_])[j]? = some r/\_;by_cases z:h0=h
  ·rw [if_pos z,F0] at b;cases b;exact ⟨_,by rw [O1 (A0 _),K7];rfl,rfl⟩
  ·rw [if_neg z] at b;have lt:=z6h b;rw [F0] at lt;rw [B1 lt];refine I h ?_ j b;rcases List.mem_append.mp d with y|y
   ·exact y
   ·exact absurd (List.mem_singleton.mp y).symm z
 | fin h0 a=>
  intro h d j b;obtain ⟨l,c⟩:=List.mem_filter.mp (show h∈os.filter λ k=>decide (k≠h0) from d);have c:h≠h0:=of_decide_eq_true c;unfold dstep at b⊢;dsimp only at b⊢;cases hl:lastI h0 (rs.map Rc.h) with
  | none=>rw [hl] at b;exact I h l j b
  | some j0=>
   rw [hl] at b;dsimp only at b⊢;rw [zbo (f:=λ r=>{ r with a:=a,e:=some i }) (λ r=>rfl)] at b;obtain ⟨r,p,q⟩:=I h l j b;refine ⟨r,?_,q⟩;rw [N2,p];have m:j0≠j:=λ z=>by have g:=(z8n _ hl).1;have o:=(z8n _ b).1;rw [z,o] at g;exact c (Q1 g)
   show some (if j0=j then _ else r)=_;rw [if_neg m]
theorem zft :∀{es:List Ev} {e:Ev} {i:Nat} {rs:List Rc} {os:List Int},DInv i rs os->Opn rs os->EWf os (es++[e])->∃os',DInv (i + es.length) (dAll i rs es) os'/\Opn (dAll i rs es) os'/\oOk os' e/\dAll i rs (es++[e])=dstep (i + es.length) (dAll i rs es) e
 | [],e,i,rs,os,I,O,w=>⟨os,I,O,w.1,rfl⟩
 | x :: es,e,i,rs,os,I,O,w=>by
  obtain ⟨os',f,c,d,b⟩:=zft (I.step w.1).1 (O.step (i:=i) w.1) w.2;have a:i + (x :: es).length=i + 1 + es.length:=by rw [W0];omega
  rw [a];exact ⟨os',f,c,d,b⟩
section
variable {ts:List (Str×Str)} {ps:List DD} {rs:List Rc} {k:Nat}
theorem ah_app {r0:Rc} {a b:Nat} (ha:a < rs.length) (hb:b < rs.length):z0f 0 (rs++[r0]) a b=z0f 0 rs a b:=by unfold z0f;rw [B1 ha,B1 hb]
theorem ah_new {r0:Rc} {b:Nat} (h0:r0.e=none):z0f 0 (rs++[r0]) rs.length b=false:=by
 unfold z0f;rw [O1 (A0 _),K7];show (match some r0,(rs++[r0])[b]? with|some r,some q=>aheadB 0 r q|_,_=>false)=false;cases (rs++[r0])[b]? with
 | none=>rfl
 | some q=>show ltO r0.e q.b=false;rw [h0];rfl
theorem lt_app {r0:Rc} {a:Nat} (h:a < (rs++[r0]).length):a < rs.length\/a=rs.length:=by rw [G0] at h;have h:a < rs.length + 1:=h;omega
theorem wk_beg {r0:Rc} (h0:r0.e=none) {o:List Oa} {pl:Pl} (wk:Wk 0 ts rs ps o pl):Wk 0 ts (rs++[r0]) ps o pl/\∀x∈pl.1,x < rs.length:=by
 induction wk with
 | nil=>exact ⟨.nil,λ _ h=>absurd h u0⟩
 | @snoc o pl s _ h ih=>
  obtain ⟨n,r,p,m,i,q,f⟩:=mem_nx.mp h;have c:=(List.getElem?_eq_some_iff.mp i).1;obtain ⟨l,t,j⟩:=cP_iff.mp m;refine ⟨.snoc ih.1 (mem_nx.mpr ⟨n,r,p,cP_iff.mpr ⟨l,λ a d=>?_,λ b g=>?_⟩,by rw [B1 c];exact i,q,f⟩),λ x k=>?_⟩
  ·rcases lt_app (z14 d).1 with z|z
   ·exact t a (by rwa [ah_app z c] at d)
   ·rw [z,ah_new h0] at d;cases d
  ·rcases lt_app (z14 g).2 with z|z
   ·exact j b (by rwa [ah_app c z] at g)
   ·rw [z];exact λ y=>absurd (ih.2 _ y) (J3 _)
  ·rcases (stp_to f x).mp k with z|z
   ·exact ih.2 x z
   ·rw [z];exact c
theorem zkp {r0:Rc} (h0:r0.e=none) (hb :∀r∈rs,∀e,r.e=some e->e < r0.b) {o:List Oa} {pl:Pl} (wk:Wk 0 ts (rs++[r0]) ps o pl):(rs.length∉pl.1/\Wk 0 ts rs ps o pl)\/∃o pl,Wk 0 ts rs ps o pl/\FullP rs pl:=by
 induction wk with
 | nil=>exact .inl ⟨u0,.nil⟩
 | @snoc o pl s _ h ih=>
  rcases ih with ⟨q,k⟩|ih;rotate_left
  ·exact .inr ih
  obtain ⟨n,r,p,v,d,w,j⟩:=mem_nx.mp h;obtain ⟨u,l,m⟩:=cP_iff.mp v;rcases lt_app (List.getElem?_eq_some_iff.mp d).1 with z|z
  ·rw [B1 z] at d;refine .inl ⟨λ y=>?_,.snoc k (mem_nx.mpr ⟨n,r,p,cP_iff.mpr ⟨u,λ a i=>l a ?_,λ b hb=>m b ?_⟩,d,w,j⟩)⟩
   ·rcases (stp_to j _).mp y with y|y
    ·exact q y
    ·omega
   ·rw [ah_app (z14 i).1 z];exact i
   ·rw [ah_app z (z14 hb).2];exact hb
  ·subst z;refine .inr ⟨o,pl,k,λ n g f c=>l n ?_⟩;obtain ⟨e,c⟩:=Option.isSome_iff_exists.mp c;have t:=(List.getElem?_eq_some_iff.mp f).1;rw [z2b (by rw [B1 t];exact f) (show (rs++[r0])[rs.length]? = some r0 by rw [O1 (A0 _),K7];rfl)];show ltO g.e r0.b=true;rw [c];exact decide_eq_true (hb g (Q0 f) e c)
theorem zjq {j:Nat} {a:V} {r1:Rc} (h1:rs[j]? = some r1) (he:r1.e=none) (hb :∀r∈rs,r.b < k) {o:List Oa} {pl:Pl} (wk:Wk 0 ts (rs.modify j λ r=>{ r with a:=a,e:=some k }) ps o pl):Wk 0 ts rs ps o pl:=by
 have d :∀x y,z0f 0 (rs.modify j λ r=>{ r with a:=a,e:=some k }) x y=z0f 0 rs x y:=λ x y=>by
  unfold z0f;rw [N2,N2];cases hx:rs[x]? with
  | none=>rfl
  | some r=>
   cases hy:rs[y]? with
   | none=>rfl
   | some q=>
    show ltO (if j=x then { r with a:=a,e:=some k } else r).e (if j=y then { q with a:=a,e:=some k } else q).b=ltO r.e q.b;have g:(if j=y then { q with a:=a,e:=some k } else q).b=q.b:=by split<;>rfl
    rw [g];by_cases z:j=x
    ·subst z;rw [if_pos rfl];rw [h1] at hx;cases hx;rw [he];exact decide_eq_false (by have:=hb q (Q0 hy);omega)
    ·rw [if_neg z]
 induction wk with
 | nil=>exact .nil
 | @snoc o pl s _ h ih=>
  obtain ⟨n,r,p,u,f,v,m⟩:=mem_nx.mp h;obtain ⟨t,A,i⟩:=cP_iff.mp u;rw [N2] at f;obtain ⟨l,c,e⟩:=Option.map_eq_some_iff.mp f;refine .snoc ih (mem_nx.mpr ⟨n,l,p,cP_iff.mpr ⟨t,λ a w=>A a (by rw [d];exact w),λ b hb=>i b (by rw [d];exact hb)⟩,c,v,stp_le ?_ m⟩);by_cases z:j=n
  ·subst z;rw [h1] at c;cases c;exact .inl he
  ·rw [if_neg z] at e;exact .inr e
end
theorem gd_pre {ts:List (Str×Str)} {ps:List DD} {es:List Ev} {e:Ev} (wf:EWf [] (es++[e])) (h:Gd ts ps (es++[e])):Gd ts ps es:=by
 obtain ⟨q,I,O,ok,l⟩:=zft (i:=0) DInv.nil (λ _ h=>absurd h u0) wf;obtain ⟨o,k,c,d⟩:=h;rw [l] at c d;rw [G7] at I c d;unfold Gd;generalize dAll 0 [] es=rs at *;cases e with
 | beg h n v x=>
  rcases zkp rfl (λ r f e g=>I.e r f e g) c with z|z
  ·refine ⟨o,k,z.2,λ n r f g=>d n r ?_ g⟩;show (rs++[_])[n]? = _;rw [B1 (List.getElem?_eq_some_iff.mp f).1];exact f
  ·exact z
 | fin h a=>
  have p:h∈q:=ok;unfold dstep at c d;dsimp only at c d;cases hl:lastI h (rs.map Rc.h) with
  | none=>rw [hl] at c d;exact ⟨o,k,c,d⟩
  | some j=>
   rw [hl] at c d;dsimp only at c d;obtain ⟨t,s,g⟩:=O h p j hl;refine ⟨o,k,zjq s g I.b c,λ n r f m=>?_⟩;refine d n (if j=n then { r with a:=a,e:=some es.length } else r) (by rw [N2,f];rfl) ?_;by_cases z:j=n
   ·rw [if_pos z];rfl
   ·rw [if_neg z];exact m
theorem gd_beg {ts:List (Str×Str)} {ps:List DD} {es:List Ev} {h:Int} {n v x:V} (wf:EWf [] (es++[.beg h n v x])) (g:Gd ts ps es):Gd ts ps (es++[.beg h n v x]):=by
 obtain ⟨j,I,O,ok,c⟩:=zft (i:=0) DInv.nil (λ _ h=>absurd h u0) wf;obtain ⟨o,d,e,f⟩:=g;unfold Gd;rw [c];generalize dAll 0 [] es=rs at *;refine ⟨o,d,(wk_beg rfl e).1,λ n r a b=>?_⟩;change (rs++[_])[n]? = _ at a;rcases lt_app (List.getElem?_eq_some_iff.mp a).1 with z|z
 ·rw [B1 z] at a;exact f n r a b
 ·rw [z,O1 (A0 _),K7] at a;cases a;cases b
theorem gd_nil {ts:List (Str×Str)} {ps:List DD}:Gd ts ps []:=⟨[],_,.nil,λ n r a=>by cases a⟩
theorem gd_all {ts:List (Str×Str)} {ps:List DD} {es:List Ev} (wf:EWf [] es) {a b:Nat} (hab:a<=b) (h:Gd ts ps (es.take b)):Gd ts ps (es.take a):=by
 induction b with
 | zero=>rw [Nat.le_zero.mp hab];exact h
 | succ b ih=>
  rcases Nat.lt_or_eq_of_le hab with z|z
  ·refine ih (by omega) ?_;by_cases y:b < es.length
   ·rw [S3 y] at h;refine gd_pre ?_ h;rw [<-S3 y];exact EWf.take _ wf
   ·rw [o5 (by omega)] at h⊢;exact h
  ·rw [z];exact h
theorem gd_end {ts:List (Str×Str)} {ps:List DD} {es:List Ev} (wf:EWf [] es) {d:Nat} (hd:d < es.length) (g:Gd ts ps (es.take d)) (b:¬ Gd ts ps (es.take (d + 1))) :∃h a,es[d]? = some (.fin h a):=by
 rw [K0 hd];cases he:es[d] with
 | fin h a=>exact ⟨h,a,rfl⟩
 | beg h n v x=>refine absurd ?_ b;have c:EWf [] (es.take (d + 1)):=EWf.take _ wf;rw [S3 hd,he] at c⊢;exact gd_beg c g
theorem nx_take {m:Nat} {ts:List (Str×Str)} {rs:List Rc} {ps:List DD} {pl:Pl} {s:Stp}:s∈nxT m ts rs (ps.take rs.length) pl↔s∈nxT m ts rs ps pl:=by
 rw [mem_nx,mem_nx];constructor
 ·rintro ⟨n,r,p,h1,h2,h3,h4⟩;rw [O6 (List.getElem?_eq_some_iff.mp h2).1] at h3;exact ⟨n,r,p,h1,h2,h3,h4⟩
 ·rintro ⟨n,r,p,h1,h2,h3,h4⟩;exact ⟨n,r,p,h1,h2,by rw [O6 (List.getElem?_eq_some_iff.mp h2).1];exact h3,h4⟩
theorem wk_take {m:Nat} {ts:List (Str×Str)} {rs:List Rc} {ps:List DD} {o:List Oa} {pl:Pl}:Wk m ts rs (ps.take rs.length) o pl↔Wk m ts rs ps o pl:=by
 constructor
 ·intro h;induction h with
  | nil=>exact .nil
  | snoc _ h ih=>exact .snoc ih (nx_take.mp h)
 ·intro h;induction h with
  | nil=>exact .nil
  | snoc _ h ih=>exact .snoc ih (nx_take.mpr h)
end
section
variable {P:Program} {w:P0} {mg:Str->Option Value} {base:Heap}
theorem cut_ev {K:b0} {H:Hp} {te:Addr} {ys:List V} {m:Nat} {Q:VK} (e:H te=some (.tup ys)) (hm:m<=ys.length) (q :∀p H',Same H H'->H' p=some (.tup (ys.take m))->Q (.ref p) H'):(rSlL K (.ref te) none (some (m:Int)) H Q\/rSlT K (.ref te) none (some (m:Int)) H Q\/rSlS (.ref te) none (some (m:Int)) H Q)\/rSlW K (.ref te) none (some (m:Int)) H Q:=by
 obtain ⟨b,d,a⟩:=cut_to hm;by_cases z:m=ys.length
 ·refine .inr ⟨te,ys,rfl,SqT.of e,⟨d,a.trans z⟩,q te H (Same.refl _) ?_⟩;rw [z,K3];exact e
 ·refine .inl (.inr (.inl ⟨te,ys,rfl,SqT.of e,λ h=>z (a.symm.trans h.2),λ p c=>q p _ (Same.upd c) ?_⟩));rw [b];exact upd_same
structure TlA (K:b0) (H:Hp) (t pt te:Addr) (ys:List V) (ts:List (Str×Str)) (es:List Ev) (ps:List DD):Prop where
 t:H t=some (.tup [.ref pt,.ref te])
 th:ThAt H pt ts
 te:H te=some (.tup ys)
 al:All2 (EvAt K H) es ys
 ok:ThW ts
 l:es.length<=63
 wf:EWf [] es
 gd :∀m,m<=es.length->All2 (RcGd K H ts) (dAll 0 [] (es.take m)) (ps.take (dAll 0 [] (es.take m)).length)
 bg:bgN es<=5
theorem TlA.same {K:b0} {H H':Hp} {t pt te:Addr} {ys:List V} {ts:List (Str×Str)} {es:List Ev} {ps:List DD} (s:Same H H') (h:TlA K H t pt te ys ts es ps):TlA K H' t pt te ys ts es ps:=⟨s _ _ h.t,h.th.tt (.of (K:=K) s),s _ _ h.te,z01 (λ _ _ z=>EvAt.tups (.of s) z) h.al,h.ok,h.l,h.wf,λ m a=>z01 (λ _ _ z=>RcGd.tt (.of s) z) (h.gd m a),h.bg⟩
theorem TlA.cut {K:b0} {H H':Hp} {t pt te p q:Addr} {ys:List V} {ts:List (Str×Str)} {es:List Ev} {ps:List DD} {m:Nat} (h:TlA K H t pt te ys ts es ps) (hm:m<=es.length) (s:Same H H') (e:H' p=some (.tup [.ref pt,.ref q])) (e2:H' q=some (.tup (ys.take m))):TlP K H' p ts (es.take m) (ps.take (dAll 0 [] (es.take m)).length):=
 have g:=h.same s
 ⟨⟨pt,q,_,e,g.th,e2,zc0 g.al m⟩,h.ok,by rw [L3];have:=h.l;omega,EWf.take m h.wf,g.gd m hm,by rw [zi8,N7,G7];exact C0 (zjj m) h.bg⟩
theorem gd_take {ts:List (Str×Str)} {ps:List DD} {es:List Ev}:Gd ts ps es↔∃o pl,Wk 0 ts (dAll 0 [] es) (ps.take (dAll 0 [] es).length) o pl/\FullP (dAll 0 [] es) pl:=
 ⟨λ ⟨o,pl,h1,h2⟩=>⟨o,pl,wk_take.mpr h1,h2⟩,λ ⟨o,pl,h1,h2⟩=>⟨o,pl,wk_take.mp h1,h2⟩⟩
def z5s (K:b0):Sp:=λ vs H Q _=>∃(t te:Addr) (th:V) (ys:List V) (m:Nat),vs=[.ref t,.int (m:Nat)]/\SqT K H t [th,.ref te]/\H te=some (.tup ys)/\m<=ys.length/\∀p q H',Same H H'->H' p=some (.tup [th,.ref q])->H' q=some (.tup (ys.take m))->Q (.ref p) H'
theorem zb9 (T:TX (kx w) mg) (c0:Ca P w mg base "is_whole" ["value"] 1 z4p):Fo P w mg base CX0 2 333 y17 ["tale","many"] (z5s (kx w)):=by
 refine (z4w w.params).ok zas (λ k H Q E h=>?_) (λ x A u s H k Q E l h=>?_)
 ·obtain ⟨t,a,f,c,m,rfl,_⟩:=h;rfl
 ·obtain ⟨t,a,f,c,m,rfl,b,d,i,q⟩:=h;have r:SqT (kx w) H a c:=SqT.of d;refine ⟨_,(z02 (ps_if (PW.pt (pw_or (pt_not (pt_val (pe_cal c0 (l.mono (by decide)) rfl (z00 (pv 1) pa_nil)) (λ _=>rfl))) (pw_or1 (pt_not (ziz op_le op_le pe_int (pv 1) (z0c z12 rfl (T.no (n_len _)) M3 (z00 (pe_ix ix_seq (pv 0) pe_int (λ _ _=>rfl)) pa_nil)))))))
   (z04 z7r)
   z0d)
   (z04 (ps_ret (pe_tup (z00 (pe_ix ix_seq (pv 0) pe_int (λ _ _=>rfl)) (z00 (z1g slSeqW (pe_ix ix_seq (pv 0) pe_int (λ _ _=>rfl)) z2p (z1k (pv 1))) pa_nil)))))),?_⟩
  refine ⟨_,rfl,.int (m:Nat),"int",rfl,rfl,_,rfl,iteN (by decide) ?_⟩;refine ⟨_,rfl,0,(m:Nat),rfl,rfl,_,rfl,iteP (decide_eq_true (by omega)) ?_⟩;refine ⟨_,rfl,.inr (.inl ⟨t,_,1,.ref a,rfl,rfl,b,z05 (j:=1) rfl,.inl ⟨a,c,rfl,.inr r,(m:Nat),_,rfl,rfl,_,rfl,iteN (by rw [decide_eq_true (by omega)];decide) ?_⟩⟩)⟩;refine ⟨_,rfl,.inr (.inl ⟨t,_,0,f,rfl,rfl,b,z05 (j:=0) rfl,_,rfl,.inr (.inl ⟨t,_,1,.ref a,rfl,rfl,b,z05 (j:=1) rfl,_,rfl,_,rfl,cut_ev d i λ o v n g=>?_⟩)⟩)⟩;exact ⟨w_2,λ p e=>q p o _ (n.trans (Same.upd e)) upd_same ((Same.upd e) _ _ g)⟩
def zc7 (K:b0):Sp:=λ vs H Q _=>∃(t pt te:Addr) (ys:List V) (ts:List (Str×Str)) (es:List Ev) (ps:List DD) (m:Nat),vs=[.ref t,.int (m:Nat)]/\TlA K H t pt te ys ts es ps/\m<=es.length/\∀b H',Same H H'->(b=true↔¬ Gd ts ps (es.take m))->Q (.bl b) H'
theorem zgr (T:TX (kx w) mg) (c0:Ca P w mg base "beginning" ["tale","many"] 2 (z5s (kx w))) (c1:Ca P w mg base "judged" ["tale","strictness"] 8 (zbr (kx w))):Fo P w mg base CX0 9 340 y2b ["tale","many"] (zc7 (kx w)):=by
 refine (zb2 w.params).ok zhk (λ v H Q E h=>?_) (λ J A G s H v Q E j h=>?_)
 ·obtain ⟨t,pt,i,d,k,c,p,m,rfl,_⟩:=h;rfl
 ·obtain ⟨t,pt,i,d,k,c,p,m,rfl,a,r,q⟩:=h;refine ⟨_,(z04 (ps_ret (z0r op_isN (pe_cal c1 (j.mono (by decide)) rfl (z00 (pe_cal c0 (j.mono (by decide)) rfl (z00 (pv 0) (z00 (pv 1) pa_nil))) (z00 pe_str pa_nil))) pe_non (nomark _)))),?_⟩;have M:d.length=c.length:=z03 a.al;refine ⟨_,rfl,_,rfl,t,i,.ref pt,d,m,rfl,SqT.of a.t,a.te,by omega,λ B K I e n C=>?_⟩;refine ⟨B,k,c.take m,_,0,rfl,a.cut r e n C,λ u f y=>⟨rfl,q _ _ (e.trans f) ⟨λ _ g=>?_,λ _=>decide_eq_true rfl⟩⟩,λ l L o b u f _ _ D z=>⟨rfl,q _ _ (e.trans f) ⟨λ h=>?_,λ h=>absurd (gd_take.mpr ⟨o,b,D,z⟩) h⟩⟩⟩
  ·obtain ⟨o,b,F,x⟩:=gd_take.mp g;exact y o b F x
  ·cases of_decide_eq_true h
def z37 (K:b0):Sp:=λ vs H Q _=>∃(t pt te:Addr) (ys:List V) (ts:List (Str×Str)) (es:List Ev) (ps:List DD),vs=[.ref t]/\TlA K H t pt te ys ts es ps/\(∀H',Same H H'->Gd ts ps es->Q .non H')/\∀(d:Nat) H',Same H H'->d < es.length->Gd ts ps (es.take d)->¬ Gd ts ps (es.take (d + 1))->Q (.int ((d + 1:Nat))) H'
theorem z6a (T:TX (kx w) mg) (c0:Ca P w mg base "is_bad" ["tale","many"] 9 (zc7 (kx w))):Fo P w mg base CX0 10 347 y0a ["tale"] (z37 (kx w)):=by
 refine (z1u w.params).ok sc_bad_beginning (λ D H Q E h=>?_) (λ O A N s H D Q E x h=>?_)
 ·obtain ⟨t,pt,m,n,e,a,d,rfl,_⟩:=h;rfl
 ·obtain ⟨t,pt,m,n,e,a,d,rfl,f,G,q⟩:=h;refine ⟨_,(z02 (ps_set (i:=1) sc_bad_beginning.nd rfl (V0 rfl) (z0c z12 rfl (T.no (n_len _)) M3 (z00 (pe_ix ix_seq (pv 0) pe_int (λ _ _=>rfl)) pa_nil)))
   (z02 (ps_if (pt_not (pt_val (pe_cal c0 (x.mono (by decide)) rfl (z00 (pv 0) (z00 (pv 1) pa_nil))) (λ _=>rfl)))
   (z04 (ps_ret pe_non))
   z0d)
   (z02 (ps_set (i:=2) sc_bad_beginning.nd rfl (V0 rfl) pe_int)
   (z02 (zb0 U1 (z08 op_gt (pe_op op_sub (pv 1) (pv 2)) pe_int (nomark _))
   (z02 (ps_set (i:=3) sc_bad_beginning.nd rfl (V0 rfl) (pe_op z8b (pe_op opAdd (pv 2) (pv 1)) pe_int))
   (z04 (ps_if (pt_val (pe_cal c0 (x.mono (by decide)) rfl (z00 (pv 0) (z00 (pv 3) pa_nil))) (λ _=>rfl))
   (z04 (ps_set (i:=1) sc_bad_beginning.nd rfl (V0 rfl) (pv 3)))
   (z04 (ps_set (i:=2) sc_bad_beginning.nd rfl (V0 rfl) (pv 3)))))))
   (z04 (ps_ret (pv 1))))))),?_⟩
  have L:n.length=a.length:=z03 f.al;refine ⟨_,rfl,.inr (.inl ⟨t,_,1,.ref m,rfl,rfl,SqT.of f.t,z05 (j:=1) rfl,.inl ⟨m,n,rfl,.inr (SqT.of f.te),?_⟩⟩)⟩;rw [L];refine g_name (t_nx ?_);refine sq_if ?_;refine ⟨_,rfl,_,rfl,t,pt,m,n,e,a,d,a.length,rfl,f,A0 _,λ b y r o=>⟨_,rfl,?_⟩⟩;rw [K3] at o;cases b with
  | false=>exact iteP rfl (G _ r (g9 λ z=>by have:=o.mpr z;cases this))
  | true=>
  refine iteN (by decide) (t_nx ?_);have p:=o.mp rfl;refine g_name (t_nx ?_);have F:Gd e d (a.take 0):=gd_nil;have J:0 < a.length:=by
   rcases Nat.eq_zero_or_pos a.length with z|z
   ·rw [List.eq_nil_of_length_eq_zero z] at p;exact absurd gd_nil p
   ·exact z
  rw [<-K3 (l:=a)] at p;refine zal (z7m (λ k σ u=>∃(g b:Nat) (x3:Option V),k=b - g/\g < b/\b<=a.length/\Same y u/\Gd e d (a.take g)/\¬ Gd e d (a.take b)/\σ=[some (.ref t),some (.int (b:Nat)),some (.int (g:Nat)),x3]) (λ k σ u=>∃(g b:Nat) (x3:Option V),k=b - g/\g + 1 < b/\b<=a.length/\Same y u/\Gd e d (a.take g)/\¬ Gd e d (a.take b)/\σ=[some (.ref t),some (.int (b:Nat)),some (.int (g:Nat)),x3]) a.length ⟨0,a.length,_,rfl,J,A0 _,Same.refl _,F,p,rfl⟩ ?_ ?_)
  ·rintro k σ C ⟨g,b,x3,rfl,hg,hl,s2,gg,gb,rfl⟩;refine ⟨_,rfl,_,rfl,.inl ⟨_,_,rfl,rfl,?_⟩⟩;have K:((g:Nat):Int) + ((b:Nat):Int)=((g + b:Nat):Int):=by omega
   rw [K];have I:((g + b:Nat):Int) / 2=(((g + b) / 2:Nat):Int):=by omega
   refine ⟨_,_,rfl,rfl,⟨by decide,by decide⟩,?_⟩;rw [show ((λ i j:Int=>V.int (i / j)) (((g + b:Nat):Int)) 2)=V.int (((g + b) / 2:Nat):Int) from congrArg V.int I];refine g_name (t_nx ?_);refine z5x ⟨_,rfl,_,rfl,t,pt,m,n,e,a,d,(g + b) / 2,rfl,f.same (r.trans s2),by omega,λ c M v B=>⟨_,rfl,?_⟩⟩;refine ite2 (λ h=>?_) λ h=>?_
   ·refine ⟨_,rfl,g_name ?_⟩;exact ⟨(g + b) / 2 - g,by omega,g,(g + b) / 2,_,rfl,by omega,by omega,s2.trans v,gg,B.mp h,rfl⟩
   ·refine ⟨_,rfl,g_name ?_⟩;exact ⟨b - (g + b) / 2,by omega,(g + b) / 2,b,_,rfl,by omega,hl,s2.trans v,g9 λ z=>h (B.mpr z),gb,rfl⟩
  ·rintro k σ C ⟨g,b,x3,rfl,hg,hl,s2,gg,gb,rfl⟩ body;refine ⟨_,rfl,_,rfl,_,_,rfl,rfl,_,1,rfl,rfl,_,rfl,?_⟩;refine ite2 (λ h=>?_) λ h=>?_
   ·exact body _ ⟨g,b,x3,rfl,by have:=of_decide_eq_true h;omega,hl,s2,gg,gb,rfl⟩
   ·have o:b=g + 1:=d9 λ z=>h (decide_eq_true (by omega));subst o;exact ⟨_,rfl,q g _ (r.trans s2) hl gg gb⟩
theorem zf3 {K:b0} {H:Hp} {ts:List (Str×Str)} :∀{es:List Ev} {i:Nat} {rs:List Rc} {ps:List DD},(∀e∈es,EvGd K H ts e)->All2 (RcGd K H ts) rs ps->∃qs,∀m,m<=es.length->All2 (RcGd K H ts) (dAll i rs (es.take m)) ((ps++qs).take (dAll i rs (es.take m)).length)
 | [],i,rs,ps,_,h=>⟨[],λ m _=>by rw [M6,j2];show All2 _ rs (ps.take rs.length);rw [<-z03 h,K3];exact h⟩
 | e :: es,i,rs,ps,g,h=>by
  have A :∃r,All2 (RcGd K H ts) (dstep i rs e) (ps++r):=by
   have b:=g e j1;cases e with
   | beg hd n v x=>obtain ⟨f,k,d,l,o,u,c,t,w,s⟩:=b;exact ⟨[⟨f,k,d,l⟩],z0v (x:=(⟨hd,n,v,x,.non,i,none⟩:Rc)) (y:=(⟨f,k,d,l⟩:DD)) h ⟨o,u,c,t,w,s,.inl ⟨rfl,rfl⟩⟩⟩
   | fin hd a=>
    have b:IsA a:=b;refine ⟨[],?_⟩;rw [j2];unfold dstep;dsimp only;cases lastI hd (rs.map Rc.h) with
    | none=>exact h
    | some j=>exact ze8 (λ x y z=>⟨z.1,z.2.1,z.2.2.1,z.2.2.2.1,z.2.2.2.2.1,z.2.2.2.2.2.1,.inr ⟨rfl,b⟩⟩) j h
  obtain ⟨r,B⟩:=A;obtain ⟨qs,p⟩:=zf3 (es:=es) (i:=i + 1) (λ x q=>g x (Z0 _ q)) B;refine ⟨r++qs,λ m c=>?_⟩;cases m with
  | zero=>show All2 _ rs ((ps++(r++qs)).take rs.length);rw [<-z03 h,List.take_left];exact h
  | succ m=>rw [<-K6];exact p m (Nat.le_of_succ_le_succ c)
def sp_law (K:b0):Sp:=λ vs H Q _=>∃(a:Addr) (ns:List Int),vs=[.ref a]/\SqL K H a (ns.map V.int)/\ns.length<=63/\∀H',Q (.bl true) H'
theorem ok_law (T:TX (kx w) mg) (c0:Ca P w mg base "_law_tale" ["script","most"] 4 (z5o (kx w))) (c4:Ca P w mg base "_law_is_good" ["tale","strictness"] 5 (z3k (kx w))) (c5:Ca P w mg base "bad_beginning" ["tale"] 10 (z37 (kx w))):Fo P w mg base CX0 11 452 fd_law ["script"] (sp_law (kx w)):=by
 refine (F_law w.params).ok sc_law (λ vs H Q E h=>?_) (λ a6 A a5 s H vs Q E N h=>?_)
 ·obtain ⟨a,ns,rfl,_⟩:=h;rfl
 ·obtain ⟨S,ns,rfl,sq,nl,q⟩:=h;refine ⟨_,(z02 (ps_set (i:=1) sc_law.nd rfl (V0 rfl) (pe_cal c0 (N.mono (by decide)) rfl (z00 (pv 0) (z00 pe_int pa_nil))))
   (z02 (ps_set (i:=2) sc_law.nd rfl (V0 rfl) pe_non)
   (z02 (ps_for U1 rfl (z23 rfl (T.no (z6d _)) (z00 (pe_op opAdd (z0c z12 rfl (T.no (n_len _)) M3 (z00 (pe_ix ix_seq (pv 1) pe_int (λ _ _=>rfl)) pa_nil)) pe_int) pa_nil)) (z0h (i:=3) sc_law.nd rfl (V0 rfl))
   (z04 (ps_if (PW.pt (pw_and (z08 op_isN (pv 2) pe_non (nomark _)) (z9g (pt_not (pt_val (pe_cal c4 (N.mono (by decide)) rfl (z00 (pe_tup (z00 (pe_ix ix_seq (pv 1) pe_int (λ _ _=>rfl)) (z00 (z1g slSeqW (pe_ix ix_seq (pv 1) pe_int (λ _ _=>rfl)) z2p (z1k (pv 3))) pa_nil))) (z00 pe_str pa_nil))) (λ _=>rfl))))))
   (z04 (ps_set (i:=2) sc_law.nd rfl (V0 rfl) (pv 3)))
   z0d)))
   (z02 (ps_set (i:=4) sc_law.nd rfl (V0 rfl) (pe_cal c5 (N.mono (by decide)) rfl (z00 (pv 1) pa_nil)))
   (z02 (ps_if (z08 z77 (pe_cal c5 (N.mono (by decide)) rfl (z00 (pe_tup (z00 (pe_tup pa_nil) (z00 (pe_tup pa_nil) pa_nil))) pa_nil)) pe_non (nomark _))
   (z04 (ps_ret pe_bl))
   z0d)
   (z02 (ps_if (z08 op_isN (pv 2) pe_non (nomark _))
   (z04 (ps_ret (z0r op_isN (pv 4) pe_non (nomark _))))
   z0d)
   (z04 (ps_ret (pe_and (z0c z0q rfl (T.no (z0l _)) F3 (z00 (pv 4) (z00 (z45 (v:=.ty "int") rfl (T.no (n_int _)) j1g rfl) pa_nil))) (pe_and (pe_not (z0c z0q rfl (T.no (z0l _)) F3 (z00 (pv 4) (z00 (z45 (v:=.ty "bool") rfl (T.no (n_bool _)) boot_bool rfl) pa_nil)))) (pe_and (z0r opEq (pv 4) (pv 2) (nomark _)) (pe_one (z0r opEq (pe_ix ix_seq (pe_ix ix_seq (pe_ix ix_seq (pv 1) pe_int (λ _ _=>rfl)) (pe_op op_sub (pv 2) pe_int) (λ _ _=>rfl)) pe_int (λ _ _=>rfl)) pe_str (nomark _)))))))))))))),?_⟩
  refine ⟨_,rfl,S,ns,rfl,sq,nl,λ t pt B f c o L s1 I M th ok a3 G el K bg k=>?_⟩;refine g_name (t_nx ?_);have eg :∀e∈c,EvGd (kx w) L o e:=λ e U=>by obtain ⟨i,hi⟩:=List.mem_iff_getElem?.mp U;obtain ⟨y,_,z⟩:=z0t G hi;exact z.n
  have ew:All2 (λ e y=>EvW (kx w) L (wordE e) y) c f:=z01 (λ _ _ z=>z.w) G;have yl:f.length=c.length:=z03 G;obtain ⟨ps,gd⟩:=zf3 (i:=0) (rs:=[]) (ps:=[]) eg .nil;have ta:TlA (kx w) L t pt B f o c ps:=⟨I,th,M,z01 (λ _ _ z=>z.a) G,ok.thw,by omega,K,gd,bg⟩
  clear G gd eg th a3 k;refine z0s (g_name ?_);have sl:f.length + 1<=63:=by omega
  refine ⟨_,rfl,.inr (.inl ⟨t,_,1,.ref B,rfl,rfl,SqT.of I,z05 (j:=1) rfl,.inl ⟨B,f,rfl,.inr (SqT.of M),.inl ⟨_,_,rfl,rfl,f.length + 1,rfl,by omega,by omega,?_⟩⟩⟩)⟩;refine z39 (lo:=0) (n:=f.length + 1) (λ i σ H'=>∃due x3 x4,Same L H'/\((due=.non/\∀x,x < i->Gd o ps (c.take x))\/∃d:Nat,due=.int (d:Nat)/\d < i/\¬ Gd o ps (c.take d)/\∀x,x < d->Gd o ps (c.take x))/\σ=[some (.ref S),some (.ref t),some due,x3,x4]) ⟨_,_,_,Same.refl _,.inl ⟨rfl,λ x hx=>absurd hx (R3 _)⟩,rfl⟩ ?_ ?_
  ·rintro i σ Z hi ⟨due,x3,x4,s2,hd,rfl⟩;rw [j6];refine g_name ?_;refine z5x (t_and ⟨_,rfl,rfl,_,rfl,?_⟩);rcases hd with ⟨rfl,D⟩|⟨d,rfl,hd,k,D⟩
   ·refine iteP (decide_eq_true rfl) ?_;refine ⟨_,rfl,.inr (.inl ⟨t,_,0,.ref pt,rfl,rfl,SqT.of (s2 _ _ I),z05 (j:=0) rfl,?_⟩)⟩;refine ⟨_,rfl,.inr (.inl ⟨t,_,1,.ref B,rfl,rfl,SqT.of (s2 _ _ I),z05 (j:=1) rfl,_,rfl,_,rfl,cut_ev (s2 _ _ M) (by omega) λ a2 F u R=>?_⟩)⟩;refine ⟨w_2,λ t4 a0=>?_⟩;obtain ⟨H4,v4,q4,e4⟩:=new1 (.tup [.ref pt,.ref a2]) a0;rw [<-v4];have C:=s2.trans (u.trans q4);refine ⟨t4,o,c.take i,_,rfl,ta.cut (by omega) C e4 (q4 _ _ R),λ b H5 s5 k=>⟨_,rfl,?_⟩⟩;rw [<-gd_take] at k;cases b with
    | true=>
     refine iteN (by decide) ⟨_,_,_,C.trans s5,.inl ⟨rfl,λ x hx=>?_⟩,rfl⟩;by_cases z:x=i
     ·rw [z];exact k.mp rfl
     ·exact D x (by omega)
    | false=>refine iteP rfl ⟨_,rfl,g_name ⟨_,_,_,C.trans s5,.inr ⟨i,rfl,B2 i,λ g=>?_,D⟩,rfl⟩⟩;have:=k.mpr g;cases this
   ·refine iteN (by rw [decide_eq_false (λ z=>by cases z)];decide) (iteF ⟨_,_,_,s2,.inr ⟨d,rfl,by omega,k,D⟩,rfl⟩)
  ·rintro σ Z ⟨due,x3,x4,s2,hd,rfl⟩;refine t_nx (zg1 (λ σ1 F=>∃told x3,Same Z F/\((told=.non/\due=.non)\/∃d:Nat,d < c.length/\told=.int ((d + 1:Nat))/\due=.int ((d + 1:Nat))/\∃h a,c[d]? = some (.fin h a))/\σ1=[some (.ref S),some (.ref t),some due,x3,some told]) ?_ (λ tl=>?_));rotate_left
   ·refine ⟨_,rfl,t,pt,B,f,o,c,ps,rfl,ta.same s2,λ F u g=>g_name (tl _ _ ⟨_,_,u,.inl ⟨rfl,?_⟩,rfl⟩),λ d F u O g b=>g_name (tl _ _ ⟨_,_,u,.inr ⟨d,O,rfl,?_,gd_end K O g b⟩,rfl⟩)⟩
    ·rcases hd with ⟨h,_⟩|⟨d,_,Y,J,_⟩
     ·exact h
     ·rw [<-K3 (l:=c)] at g;exact absurd (gd_all K (by omega) g) J
    ·rcases hd with ⟨_,D⟩|⟨d0,rfl,Y,J,W⟩
     ·exact absurd (D (d + 1) (by omega)) b
     ·have:d0=d + 1:=by
       rcases Nat.lt_trichotomy d0 (d + 1) with z|z|z
       ·exact absurd (gd_all K (by omega) g) J
       ·exact z
       ·exact absurd (W _ z) b
      rw [this]
   rintro σ1 F ⟨told,y3,u,hk,rfl⟩;refine sq_if ?_;refine ⟨w_0,λ c1 Y=>?_⟩;obtain ⟨Ha,v1,q1,e1⟩:=new1 (.tup []) Y;rw [<-v1];refine ⟨w_0,λ c2 J=>?_⟩;obtain ⟨Hb,v2,q2,e2⟩:=new1 (.tup []) J;rw [<-v2];refine ⟨w_2,λ c3 W=>?_⟩;obtain ⟨Hc,v3,X,R⟩:=new1 (.tup [.ref c1,.ref c2]) W;rw [<-v3];refine ⟨c3,c1,c2,[],[],[],[],rfl,⟨R,⟨[],(q2.trans X) _ _ e1,.nil⟩,X _ _ e2,.nil,⟨by decide,.nil,λ t h=>absurd h u0⟩,by decide,trivial,λ m _=>by rw [M6];exact .nil,by decide⟩,λ H4 s4 _=>⟨rfl,_,rfl,iteN (by decide) (t_nx ?_)⟩,λ d _ _ h=>absurd h (R3 _)⟩;have a1:=u.trans ((q1.trans (q2.trans X)).trans s4);refine sq_if ⟨_,rfl,rfl,_,rfl,?_⟩;rcases hk with ⟨rfl,rfl⟩|⟨d,O,rfl,rfl,h,a,U⟩
   ·exact iteP (decide_eq_true rfl) ⟨_,rfl,rfl,q _⟩
   refine iteN (by rw [decide_eq_false (λ z=>by cases z)];decide) (t_nx ?_);have C:=s2.trans a1;obtain ⟨y,hy,p,r,rfl,sp⟩:=z0t ew U;refine ⟨_,rfl,_,_,"int",rfl,rfl,by decide,_,rfl,iteP (by decide) ?_⟩;refine ⟨_,rfl,_,_,"int",rfl,rfl,by decide,_,rfl,_,rfl,iteP (by decide) ?_⟩;refine ⟨_,rfl,_,rfl,rfl,_,rfl,iteP (decide_eq_true rfl) ?_⟩;have a4 :∀b,b=true->Q (.bl b) H4:=λ b k=>by rw [k];exact q _
   refine ⟨_,rfl,.inr (.inl ⟨t,_,1,.ref B,rfl,rfl,SqT.of (C _ _ I),z05 (j:=1) rfl,_,rfl,_,_,rfl,rfl,.inr (.inl ⟨B,f,(d:Nat),.ref p,rfl,?_,SqT.of (C _ _ M),z05 hy,.inr (.inl ⟨p,_,0,.str "end",rfl,rfl,C.seqT sp,z05 (j:=0) rfl,rfl,a4 _ (decide_eq_true rfl)⟩)⟩)⟩)⟩;show V.int (((d + 1:Nat):Int) - 1)=V.int (d:Nat);rw [show ((d + 1:Nat):Int) - 1=(d:Nat) by omega]
end
theorem all_law {P:Program} {w:P0} {mg:Str->Option Value} {base:Heap} (T:TX (kx w) mg):Fo P w mg base CX0 11 452 fd_law ["script"] (sp_law (kx w)):=by have m:=@cal_mk P w (kx w) mg base;have c:=m T (z6j _) (zfo _) (ze5 _) (zcw T );have B:=m T (z4r _) (zd6 _) (zde _) (zat T c);have l:=m T (z5t _) (zfe _) (zdm _) (zda T B);have J:=m T (z2i _) (z9f _) (z9h _) (z7j T );have f:=m T (z8a _) (zh1 _) (zhf _) (zfw T );have h:=m T (z8l _) (zhh _) (zh8 _) (zfs T f l J);have Y:=m T (z3x _) (z5z _) (zaf _) (za2 T );have n:=m T (z32 _) (z56 _) (z94 _) (z7p T );have W:=m T (z1v _) (z3l _) (z6v _) (z69 T );have t:=m T (z3r _) (z62 _) (zau _) (z9b T );have S:=m T (z3q _) (z5n _) (zbj _) (z90 T );have Z:=m T (z3y _) (z5u _) (zar _) (z9n T );have v:=m T (z26 _) (z4e _) (z89 _) (z6p T );have x:=m T (z2a _) (z4m _) (z7v _) (z70 T );have j:=m T (z3m _) (z66 _) (zbd _) (z91 T );have k:=m T (F_do _) (g_do _) (b_do _) (ok_do T h Y n W S Z v x j t);have A:=m T (z2l _) (z9y _) (z9u _) (z8g T f);have d:=m T (zdr _) (zju _) (zkh _) (zif T );have y:=m T (z3v _) (zb4 _) (zbl _) (zaa T );have U:=m T (z16 _) (z55 _) (z4x _) (z44 T );have Q:=m T (zay _) (ziy _) (zir _) (zgm T d U y);have R:=zaq (P:=P) (w:=w) (base:=base) T;have L:=z2m (P:=P) (w:=w) (base:=base) T;have G:=m T (z7w _) (zgh _) (zgw _) (ze4 T k);have V:=m T (z1s _) (z72 _) (z6m _) (z5l T );have H:=m T (z4n _) (zd9 _) (zd5 _) (zah T );have D:=m T (z34 _) (z8v _) (za1 _) (z8s T A);have X:=zji (P:=P) (w:=w) (base:=base) T Q d D V R;have a1:=z4i (P:=P) (w:=w) (base:=base) T L G;have q:=m T (z27 _) (z8r _) (z7u _) (z6x T );have a:=m T (z4s _) (zdd _) (zcu _) (zaz T );have z:=m T (z3o _) (zax _) (zbm _) (za5 T a);have K:=m T (z53 _) (zcx _) (zdg _) (zbb T a z);have M:=m T (z7x _) (zgq _) (zgp _) (zf8 T );have g:=m T (z3n _) (zbc _) (zbn _) (zae T );have b:=m T (z2d _) (z7s _) (z8p _) (z6l T M);have C:=m T (z2t _) (za0 _) (za9 _) (z7z T a);have E:=m T (z4v _) (zct _) (zd4 _) (zb1 T q a C g b K);have N:=z68 (P:=P) (w:=w) (base:=base) T H;have a0:=m T (zb5 _) (zj2 _) (zja _) (zh6 T X N a1);have e:=m T (z3t _) (zap _) (zav _) (z9p T );have I:=m T (z1w _) (z6z _) (z6u _) (z5i T );have u:=m T (z13 _) (z4o _) (z4z _) (z4d T I);have i:=m T (z2c _) (z8i _) (z7o _) (z6n T );have p:=m T (z3z _) (zai _) (zbe _) (zac T u b);have F:=m T (z2o _) (z9w _) (z8x _) (z88 T e g p);have s:=m T (z24 _) (z8d _) (z8j _) (z6q T e F i);have O:=m T (z4w _) (zd1 _) (zdb _) (zb9 T c);have r:=m T (zb2 _) (zij _) (zit _) (zgr T O a0);have o:=m T (z1u _) (z6r _) (z6t _) (z6a T r);exact ok_law T E s o
end K69
open PySem PySem.W PyProof.Rows
set_option maxRecDepth 100000 in
set_option maxHeartbeats 0 in
theorem PySem.Challenge.cw_talejudge_k69_bad_beginnings_holds : PySem.Challenge.rw_talejudge_k69_bad_beginnings.Holds := by
 w_on;o_law
 refine holds_open (q:=K69.viewX) (loose:=K69.looseX) (Xt:=K69.XtX) (XP:=XL K69.viewX []) (Yf:=Hook.obs K69.HX) (Ya:=Hook.val K69.HX) (YP:=Hook.says K69.HX) (N:=200000) K69.leftX (Hook.of K69.HX) (Hook.keeps K69.HX) (λ s e=>xl_of s (Bool.and_eq_true_iff.mp e).1) XL.keeps (by rfl) (by rfl) (by rfl) (λ s e=>recFacts_of (Bool.and_eq_true_iff.mp e).2) (by rfl) (by assumption) (by decide +kernel) ⟨rfl,rfl,rfl,rfl,rfl,by decide +kernel⟩ ?hw ?hc
 case hw=>w_witness2
 case hc=>
  refine L2.walk_of (l:=PySem.Challenge.rw_talejudge_k69_bad_beginnings) (n:=63) (k:=11) (x:="script") (K:=K69.KX) (CX:=λ _=>L2.CX0) (sp:=λ w=>K69.sp_law (K69.KX w.params)) rfl (by decide) rfl ⟨rfl,by decide,by decide,rfl⟩ (λ w h Y=>PySem.W.kIn_of Y) ?F ?S ?C
  case F=>intro w r m h KX G f;have T:=L2.TX.mk' KX G;have d:=f.symm.trans (T.of (K69.g_law _));cases d;exact ⟨K69.fd_law,λ s u=>.of_eq rfl,λ p j o=>K69.all_law T⟩
  case S=>exact λ w H a g c i b=>⟨a,g,rfl,b,c,λ _=>rfl⟩
  case C=>exact λ _ _ _ _ _ z=>z
