import PyProof.Rows.All
import Wide.All
import OpenK.AllK
import Wide.FinOn
import Lean
import PyProof.EqAt
import PyProof.EqKinds
import PyProof.TupleCall
import Open.Tops
import KE.KIntText
import PyProof.ZipIter
import PyProof.ReprRoads
import PyProof.Draws
import KE.KDictSum
import KE.KSortedM
import OpenK.KRaise
import OpenK.KOwn
import PyProof.ExcBaseAll.ValueError
import KE.KTryMore
import PyProof.NsDelKeeps
import KE.KDictOf
import KE.KEqDict
import PyProof.DictWalks
import PyProof.TupleKey
import PyProof.MinMaxWalk
import KE.KSortTup
import PyProof.StrWalks
import KE.KRevIter
import KE.KListMore
import PyProof.StrLawsTight
import PyProof.StrLawsChain
import KE.KSortKey
import KE.KLam
import PyProof.DictItems
import PySem.Challenge.RW_talejudge_k16_whole_zones_judge
open PySem.PyData renaming keyHash->b0,depthAll->L3,eqvAll->D6,canLayAll0->k7,eqv->j22
open PySem.W renaming Frag->c0,kia_one->G3,nsIn->V3,keepIn->F4,kla_obj->O5,fnOf->a6,findIn->O6,cellsFrom_some->D7,tabObj->U7,codeIn->V7,CodeHd->W7,methodObj->P8,instObj->f9,lookIn->y9,specialIn->j1j,kitx_list->j20,kitx_dict->j21
open List renaming mem_of_getElem?->d0,not_mem_nil->B0,getElem?_eq_getElem->D0,length_map->G0,length_append->J0,size_toArray->P0,replicate->Q0,mem_append_right->U0,getElem?_map->V0,map_cons->X0,length_cons->Z0,getElem?_cons_succ->J1,range->N1,length_filter_le->O1,forall_mem_cons->W1,getElem?_cons_zero->Z1,getElem?_modify->B2,map_append->C2,mem_cons_self->E2,filter_cons_of_pos->G2,filter_cons_of_neg->N2,mem_cons->O2,map_map->Q2,getElem?_append_right->V2,mem_cons_of_mem->W2,getElem?_append_left->X2,length_replicate->Z2,filter_append->B3,append_nil->D3,length_take->F3,length_singleton->T3,lookup_cons->Y3,getElem?_replicate->n4,take_length->v4,getElem?_eq_none->B4,find?_cons->C4,getElem_map->O4,ne_nil_of_mem->R4,length_nil->U4,length_range->Y4,ext_getElem?->Z4,take_succ->z5,mem_append_left->A5,exists_cons_of_ne_nil->B5,drop_zero->C5,length_drop->J5,getElem_mem->K5,forIn_cons->T5,length_modify->X5,pairwise_map->m6,filter_cons->E6,of_mem_zip->M6,filter_nil->N6,map_congr_left->P6,zip_nil_right->a7,mem_singleton->c7,forIn_nil->d7,drop_eq_getElem_cons->m7,filterMap_cons_some->z7,any_cons->A7,take_of_length_le->N7,pairwise_lt_range->O7,map_nil->P7,length_set->Z7,foldl_cons->a8,take_append_drop->f8,getElem?_append->y8,filterMap_cons->N8,getElem?_take->U8,foldl_append->b9,lookup->B9,range_succ->F9,nodup_cons->G9,mem_append->J9,dropLast_concat_getLast->K9,nodup_nil->W9,pairwise_iff_getElem->j01,filterMap_cons_none->j0a,pairwise_singleton->j0f,getElem?_set_self->j10,countP_mono_left->j1f,length->j24,getElem?_set_ne->j25
open PySem renaming wpAny_bind->o0,Shared->A0,wpAny_pure->F0,wpAny->R0,World->S0,Params->W0,model->Y0,reduceHash->A1,starEach->V1,Around->X1,mainGlobals->Y1,wpAny_holding->T2,compareOp->U2,OsState->c3,wpAny_truthy_bool->M3,treeTable->O3,wpAny_mono->Q3,boot_len->R3,wpAny_Call_Name_kw->i4,sysModules->j4,eval->p4,strKind->E4,eqIsQuiet->G4,codeAny_builtin->J4,wpAny_newObj_type->K4,bootBuiltins->L4,binaryOp->M4,wpAny_pyIter_tuple->X4,wpAny_passesOwn->m5,rawInt->E5,intKind->F5,foldedSetIterable->G5,mem_of_lookup->M5,NameKind->Q5,codeAny_mono->R5,backTo->Z5,attributeBase->i6,codeAny->k6,tupleKind_room_in1->w6,tupleKind->B6,sizeLine_eq->C6,wpAny_pyIter_list->F6,placesWithHash->G6,Builtin->T6,wpAny_field->U6,sliceBounds->V6,callSpecialIfBoundUnlessNone?->W6,importedModules->g7,SetTable->C7,wpAny_pyIter_enum->L7,relabel->M7,behindInMarks->T7,Paired->X7,wpAny_call_entry->j8,wpAny_callSpecial?_slot->k8,swapsWith->m8,Fin->t8,wpAny_pyNext_list_item->A8,strKind_is->B8,assignEach->C8,Keyword->G8,wpAny_execs_nil->J8,letOwnedTupleGo->K8,atKey->L8,wpAny_pyNext_list_end->O8,wpAny_seqItems->V8,codeAny_call_builtin->X8,valueAt->Z8,getItem->a9,wpAny_newList->j9,wpAny_rule->t9,pyNext->v9,builtinsNs->w9,IsPart->C9,wpAny_typeOf->N9,callerA->P9,call_meetsIn->Q9,wpAny_isInstance->Y9,noFill_tuple_add->Z9,wpAny_of_eq->j03,subscripted->j04,keywordEach->j06,spliced->j0h,holding->j0i,dictSet->j0j,wpAny_newFunctionEnv_cells->j13,wpAny_letOwnedTupleGo_enum->j14,wpAny_call->j15,relayAll->j16,closureFor->j17,Thread->j1c,ReadsAll->j1d,evalArgs_none->j1i
open PySem.Builtin.Tuple renaming tupleHashOf->v0,tupleExact->a5
open PySem.Heap renaming get?_push_of_some->y0,lt_size->M0,get?_push_size->O0,size_push->A4,DictOf->c6,SameBut->S6,SetOf->f7,get?_update_other->Q7,get?_update_self->i8
open Nat renaming le_refl->C0,le_trans->L0,ne_of_lt->T0,lt_of_lt_of_le->i1,lt_succ_of_lt->E1,lt_of_le_of_lt->P1,zero_le->R1,lt_succ_self->A2,ne_of_gt->F2,lt_irrefl->E3,lt_or_eq_of_le->T4,not_lt_zero->W5,zero_add->y6,lt_trichotomy->z6,lt_trans->A6,le_succ->L6,le_of_lt->X6,le_of_not_lt->K7,le_of_eq->Y7,mul_le_mul_right->F8,le_add_right->A9,add_assoc->j0e,min_self->j1e
open Bool renaming false_ne_true->N0,and_eq_true->Z3,and_eq_true_iff->D5,false_eq_true->Y5,false_and->r6,true_and->B7,and_false->z8,or_false->T8,not_eq_true->r9,not_true->j0c
open Array renaming length_toList->B1,getElem?_eq_getElem->L5,getElem?_eq_none->j6,forIn_toList->Z6,mem_of_getElem?->j12
open Option.some renaming inj->C1
open PySem.Value renaming ref->F1,bool->U3,type->n5,none->S5,int->U5,isStrOf->o7,str->c9,isInt->j1b
open Or renaming inr->G1,inl->L1
open PySem.NameKind renaming free->Q1
open PySem.Obj renaming mapSeq->U1,mapDictKeys->d8,putSet->Y8
open PySem.SetTable renaming below->P2,grown->W4,insertAt->M8,advance->j1h
open PyProof.Rows renaming seqObj->Y2,callWith_type1->K3,IntsAre->S3,boot_isinstance->X3,callWith_builtin1->V5,listUpdate_at->R6,get?_update_seq->i7,AllBare->S7,slot_tuple_getitem->n8,envOfC->W8,arrOf->m9,wpAny_notIn_heap->X9,seqEpoch_at->j05,boot_tuple->j18,boot_str->j19,boot_all->j1a
open PySem.PassesOwn renaming never->i3
open ForInStep renaming yield->A3
open PySem.Heap.SameBut renaming update->C3
open Pure renaming pure->N3,pure->j0d
open Ne renaming symm->P3
open PySem.Calls renaming spliced_cons->W3,spliced_nil->D4,callWith_builtin->Q4,evalArgs_plain->o8,Name_function_global->S9
open PySem.Str renaming ofString->c4
open Sum.inl renaming inj->N4
open PySem.Builtin.SmallTypes renaming nextOf->P4,ownedTupleFields->S4
open PySem.Builtin.Slice renaming slicePlaces->V4,sliceAdjust->K6,sliceApplied->S8
open PySem.W.Fast renaming tw16697807410369149715->c5,tw13926502685295537346->d5,tw13383273872528276517->i5,te14364793385576792824->j5,tw4214721358667687652->w5,tw14364793385576792824->F7
open False renaming elim->o5
open PySem.F renaming slot_tuple_iterator_next->N5,args_tuple_add_2->j7,plainAttrs_dict->v7,entry_tuple_add->y7,slot_tuple_add->E7,slot_dict_get->G7,slot_dict_items->T9,plainAttrs_list->U9,args_dict_get_3->V9,entry_dict_get->j00,args_tuple_iterator_next_1->j02,slot_dict_pop->j09,entry_tuple_iterator_next->j0b
open Classical renaming propDecidable->P5,byContradiction->Q6,axiomOfChoice->M9
open Option renaming isSome_map->g6,map_some->J7
open PyProof.Rows.F renaming entry_set_update_loop->o6
open PySem.SetTable.below renaming go->J6
open PySem.Builtin.Str renaming occurrences->Y6
open Int renaming emod_lt_of_pos->l7,emod_nonneg->g8,toNat_of_nonneg->R8,toNat_natCast->g9,le_refl->L9
open PySem.Code renaming builtin->R7
open List.Pairwise renaming nil->b8
open PySem.Builtin.Frozenset renaming updateFrom->c8
open PySem.Shared renaming TypeIs->D8
open PySem.Paired renaming length->E8
open PUnit renaming unit->Q8
open Sum renaming inr->d9
open PySem.Builtin.Dict renaming updateFrom->i9,pairItems->o9
open PySem.Data renaming fields->D9,cell->j0g
open PyProof.Rows.SortSt renaming mk'->E9
open ForIn renaming forIn->O9
open PySem.SetTable.probe renaming go->R9
open PySem.SeqAt.EqAt renaming str_int->j07,int_str->j08
open PySem.Heap.DictOf renaming new->j11
open Array.Perm renaming refl->j1g
open Prod renaming fst->j23
open PySem.Around renaming under_plain->j26
set_option maxRecDepth 100000
set_option maxHeartbeats 0
namespace PySem.W.Fast
noncomputable def tw14209656888164976748:=0
noncomputable def tw18158690215076186263:=0
noncomputable def tw495658173579352052:=0
noncomputable def tw8438607577832547140:=0
noncomputable def tw3391859535760698686:=0
noncomputable def tw4572411075641539185:=0
noncomputable def tw11393858802883144169:=0
noncomputable def tw8027981720528307270:=0
noncomputable def tw14650026064933711535:=0
noncomputable def tw10572718297945007137:=0
noncomputable def tw14575151212816941160:=0
noncomputable def tw5420957039478778371:=0
noncomputable def tw13901725349356684902:=0
noncomputable def tw2174977092359454075:=0
noncomputable def tw9146803258942631519:=0
end PySem.W.Fast
namespace K16
open_shared pre for PySem.Challenge.pw_talejudge_k16_whole_zones_judge leaving 43
end K16
set_option maxHeartbeats 200000
-- CHANGE: your row's module here,as the last of these rows
set_option Elab.async false
set_option linter.all false
namespace L2
open PySem PySem.Spec PyProof.Rows
noncomputable abbrev Key:=Sum Int Str
noncomputable def keyIs:Key->Value->Bool
 | .inl k,v=>j1b k v
 | .inr x,v=>o7 x v
noncomputable def keyH (w:S0):Key->Int
 | .inl k=>hashInt k
 | .inr x=>hashStr w x
theorem z0k :∀{k:Key} {v:Value},keyIs k v=true->(∃i t,k=Sum.inl i/\v=U5 i t)\/(∃x t,k=d9 x/\v=c9 x t)
 | .inl i,v,h=>by obtain ⟨t,e⟩:=Value.isInt_shape (k:=i) (v:=v) h;exact .inl ⟨i,t,rfl,e⟩
 | .inr x,v,h=>by obtain ⟨t,e⟩:=Value.isStrOf_shape (x:=x) (v:=v) h;exact .inr ⟨x,t,rfl,e⟩
theorem zdm (i:Int) (t:Tok):keyIs (.inl i) (.int i t)=true:=by simp [keyIs,j1b]
theorem zdd (x:Str) (t:Tok):keyIs (.inr x) (.str x t)=true:=by simp [keyIs,o7]
theorem key_ll (a b:Int):decide ((Sum.inl a:Key)=Sum.inl b)=(a == b):=by
 by_cases e:a=b
 ·subst e;simp
 ·have h:¬ (Sum.inl a:Key)=Sum.inl b:=λ q=>e (N4 q);rw [decide_eq_false h];exact (beq_eq_false_iff_ne.mpr e).symm
theorem key_rr (a b:Str):decide ((d9 a:Key)=d9 b)=decide (a=b):=by
 by_cases e:a=b
 ·subst e;simp
 ·have h:¬ (d9 a:Key)=d9 b:=λ q=>e (Sum.inr.inj q);rw [decide_eq_false h,decide_eq_false e]
theorem key_lr (a:Int) (b:Str):decide ((Sum.inl a:Key)=d9 b)=false:=decide_eq_false (λ q=>nomatch q)
theorem key_rl (a:Str) (b:Int):decide ((d9 a:Key)=Sum.inl b)=false:=decide_eq_false (λ q=>nomatch q)
noncomputable def z0g (prog:Program) (w:S0):PySem.KeyKind prog w Key where
 is:=keyIs
 hash:=keyH w
 inj:=λ v a b ha hb=>by
  rcases z0k ha with ⟨i,t,rfl,rfl⟩|⟨x,t,rfl,rfl⟩
  ·rcases z0k hb with ⟨j,u,rfl,e⟩|⟨y,u,rfl,e⟩
   ·injection e with e1 _;rw [e1]
   ·exact nomatch e
  ·rcases z0k hb with ⟨j,u,rfl,e⟩|⟨y,u,rfl,e⟩
   ·exact nomatch e
   ·injection e with e1 _;rw [e1]
 byValue:=λ k v h=>by rcases z0k h with ⟨i,t,rfl,rfl⟩|⟨x,t,rfl,rfl⟩<;>rfl
 pyHash:=λ hv h=>by
  rcases z0k hv with ⟨i,t,rfl,rfl⟩|⟨x,t,rfl,rfl⟩
  ·exact wpAny_pyHash_int h
  ·exact wpAny_pyHash_str h
 eqBool:=λ hu hv h=>by
  rcases z0k hu with ⟨i,t,rfl,rfl⟩|⟨x,t,rfl,rfl⟩
  ·rcases z0k hv with ⟨j,u,rfl,rfl⟩|⟨y,u,rfl,rfl⟩
   ·rw [key_ll] at h;exact wpAny_eqBool_int h
   ·rw [key_lr] at h;exact j08 i t y u _ _ _ _ h
  ·rcases z0k hv with ⟨j,u,rfl,rfl⟩|⟨y,u,rfl,rfl⟩
   ·rw [key_rl] at h;exact j07 x t j u _ _ _ _ h
   ·rw [key_rr] at h;exact wpAny_eqBool_str h
 «strs»:=λ k x t v h=>by
  rcases z0k h with ⟨i,u,rfl,e⟩|⟨y,u,rfl,e⟩
  ·exact nomatch e
  ·injection e with e1 _;subst e1;cases v<;>rfl
theorem z9z (prog:Program) (w:S0) (i:Int) (t:Tok):(z0g prog w).is (.inl i) (.int i t)=true:=zdm i t
theorem z99 (prog:Program) (w:S0) (x:Str) (t:Tok):(z0g prog w).is (.inr x) (.str x t)=true:=zdd x t
inductive V where
 | non|bl (b:Bool)|int (i:Int)|str (x:Str)|byt (b:Array UInt8)|flt (b:UInt64)|ref (a:Addr)|ty (n:String)
 deriving DecidableEq
noncomputable def RelV:V->Value->Prop
 | .non,u=>u=S5
 | .bl b,u=>u=U3 b
 | .int i,u=>∃t,u=U5 i t
 | .str x,u=>∃t,u=c9 x t
 | .byt b,u=>∃t,u=Value.bytes b t
 | .flt b,u=>∃t,u=Value.float b t
 | .ref a,u=>u=F1 a
 | .ty n,u=>u=n5 n
abbrev Vals:List V->List Value->Prop:=X7 RelV
theorem Vals.length {xs:List V} {us:List Value} (r:Vals xs us):xs.length=us.length:=E8 r
theorem Vals.get :∀{xs:List V} {us:List Value} {i:Nat} {x:V},Vals xs us->xs[i]? = some x->∃u,us[i]? = some u/\RelV x u
 | _,_,_,_,.nil,e=>by simp at e
 | _,_,0,_,.cons r _,e=>by simp at e;subst e;exact ⟨_,rfl,r⟩
 | _,_,i + 1,x,.cons _ t,e=>by obtain ⟨u,a,b⟩:=Vals.get (i:=i) (x:=x) t (by simpa using e);exact ⟨u,by simpa using a,b⟩
theorem Vals.set {x:V} {u:Value} (r:RelV x u) :∀{xs:List V} {us:List Value} (i:Nat),Vals xs us->Vals (xs.set i x) (us.set i u)
 | _,_,_,.nil=>.nil
 | _,_,0,.cons _ t=>.cons r t
 | _,_,i + 1,.cons q t=>.cons q (Vals.set r i t)
theorem Vals.append :∀{xs ys:List V} {us ws:List Value},Vals xs us->Vals ys ws->Vals (xs++ys) (us++ws)
 | _,_,_,_,.nil,s=>s
 | _,_,_,_,.cons r t,s=>.cons r (Vals.append t s)
theorem Vals.take :∀{xs:List V} {us:List Value} (n:Nat),Vals xs us->Vals (xs.take n) (us.take n)
 | _,_,0,_=>.nil
 | _,_,_ + 1,.nil=>.nil
 | _,_,n + 1,.cons r t=>.cons r (Vals.take n t)
theorem Vals.drop :∀{xs:List V} {us:List Value} (n:Nat),Vals xs us->Vals (xs.drop n) (us.drop n)
 | _,_,0,r=>r
 | _,_,_ + 1,.nil=>.nil
 | _,_,n + 1,.cons _ t=>Vals.drop n t
noncomputable def RelO:Option V->Option Value->Prop
 | some v,some u=>RelV v u
 | none,none=>True
 | _,_=>False
def KV {κ:Type}:List (κ×V)->List (κ×Value)->Prop:=X7 λ (p:κ×V) (q:κ×Value)=>p.1=q.1/\RelV p.2 q.2
noncomputable def kV:Key->V
 | .inl i=>.int i
 | .inr x=>.str x
inductive HO where
 | lst (xs:List V)
 | tup (xs:List V)
 | dK (kvs:List (Key×V))|dT (kvs:List (List Key×V))
 | set (S:Int->Bool) (n:Nat)
 | ins (C dx:Addr) (fs:List (Str×V))
 | own (x:Addr)
 | xd (fs:List (Str×V))
 | met (f x:Addr)
 | rng (lo hi:Int)
 | frz (o:Obj) (u:HO)
 | tbl (ps:Array Value)
 | ext (φ:Heap->Prop)
noncomputable abbrev Hp:=Addr->Option HO
noncomputable def upd (H:Hp) (a:Addr) (o:HO):Hp:=λ b=>if b=a then some o else H b
theorem z01 {H:Hp} {a:Addr} {o:HO}:upd H a o a=some o:=by unfold upd;rw [if_pos rfl]
theorem upd_ne {H:Hp} {a b:Addr} {o:HO} (h:b≠a):upd H a o b=H b:=by unfold upd;rw [if_neg h]
theorem ne_of {H:Hp} {a b:Addr} {o u:HO} (h:H a=some o) (h':H b=some u) (d:o≠u):a≠b:=by intro e;subst e;rw [h] at h';exact d (C1 h')
theorem z0f {H:Hp} {a b:Addr} {o:HO} (h:H a=some o) (h':H b=none):a≠b:=by intro e;subst e;rw [h] at h';cases h'
section
variable (P:Program) (w:S0)
def IsTupN (h:Heap) (a:Addr) (items:Array Value):Prop:=IsTup h a items/\∃o,h.get? a=some o/\o.dict=none
theorem IsTupN.new (h:Heap) (items:Array Value):IsTupN (h.push { cls:=.type "tuple",data:=.seq items }) h.objs.size items:=⟨IsTup.new _ _,_,O0 _ rfl,rfl⟩
noncomputable def ObjOk (H:Hp) (h:Heap) (a:Addr):HO->Prop
 | .lst xs=>xs.length<=sizeLine/\∃(its:List Value) (n:Nat),Vals xs its/\h.get? a=some { cls:=.type "list",data:=.seq its.toArray n }
 | .tup xs=>xs.length<=sizeLine/\∃its:List Value,Vals xs its/\IsTupN h a its.toArray
 | .dK kvs=>kvs.length<=sizeLine/\(a == j4)=false/\∃vs,KV kvs vs/\h.DictOf (z0g P w) a vs
 | .dT kvs=>kvs.length<=sizeLine/\(a == j4)=false/\∃xs:List (List Key×Addr×Value),
   X7 (λ (p:List Key×V) (q:List Key×Addr×Value)=>p.1=q.1/\H q.2.1=some (.tup (p.1.map kV))/\RelV p.2 q.2.2) kvs xs/\
   ∃o es ep,h.get? a=some o/\o.ExactDict/\o.data=.dict es ep/\es.toList=xs.map (entryOfKey (B6 (z0g P w)))/\(xs.map (·.1)).Nodup
 | .set S n=>h.SetOf (F5 P w) a S n
 | .ins C dx fs=>H dx=some (.own a)/\fs.length<=1000/\dx≠a/\h.get? a=some (f9 C dx)/\
   ∃mA,h.Ns1 dx mA/\(∀f,RelO (fs.lookup f) (mA f))/\PySem.Within mA (fs.map (·.1))
 | .own _=>∃o,h.get? a=some o
 | .xd fs=>∃mA,h.Ns1 a mA/\∀f,RelO (fs.lookup f) (mA f)
 | .rng lo hi=>∃t u v,h.get? a=some { cls:=.type "range",data:=.fields #[.int lo t,.int hi u,.int 1 v] }
 | .frz o u=>h.get? a=some o/\ObjOk H h a u
 | .tbl ps=>h.get? a=some { cls:=.none,data:=.fields ps }
 | .met f x=>h.get? a=some (P8 (.ref f) (.ref x))
 | .ext φ=>φ h/\(∃o,h.get? a=some o)/\∀h1 h2:Heap,φ h1->(∀o,h1.get? a=some o->h2.get? a=some o)->φ h2
def HOk (H:Hp) (h:Heap):Prop:=∀a o,H a=some o->ObjOk P w H h a o
end
section
variable {P:Program} {w:S0} {H H':Hp} {h h':Heap} {a:Addr} {o:HO}
theorem ObjOk.lt (x:ObjOk P w H h a o):a < h.objs.size:=by
 cases o with
 | lst xs=>obtain ⟨_,_,_,_,e⟩:=x;exact M0 e
 | tup xs=>obtain ⟨_,_,_,p⟩:=x;exact p.1.lt
 | dK kvs=>obtain ⟨_,_,_,_,o,_,_,e,_⟩:=x;exact M0 e
 | dT kvs=>obtain ⟨_,_,_,_,o,_,_,e,_⟩:=x;exact M0 e
 | set S n=>obtain ⟨o,_,_,_,e,_⟩:=x;exact M0 e
 | ins C dx fs=>obtain ⟨_,_,_,e,_⟩:=x;exact M0 e
 | own y=>obtain ⟨_,e⟩:=x;exact M0 e
 | xd fs=>obtain ⟨_,⟨_,_,_,e,_⟩,_⟩:=x;exact M0 e
 | rng lo hi=>obtain ⟨_,_,_,e⟩:=x;exact M0 e
 | frz ob u=>obtain ⟨e,_⟩:=x;exact M0 e
 | tbl ps=>exact M0 (show h.get? a=some _ from x)
 | met f y=>exact M0 (show h.get? a=some _ from x)
 | ext φ=>obtain ⟨_,⟨_,e⟩,_⟩:=x;exact M0 e
theorem Paired.mapP {α β:Type} {F G:α->β->Prop} :∀{l₁:List α} {l₂:List β},X7 F l₁ l₂->(∀a b,F a b->G a b)->X7 G l₁ l₂
 | _,_,.nil,_=>.nil
 | _,_,.cons r t,f=>.cons (f _ _ r) (Paired.mapP t f)
theorem ObjOk.stay (x:ObjOk P w H h a o) (k :∀b u,(b=a\/H b=some (.own a))->h.get? b=some u->h'.get? b=some u)
  (ho :∀b,H b=some (.own a)->H' b=some (.own a)) (ht :∀b xs,H b=some (.tup xs)->H' b=some (.tup xs)):ObjOk P w H' h' a o:=by
 induction o with
 | lst xs=>obtain ⟨z,m,n,r,e⟩:=x;exact ⟨z,m,n,r,k _ _ (.inl rfl) e⟩
 | tup xs=>obtain ⟨z,m,r,⟨g,e,c⟩,E,l,F⟩:=x;exact ⟨z,m,r,⟨g,k _ _ (.inl rfl) e,c⟩,E,k _ _ (.inl rfl) l,F⟩
 | dK kvs=>obtain ⟨z,y,D,r,g,i,j,e,c⟩:=x;exact ⟨z,y,D,r,g,i,j,k _ _ (.inl rfl) e,c⟩
 | dT kvs=>obtain ⟨z,y,xs,r,g,i,j,e,c⟩:=x;exact ⟨z,y,xs,Paired.mapP r λ p q z=>⟨z.1,ht _ _ z.2.1,z.2.2⟩,g,i,j,k _ _ (.inl rfl) e,c⟩
 | set S n=>obtain ⟨g,i,j,t,e,c⟩:=x;exact ⟨g,i,j,t,k _ _ (.inl rfl) e,c⟩
 | ins C dx fs=>obtain ⟨d,z,ne,e,s,⟨A,i,j,l,c⟩,r⟩:=x;exact ⟨ho _ d,z,ne,k _ _ (.inl rfl) e,s,⟨A,i,j,k _ _ (.inr d) l,c⟩,r⟩
 | own y=>obtain ⟨g,e⟩:=x;exact ⟨g,k _ _ (.inl rfl) e⟩
 | xd fs=>obtain ⟨s,⟨A,i,j,e,c⟩,r⟩:=x;exact ⟨s,⟨A,i,j,k _ _ (.inl rfl) e,c⟩,r⟩
 | rng lo hi=>obtain ⟨t,u,v,e⟩:=x;exact ⟨t,u,v,k _ _ (.inl rfl) e⟩
 | frz g u ih=>obtain ⟨e,q⟩:=x;exact ⟨k _ _ (.inl rfl) e,ih q⟩
 | tbl ps=>have e:h.get? a=some { cls:=.none,data:=.fields ps }:=x;show h'.get? a=some { cls:=.none,data:=.fields ps };exact k a _ (.inl rfl) e
 | met f y=>have e:h.get? a=some (P8 (.ref f) (.ref y)):=x;show h'.get? a=some (P8 (.ref f) (.ref y));exact k a _ (.inl rfl) e
 | ext φ=>obtain ⟨p,⟨o,e⟩,B⟩:=x;exact ⟨B _ _ p λ o q=>k _ _ (.inl rfl) q,⟨o,k _ _ (.inl rfl) e⟩,B⟩
theorem HOk.lt (x:HOk P w H h) (e:H a=some o):a < h.objs.size:=(x a o e).lt
theorem HOk.fresh (x:HOk P w H h) (e:h.objs.size<=a):H a=none:=by
 cases q:H a with
 | none=>rfl
 | some u=>exact absurd (i1 (x.lt q) e) (E3 _)
theorem HOk.kept (x:HOk P w H h) (k :∀b u,h.get? b=some u->h'.get? b=some u):HOk P w H h':=λ a o e=>(x a o e).stay (λ b u _ q=>k b u q) (λ _ q=>q) λ _ _ q=>q
theorem HOk.laid (x:HOk P w H h) (k :∀b u,h.get? b=some u->h'.get? b=some u) (hp:h.objs.size<=a) (new:ObjOk P w (upd H a o) h' a o):HOk P w (upd H a o) h':=λ b u e=>by
 have d:=x.fresh hp;by_cases hb:b=a
 ·subst hb;rw [z01] at e;cases e;exact new
 ·rw [upd_ne hb] at e;exact (x b u e).stay (λ c v _ q=>k c v q) (λ c q=>by rw [upd_ne (z0f q d)];exact q) λ c f q=>by rw [upd_ne (z0f q d)];exact q
end
def Rd (H:Hp) (a:Addr) (u:HO):Prop:=H a=some u\/∃o,H a=some (.frz o u)
theorem Rd.ok {P:Program} {w:S0} {H:Hp} {h:Heap} {a:Addr} {u:HO} (r:Rd H a u) (x:HOk P w H h):ObjOk P w H h a u:=by
 rcases r with r|⟨o,r⟩
 ·exact x a u r
 ·obtain ⟨_,q⟩:=x a _ r;exact q
noncomputable def Mut:Option HO->Prop
 | some (.lst _)=>True
 | some (.dK _)=>True
 | some (.dT _)=>True
 | some (.set _ _)=>True
 | some (.ins _ _ _)=>True
 | some (.ext _)=>True
 | _=>False
section
variable {P:Program} {w:S0} {H:Hp} {h h':Heap} {x e:Addr} {o':HO}
theorem HOk.write (ok:HOk P w H h) (mu:Mut (H x)) (he:e=x\/H e=some (.own x)) (k :∀b u,b≠e->h.get? b=some u->h'.get? b=some u) (heo :∃u,h'.get? e=some u)
  (new:ObjOk P w (upd H x o') h' x o'):HOk P w (upd H x o') h':=λ b u q=>by
 have f :∀c y,H c=some (.own y)->c≠x:=λ c y r z=>by subst z;rw [r] at mu;exact mu
 have j :∀c d,H c=some (.tup d)->c≠x:=λ c d r z=>by subst z;rw [r] at mu;exact mu
 by_cases hb:b=x
 ·subst hb;rw [z01] at q;cases q;exact new
 ·rw [upd_ne hb] at q;by_cases hbe:b=e
  ·have g:H b=some (.own x):=by
    rcases he with z|z
    ·exact absurd (hbe.trans z) hb
    ·rw [hbe];exact z
   rw [q] at g;cases g;obtain ⟨v,i⟩:=heo;exact ⟨v,by rw [hbe];exact i⟩
  ·refine (ok b u q).stay (λ c v a r=>k c v ?_ r) (λ c r=>by rw [upd_ne (f c b r)];exact r) λ c d r=>by rw [upd_ne (j c d r)];exact r
   rcases a with rfl|a
   ·exact hbe
   ·rintro rfl;rcases he with z|z
    ·exact f c b a z
    ·rw [a] at z;cases z;exact hb rfl
end
structure Un (fs ex:List Addr) (H H':Hp) (h h':Heap):Prop where
 keep :∀b o,h.get? b=some o->H b=none->b∉fs->b∉ex->h'.get? b=some o
 slot :∀b o,h.get? b=some o->H b=none->b∈fs->b∉ex->∃sl,h'.get? b=some { o with slots:=sl }
 free :∀b o,h.get? b=some o->H b=none->b∉ex->H' b=none
 there :∀b o,h.get? b=some o->b∉ex->∃o',h'.get? b=some o'
 tups :∀b xs,H b=some (.tup xs)->H' b=some (.tup xs)
 frzs :∀b o u,H b=some (.frz o u)->H' b=some (.frz o u)
 tbls :∀b ps,H b=some (.tbl ps)->∃more,H' b=some (.tbl (ps++more))
section
variable {fs fs' ex ex':List Addr} {H H1 H2:Hp} {h h1 h2 h':Heap} {a x e:Addr} {o:HO}
theorem Un.any (u:Un fs ex H H1 h h1) {b:Addr} {ob:Obj} (q:h.get? b=some ob) (n:H b=none) (hx:b∉ex) :∃sl,h1.get? b=some { ob with slots:=sl }:=by
 by_cases hb:b∈fs
 ·exact u.slot b ob q n hb hx
 ·exact ⟨ob.slots,u.keep b ob q n hb hx⟩
theorem Un.kept (k :∀b u,h.get? b=some u->h'.get? b=some u):Un fs ex H H h h':=
 ⟨λ b a q _ _ _=>k b a q,λ b a q _ _ _=>⟨a.slots,k b a q⟩,λ _ _ _ n _=>n,λ b a q _=>⟨a,k b a q⟩,λ _ _ q=>q,λ _ _ _ q=>q,λ _ c q=>⟨#[],by rw [q];simp⟩⟩
theorem Un.refl:Un fs ex H H h h:=Un.kept λ _ _ q=>q
theorem Un.laid (k :∀b u,h.get? b=some u->h'.get? b=some u) (hp:h.objs.size<=a) (hn:H a=none):Un fs ex H (upd H a o) h h' where
 keep:=λ b u q _ _ _=>k b u q
 slot:=λ b u q _ _ _=>⟨u.slots,k b u q⟩
 free:=λ b u q n _=>by rw [upd_ne (T0 (i1 (M0 q) hp))];exact n
 there:=λ b u q _=>⟨u,k b u q⟩
 tups:=λ b c q=>by rw [upd_ne (z0f q hn)];exact q
 frzs:=λ b u c q=>by rw [upd_ne (z0f q hn)];exact q
 tbls:=λ b d q=>⟨#[],by rw [upd_ne (z0f q hn),q];simp⟩
theorem Un.write (mu:Mut (H x)) (he:e=x\/H e=some (.own x)) (k :∀b u,b≠e->h.get? b=some u->h'.get? b=some u) (heo :∃u,h'.get? e=some u):Un fs ex H (upd H x o) h h':=by
 have c :∀b,H b=none->b≠x:=λ b n z=>by subst z;rw [n] at mu;exact mu
 have d :∀b,H b=none->b≠e:=λ b n z=>by
  subst z;rcases he with r|r
  ·exact c b n r
  ·rw [n] at r;cases r
 have a :∀b u,H b=some u->¬ Mut (some u)->b≠x:=λ b u q f z=>by subst z;rw [q] at mu;exact f mu
 refine ⟨λ b u q n _ _=>k b u (d b n) q,λ b u q n _ _=>⟨u.slots,k b u (d b n) q⟩,λ b u q n _=>by rw [upd_ne (c b n)];exact n,λ b u q _=>?_,
  λ b g q=>by rw [upd_ne (a b _ q λ z=>z)];exact q,λ b u g q=>by rw [upd_ne (a b _ q λ z=>z)];exact q,λ b i q=>⟨#[],by rw [upd_ne (a b _ q λ z=>z),q];simp⟩⟩
 by_cases hbe:b=e
 ·subst hbe;exact heo
 ·exact ⟨u,k b u hbe q⟩
end
noncomputable def trk (h:Heap) (H:Hp):List Addr:=(N1 h.objs.size).filter λ a=>(H a).isSome
noncomputable def hidT (h:Heap) (H:Hp):Heap:=PySem.W.hideAll h (trk h H)
theorem zei (h:Heap) (H:Hp):(hidT h H).objs.size=h.objs.size:=PySem.W.hideAll_size _ _
theorem zfi {h:Heap} {H:Hp} {b:Addr} {o:Obj} (e:h.get? b=some o) (n:H b=none):(hidT h H).get? b=some o:=
 PySem.W.hideAll_get _ e λ a=>by have q:(H b).isSome=true:=(List.mem_filter.mp a).2;rw [n] at q;simp at q
theorem zh7 {h:Heap} {H:Hp} {b:Addr} {o:Obj} (e:(hidT h H).get? b=some o):h.get? b=some o/\H b=none:=by
 have a:h.get? b=some o:=PySem.W.of_hideAll (trk h H) e;refine ⟨a,?_⟩;cases q:H b with
 | none=>rfl
 | some x=>have c:b∈trk h H:=List.mem_filter.mpr ⟨List.mem_range.mpr (M0 a),by simp [q]⟩;have z:(hidT h H).get? b=none:=PySem.W.hideAll_none (trk h H) c;rw [z] at e;cases e
noncomputable def zge (g h:Heap) (L:Addr):List (Addr×Obj):=(N1 h.objs.size).filterMap λ a=>if a=L\/(g.get? a).isSome=true then none else (h.get? a).map λ o=>(a,o)
noncomputable def rest (g h:Heap) (L d:Addr):List (Addr×Obj):=(zge g h L).filter λ p=>decide (p.1≠d)
structure Mod (K:c0) (mg:Str->Option Value) (base:Heap):Prop where
 kin:K.In base
 glob:base.Ns Y1 mg
 blt :∃mb,base.Ns w9 mb/\∀x:Str,x≠"__name__"->mb x=L4 x
 nolimit:base.NoLimit
structure Cx where
 prog:Program
 w:S0
 K:c0
 mg:Str->Option Value
 base:Heap
 A:X1
 N:List Str
 s₀:A0
 H₀:Hp
 env:Env
 outer:List Env
 stack:List Env
 ex:List Addr
 fn:Str->Bool
 calm:Bool
 pn:List (Addr×Obj)
 xe:Value->A0->Prop
noncomputable def frs (l:List Env):List Addr:=l.filterMap (·.frame)
noncomputable abbrev Cx.fs (X:Cx):List Addr:=frs X.outer
def Vis (sc:Scope) (x:Str):Prop:=sc.names.lookup x=some .local\/sc.names.lookup x=some .cell\/sc.names.lookup x=some .free
def Loc (sc:Scope) (x:Str):Prop:=sc.names.lookup x=some .local\/sc.names.lookup x=some .cell
def Look (env:Env) (h:Heap) (m:Str->Option Value) (x:Str) (u:Value):Prop:=
 (env.kindOf x=some .local/\m x=some u)\/((env.kindOf x=some .cell\/env.kindOf x=some .free)/\∃c,env.cells.lookup x=some c/\h.IsCell c (some u))
structure Cx.Ok (X:Cx):Prop where
 mod:Mod X.K X.mg X.base
 kind:X.env.scope.kind=.function
 glob:X.env.globals=Y1
 blt:X.env.builtins=w9
 above:X.s₀.heap.objs.size<=X.env.locals
 inj :∀x y c,X.env.cells.lookup x=some c->X.env.cells.lookup y=some c->x=y
 has :∀x,(X.env.kindOf x=some .cell\/X.env.kindOf x=some .free)->∃c,X.env.cells.lookup x=some c
 cab :∀x c,X.fn x=true->X.env.cells.lookup x=some c->X.s₀.heap.objs.size<=c
 hd:X.calm=true->X.A.handled=none
 frames:X.A.frames=some X.stack
 stk:X.stack=X.outer\/(X.stack=X.env :: X.outer/\X.env.frame=some X.env.locals)
 exf :∀b∈X.ex,b≠X.env.locals/\∀x c,X.env.cells.lookup x=some c->c≠b
 bs :∀b o,X.base.get? b=some o->X.s₀.heap.get? b=some o/\X.H₀ b=none
 bsz:X.base.objs.size<=X.s₀.heap.objs.size
 noex :∀b o,X.base.get? b=some o->b∉X.ex
 exfs :∀b∈X.ex,b∉X.fs
 funs:X.s₀.heap.FunFrames X.base X.outer
 frf :∀b∈X.fs,X.H₀ b=none
structure Inv (X:Cx) (pins:List (Addr×Obj)) (σ:List (Option V)) (H:Hp) (s:A0):Prop where
 ok:X.Ok
 os:s.os=X.s₀.os
 bare:S7 s.gens
 base:Un X.fs X.ex X.H₀ H X.s₀.heap s.heap
 loc :∃m,s.heap.Ns X.env.locals m/\∀(i:Nat) (x:Str) (v:V),X.N[i]? = some x->σ[i]? = some (some v)->Vis X.env.scope x->∃u,RelV v u/\Look X.env s.heap m x u
 cell :∀x c,X.env.cells.lookup x=some c->∃v,s.heap.IsCell c v
 free:H X.env.locals=none
 freeC :∀x c,X.env.cells.lookup x=some c->H c=none
 pin :∀p∈X.pn++pins,s.heap.get? p.1=some p.2/\H p.1=none/\p.1≠X.env.locals/\p.1∉X.fs/\∀v,p.2.data≠.cell v
 hok:HOk X.prog X.w H s.heap
 len:σ.length=X.N.length
section
variable {X:Cx} {pins:List (Addr×Obj)} {σ:List (Option V)} {H H':Hp} {s:A0} {h':Heap}
theorem Cx.Ok.nofr (ok:X.Ok) {b:Addr} {o:Obj} (e:X.base.get? b=some o):b∉X.fs:=λ a=>by have:=(ok.funs.mem a).1;rw [e] at this;cases this
theorem Inv.bs (I:Inv X pins σ H s) :∀b o,X.base.get? b=some o->s.heap.get? b=some o/\H b=none:=λ b o e=>⟨I.base.keep b o (I.ok.bs b o e).1 (I.ok.bs b o e).2 (I.ok.nofr e) (I.ok.noex b o e),I.base.free b o (I.ok.bs b o e).1 (I.ok.bs b o e).2 (I.ok.noex b o e)⟩
theorem Inv.bk (I:Inv X pins σ H s) :∀b o,X.base.get? b=some o->s.heap.get? b=some o:=λ b o e=>(I.bs b o e).1
theorem Inv.mod (I:Inv X pins σ H s):Mod X.K X.mg X.base:=I.ok.mod
theorem Inv.kIn (I:Inv X pins σ H s):X.K.In s.heap:=I.ok.mod.kin.keeps I.bk
theorem Inv.lt (I:Inv X pins σ H s):X.env.locals < s.heap.objs.size:=let ⟨_,hn,_⟩:=I.loc;hn.lt
theorem Inv.sz (I:Inv X pins σ H s):X.s₀.heap.objs.size<=s.heap.objs.size:=L0 I.ok.above (X6 I.lt)
theorem Inv.nofs (I:Inv X pins σ H s) {a:Addr} (h:s.heap.objs.size<=a):a∉X.fs:=λ b=>by obtain ⟨_,o,c,_⟩:=I.ok.funs.mem b;exact absurd (i1 (M0 c) (L0 I.sz h)) (E3 _)
theorem Inv.cne (I:Inv X pins σ H s) :∀x c,X.env.cells.lookup x=some c->c≠X.env.locals:=λ x c e z=>by obtain ⟨v,o,a,hd⟩:=I.cell x c e;obtain ⟨m,⟨g,f,h,d,b,_⟩,_⟩:=I.loc;rw [z,d] at a;cases a;rw [b] at hd;cases hd
theorem Inv.funs (I:Inv X pins σ H s):s.heap.FunFrames X.base X.outer:=by
 have all :∀(l:List Env),(∀b∈frs l,b∈X.fs)->X.s₀.heap.FunFrames X.base l->s.heap.FunFrames X.base l:=by
  intro l;induction l with
  | nil=>intro _ _;trivial
  | cons env r ih=>intro f g;obtain ⟨i,⟨L,o,d,j,h,hd⟩,k⟩:=g;have a:L∈X.fs:=f L (by unfold frs;rw [N8,d];exact E2);obtain ⟨m,e⟩:=I.base.slot L o h (I.ok.frf L a) a λ z=>I.ok.exfs L z a;exact ⟨i,⟨L,_,d,j,e,hd⟩,ih (λ b c=>f b (by unfold frs;rw [N8,d];exact W2 _ c)) k⟩
 exact all X.outer (λ _ c=>c) I.ok.funs
theorem Inv.stack (I:Inv X pins σ H s):s.heap.FunFrames X.base X.stack:=by
 rcases I.ok.stk with e|⟨e,hf⟩
 ·rw [e];exact I.funs
 ·rw [e];obtain ⟨m,a,_⟩:=I.loc;refine .cons (by rw [I.ok.kind];decide) hf a ?_ I.funs;exact Heap.get?_none_of_le (L0 I.ok.bsz I.ok.above)
theorem Inv.stkSub (I:Inv X pins σ H s) :∀b∈frs X.stack,b∈X.env.locals :: X.fs:=λ b a=>by
 rcases I.ok.stk with e|⟨e,hf⟩
 ·rw [e] at a;exact W2 _ a
 ·rw [e] at a;unfold frs at a;rw [N8,hf] at a;exact a
theorem Inv.stkFree (I:Inv X pins σ H s) :∀b∈frs X.stack,H b=none:=λ b a=>by
 rcases List.mem_cons.mp (I.stkSub b a) with e|a
 ·rw [e];exact I.free
 ·obtain ⟨_,o,c,_⟩:=I.ok.funs.mem a;exact I.base.free b o c (I.ok.frf b a) λ z=>I.ok.exfs b z a
theorem Inv.step {g':Array GenState} {t':Nat} {d':Drawn} {ch:List Addr} (I:Inv X pins σ H s)
  (hch :∀b∈ch,(b∈X.ex\/X.s₀.heap.objs.size<=b)/\b≠X.env.locals/\(∀x c,X.env.cells.lookup x=some c->c≠b)/\∀p∈X.pn++pins,p.1≠b)
  (keep :∀b o,b≠X.env.locals->b∉X.fs->b∉ch->s.heap.get? b=some o->H b=none->h'.get? b=some o)
  (slot :∀b o,b≠X.env.locals->b∈X.fs->b∉ch->s.heap.get? b=some o->H b=none->∃sl,h'.get? b=some { o with slots:=sl }) (free :∀b o,b∉ch->s.heap.get? b=some o->H b=none->H' b=none)
  (there :∀b o,b∉ch->s.heap.get? b=some o->∃o',h'.get? b=some o')
  (tups :∀b xs,H b=some (.tup xs)->H' b=some (.tup xs)) (frzs :∀b o u,H b=some (.frz o u)->H' b=some (.frz o u)) (tbls :∀b ps,H b=some (.tbl ps)->∃more,H' b=some (.tbl (ps++more)))
  (ns :∀m,s.heap.Ns X.env.locals m->h'.Ns X.env.locals m) (hok:HOk X.prog X.w H' h') (hg:S7 g') :
  Inv X pins σ H' { s with heap:=h',gens:=g',drawn:=d',toks:=t' }:=by
 have D :∀b o,X.s₀.heap.get? b=some o->b≠X.env.locals:=λ b o e=>T0 (i1 (M0 e) I.ok.above);have y :∀b o,X.s₀.heap.get? b=some o->b∉X.ex->b∉ch:=λ b o e a g=>by
  rcases (hch b g).1 with z|z
  ·exact a z
  ·exact absurd (i1 (M0 e) z) (E3 _)
 have C :∀x c,X.env.cells.lookup x=some c->∀v,s.heap.IsCell c v->h'.IsCell c v:=λ x c e v ⟨o,h,hd⟩=>by
  have t:c∉ch:=λ z=>(hch c z).2.2.1 x c e rfl;by_cases hc:c∈X.fs
  ·obtain ⟨sl,q⟩:=slot c o (I.cne x c e) hc t h (I.freeC x c e);exact ⟨_,q,hd⟩
  ·exact ⟨o,keep c o (I.cne x c e) hc t h (I.freeC x c e),hd⟩
 refine ⟨I.ok,I.os,hg,⟨λ b o e n g a=>?_,λ b o e n g a=>?_,λ b o e n a=>?_,λ b o e a=>?_,λ b xs e=>tups b xs (I.base.tups b xs e),λ b o xs e=>frzs b o xs (I.base.frzs b o xs e),λ b ps e=>?_⟩,?_,λ x c e=>?_,?_,λ x c e=>?_,λ p B=>?_,hok,I.len⟩
 ·exact keep b o (D b o e) g (y b o e a) (I.base.keep b o e n g a) (I.base.free b o e n a)
 ·obtain ⟨sl,f⟩:=I.base.slot b o e n g a;obtain ⟨J,j⟩:=slot b _ (D b o e) g (y b o e a) f (I.base.free b o e n a);exact ⟨J,j⟩
 ·obtain ⟨o',f⟩:=I.base.there b o e a;exact free b o' (y b o e a) f (I.base.free b o e n a)
 ·obtain ⟨o',f⟩:=I.base.there b o e a;exact there b o' (y b o e a) f
 ·obtain ⟨L,f⟩:=I.base.tbls b ps e;obtain ⟨E,j⟩:=tbls b _ f;exact ⟨L++E,by rw [j,Array.append_assoc]⟩
 ·obtain ⟨m,K,F⟩:=I.loc;refine ⟨m,ns m K,λ i x v f j G=>?_⟩;obtain ⟨u,r,l⟩:=F i x v f j G;refine ⟨u,r,?_⟩;rcases l with l|⟨k,c,e,z⟩
  ·exact .inl l
  ·exact .inr ⟨k,c,e,C x c e _ z⟩
 ·obtain ⟨v,z⟩:=I.cell x c e;exact ⟨v,C x c e v z⟩
 ·obtain ⟨m,⟨o,_,_,h,_⟩,_⟩:=I.loc;exact free _ o (λ z=>(hch _ z).2.1 rfl) h I.free
 ·obtain ⟨v,o,h,hd⟩:=I.cell x c e;exact free c o (λ z=>(hch c z).2.2.1 x c e rfl) h (I.freeC x c e)
 ·obtain ⟨e,n,ne,A,d⟩:=I.pin p B;have t:p.1∉ch:=λ z=>(hch p.1 z).2.2.2 p B rfl;exact ⟨keep p.1 p.2 ne A t e n,free p.1 p.2 t e n,ne,A,d⟩
theorem Inv.un {t':Nat} (I:Inv X pins σ H s) (u:Un X.fs [] H H' s.heap h') (hok:HOk X.prog X.w H' h'):Inv X pins σ H' { s with heap:=h',toks:=t' }:=by obtain ⟨m,⟨o,l,q,c,r⟩,_⟩:=id I.loc;obtain ⟨t,f⟩:=u.any c I.free (by simp);exact I.step (g':=s.gens) (d':=s.drawn) (ch:=[]) (λ _ z=>nomatch z) (λ b o _ a _ e n=>u.keep b o e n a (by simp)) (λ b o _ a _ e n=>u.slot b o e n a (by simp)) (λ b o _ e n=>u.free b o e n (by simp)) (λ b o _ e=>u.there b o e (by simp)) u.tups u.frzs u.tbls (λ k i=>by obtain ⟨p,j,h,d,g⟩:=i;rw [c] at d;cases d;exact ⟨_,j,h,f,g⟩) hok I.bare
theorem Inv.call {g':Array GenState} {t':Nat} {d':Drawn} {ch:List Addr} (I:Inv X pins σ H s) (u:Un (frs X.stack) ch H H' s.heap h') (hok:HOk X.prog X.w H' h') (hg:S7 g')
  (hch :∀b∈ch,(b∈X.ex\/X.s₀.heap.objs.size<=b)/\b≠X.env.locals/\(∀x c,X.env.cells.lookup x=some c->c≠b)/\∀p∈X.pn++pins,p.1≠b) :
  Inv X pins σ H' { s with heap:=h',gens:=g',drawn:=d',toks:=t' }:=by
 obtain ⟨m,⟨o,t,y,f,r⟩,_⟩:=id I.loc;obtain ⟨A,d⟩:=u.any f I.free λ z=>(hch _ z).2.1 rfl;exact I.step (ch:=ch) hch (λ b o d k a e n=>u.keep b o e n (λ z=>(List.mem_cons.mp (I.stkSub b z)).elim d k) a) (λ b o _ _ a e n=>u.any e n a) (λ b o a e n=>u.free b o e n a) (λ b o a e=>u.there b o e a) u.tups u.frzs u.tbls (λ q j=>by obtain ⟨v,l,i,g,h⟩:=j;rw [f] at g;cases g;exact ⟨_,l,i,d,h⟩) hok hg
theorem Inv.turned {t':Nat} {it:Addr} (I:Inv X pins σ H s) (k :∀b o,b≠it->s.heap.get? b=some o->h'.get? b=some o) (hn:H it=none) (hL:it≠X.env.locals)
  (h1:it∈X.ex\/X.s₀.heap.objs.size<=it) (h2 :∀x c,X.env.cells.lookup x=some c->c≠it) (h3 :∀p∈X.pn++pins,p.1≠it):Inv X pins σ H { s with heap:=h',toks:=t' }:=by
 have d :∀b u,H b=some u->b≠it:=λ b u e z=>by rw [z,hn] at e;cases e
 refine I.step (g':=s.gens) (d':=s.drawn) (ch:=[it]) (λ b i=>?_) (λ b o _ _ a e _=>k b o (λ z=>a (by simp [z])) e) (λ b o _ _ a e _=>⟨o.slots,k b o (λ z=>a (by simp [z])) e⟩) (λ _ _ _ _ n=>n)
  (λ b o a e=>⟨o,k b o (λ z=>a (by simp [z])) e⟩) (λ _ _ e=>e) (λ _ _ _ e=>e) (λ b l e=>⟨#[],by rw [e];simp⟩) (λ m g=>?_) (λ b u e=>?_) I.bare
 ·have e:b=it:=by simpa using i
  subst e;exact ⟨h1,hL,h2,h3⟩
 ·obtain ⟨o,h,j,f,r⟩:=g;exact ⟨o,h,j,k _ o (P3 hL) f,r⟩
 ·refine (I.hok b u e).stay (λ c v a q=>k c v ?_ q) (λ _ q=>q) λ _ _ q=>q;rcases a with z|z
  ·rw [z];exact d b u e
  ·exact d c _ z
theorem Inv.tok (I:Inv X pins σ H s) (t:Nat):Inv X pins σ H { s with toks:=t }:=I.un (h':=s.heap) (t':=t) Un.refl I.hok
theorem Inv.kept {t':Nat} (I:Inv X pins σ H s) (k :∀b u,s.heap.get? b=some u->h'.get? b=some u):Inv X pins σ H { s with heap:=h',toks:=t' }:=I.un (Un.kept k) (I.hok.kept k)
theorem Inv.laid {a:Addr} {o:HO} {t':Nat} (I:Inv X pins σ H s) (k :∀b u,s.heap.get? b=some u->h'.get? b=some u) (hp:s.heap.objs.size<=a) (new:ObjOk X.prog X.w (upd H a o) h' a o) :
  Inv X pins σ (upd H a o) { s with heap:=h',toks:=t' }:=I.un (Un.laid k hp (I.hok.fresh hp)) (I.hok.laid k hp new)
theorem Inv.write {x e:Addr} {o:HO} {t':Nat} (I:Inv X pins σ H s) (mu:Mut (H x)) (he:e=x\/H e=some (.own x)) (k :∀b u,b≠e->s.heap.get? b=some u->h'.get? b=some u) (heo :∃u,h'.get? e=some u)
  (new:ObjOk X.prog X.w (upd H x o) h' x o):Inv X pins σ (upd H x o) { s with heap:=h',toks:=t' }:=I.un (Un.write mu he k heo) (I.hok.write mu he k heo new)
theorem Inv.weak {σ':List (Option V)} (I:Inv X pins σ H s) (hl:σ'.length=σ.length) (w :∀(i:Nat) v,σ'[i]? = some (some v)->σ[i]? = some (some v)):Inv X pins σ' H s:=
 ⟨I.ok,I.os,I.bare,I.base,let ⟨m,hn,hl'⟩:=I.loc;⟨m,hn,λ i x v b a c=>hl' i x v b (w i v a) c⟩,I.cell,I.free,I.freeC,I.pin,I.hok,hl.trans I.len⟩
theorem Inv.pins_of {pins':List (Addr×Obj)} (I:Inv X pins σ H s) (h :∀p∈pins',s.heap.get? p.1=some p.2/\H p.1=none/\p.1≠X.env.locals/\p.1∉X.fs/\∀v,p.2.data≠.cell v):Inv X pins' σ H s:=
 ⟨I.ok,I.os,I.bare,I.base,I.loc,I.cell,I.free,I.freeC,λ p a=>(List.mem_append.mp a).elim (λ z=>I.pin p (A5 _ z)) (h p),I.hok,I.len⟩
theorem za8 {N:List Str} (hN:N.Nodup) {i j:Nat} {x:Str} (a:N[i]? = some x) (b:N[j]? = some x):i=j:=by obtain ⟨f,d⟩:=List.getElem?_eq_some_iff.mp a;obtain ⟨e,c⟩:=List.getElem?_eq_some_iff.mp b;exact (List.getElem_inj hN).mp (d.trans c.symm)
theorem zek {M:Model} {A:X1} {E:Value->A0->Prop} {i:Nat} {x:Str} {v:V} {u:Value} {Q:Unit->A0->Prop} (I:Inv X pins σ H s) (hN:X.N.Nodup) (hi:X.N[i]? = some x) (hx:Loc X.env.scope x) (r:RelV v u)
  (h :∀s',Inv X pins (σ.set i (some v)) H s'->(∃a,S6 a s.heap s'.heap/\(a=X.env.locals\/X.env.cells.lookup x=some a))->Q () s') (hf:X.fn x=true\/X.env.scope.names.lookup x=some .local:=by first|exact .inl rfl|exact .inr rfl|assumption):R0 M A (storeName X.env x u) Q E s:=by
 obtain ⟨m,S,W⟩:=id I.loc;have a6:(X.env.scope.kind == .class || (X.env.scope.kind == .module && X.env.locals != X.env.globals))=false:=by rw [I.ok.kind];rfl
 have a0:i < σ.length:=by rw [I.len];exact (List.getElem?_eq_some_iff.mp hi).1
 have cne:=I.cne;have a2 :∀{a:Addr} {C:Heap},(∃o,s.heap.get? a=some o/\H a=none)->S6 a s.heap C->HOk X.prog X.w H C:=λ {a C} ha f b ob e=>by
  obtain ⟨_,_,Z⟩:=ha;refine (I.hok b ob e).stay (λ c D l q=>(f.2 c ?_).trans q) (λ _ q=>q) λ _ _ q=>q;rintro rfl;rcases l with rfl|l
  ·rw [Z] at e;cases e
  ·rw [Z] at l;cases l
 rcases hx with hk|hk
 ·refine wpAny_storeName_local hk S (λ C a5 f=>?_) a6;obtain ⟨oL,_,_,a3,_⟩:=id S;refine h _ ⟨I.ok,I.os,I.bare,⟨λ b o e n B hx=>?_,λ b o e n B hx=>?_,I.base.free,λ b o e hx=>?_,I.base.tups,I.base.frzs,I.base.tbls⟩,⟨_,a5,λ j y K g t P=>?_⟩,λ y c e=>?_,I.free,I.freeC,λ p L=>?_,a2 ⟨oL,a3,I.free⟩ f,by simpa using I.len⟩ ⟨_,f,.inl rfl⟩
  ·exact (f.2 b (T0 (i1 (M0 e) I.ok.above))).trans (I.base.keep b o e n B hx)
  ·obtain ⟨U,g⟩:=I.base.slot b o e n B hx;exact ⟨U,(f.2 b (T0 (i1 (M0 e) I.ok.above))).trans g⟩
  ·obtain ⟨T,g⟩:=I.base.there b o e hx;exact ⟨T,(f.2 b (T0 (i1 (M0 e) I.ok.above))).trans g⟩
  ·by_cases hj:j=i
   ·subst hj;rw [hi] at g;cases g;rw [j10 a0] at t;cases t;exact ⟨u,r,.inl ⟨hk,by simp⟩⟩
   ·rw [j25 (P3 hj)] at t;obtain ⟨R,O,q⟩:=W j y K g t P;refine ⟨R,O,?_⟩;rcases q with ⟨k,e⟩|⟨k,c,e,z⟩
    ·refine .inl ⟨k,?_⟩;have:y≠x:=λ e=>hj (za8 hN g (e ▸ hi));simp [this,e]
    ·exact .inr ⟨k,c,e,z.sameBut f (cne y c e)⟩
  ·obtain ⟨D,z⟩:=I.cell y c e;exact ⟨D,z.sameBut f (cne y c e)⟩
  ·obtain ⟨e,n,ne,G,d⟩:=I.pin p L;exact ⟨(f.2 p.1 ne).trans e,n,ne,G,d⟩
 ·have J:X.fn x=true:=by
   rcases hf with z|z
   ·exact z
   ·rw [z] at hk;cases hk
  obtain ⟨c,l⟩:=I.ok.has x (.inl hk);obtain ⟨D,z⟩:=I.cell x c l;refine wpAny_storeName_cell I.ok.kind hk l z (λ C a1 f=>?_);obtain ⟨oc,Y,a4⟩:=id z;refine h { s with heap:=C } ⟨I.ok,I.os,I.bare,⟨λ b o e n B hx=>?_,λ b o e n B hx=>?_,I.base.free,λ b o e hx=>?_,I.base.tups,I.base.frzs,I.base.tbls⟩,⟨m,S.sameBut f (P3 (cne x c l)),λ j y K g t P=>?_⟩,λ y F e=>?_,I.free,I.freeC,λ p L=>?_,a2 ⟨oc,Y,I.freeC x c l⟩ f,by simpa using I.len⟩ ⟨c,f,.inr l⟩
  ·exact (f.2 b (T0 (i1 (M0 e) (I.ok.cab x c J l)))).trans (I.base.keep b o e n B hx)
  ·obtain ⟨U,g⟩:=I.base.slot b o e n B hx;exact ⟨U,(f.2 b (T0 (i1 (M0 e) (I.ok.cab x c J l)))).trans g⟩
  ·obtain ⟨T,g⟩:=I.base.there b o e hx;exact ⟨T,(f.2 b (T0 (i1 (M0 e) (I.ok.cab x c J l)))).trans g⟩
  ·by_cases hj:j=i
   ·subst hj;rw [hi] at g;cases g;rw [j10 a0] at t;cases t;exact ⟨u,r,.inr ⟨.inl hk,c,l,a1⟩⟩
   ·rw [j25 (P3 hj)] at t;obtain ⟨R,O,q⟩:=W j y K g t P;refine ⟨R,O,?_⟩;rcases q with q|⟨k,F,e,z'⟩
    ·exact .inl q
    ·refine .inr ⟨k,F,e,z'.sameBut f ?_⟩;rintro rfl;exact hj (za8 hN g (I.ok.inj _ _ _ e l ▸ hi))
  ·by_cases hcc:F=c
   ·subst hcc;exact ⟨_,a1⟩
   ·obtain ⟨w2,z2⟩:=I.cell y F e;exact ⟨w2,z2.sameBut f hcc⟩
  ·obtain ⟨e,n,ne,G,d⟩:=I.pin p L;refine ⟨(f.2 p.1 ?_).trans e,n,ne,G,d⟩;intro q;rw [q,Y] at e;have q':oc=p.2:=C1 e;exact d D (by rw [<-q'];exact a4)
theorem zae {M:Model} {A:X1} {E:Value->A0->Prop} {i:Nat} {x:Str} {v:V} {u:Value} {Q:Unit->A0->Prop} (I:Inv X pins σ H s) (hN:X.N.Nodup) (hi:X.N[i]? = some x) (hx:Loc X.env.scope x) (r:RelV v u)
  (h :∀s',Inv X pins (σ.set i (some v)) H s'->Q () s') (hf:X.fn x=true\/X.env.scope.names.lookup x=some .local:=by first|exact .inl rfl|exact .inr rfl|assumption):R0 M A (storeName X.env x u) Q E s:=
 zek I hN hi hx r (λ s' a _=>h s' a) hf
theorem Inv.call' {s':A0} {ch:List Addr} (I:Inv X pins σ H s) (ho:s'.os=s.os) (u:Un (frs X.stack) ch H H' s.heap s'.heap) (hok:HOk X.prog X.w H' s'.heap) (hg:S7 s'.gens)
  (hch :∀b∈ch,(b∈X.ex\/X.s₀.heap.objs.size<=b)/\b≠X.env.locals/\(∀x c,X.env.cells.lookup x=some c->c≠b)/\∀p∈X.pn++pins,p.1≠b):Inv X pins σ H' s':=by
 obtain ⟨d,g',d',t',a⟩:=s';have e:a=s.os:=ho;subst e;exact I.call (g':=g') (t':=t') (d':=d') u hok hg hch
end
noncomputable abbrev XK:=Value->Option Addr->Hp->Prop
noncomputable abbrev St:=List (Option V)
noncomputable abbrev VK:=V->Hp->Prop
noncomputable abbrev TE:=St->Hp->VK->Prop
noncomputable abbrev TT:=St->Hp->(Bool->Hp->Prop)->Prop
noncomputable abbrev TA:=St->Hp->(List V->Hp->Prop)->Prop
structure Ends where
 nx:St->Hp->Prop
 rt:VK
 bk:St->Hp->Prop:=λ _ _=>False
 ct:St->Hp->Prop:=λ _ _=>False
noncomputable abbrev TS:=Ends->St->Hp->Prop
def EP (X:Cx) (pins:List (Addr×Obj)) (σ:St) (Q:VK) (u:Value) (s':A0):Prop:=∃v H',Inv X pins σ H' s'/\RelV v u/\Q v H'
def TP (X:Cx) (pins:List (Addr×Obj)) (σ:St) (Q:Bool->Hp->Prop) (b:Bool) (s':A0):Prop:=∃H',Inv X pins σ H' s'/\Q b H'
def AP (X:Cx) (pins:List (Addr×Obj)) (σ:St) (Q:List V->Hp->Prop) (us:List Value) (s':A0):Prop:=∃vs H',Inv X pins σ H' s'/\Vals vs us/\Q vs H'
def SP (X:Cx) (pins:List (Addr×Obj)) (D:Ends) (f:Flow) (s':A0):Prop:=
 match f with
 | .next=>∃σ' H',Inv X pins σ' H' s'/\D.nx σ' H'
 | .brk=>∃σ' H',Inv X pins σ' H' s'/\D.bk σ' H'
 | .cont=>∃σ' H',Inv X pins σ' H' s'/\D.ct σ' H'
 | .ret u=>∃v σ' H',Inv X pins σ' H' s'/\RelV v u/\D.rt v H'
def PE (X:Cx) (e:Expr) (t:TE):Prop:=
 ∀(pins:List (Addr×Obj)) (s:A0) (σ:St) (H:Hp) (Q:VK),Inv X pins σ H s->t σ H Q->R0 (Y0 X.prog X.w) X.A (p4 e X.env) (EP X pins σ Q) X.xe s
def PT (X:Cx) (e:Expr) (t:TT):Prop:=
 ∀(pins:List (Addr×Obj)) (s:A0) (σ:St) (H:Hp) (Q:Bool->Hp->Prop),Inv X pins σ H s->t σ H Q->R0 (Y0 X.prog X.w) X.A (isTrue e X.env (p4 e X.env)) (TP X pins σ Q) X.xe s
def PW (X:Cx) (e:Expr) (t:TT):Prop:=
 ∀(whole:Sem Value) (pins:List (Addr×Obj)) (s:A0) (σ:St) (H:Hp) (Q:Bool->Hp->Prop),Inv X pins σ H s->t σ H Q->R0 (Y0 X.prog X.w) X.A (isTrue e X.env whole) (TP X pins σ Q) X.xe s
theorem PW.pt {X:Cx} {e:Expr} {t:TT} (h:PW X e t):PT X e t:=h _
def PA (X:Cx) (es:List Expr) (t:TA):Prop:=
 ∀(pos:Pos) (pins:List (Addr×Obj)) (s:A0) (σ:St) (H:Hp) (Q:List V->Hp->Prop),Inv X pins σ H s->t σ H Q->R0 (Y0 X.prog X.w) X.A (j0h (Z5 pos (V1 es X.env))) (AP X pins σ Q) X.xe s
def PS (X:Cx) (st:Stmt) (t:TS):Prop:=
 ∀(pins:List (Addr×Obj)) (s:A0) (σ:St) (H:Hp) (D:Ends),Inv X pins σ H s->t D σ H->R0 (Y0 X.prog X.w) X.A (exec st X.env) (SP X pins D) X.xe s
def PSs (X:Cx) (st:List Stmt) (t:TS):Prop:=
 ∀(pins:List (Addr×Obj)) (s:A0) (σ:St) (H:Hp) (D:Ends),Inv X pins σ H s->t D σ H->R0 (Y0 X.prog X.w) X.A (execs st X.env) (SP X pins D) X.xe s
theorem thn {α:Type} {t:Sem α} {Q Q':α->A0->Prop} {M:Model} {A:X1} {E:Value->A0->Prop} {s:A0} (h:R0 M A t Q E s) (hQ :∀a s,Q a s->Q' a s):R0 M A t Q' E s:=Q3 h hQ λ _ _ x=>x
section
variable {X:Cx}
noncomputable def tVar (i:Nat):TE:=λ σ H Q=>∃v,σ[i]? = some (some v)/\Q v H
noncomputable def tC (v:V):TE:=λ _ H Q=>Q v H
theorem pe_var {i:Nat} {x:Str} {pos:Pos} (hN:X.N[i]? = some x) (hv:Vis X.env.scope x) (hd:(x == ("__debug__" : Str))=false:=by decide) (hcd:(x == ("__classdict__" : Str))=false:=by decide):PE X (.Name x pos) (tVar i):=by
 intro d s σ H Q I h;obtain ⟨v,e,h⟩:=h;obtain ⟨m,g,b⟩:=I.loc;obtain ⟨u,r,l⟩:=b i x v hN e hv;have fin:EP X d σ Q u s:=⟨v,H,I,r,h⟩
 rcases l with ⟨a,f⟩|⟨a,c,hc,hcell⟩
 ·exact wpAny_Name (wpAny_loadName_local I.ok.kind a g f fin) hd
 ·rcases a with a|a
  ·exact wpAny_Name (wpAny_loadName_cell I.ok.kind a hc hcell fin) hd
  ·exact wpAny_Name (wpAny_loadName_free I.ok.kind a hc hcell fin hcd) hd
theorem pe_int {i j pos}:PE X (.Constant (.int i) j pos) (tC (.int i)):=λ _ _ _ H _ I h=>wpAny_Constant_int ⟨.int i,H,I.tok _,⟨_,rfl⟩,h⟩
theorem pe_bl {b j pos}:PE X (.Constant (.bool b) j pos) (tC (.bl b)):=λ _ _ _ H _ I h=>Constant_bool ⟨.bl b,H,I,rfl,h⟩
theorem pe_non {j pos}:PE X (.Constant .none j pos) (tC .non):=λ _ _ _ H _ I h=>Constant_none ⟨.non,H,I,rfl,h⟩
theorem pe_str {x j pos}:PE X (.Constant (.str x) j pos) (tC (.str x)):=λ _ _ _ H _ I h=>Calls.Constant_str ⟨.str x,H,I.tok _,⟨_,rfl⟩,h⟩
def Gl (X:Cx) (x:Str):Prop:=X.env.kindOf x=some .globalImplicit
theorem zex {E:Value->A0->Prop} {pins:List (Addr×Obj)} {s:A0} {σ:St} {H:Hp} {x:Str} {u:Value} {pos:Pos} {Q:Value->A0->Prop} (I:Inv X pins σ H s) (hg:Gl X x) (hm:X.mg x=some u) (h:Q u s)
  (hd:(x == ("__debug__" : Str))=false:=by decide):R0 (Y0 X.prog X.w) X.A (p4 (.Name x pos) X.env) Q E s:=
 S9 I.ok.kind hg (Calls.loadGlobal_global (by rw [I.ok.glob];exact I.mod.glob.keeps I.bk) hm h) hd
theorem ld_blt {E:Value->A0->Prop} {pins:List (Addr×Obj)} {s:A0} {σ:St} {H:Hp} {x:Str} {u:Value} {pos:Pos} {Q:Value->A0->Prop} (I:Inv X pins σ H s) (hg:Gl X x) (hm:X.mg x=none) (hv:L4 x=some u) (h:Q u s)
  (hn:x≠"__name__":=by decide) (hd:(x == ("__debug__" : Str))=false:=by decide):R0 (Y0 X.prog X.w) X.A (p4 (.Name x pos) X.env) Q E s:=by
 obtain ⟨c,a,b⟩:=I.mod.blt;exact S9 I.ok.kind hg (Calls.loadGlobal_builtin (by rw [I.ok.glob];exact I.mod.glob.keeps I.bk) hm (by rw [I.ok.blt];exact a.keeps I.bk) ((b x hn).trans hv) h) hd
theorem z18 {x:Str} {v:V} {u:Value} {pos:Pos} (hg:Gl X x) (hm:X.mg x=some u) (r:RelV v u) (hd:(x == ("__debug__" : Str))=false:=by decide):PE X (.Name x pos) (tC v):=
 λ _ _ _ H _ I h=>zex I hg hm ⟨v,H,I,r,h⟩ hd
theorem z1q {x:Str} {v:V} {u:Value} {pos:Pos} (hg:Gl X x) (hm:X.mg x=none) (hv:L4 x=some u) (r:RelV v u) (hn:x≠"__name__":=by decide) (hd:(x == ("__debug__" : Str))=false:=by decide):PE X (.Name x pos) (tC v):=
 λ _ _ _ H _ I h=>ld_blt I hg hm hv ⟨v,H,I,r,h⟩ hn hd
variable {a b:Expr} {ta tb:TE} {pos:Pos}
def PC (X:Cx) (op:CmpOp) (a b:Expr) (t:TE):Prop:=
 ∀(pins:List (Addr×Obj)) (s:A0) (σ:St) (H:Hp) (Q:VK),Inv X pins σ H s->t σ H Q->
  R0 (Y0 X.prog X.w) X.A (p4 a X.env) (λ v s₁=>R0 (Y0 X.prog X.w) X.A (p4 b X.env) (λ u s₂=>R0 (Y0 X.prog X.w) X.A (U2 op v u) (EP X pins σ Q) X.xe s₂) X.xe s₁) X.xe s
noncomputable def tB (t:TE):TT:=λ σ H Q=>t σ H λ x H1=>∃c,x=.bl c/\Q c H1
theorem pt_cmp {op:CmpOp} {t:TE} (h:PC X op a b t) (h1:T7 op b=false:=by first|exact nobehind _ (by decide) (by decide)|rfl):PT X (.Compare a [op] [b] pos) (tB t):=by intro f s σ H Q I g;refine wpAny_isTrue_Compare1 (thn (h f s σ H _ I g) λ v j h1=>thn h1 λ u k e=>thn e λ c i ⟨x,H1,I1,r1,q1⟩=>?_) h1;obtain ⟨d,rfl,q⟩:=q1;cases r1;exact M3 ⟨H1,I1,q⟩
theorem pt_val {e:Expr} {t:TE} (h:PE X e t) (he :∀whole,isTrue e X.env whole=(do let v <-whole;standAt e.pos;j0i [v] (truthy v)):=by intro _;rfl):PT X e (tB t):=by intro a s σ H Q I b;refine isTrue_plain (thn (h a s σ H _ I b) λ v c ⟨x,H1,I1,r1,q1⟩=>?_) (he _);obtain ⟨d,rfl,q⟩:=q1;cases r1;exact M3 ⟨H1,I1,q⟩
variable {tA tB':TT} {rest:List Expr}
noncomputable def tAnd (t u:TT):TT:=λ σ H Q=>t σ H λ c H1=>if c=true then u σ H1 Q else Q false H1
noncomputable def tOr (t u:TT):TT:=λ σ H Q=>t σ H λ c H1=>if c=true then Q true H1 else u σ H1 Q
noncomputable def tNot (t:TT):TT:=λ σ H Q=>t σ H λ c H1=>Q (!c) H1
theorem z2r (ha:PT X a tA):PW X (.BoolOp .And [a] pos) tA:=by
 intro f b s σ H Q I h;refine isTrue_and (thn (ha b s σ H Q I h) λ c d e=>?_);cases c with
 | true=>exact isTrue_and_nil e
 | false=>exact e
theorem pw_or1 (ha:PT X a tA):PW X (.BoolOp .Or [a] pos) tA:=by
 intro f b s σ H Q I h;refine isTrue_or (thn (ha b s σ H Q I h) λ c d e=>?_);cases c with
 | false=>exact isTrue_or_nil e
 | true=>exact e
theorem pw_and (ha:PT X a tA) (hb:PW X (.BoolOp .And (b :: rest) pos) tB'):PW X (.BoolOp .And (a :: b :: rest) pos) (tAnd tA tB'):=by
 intro f d s σ H Q I h;refine isTrue_and (thn (ha d s σ H _ I h) λ c e ⟨H1,I1,q1⟩=>?_);cases c with
 | true=>exact hb f d e σ H1 Q I1 q1
 | false=>exact ⟨H1,I1,q1⟩
theorem pw_or (ha:PT X a tA) (hb:PW X (.BoolOp .Or (b :: rest) pos) tB'):PW X (.BoolOp .Or (a :: b :: rest) pos) (tOr tA tB'):=by
 intro f d s σ H Q I h;refine isTrue_or (thn (ha d s σ H _ I h) λ c e ⟨H1,I1,q1⟩=>?_);cases c with
 | true=>exact ⟨H1,I1,q1⟩
 | false=>exact hb f d e σ H1 Q I1 q1
theorem pt_not (ha:PT X a tA):PT X (.UnaryOp .Not a pos) (tNot tA):=by intro d s σ H Q I h;exact isTrue_not (ha d s σ H (λ c b=>Q (!c) b) I h)
noncomputable def tAndV (ta tb:TE):TE:=λ σ H Q=>ta σ H λ x H1=>∃c,x=.bl c/\if c=true then tb σ H1 Q else Q (.bl false) H1
noncomputable def tOrV (ta tb:TE):TE:=λ σ H Q=>ta σ H λ x H1=>∃c,x=.bl c/\if c=true then Q (.bl true) H1 else tb σ H1 Q
noncomputable def tNotV (ta:TE):TE:=λ σ H Q=>ta σ H λ x H1=>∃c,x=.bl c/\Q (.bl (!c)) H1
theorem pe_one {op} {t:TE} (h:PE X a t):PE X (.BoolOp op [a] pos) t:=λ b s σ H Q I c=>BoolOp_one (h b s σ H Q I c)
theorem pe_and (ha:PE X a ta) (hb:PE X (.BoolOp .And (b :: rest) pos) tb):PE X (.BoolOp .And (a :: b :: rest) pos) (tAndV ta tb):=by
 intro e s σ H Q I h;refine BoolOp_and (thn (ha e s σ H _ I h) λ v f ⟨x,H1,I1,r1,d⟩=>?_);obtain ⟨c,rfl,d⟩:=d;cases r1;refine M3 ?_;cases c with
 | true=>exact hb e f σ H1 Q I1 d
 | false=>exact ⟨.bl false,H1,I1,rfl,d⟩
theorem pe_or (ha:PE X a ta) (hb:PE X (.BoolOp .Or (b :: rest) pos) tb):PE X (.BoolOp .Or (a :: b :: rest) pos) (tOrV ta tb):=by
 intro e s σ H Q I h;refine BoolOp_or (thn (ha e s σ H _ I h) λ v f ⟨x,H1,I1,r1,d⟩=>?_);obtain ⟨c,rfl,d⟩:=d;cases r1;refine M3 ?_;cases c with
 | false=>exact hb e f σ H1 Q I1 d
 | true=>exact ⟨.bl true,H1,I1,rfl,d⟩
theorem pe_not (ha:PE X a ta):PE X (.UnaryOp .Not a pos) (tNotV ta):=by intro d s σ H Q I h;refine UnaryOp_ (thn (ha d s σ H _ I h) λ v e ⟨x,H1,I1,r1,b⟩=>?_);obtain ⟨c,rfl,b⟩:=b;cases r1;exact not_of (M3 ⟨.bl (!c),H1,I1,rfl,b⟩)
end
def SqL (K:c0) (H:Hp) (a:Addr) (xs:List V):Prop:=
 Rd H a (.lst xs)\/
  ∃(o:Obj) (its:Array Value) (n:Nat),K.lookup a=some o/\o.cls=.type "list"/\o.dict=none/\o.data=.seq its n/\its.size<=sizeLine/\Vals xs its.toList
def SqT (K:c0) (H:Hp) (a:Addr) (xs:List V):Prop:=
 Rd H a (.tup xs)\/
  ∃(o:Obj) (its:Array Value) (n:Nat),K.lookup a=some o/\o.cls=.type "tuple"/\o.data=.seq its n/\its.size<=sizeLine/\Vals xs its.toList
noncomputable def absV:Value->Option V
 | .none=>some .non
 | .bool b=>some (.bl b)
 | .int i _=>some (.int i)
 | .str x _=>some (.str x)
 | .bytes b _=>some (.byt b)
 | .float b _=>some (.flt b)
 | .ref a=>some (.ref a)
 | .type n=>some (.ty n)
 | _=>none
theorem RelV.abs {x:V} {u:Value} (r:RelV x u):absV u=some x:=by
 cases x with
 | non=>cases r;rfl
 | bl _=>cases r;rfl
 | int _=>obtain ⟨t,rfl⟩:=r;rfl
 | str _=>obtain ⟨t,rfl⟩:=r;rfl
 | byt _=>obtain ⟨t,rfl⟩:=r;rfl
 | flt _=>obtain ⟨t,rfl⟩:=r;rfl
 | ref _=>cases r;rfl
 | ty _=>cases r;rfl
theorem RelV.inj {x y:V} {u:Value} (r:RelV x u) (q:RelV y u):x=y:=C1 (r.abs.symm.trans q.abs)
theorem Vals.inj :∀{xs ys:List V} {us:List Value},Vals xs us->Vals ys us->xs=ys
 | _,_,_,.nil,.nil=>rfl
 | _,_,_,.cons r t,.cons r' t'=>by rw [r.inj r',Vals.inj t t']
section
variable {X:Cx} {pins:List (Addr×Obj)} {σ:St} {H:Hp} {s:A0} {a:Addr} {xs ys:List V}
theorem SqL.of {K:c0} (h:H a=some (.lst xs)):SqL K H a xs:=.inl (.inl h)
theorem SqT.of {K:c0} (h:H a=some (.tup xs)):SqT K H a xs:=.inl (.inl h)
theorem Inv.list (I:Inv X pins σ H s) (h:SqL X.K H a xs) :∃its:List Value,Vals xs its/\PlainL s.heap a its.toArray/\xs.length<=sizeLine:=by
 rcases h with h|⟨o,its,n,hk,hc,hd,hs,hz,r⟩
 ·obtain ⟨z,its,n,r,e⟩:=h.ok I.hok;exact ⟨its,r,⟨_,n,e,rfl,rfl,rfl⟩,z⟩
 ·refine ⟨its.toList,r,⟨o,n,I.kIn a o hk,hc,hd,by simpa using hs⟩,?_⟩;have e:=r.length;simp only [B1] at e;omega
theorem Inv.tuple (I:Inv X pins σ H s) (h:SqT X.K H a xs) :∃its:List Value,Vals xs its/\IsTup s.heap a its.toArray/\xs.length<=sizeLine:=by
 rcases h with h|⟨o,its,n,hk,hc,hs,hz,r⟩
 ·obtain ⟨z,its,r,p⟩:=h.ok I.hok;exact ⟨its,r,p.1,z⟩
 ·refine ⟨its.toList,r,⟨o,I.kIn a o hk,hc,n,by simpa using hs⟩,?_⟩;have e:=r.length;simp only [B1] at e;omega
theorem Inv.list_inj (I:Inv X pins σ H s) (h:SqL X.K H a xs) (h':SqL X.K H a ys):xs=ys:=by
 obtain ⟨g,r,⟨o,n,e,_,_,d⟩,_⟩:=I.list h;obtain ⟨f,i,⟨k,j,b,_,_,c⟩,_⟩:=I.list h';rw [e] at b;cases b;rw [d] at c;injection c with d1 _;have:g=f:=by simpa using congrArg Array.toList d1
 subst this;exact r.inj i
theorem Inv.tuple_inj (I:Inv X pins σ H s) (h:SqT X.K H a xs) (h':SqT X.K H a ys):xs=ys:=by
 obtain ⟨g,r,⟨o,e,_,n,d⟩,_⟩:=I.tuple h;obtain ⟨f,i,⟨k,b,_,j,c⟩,_⟩:=I.tuple h';rw [e] at b;cases b;rw [d] at c;injection c with d1 _;have:g=f:=by simpa using congrArg Array.toList d1
 subst this;exact r.inj i
end
noncomputable abbrev Cx.wish (X:Cx) (E:Value->A0->Prop):Cx:={ X with xe:=E }
noncomputable abbrev Cx.nox (X:Cx):Cx:=X.wish λ _ _=>False
theorem Cx.Ok.wish {X:Cx} (ok:X.Ok) (E:Value->A0->Prop):(X.wish E).Ok:=
 ⟨ok.mod,ok.kind,ok.glob,ok.blt,ok.above,ok.inj,ok.has,ok.cab,ok.hd,ok.frames,ok.stk,ok.exf,ok.bs,ok.bsz,ok.noex,ok.exfs,ok.funs,ok.frf⟩
theorem Cx.Ok.unwish {X:Cx} {E:Value->A0->Prop} (ok:(X.wish E).Ok):X.Ok:=
 ⟨ok.mod,ok.kind,ok.glob,ok.blt,ok.above,ok.inj,ok.has,ok.cab,ok.hd,ok.frames,ok.stk,ok.exf,ok.bs,ok.bsz,ok.noex,ok.exfs,ok.funs,ok.frf⟩
section
variable {X:Cx} {pins:List (Addr×Obj)} {σ:St} {H:Hp} {s:A0} {E:Value->A0->Prop}
theorem Inv.wish (I:Inv X pins σ H s) (E:Value->A0->Prop):Inv (X.wish E) pins σ H s:=⟨I.ok.wish E,I.os,I.bare,I.base,I.loc,I.cell,I.free,I.freeC,I.pin,I.hok,I.len⟩
theorem Inv.unwish (I:Inv (X.wish E) pins σ H s):Inv X pins σ H s:=⟨I.ok.unwish,I.os,I.bare,I.base,I.loc,I.cell,I.free,I.freeC,I.pin,I.hok,I.len⟩
theorem SP.unwish {D:Ends} {f:Flow} {s':A0} (h:SP (X.wish E) pins D f s'):SP X pins D f s':=by
 cases f with
 | next=>obtain ⟨a,b,I,q⟩:=h;exact ⟨a,b,I.unwish,q⟩
 | brk=>obtain ⟨a,b,I,q⟩:=h;exact ⟨a,b,I.unwish,q⟩
 | cont=>obtain ⟨a,b,I,q⟩:=h;exact ⟨a,b,I.unwish,q⟩
 | ret u=>obtain ⟨v,a,b,I,r,q⟩:=h;exact ⟨v,a,b,I.unwish,r,q⟩
theorem PSs.nox {st:List Stmt} {t:TS} (h:PSs X.nox st t):PSs X st t:=λ a s σ H D I b=>Q3 (h a s σ H D (I.wish _) b) (λ _ _ q=>q.unwish) λ _ _ z=>o5 z
end
section
variable {X:Cx} {st:Stmt} {rest:List Stmt} {t u:TS} {e:Expr} {te:TE} {pos:Pos}
noncomputable def tNext:TS:=λ D σ H=>D.nx σ H
noncomputable def tSeq (t u:TS):TS:=λ D σ H=>t { D with nx:=u D } σ H
theorem z0d:PSs X [] tNext:=λ _ _ σ H _ I h=>J8 ⟨σ,H,I,h⟩
theorem z05 (h1:PS X st t) (h2:PSs X rest u):PSs X (st :: rest) (tSeq t u):=by
 intro a s σ H D I h;refine wpAny_execs_cons (thn (h1 a s σ H { D with nx:=u D } I h) λ f d q=>?_);cases f with
 | next=>obtain ⟨b,c,e,q⟩:=q;exact h2 a d b c D e q
 | ret v=>exact q
 | brk=>exact q
 | cont=>exact q
theorem z06 (h1:PS X st t):PSs X [st] t:=by
 intro a s σ H D I h;refine wpAny_execs_cons (thn (h1 a s σ H D I h) λ f b q=>?_);cases f with
 | next=>exact J8 q
 | ret v=>exact q
 | brk=>exact q
 | cont=>exact q
noncomputable def tCont:TS:=λ D σ H=>D.ct σ H
theorem z49:PS X (.Continue pos) tCont:=λ _ _ σ H _ I h=>wpAny_Continue ⟨σ,H,I,h⟩
theorem Inv.quiet {pins:List (Addr×Obj)} {σ:St} {H:Hp} {s:A0} (I:Inv X pins σ H s):interactive X.env=false:=by simp [interactive,I.ok.kind]
noncomputable def tDrop (te:TE):TS:=λ D σ H=>te σ H λ _ H1=>D.nx σ H1
theorem z2t (he:PE X e te) (hs:m8 e none pos.line X.env=N3 false:=by rfl):PS X (.Expr e pos) (tDrop te):=by intro a s σ H D I h;exact wpAny_Expr_any (thn (he a s σ H _ I h) λ v b ⟨x,H1,I1,r1,q1⟩=>⟨σ,H1,I1,q1⟩) I.quiet hs
noncomputable def tRet (te:TE):TS:=λ D σ H=>te σ H D.rt
theorem ps_ret (he:PE X e te):PS X (.Return (some e) pos) (tRet te):=by intro a s σ H D I h;exact wpAny_Return_some (thn (he a s σ H _ I h) λ v b ⟨x,H1,I1,r1,q1⟩=>⟨x,σ,H1,I1,r1,q1⟩)
noncomputable def tIfS (c:TT) (t u:TS):TS:=λ D σ H=>c σ H λ b H1=>if b=true then t D σ H1 else u D σ H1
theorem ps_if {c:Expr} {a b:List Stmt} {tc:TT} (hc:PT X c tc) (ha:PSs X a t) (hb:PSs X b u):PS X (.If c a b pos) (tIfS tc t u):=by
 intro e s σ H D I h;refine wpAny_If (thn (hc e s σ H _ I h) λ d f ⟨H1,I1,q1⟩=>?_);cases d with
 | true=>exact ha e f σ H1 D I1 q1
 | false=>exact hb e f σ H1 D I1 q1
noncomputable def tNever:TS:=λ _ _ _=>False
theorem z1s:PS X st tNever:=λ _ _ _ _ _ _ h=>h.elim
end
noncomputable abbrev TG:=V->St->Hp->(St->Hp->Prop)->Prop
noncomputable abbrev TGs:=List V->St->Hp->(St->Hp->Prop)->Prop
def PG (X:Cx) (target:Expr) (t:TG):Prop:=
 ∀(pins:List (Addr×Obj)) (s:A0) (σ:St) (H:Hp) (v:V) (u:Value) (Q:St->Hp->Prop),Inv X pins σ H s->RelV v u->t v σ H Q->
  R0 (Y0 X.prog X.w) X.A (assign target X.env u) (λ _ s'=>∃σ' H',Inv X pins σ' H' s'/\Q σ' H') X.xe s
def PGs (X:Cx) (ts:List Expr) (t:TGs):Prop:=
 ∀(pins:List (Addr×Obj)) (s:A0) (σ:St) (H:Hp) (vs:List V) (us:List Value) (Q:St->Hp->Prop),Inv X pins σ H s->Vals vs us->t vs σ H Q->
  R0 (Y0 X.prog X.w) X.A (assignInOrder ((C8 ts X.env).map (·.2)) us) (λ _ s'=>∃σ' H',Inv X pins σ' H' s'/\Q σ' H') X.xe s
noncomputable abbrev TSet:=V->V->V->Hp->(Hp->Prop)->Prop
def PSet (X:Cx) (t:TSet):Prop:=
 ∀(pins:List (Addr×Obj)) (s:A0) (σ:St) (H:Hp) (o i v:V) (ov iv u:Value) (Q:Hp->Prop),Inv X pins σ H s->RelV o ov->RelV i iv->RelV v u->t o i v H Q->
  R0 (Y0 X.prog X.w) X.A (setItem ov iv u) (λ _ s'=>∃H',Inv X pins σ H' s'/\Q H') X.xe s
section
variable {X:Cx} {pos:Pos}
noncomputable def gName (i:Nat):TG:=λ v σ H Q=>Q (σ.set i (some v)) H
theorem z0p {i:Nat} {x:Str} (hN:X.N.Nodup) (hi:X.N[i]? = some x) (hx:Loc X.env.scope x) (hf:X.fn x=true\/X.env.scope.names.lookup x=some .local:=by first|exact .inl rfl|exact .inr rfl|assumption):PG X (.Name x pos) (gName i):=by intro c s σ H v u Q I r h;exact wpAny_assign_Name (zae I hN hi hx r (λ b a=>⟨_,H,a,h⟩) hf)
noncomputable def gNil:TGs:=λ vs σ H Q=>vs=[]/\Q σ H
noncomputable def gCons (t:TG) (u:TGs):TGs:=λ vs σ H Q=>∃v r,vs=v :: r/\t v σ H λ σ' H'=>u r σ' H' Q
theorem z1o:PGs X [] gNil:=by intro b s σ H c a Q I r h;obtain ⟨e,h⟩:=h;subst e;cases r;exact assignInOrder_nil ⟨σ,H,I,h⟩
theorem z0i {e:Expr} {es:List Expr} {t:TG} {u:TGs} (h1:PG X e t) (h2:PGs X es u)
  (hs:(C8 (e :: es) X.env).map (·.2)=assign e X.env :: (C8 es X.env).map (·.2):=by rfl):PGs X (e :: es) (gCons t u):=by
 intro a s σ H g d Q I r h;obtain ⟨v,f,b,h⟩:=h;subst b;cases r with
 | cons r rr=>rw [hs];refine assignInOrder_cons (thn (h1 a s σ H _ _ _ I r h) λ _ c ⟨σ1,H1,I1,q1⟩=>?_);exact h2 a c σ1 H1 _ _ Q I1 rr q1
noncomputable def gTup (K:c0) (n:Nat) (t:TGs):TG:=λ v σ H Q=>∃a xs,v=.ref a/\SqT K H a xs/\xs.length=n/\t xs σ H Q
theorem pg_tup {es:List Expr} {k:Nat} {t:TGs} {n:Nat} (hc:X.calm=true) (h:PGs X es t)
  (hn:(C8 es X.env).length=n:=by rfl) (hst:(C8 es X.env).findIdx? (·.1)=none:=by rfl):PG X (.Tuple es k pos) (gTup X.K n t):=by
 intro f s σ H v u Q I r c;obtain ⟨a,m,i,p,j,c⟩:=c;subst i;cases r;obtain ⟨x,d,g,y⟩:=I.tuple p;refine assign_Tuple_tuple (I.ok.hd hc) g (by simp [hn,<-j,d.length]) hst λ w l=>?_;have q:Inv X f σ H { s with heap:=w }:=I.kept (t':=s.toks) λ b o e=>l b o (T0 (M0 e)) e;exact h f _ σ H m _ Q q (by simpa using d) c
noncomputable def gSub (to ti:TE) (t:TSet):TG:=λ v σ H Q=>to σ H λ o H1=>ti σ H1 λ i H2=>t o i v H2 λ H3=>Q σ H3
theorem pg_sub {o i:Expr} {to ti:TE} {t:TSet} (ho:PE X o to) (hi:PE X i ti) (hs:PSet X t)
  (ha :∀v,assign (.Subscript o i pos) X.env v=(do
   let ov <-j0i [v] (p4 o X.env)
   let iv <-j0i [v,ov] (p4 i X.env)
   standAt pos
   j0i [v,ov,iv] (setItem ov iv v)
   release [v,ov,iv] []):=by intro _;rfl):PG X (.Subscript o i pos) (gSub to ti t):=by
 intro a s σ H v u Q I r h;rw [ha];refine o0 (T2 (thn (ho a s σ H _ I h) λ ov b ⟨x,H1,I1,r1,q1⟩=>?_));refine o0 (T2 (thn (hi a b σ H1 _ I1 q1) λ iv c ⟨y,H2,I2,r2,q2⟩=>?_));refine o0 (wpAny_standAt (o0 (T2 (thn (hs a c σ H2 x y v ov iv u _ I2 r1 r2 r q2) λ _ d ⟨H3,I3,q3⟩=>?_))));exact wpAny_release ⟨σ,H3,I3,q3⟩
noncomputable def tAsg (te:TE) (g:TG):TS:=λ D σ H=>te σ H λ x H1=>g x σ H1 D.nx
theorem ps_asg {tg e:Expr} {te:TE} {g:TG} (he:PE X e te) (hg:PG X tg g) (hs:swapsWithSole [tg] e pos.line X.env=N3 false:=by rfl) (hw:swappedStores [tg] e X.env=N3 none:=by rfl)
  (h1:(C8 [tg] X.env).map (·.2)=[assign tg X.env]:=by rfl):PS X (.Assign [tg] e pos) (tAsg te g):=by
 intro a s σ H D I h;refine wpAny_Assign_stores (thn (he a s σ H _ I h) λ v b ⟨x,H1,I1,r1,q1⟩=>?_) hs hw;rw [h1];exact thn (hg a b σ H1 x v _ I1 r1 q1) λ _ c q=>q
theorem ps_set {i:Nat} {x:Str} {e:Expr} {te:TE} {pos':Pos} (hN:X.N.Nodup) (hi:X.N[i]? = some x) (hx:Loc X.env.scope x) (he:PE X e te) (hs:m8 e (some (.Name x pos')) pos.line X.env=N3 false:=by rfl) (hf:X.fn x=true\/X.env.scope.names.lookup x=some .local:=by first|exact .inl rfl|exact .inr rfl|assumption) :
  PS X (.Assign [.Name x pos'] e pos) (tAsg te (gName i)):=by
 intro b s σ H D I h;refine wpAny_Assign_Name (thn (he b s σ H _ I h) λ v c ⟨y,H1,I1,r1,q1⟩=>?_) hs;exact zae I1 hN hi hx r1 (λ d a=>⟨_,H1,a,q1⟩) hf
noncomputable def tWhile (c:TT) (tb:TS):TS:=λ D σ H=>∃W:Nat->St->Hp->Prop,(∃m,W m σ H)/\∀m σ H,W m σ H->
 c σ H λ b H1=>if b=true then∃N:St->Hp->Prop,(∀σ' H',N σ' H'->∃m',m' < m/\W m' σ' H')/\tb { D with nx:=N,ct:=N,bk:=D.nx } σ H1 else D.nx σ H1
theorem zft {c:Expr} {body:List Stmt} {tc:TT} {tb:TS} (hp:PassesOwn (Y0 X.prog X.w) X.A X.env X.xe) (hc:PT X c tc) (hb:PSs X body tb):PS X (.While c body [] pos) (tWhile tc tb):=by
 intro m s σ H D I h;obtain ⟨W,⟨r,q⟩,t⟩:=h;refine wpAny_While (codeAny_whileLoop (λ n y=>∃σ' H',Inv X m σ' H' y/\W n σ' H') ?_ r ⟨σ,H,I,q⟩);rintro n u ⟨σ1,H1,I1,w1⟩;refine m5 hp (thn (hc m u σ1 H1 _ I1 (t n σ1 H1 w1)) λ b x ⟨H2,I2,e⟩=>?_);cases b with
 | true=>
  obtain ⟨N,p,e⟩:=e;rw [if_pos rfl];refine m5 hp (thn (hb m x σ1 H2 _ I2 e) λ f z g=>?_);cases f with
  | next=>obtain ⟨a,d,o,j⟩:=g;obtain ⟨i,l,k⟩:=p a d j;exact ⟨i,l,a,d,o,k⟩
  | cont=>obtain ⟨a,d,o,j⟩:=g;obtain ⟨i,l,k⟩:=p a d j;exact ⟨i,l,a,d,o,k⟩
  | brk=>exact g
  | ret v=>exact g
 | false=>rw [if_neg N0];exact J8 ⟨σ1,H2,I2,e⟩
end
structure It where
 go:Nat->Hp->Prop
 yld:Nat->Hp->V->Hp->Prop
 stop:Nat->Hp->Prop
def FpOk (X:Cx) (pins:List (Addr×Obj)) (H:Hp) (b:Addr):Prop:=
 H b=none/\b≠X.env.locals/\b∉X.fs/\(b∈X.ex\/X.s₀.heap.objs.size<=b)/\(∀x c,X.env.cells.lookup x=some c->c≠b)/\∀p∈X.pn++pins,p.1≠b
theorem Inv.fpOk {X:Cx} {pins:List (Addr×Obj)} {σ:St} {H H':Hp} {s:A0} {b:Addr} (I:Inv X pins σ H s) (hb:s.heap.objs.size<=b) (hn:H' b=none):FpOk X pins H' b:=by
 refine ⟨hn,F2 (i1 I.lt hb),I.nofs hb,.inr (L0 I.sz hb),λ x c e z=>?_,λ p a z=>?_⟩
 ·obtain ⟨v,q⟩:=I.cell x c e;exact absurd (i1 q.lt (by rw [z];exact hb)) (E3 _)
 ·exact absurd (i1 (M0 (I.pin p a).1) (by rw [z];exact hb)) (E3 _)
structure Turn (P:Program) (w:S0) (K:c0) (tg:Expr) (J:It) (fp:List Addr) (it:Addr) (tn:Nat->Heap->Prop):Prop where
 mem:it∈fp
 obj :∀i h,tn i h->∀b∈fp,∃o,h.get? b=some o/\∀v,o.data≠.cell v
 keep :∀i h h',tn i h->(∀b∈fp,∀o,h.get? b=some o->h'.get? b=some o)->tn i h'
 item :∀(X:Cx),X.prog=P->X.w=w->X.K=K->X.calm=true->∀(i:Nat) (pins:List (Addr×Obj)) (s:A0) (σ:St) (H:Hp) (E:Value->A0->Prop),Inv X pins σ H s->(∀b∈fp,FpOk X pins H b)->tn i s.heap->J.go i H->
  R0 (Y0 P w) X.A (v9 (.ref it)) (λ r s1=>∃u,r=some u/\
   R0 (Y0 P w) X.A (K8 tg (.ref it) u) (λ _ s2=>∃x H',Inv X pins σ H' s2/\RelV x u/\J.yld i H x H'/\tn (i + 1) s2.heap/\∀b∈fp,H' b=none) E s1) E s
 done :∀(X:Cx),X.prog=P->X.w=w->X.K=K->X.calm=true->∀(i:Nat) (pins:List (Addr×Obj)) (s:A0) (σ:St) (H:Hp) (E:Value->A0->Prop),Inv X pins σ H s->(∀b∈fp,FpOk X pins H b)->tn i s.heap->J.stop i H->
  R0 (Y0 P w) X.A (v9 (.ref it)) (λ r s1=>r=none/\Inv X pins σ H s1) E s
 self :∀(A:X1) (i:Nat) (s:A0) (Q:Value->A0->Prop) (E:Value->A0->Prop),tn i s.heap->Q (.ref it) s->R0 (Y0 P w) A (pyIter (.ref it)) Q E s
noncomputable abbrev TI:=St->Hp->(It->Hp->Prop)->Prop
def PIE (X:Cx) (pins:List (Addr×Obj)) (σ:St) (tg:Expr) (R:It->Hp->Prop) (itv:Value) (s2:A0):Prop:=
 ∃(it:Addr) (fp:List Addr) (tn:Nat->Heap->Prop) (J:It) (H':Hp),itv=.ref it/\Inv X pins σ H' s2/\Turn X.prog X.w X.K tg J fp it tn/\tn 0 s2.heap/\(∀b∈fp,FpOk X pins H' b)/\R J H'
def PI (X:Cx) (tg iter:Expr) (wi:TI):Prop:=
 ∀(pins:List (Addr×Obj)) (s:A0) (σ:St) (H:Hp) (R:It->Hp->Prop),Inv X pins σ H s->wi σ H R->
  R0 (Y0 X.prog X.w) X.A (p4 iter X.env) (λ v s1=>R0 (Y0 X.prog X.w) X.A (pyIter v) (PIE X pins σ tg R) X.xe s1) X.xe s
theorem go_of {M:Model} {A:X1} {E:Value->A0->Prop} {s:A0} {tg:Expr} {it:Addr} {u:Value} {o:Obj} {n:String} {vs:Array Value} {Q:Unit->A0->Prop} (ho:s.heap.get? it=some o) (hc:o.cls=.type n) (hd:o.data=.fields vs)
    (hn:["enumerate","zip","dict_itemiterator","dict_reverseitemiterator","odict_iterator","itertools.zip_longest","itertools.pairwise"].contains n=false) (hQ:Q () s):R0 M A (K8 tg (.ref it) u) Q E s:=by
  unfold K8;cases tg<;>first
    | exact F0 hQ
    | (cases u<;>first
        | exact F0 hQ
        | (refine o0 (wpAny_load ho ?_)
           rw [hc,hd];show R0 M A (if (["enumerate","zip","dict_itemiterator","dict_reverseitemiterator","odict_iterator","itertools.zip_longest","itertools.pairwise"].contains n && vs[0]? == some (E5 _))=true then _ else _) Q E s;rw [if_neg (by intro h;rw [hn,r6] at h;cases h)];exact F0 hQ))
noncomputable def Itl (K:c0) (a:Addr):It:=
 ⟨λ i H=>∃xs x,SqL K H a xs/\xs[i]? = some x,λ i H x H'=>H'=H/\∀xs,SqL K H a xs->xs[i]? = some x,λ i H=>∃xs,SqL K H a xs/\xs.length<=i⟩
noncomputable def Itt (K:c0) (a:Addr):It:=
 ⟨λ i H=>∃xs x,SqT K H a xs/\xs[i]? = some x,λ i H x H'=>H'=H/\∀xs,SqT K H a xs->xs[i]? = some x,λ i H=>∃xs,SqT K H a xs/\xs.length<=i⟩
noncomputable def Itr (lo:Int) (n:Nat):It:=⟨λ i _=>i < n,λ i H x H'=>H'=H/\x=.int (lo + i),λ i _=>n<=i⟩
theorem zd1 {P:Program} {w:S0} {K:c0} {tg:Expr} (a it:Addr):Turn P w K tg (Itl K a) [it] it (λ i h=>h.IsListIter it a i) where
 mem:=by simp
 obj:=λ i h f b g=>by
  have e:b=it:=by simpa using g
  subst e;obtain ⟨o,e,c,d⟩:=f;exact ⟨o,e,λ v z=>by rw [d] at z;cases z⟩
 keep:=λ i h m f k=>f.at λ o e=>k it (by simp) o e
 item:=by intro X t A C J i M s σ H E I j f r;subst t A C;obtain ⟨R,x,l,q⟩:=r;obtain ⟨O,y,p,W⟩:=I.list l;obtain ⟨u,T,N⟩:=y.get q;obtain ⟨B,D,S,n,F,G⟩:=j it (by simp);refine A8 f p.isList (x:=u) (by simpa using T) λ m L sb=>?_;have V:Inv X M σ H { s with heap:=m }:=I.turned (t':=s.toks) (λ b o g e=>(sb.2 b g).trans e) B D n F G;obtain ⟨o,e,c,d⟩:=id L;exact ⟨u,rfl,go_of (s:={ s with heap:=m }) e c d (by decide) ⟨x,H,V,N,⟨rfl,λ Z Q=>by rw [I.list_inj Q l];exact q⟩,L,λ b g=>(j b g).1⟩⟩
 done:=by intro X t A C J i M s σ H E I j f r;subst t A C;obtain ⟨R,l,q⟩:=r;obtain ⟨O,y,p,W⟩:=I.list l;obtain ⟨B,D,S,n,F,G⟩:=j it (by simp);have Y:=y.length;exact O8 (I.ok.hd J) f p.isList (by simp;omega) λ m U=>⟨rfl,I.turned (t':=s.toks) (λ b o g e=>U b o g e) B D n F G⟩
 self:=λ _ _ _ _ _ f h=>wpAny_pyIter_listiter f h
theorem zap {P:Program} {w:S0} {K:c0} {tg:Expr} (a it:Addr):Turn P w K tg (Itt K a) [it] it (λ i h=>h.IsTupleIter it a i) where
 mem:=by simp
 obj:=λ i h f b g=>by
  have e:b=it:=by simpa using g
  subst e;obtain ⟨o,e,c,d⟩:=f;exact ⟨o,e,λ v z=>by rw [d] at z;cases z⟩
 keep:=λ i h m f k=>f.at λ o e=>k it (by simp) o e
 item:=by intro X y B D L i N s σ H E I j f t;subst y B D;obtain ⟨R,x,l,r⟩:=t;obtain ⟨q,A,p,W⟩:=I.tuple l;obtain ⟨u,T,O⟩:=A.get r;obtain ⟨C,F,S,n,G,J⟩:=j it (by simp);refine wpAny_pyNext_tuple_item f (show s.heap.IsTuple a q.toArray from p) (x:=u) (by simpa using T) λ m M sb=>?_;have V:Inv X N σ H { s with heap:=m }:=I.turned (t':=s.toks) (λ b o g e=>(sb.2 b g).trans e) C F n G J;obtain ⟨o,e,c,d⟩:=id M;exact ⟨u,rfl,go_of (s:={ s with heap:=m }) e c d (by decide) ⟨x,H,V,O,⟨rfl,λ Z Q=>by rw [I.tuple_inj Q l];exact r⟩,M,λ b g=>(j b g).1⟩⟩
 done:=by intro X y B D L i N s σ H E I j f t;subst y B D;obtain ⟨R,l,r⟩:=t;obtain ⟨q,A,p,W⟩:=I.tuple l;obtain ⟨C,F,S,n,G,J⟩:=j it (by simp);have Y:=A.length;exact wpAny_pyNext_tuple_end (I.ok.hd L) f (show s.heap.IsTuple a q.toArray from p) (by simp;omega) λ m U=>⟨rfl,I.turned (t':=s.toks) (λ b o g e=>U b o g e) C F n G J⟩
 self:=λ _ _ _ _ _ f h=>wpAny_pyIter_tupleiter f h
theorem zbb {P:Program} {w:S0} {K:c0} {tg:Expr} (it:Addr) (lo:Int) (n:Nat):Turn P w K tg (Itr lo n) [it] it (λ i h=>IsRangeIter h it (lo + (i:Nat) * 1) ((n:Int) - (i:Nat)) 1) where
 mem:=by simp
 obj:=λ i h a b c=>by
  have e:b=it:=by simpa using c
  subst e;exact ⟨_,a,λ v z=>by have F:D9 _=j0g v:=z;cases F⟩
 keep:=λ i h f a k=>k it (by simp) _ a
 item:=by intro X m p r j i C s σ H E I d a l;subst m p r;obtain ⟨q,u,J,g,x,y⟩:=d it (by simp);have W:=Walks.range (prog:=X.prog) (w:=X.w) (I.ok.hd j) it lo 1 n;refine W.item i s _ _ l a λ v f A D B G=>?_;obtain ⟨t,rfl⟩:=D;have M:Inv X C σ H { s with heap:=f,toks:=A }:=I.turned (λ b o c e=>G b o (by simpa using c) e) q u g x y;refine ⟨_,rfl,go_of (s:={ s with heap:=f,toks:=A }) (n:="range_iterator") B rfl rfl (by decide) ⟨.int (lo + i),H,M,⟨t,?_⟩,⟨rfl,rfl⟩,B,λ b c=>(d b c).1⟩⟩;rw [Int.mul_one]
 done:=by intro X m p r j i C s σ H E I d a l;subst m p r;obtain ⟨q,u,J,g,x,y⟩:=d it (by simp);exact wpAny_pyNext_range_end (I.ok.hd j) a (by have:n<=i:=l;omega) λ f L=>⟨rfl,I.turned (t':=s.toks) (λ b o c e=>L b o c e) q u g x y⟩
 self:=λ _ _ _ _ _ a h=>wpAny_pyIter_rangeiter a h
section
variable {X:Cx} {tg:Expr}
noncomputable def iList (K:c0) (tl:TE):TI:=λ σ H R=>tl σ H λ x H1=>∃a,x=.ref a/\(∃xs,SqL K H1 a xs)/\R (Itl K a) H1
noncomputable def iTup (K:c0) (tl:TE):TI:=λ σ H R=>tl σ H λ x H1=>∃a,x=.ref a/\(∃xs,SqT K H1 a xs)/\R (Itt K a) H1
theorem z0n {l:Expr} {tl:TE} (hl:PE X l tl):PI X tg l (iList X.K tl):=by
 intro g s σ H R I h;refine thn (hl g s σ H _ I h) λ v c ⟨x,H1,I1,r1,q1⟩=>?_;obtain ⟨a,e,⟨k,d⟩,q⟩:=q1;subst e;cases r1;obtain ⟨i,j,p,m⟩:=I1.list d;refine F6 p.isList ?_;refine ⟨c.heap.objs.size,[c.heap.objs.size],_,_,H1,rfl,I1.kept (t':=c.toks) λ b o e=>y0 _ e,zd1 a _,⟨_,O0 _ rfl,rfl,rfl⟩,λ b f=>?_,q⟩;have e:b=c.heap.objs.size:=by simpa using f
 subst e;exact I1.fpOk (C0 _) (I1.hok.fresh (C0 _))
theorem pi_tup {l:Expr} {tl:TE} (hl:PE X l tl):PI X tg l (iTup X.K tl):=by
 intro i s σ H R I h;refine thn (hl i s σ H _ I h) λ v c ⟨x,H1,I1,r1,q1⟩=>?_;obtain ⟨a,e,⟨k,f⟩,q⟩:=q1;subst e;cases r1;obtain ⟨d,j,p,m⟩:=I1.tuple f;refine X4 (show c.heap.IsTuple a d.toArray from p) ?_;refine ⟨c.heap.objs.size,[c.heap.objs.size],_,_,H1,rfl,I1.kept (t':=c.toks) λ b o e=>y0 _ e,zap a _,⟨_,O0 _ rfl,rfl,rfl⟩,λ b g=>?_,q⟩;have e:b=c.heap.objs.size:=by simpa using g
 subst e;exact I1.fpOk (C0 _) (I1.hok.fresh (C0 _))
theorem zfd {pins:List (Addr×Obj)} {σ:St} {H:Hp} {s:A0} {R:It->Hp->Prop} {E:Value->A0->Prop} {lo hi:Int} {t u v:Tok} {tk:Nat} (I:Inv X pins σ H s) (h1:-(2 ^ 62)<=lo) (h2:lo < 2 ^ 62) (h3:-(2 ^ 62)<=hi) (h4:hi < 2 ^ 62)
  (q:R (Itr lo (hi - lo).toNat) H):R0 (Y0 X.prog X.w) X.A (pyIter (.ref s.heap.objs.size)) (PIE X pins σ tg R) E { s with heap:=s.heap.push { cls:=.type "range",data:=.fields #[.int lo t,.int hi u,.int 1 v] },toks:=tk }:=by
 refine wpAny_pyIter_range (IsRange.new ..) (small_one h1 h2 h3 h4) ?_;have a:Inv X pins σ H { s with heap:=s.heap.push { cls:=.type "range",data:=.fields #[.int lo t,.int hi u,.int 1 v] },toks:=tk }:=I.kept λ b o e=>y0 _ e;refine ⟨(s.heap.push { cls:=.type "range",data:=.fields #[.int lo t,.int hi u,.int 1 v] }).objs.size,[(s.heap.push { cls:=.type "range",data:=.fields #[.int lo t,.int hi u,.int 1 v] }).objs.size],_,_,H,rfl,
  a.kept (t':=tk) λ b o e=>y0 _ e,zbb _ lo (hi - lo).toNat,?_,λ b d=>?_,q⟩
 ·have f:lo + ((0:Nat):Int) * 1=lo:=by simp
  have c:(((hi - lo).toNat:Nat):Int) - ((0:Nat):Int)=Builtin.Range.rangeSize lo hi 1:=by rw [rangeSize_one];split<;>omega
  show IsRangeIter _ _ (lo + ((0:Nat):Int) * 1) ((((hi - lo).toNat:Nat):Int) - ((0:Nat):Int)) 1;rw [f,c];exact O0 _ rfl
 ·have e:b=(s.heap.push { cls:=.type "range",data:=.fields #[.int lo t,.int hi u,.int 1 v] }).objs.size:=by simpa using d
  subst e;exact a.fpOk (C0 _) (a.hok.fresh (C0 _))
noncomputable def iRng1 (ta:TA):TI:=λ σ H R=>ta σ H λ vs H1=>∃j:Int,vs=[.int j]/\-(2 ^ 62)<=j/\j < 2 ^ 62/\R (Itr 0 j.toNat) H1
theorem z4r {a:Expr} {ta:TA} {p pos:Pos} (hg:Gl X "range") (hm:X.mg "range" = none) (ha:PA X [a] ta) (hs:V1 [a] X.env=[(false,p4 a X.env)]:=by rfl):PI X tg (.Call (.Name "range" p) [a] [] pos) (iRng1 ta):=by
 intro c s σ H R I h;refine Call_ (ld_blt I hg hm boot_range (K3 (thn (ha pos c s σ H _ I h) λ g f ⟨vs,H1,I1,r1,b⟩=>?_) hs rfl));obtain ⟨j,e,b,d,q⟩:=b;subst e;cases r1 with
 | cons r rr=>cases rr;obtain ⟨t,rfl⟩:=r;exact call_range_1 (zfd I1 (by omega) (by omega) b d (by simpa using q))
noncomputable def tFor (wi:TI) (g:TG) (tb:TS):TS:=λ D σ H=>wi σ H λ J H1=>∃W:Nat->Nat->St->Hp->Prop,(∃m,W 0 m σ H1)/\∀i m σ H,W i m σ H->
 (J.stop i H/\D.nx σ H)\/(J.go i H/\∃N:St->Hp->Prop,(∀σ' H',N σ' H'->∃m',m' < m/\W (i + 1) m' σ' H')/\∀x H',J.yld i H x H'->g x σ H' λ σ2 H2=>tb { D with nx:=N,ct:=N,bk:=D.nx } σ2 H2)
noncomputable def pinsAt (fp:List Addr) (h:Heap):List (Addr×Obj):=fp.filterMap λ b=>(h.get? b).map λ o=>(b,o)
theorem z0z {fp:List Addr} {h:Heap} {b:Addr} {o:Obj} (hb:b∈fp) (e:h.get? b=some o):(b,o)∈pinsAt fp h:=List.mem_filterMap.mpr ⟨b,hb,by rw [e];rfl⟩
theorem z8k {fp:List Addr} {h:Heap} {p:Addr×Obj} (hp:p∈pinsAt fp h):p.1∈fp/\h.get? p.1=some p.2:=by
 obtain ⟨b,c,e⟩:=List.mem_filterMap.mp hp;cases q:h.get? b with
 | none=>rw [q] at e;cases e
 | some o=>rw [q] at e;have a:(b,o)=p:=C1 e;subst a;exact ⟨c,q⟩
theorem Inv.pinned {pins:List (Addr×Obj)} {σ:St} {H:Hp} {s:A0} {fp:List Addr} (I:Inv X pins σ H s) (hf :∀b∈fp,FpOk X pins H b) (ho :∀b∈fp,∃o,s.heap.get? b=some o/\∀v,o.data≠.cell v):Inv X (pins++pinsAt fp s.heap) σ H s:=
 I.pins_of λ p g=>(List.mem_append.mp g).elim (λ z=>I.pin p (U0 _ z)) λ z=>by obtain ⟨c,e⟩:=z8k z;obtain ⟨f,h,i,_⟩:=hf p.1 c;obtain ⟨o,a,d⟩:=ho p.1 c;rw [e] at a;cases a;exact ⟨e,f,h,i,d⟩
theorem Inv.unpinned {pins pl:List (Addr×Obj)} {σ:St} {H:Hp} {s:A0} (I:Inv X (pins++pl) σ H s):Inv X pins σ H s:=I.pins_of λ p a=>I.pin p (U0 _ (A5 _ a))
theorem ps_for {iter:Expr} {body:List Stmt} {wi:TI} {g:TG} {tb:TS} {pos:Pos} (hp:PassesOwn (Y0 X.prog X.w) X.A X.env X.xe) (hc:X.calm=true) (hi:PI X tg iter wi) (hg:PG X tg g) (hb:PSs X body tb)
  (hs :∀x,G5 iter X.env x=N3 x:=by intro _;rfl):PS X (.For tg iter body [] pos) (tFor wi g tb):=by
 intro l s σ H D I h;refine wpAny_For (thn (hi l s σ H _ I h) λ v s1 K=>thn K λ a1 s2 Y=>?_) hs;obtain ⟨it,q,B,J,V,e,I2,T,M,E,W,⟨Q,P⟩,S⟩:=Y;subst e
 -- what stays true of the iterator's objects through the loop
 have t :∀{H':Hp},(∀b∈q,H' b=none)->∀b∈q,FpOk X l H' b:=λ hn b hb=>⟨hn b hb,(E b hb).2⟩
 refine codeAny_forLoop_any (λ n G=>∃i σ' H',Inv X l σ' H' G/\B i G.heap/\(∀b∈q,H' b=none)/\W i n σ' H') ?_ Q ⟨0,σ,V,I2,M,λ b hb=>(E b hb).1,P⟩;rintro n z ⟨i,σ3,H3,I3,st3,fr3,w3⟩;rcases S i n σ3 H3 w3 with ⟨L,Z⟩|⟨go,N,hN,step⟩
 ·refine m5 hp (thn (T.done X rfl rfl rfl hc i l z σ3 H3 X.xe I3 (t fr3) st3 L) λ r s4 ⟨hr,I4⟩=>?_);subst hr;exact J8 ⟨σ3,H3,I4,Z⟩
 ·refine m5 hp (thn (T.item X rfl rfl rfl hc i l z σ3 H3 X.xe I3 (t fr3) st3 go) λ r s4 ⟨u,hr,h4⟩=>?_);subst hr;refine m5 hp (thn h4 λ _ C ⟨x,H5,I5,r5,y5,st5,fr5⟩=>?_);have a0:=I5.pinned (t fr5) (T.obj _ _ st5);refine m5 hp (thn (hg _ C σ3 H5 x u _ a0 r5 (step x H5 y5)) λ _ U ⟨σ6,H6,I6,q6⟩=>?_);refine m5 hp (thn (hb _ U σ6 H6 _ I6 q6) λ f y k=>?_);have F :∀{j:St} {c:Hp},Inv X (l++pinsAt q C.heap) j c y->N j c->∃m,m < n/\∃i σ' H',Inv X l σ' H' y/\B i y.heap/\(∀b∈q,H' b=none)/\W i m σ' H':=λ {j c} a p=>by obtain ⟨O,hm,R⟩:=hN j c p;refine ⟨O,hm,i + 1,j,c,a.unpinned,T.keep _ _ _ st5 λ b hb o e=>(a.pin (b,o) (U0 _ (U0 _ (z0z hb e)))).1,λ b hb=>?_,R⟩;obtain ⟨o,e,d⟩:=T.obj _ _ st5 b hb;exact (a.pin (b,o) (U0 _ (U0 _ (z0z hb e)))).2.1
  cases f with
  | next=>obtain ⟨j,c,a,p⟩:=k;exact F a p
  | cont=>obtain ⟨j,c,a,p⟩:=k;exact F a p
  | brk=>obtain ⟨j,c,a,k⟩:=k;exact ⟨j,c,a.unpinned,k⟩
  | ret v=>obtain ⟨x7,j,c,a,r7,k⟩:=k;exact ⟨x7,j,c,a.unpinned,r7,k⟩
end
theorem z1v {K:c0} {a:Addr} {xs:List V} {g:TG} {tb:TS} {D:Ends} {σ:St} {H:Hp} (Pv:Nat->St->Hp->Prop) (h0:Pv 0 σ H) (hl :∀i σ H,i<=xs.length->Pv i σ H->SqL K H a xs)
  (hs :∀i x σ H,xs[i]? = some x->Pv i σ H->g x σ H λ σ2 H2=>tb { D with nx:=Pv (i + 1),ct:=Pv (i + 1),bk:=D.nx } σ2 H2) (hd :∀σ H,Pv xs.length σ H->D.nx σ H) :
  ∃W:Nat->Nat->St->Hp->Prop,(∃m,W 0 m σ H)/\∀i m σ H,W i m σ H->
   ((Itl K a).stop i H/\D.nx σ H)\/((Itl K a).go i H/\∃N:St->Hp->Prop,(∀σ' H',N σ' H'->∃m',m' < m/\W (i + 1) m' σ' H')/\∀x H',(Itl K a).yld i H x H'->g x σ H' λ σ2 H2=>tb { D with nx:=N,ct:=N,bk:=D.nx } σ2 H2):=by
 refine ⟨λ i m σ H=>m=xs.length - i/\i<=xs.length/\Pv i σ H,⟨xs.length,by simp,R1 _,h0⟩,?_⟩;rintro i m σ H ⟨rfl,hi,p⟩;have q:=hl i σ H hi p;by_cases hlt:i < xs.length
 ·refine .inr ⟨⟨xs,xs[i],q,by simp [hlt]⟩,Pv (i + 1),λ σ' H' b=>⟨xs.length - (i + 1),by omega,rfl,hlt,b⟩,λ x H' y=>?_⟩;obtain ⟨e,y⟩:=y;subst e;exact hs i x σ _ (y xs q) p
 ·have e:i=xs.length:=by omega
  subst e;exact .inl ⟨⟨xs,q,C0 _⟩,hd σ H p⟩
theorem zgb {K:c0} {a:Addr} {xs:List V} {g:TG} {tb:TS} {D:Ends} {σ:St} {H:Hp} (Pv:Nat->St->Hp->Prop) (h0:Pv 0 σ H) (hl :∀i σ H,i<=xs.length->Pv i σ H->SqT K H a xs)
  (hs :∀i x σ H,xs[i]? = some x->Pv i σ H->g x σ H λ σ2 H2=>tb { D with nx:=Pv (i + 1),ct:=Pv (i + 1),bk:=D.nx } σ2 H2) (hd :∀σ H,Pv xs.length σ H->D.nx σ H) :
  ∃W:Nat->Nat->St->Hp->Prop,(∃m,W 0 m σ H)/\∀i m σ H,W i m σ H->
   ((Itt K a).stop i H/\D.nx σ H)\/((Itt K a).go i H/\∃N:St->Hp->Prop,(∀σ' H',N σ' H'->∃m',m' < m/\W (i + 1) m' σ' H')/\∀x H',(Itt K a).yld i H x H'->g x σ H' λ σ2 H2=>tb { D with nx:=N,ct:=N,bk:=D.nx } σ2 H2):=by
 refine ⟨λ i m σ H=>m=xs.length - i/\i<=xs.length/\Pv i σ H,⟨xs.length,by simp,R1 _,h0⟩,?_⟩;rintro i m σ H ⟨rfl,hi,p⟩;have q:=hl i σ H hi p;by_cases hlt:i < xs.length
 ·refine .inr ⟨⟨xs,xs[i],q,by simp [hlt]⟩,Pv (i + 1),λ σ' H' b=>⟨xs.length - (i + 1),by omega,rfl,hlt,b⟩,λ x H' y=>?_⟩;obtain ⟨e,y⟩:=y;subst e;exact hs i x σ _ (y xs q) p
 ·have e:i=xs.length:=by omega
  subst e;exact .inl ⟨⟨xs,q,C0 _⟩,hd σ H p⟩
theorem zd9 {lo:Int} {n:Nat} {g:TG} {tb:TS} {D:Ends} {σ:St} {H:Hp} (Pv:Nat->St->Hp->Prop) (h0:Pv 0 σ H)
  (hs :∀i σ H,i < n->Pv i σ H->g (.int (lo + i)) σ H λ σ2 H2=>tb { D with nx:=Pv (i + 1),ct:=Pv (i + 1),bk:=D.nx } σ2 H2) (hd :∀σ H,Pv n σ H->D.nx σ H) :
  ∃W:Nat->Nat->St->Hp->Prop,(∃m,W 0 m σ H)/\∀i m σ H,W i m σ H->
   ((Itr lo n).stop i H/\D.nx σ H)\/((Itr lo n).go i H/\∃N:St->Hp->Prop,(∀σ' H',N σ' H'->∃m',m' < m/\W (i + 1) m' σ' H')/\∀x H',(Itr lo n).yld i H x H'->g x σ H' λ σ2 H2=>tb { D with nx:=N,ct:=N,bk:=D.nx } σ2 H2):=by
 refine ⟨λ i m σ H=>m=n - i/\i<=n/\Pv i σ H,⟨n,by simp,R1 _,h0⟩,?_⟩;rintro i m σ H ⟨rfl,hi,p⟩;by_cases hlt:i < n
 ·refine .inr ⟨hlt,Pv (i + 1),λ σ' H' a=>⟨n - (i + 1),by omega,rfl,hlt,a⟩,λ x H' y=>?_⟩;obtain ⟨e,y⟩:=y;subst e y;exact hs i σ _ hlt p
 ·have e:i=n:=by omega
  subst e;exact .inl ⟨C0 _,hd σ H p⟩
noncomputable abbrev R2:=V->V->Hp->VK->Prop
def OpR (X:Cx) (f:Value->Value->Sem Value) (r:R2):Prop:=
 ∀(pins:List (Addr×Obj)) (s:A0) (σ:St) (H:Hp) (x y:V) (v u:Value) (Q:VK),Inv X pins σ H s->RelV x v->RelV y u->r x y H Q->
  R0 (Y0 X.prog X.w) X.A (f v u) (EP X pins σ Q) X.xe s
def UnR (X:Cx) (f:Value->Sem Value) (r:V->Hp->VK->Prop):Prop:=
 ∀(pins:List (Addr×Obj)) (s:A0) (σ:St) (H:Hp) (x:V) (v:Value) (Q:VK),Inv X pins σ H s->RelV x v->r x H Q->
  R0 (Y0 X.prog X.w) X.A (f v) (EP X pins σ Q) X.xe s
def CallR (X:Cx) (f:Value) (r:List V->Hp->VK->Prop):Prop:=
 ∀(pins:List (Addr×Obj)) (s:A0) (σ:St) (H:Hp) (xs:List V) (us:List Value) (Q:VK),Inv X pins σ H s->Vals xs us->r xs H Q->
  R0 (Y0 X.prog X.w) X.A (call f us) (EP X pins σ Q) X.xe s
noncomputable def tOp (r:R2) (ta tb:TE):TE:=λ σ H Q=>ta σ H λ x H1=>tb σ H1 λ y H2=>r x y H2 Q
noncomputable def tUn (r:V->Hp->VK->Prop) (ta:TE):TE:=λ σ H Q=>ta σ H λ x H1=>r x H1 Q
noncomputable def rI (C:Int->Int->Prop) (g:Int->Int->V):R2:=λ x y H Q=>∃i j,x=.int i/\y=.int j/\C i j/\Q (g i j) H
noncomputable def rI0 (g:Int->Int->V):R2:=λ x y H Q=>∃i j,x=.int i/\y=.int j/\Q (g i j) H
def rU (g:Int->V):V->Hp->VK->Prop:=λ x H Q=>∃i,x=.int i/\Q (g i) H
section
variable {X:Cx} {a b c:Expr} {ta tb tc:TE} {pos:Pos}
theorem binT (ha:PE X a ta) (hb:PE X b tb) {pins:List (Addr×Obj)} {s:A0} {σ:St} {H:Hp} {R:V->V->Hp->Prop} (I:Inv X pins σ H s)
  (h:ta σ H λ x H1=>tb σ H1 λ y H2=>R x y H2) {Q:Value->A0->Prop} {f:Value->Value->Sem Value}
  (hf :∀v u s2 x y H2,Inv X pins σ H2 s2->RelV x v->RelV y u->R x y H2->R0 (Y0 X.prog X.w) X.A (f v u) Q X.xe s2) :
  R0 (Y0 X.prog X.w) X.A (p4 a X.env) (λ v s₁=>R0 (Y0 X.prog X.w) X.A (p4 b X.env) (λ u s₂=>R0 (Y0 X.prog X.w) X.A (f v u) Q X.xe s₂) X.xe s₁) X.xe s:=by
 refine thn (ha pins s σ H _ I h) λ v c ⟨x,H1,I1,r1,q1⟩=>?_;refine thn (hb pins c σ H1 _ I1 q1) λ u s2 ⟨y,H2,I2,r2,q2⟩=>?_;exact hf v u s2 x y H2 I2 r1 r2 q2
theorem pe_op {op:Operator} {r:R2} (ho:OpR X (M4 op) r) (ha:PE X a ta) (hb:PE X b tb):PE X (.BinOp a op b pos) (tOp r ta tb):=by intro g s σ H Q I h;exact wpAny_BinOp (binT ha hb I h λ v u c x y d f e i q=>ho g c σ d x y v u Q f e i q)
theorem pe_un {op:UnaryOp} {r:V->Hp->VK->Prop} (ho:UnR X (unaryOp op) r) (ha:PE X a ta):PE X (.UnaryOp op a pos) (tUn r ta):=by intro b s σ H Q I h;exact UnaryOp_ (thn (ha b s σ H _ I h) λ v c ⟨x,H1,I1,r1,q1⟩=>ho b c σ H1 x v Q I1 r1 q1)
theorem opI {f:Value->Value->Sem Value} {C:Int->Int->Prop} {g:Int->Int->Int}
  (rule :∀(i j:Int) (t u:Tok) (s:A0) (Q:Value->A0->Prop) (E:Value->A0->Prop),C i j->Q (.int (g i j) s.toks) { s with toks:=s.toks + 1 }->R0 (Y0 X.prog X.w) X.A (f (.int i t) (.int j u)) Q E s) :
  OpR X f (rI C λ i j=>.int (g i j)):=by
 intro e s σ H x y v u Q I a c h;obtain ⟨i,j,rfl,rfl,d,q⟩:=h;obtain ⟨t,rfl⟩:=a;obtain ⟨b,rfl⟩:=c;exact rule i j t b s _ _ d ⟨.int (g i j),H,I.tok _,⟨_,rfl⟩,q⟩
theorem opI0 {f:Value->Value->Sem Value} {g:Int->Int->Int}
  (rule :∀(i j:Int) (t u:Tok) (s:A0) (Q:Value->A0->Prop) (E:Value->A0->Prop),Q (.int (g i j) s.toks) { s with toks:=s.toks + 1 }->R0 (Y0 X.prog X.w) X.A (f (.int i t) (.int j u)) Q E s) :
  OpR X f (rI0 λ i j=>.int (g i j)):=by
 intro d s σ H x y v u Q I a c h;obtain ⟨i,j,rfl,rfl,q⟩:=h;obtain ⟨t,rfl⟩:=a;obtain ⟨b,rfl⟩:=c;exact rule i j t b s _ _ ⟨.int (g i j),H,I.tok _,⟨_,rfl⟩,q⟩
theorem opB0 {f:Value->Value->Sem Value} {g:Int->Int->Bool}
  (rule :∀(i j:Int) (t u:Tok) (s:A0) (Q:Value->A0->Prop) (E:Value->A0->Prop),Q (.bool (g i j)) s->R0 (Y0 X.prog X.w) X.A (f (.int i t) (.int j u)) Q E s) :
  OpR X f (rI0 λ i j=>.bl (g i j)):=by
 intro d s σ H x y v u Q I a c h;obtain ⟨i,j,rfl,rfl,q⟩:=h;obtain ⟨t,rfl⟩:=a;obtain ⟨b,rfl⟩:=c;exact rule i j t b s _ _ ⟨.bl (g i j),H,I,rfl,q⟩
def CPow (i j:Int):Prop:=0<=j/\j<=1000000/\i.natAbs < 2 ^ 64
def CMul (i j:Int):Prop:=(-(2 ^ 64) < i/\i < 2 ^ 64)\/(-(2 ^ 64) < j/\j < 2 ^ 64)
theorem CMul.ok {i j:Int} (h:CMul i j):IntMulOk i j:=by
 rcases h with ⟨a,b⟩|⟨a,b⟩
 ·exact .of_left (intBits_le_64 a b)
 ·exact .of_right (intBits_le_64 a b)
theorem op_add:OpR X (M4 .Add) (rI0 λ i j=>.int (i + j)):=opI0 λ _ _ _ _ _ _ _ q=>add_int q
theorem op_sub:OpR X (M4 .Sub) (rI0 λ i j=>.int (i - j)):=opI0 λ _ _ _ _ _ _ _ q=>sub_int q
theorem op_mul:OpR X (M4 .Mult) (rI CMul λ i j=>.int (i * j)):=opI λ _ _ _ _ _ _ _ a q=>mul_int q a.ok
theorem op_mod:OpR X (M4 .Mod) (rI (λ _ j=>0 < j) λ i j=>.int (i % j)):=opI λ i j _ _ _ _ _ a q=>by have b:(0:Int) < j:=a;exact mod_int' (by omega) (by rw [Int.fmod_eq_emod_of_nonneg i (by omega)];exact q)
theorem op_pow:OpR X (M4 .Pow) (rI CPow λ i j=>.int (i ^ j.toNat)):=opI λ _ _ _ _ _ _ _ a q=>pow_int_small a.1 a.2.1 a.2.2 q
theorem unI {f:Value->Sem Value} {g:Int->Int}
  (rule :∀(i:Int) (t:Tok) (s:A0) (Q:Value->A0->Prop) (E:Value->A0->Prop),Q (.int (g i) s.toks) { s with toks:=s.toks + 1 }->R0 (Y0 X.prog X.w) X.A (f (.int i t)) Q E s) :
  UnR X f (rU λ i=>.int (g i)):=by
 intro b s σ H x v Q I a h;obtain ⟨i,rfl,q⟩:=h;obtain ⟨t,rfl⟩:=a;exact rule i t s _ _ ⟨.int (g i),H,I.tok _,⟨_,rfl⟩,q⟩
theorem un_neg:UnR X (unaryOp .USub) (rU λ i=>.int (-i)):=unI λ _ _ _ _ _ q=>neg_int q
end
noncomputable def scal:V->V->Bool
 | .non,.non=>true | .non,.int _=>true | .int _,.non=>true | .non,.bl _=>true | .bl _,.non=>true | .non,.str _=>true | .str _,.non=>true
 | .int _,.int _=>true | .bl _,.bl _=>true | .str _,.str _=>true | .byt _,.byt _=>true
 | .int _,.str _=>true | .str _,.int _=>true | .bl _,.str _=>true | .str _,.bl _=>true
 | _,_=>false
noncomputable def rEq:R2:=λ x y H Q=>scal x y=true/\Q (.bl (decide (x=y))) H
noncomputable def rNe:R2:=λ x y H Q=>scal x y=true/\Q (.bl (!decide (x=y))) H
theorem zf2 {i j:Int}:decide (V.int i=V.int j)=(i == j):=by rw [Bool.eq_iff_iff];simp
theorem dec_bl {i j:Bool}:decide (V.bl i=V.bl j)=(i == j):=by rw [Bool.eq_iff_iff];simp
theorem z88 {i j:Str}:decide (V.str i=V.str j)=(i == j):=by rw [Bool.eq_iff_iff];simp
theorem zeq {i j:Array UInt8}:decide (V.byt i=V.byt j)=(i.toList == j.toList):=by rw [Bool.eq_iff_iff];cases i;cases j;simp
section
variable {X:Cx} {a b c:Expr} {ta tb tc:TE} {pos:Pos}
theorem fin_bl {pins:List (Addr×Obj)} {σ:St} {H:Hp} {s:A0} {Q:VK} {k k':Bool} (I:Inv X pins σ H s) (q:Q (.bl k) H) (e:k=k'):EP X pins σ Q (.bool k') s:=by subst e;exact ⟨.bl k,H,I,rfl,q⟩
theorem op_eq:OpR X (U2 .Eq) rEq:=by
 intro e s σ H x y v u Q I d a h;obtain ⟨c,q⟩:=h;cases x with
 | non=>
  cases d;cases y with
  | non=>cases a;exact PySem.EqNone.eq_none_none (fin_bl I q (by simp))
  | bl j=>cases a;exact PySem.EqNone.eq_none_bool (fin_bl I q (by simp))
  | int j=>obtain ⟨b,rfl⟩:=a;exact PySem.EqNone.eq_none_int (fin_bl I q (by simp))
  | str j=>obtain ⟨b,rfl⟩:=a;exact PySem.EqNone.eq_none_str (fin_bl I q (by simp))
  | _=>exact absurd (show false=true from c) N0
 | bl i=>
  cases d;cases y with
  | non=>cases a;exact PySem.EqNone.eq_bool_none (fin_bl I q (by simp))
  | bl j=>cases a;exact eq_bool (fin_bl I q dec_bl)
  | str j=>obtain ⟨b,rfl⟩:=a;exact PySem.EqMixed.eq_bool_str (fin_bl I q (by simp))
  | _=>exact absurd (show false=true from c) N0
 | int i=>
  obtain ⟨t,rfl⟩:=d;cases y with
  | non=>cases a;exact PySem.EqNone.eq_int_none (fin_bl I q (by simp))
  | int j=>obtain ⟨b,rfl⟩:=a;exact eq_int (fin_bl I q zf2)
  | str j=>obtain ⟨b,rfl⟩:=a;exact PySem.EqMixed.eq_int_str (fin_bl I q (by simp))
  | _=>exact absurd (show false=true from c) N0
 | str i=>
  obtain ⟨t,rfl⟩:=d;cases y with
  | non=>cases a;exact PySem.EqNone.eq_str_none (fin_bl I q (by simp))
  | bl j=>cases a;exact PySem.EqMixed.eq_str_bool (fin_bl I q (by simp))
  | int j=>obtain ⟨b,rfl⟩:=a;exact PySem.EqMixed.eq_str_int (fin_bl I q (by simp))
  | str j=>obtain ⟨b,rfl⟩:=a;exact eq_str (fin_bl I q z88)
  | _=>exact absurd (show false=true from c) N0
 | byt i=>
  obtain ⟨t,rfl⟩:=d;cases y with
  | byt j=>obtain ⟨b,rfl⟩:=a;exact PySem.W.eq_bytes (fin_bl I q zeq)
  | _=>exact absurd (show false=true from c) N0
 | _=>cases y<;>exact absurd (show false=true from c) N0
theorem op_ne:OpR X (U2 .NotEq) rNe:=by
 intro e s σ H x y v u Q I d a h;obtain ⟨c,q⟩:=h;cases x with
 | non=>
  cases d;cases y with
  | non=>cases a;exact PySem.EqNone.ne_none_none (fin_bl I q (by simp))
  | bl j=>cases a;exact PySem.EqNone.ne_none_bool (fin_bl I q (by simp))
  | int j=>obtain ⟨b,rfl⟩:=a;exact PySem.EqNone.ne_none_int (fin_bl I q (by simp))
  | str j=>obtain ⟨b,rfl⟩:=a;exact PySem.EqNone.ne_none_str (fin_bl I q (by simp))
  | _=>exact absurd (show false=true from c) N0
 | bl i=>
  cases d;cases y with
  | non=>cases a;exact PySem.EqNone.ne_bool_none (fin_bl I q (by simp))
  | bl j=>cases a;exact ne_bool (fin_bl I q (congrArg not dec_bl))
  | str j=>obtain ⟨b,rfl⟩:=a;exact PySem.EqMixed.ne_bool_str (fin_bl I q (by simp))
  | _=>exact absurd (show false=true from c) N0
 | int i=>
  obtain ⟨t,rfl⟩:=d;cases y with
  | non=>cases a;exact PySem.EqNone.ne_int_none (fin_bl I q (by simp))
  | int j=>obtain ⟨b,rfl⟩:=a;exact ne_int (fin_bl I q (congrArg not zf2))
  | str j=>obtain ⟨b,rfl⟩:=a;exact PySem.EqMixed.ne_int_str (fin_bl I q (by simp))
  | _=>exact absurd (show false=true from c) N0
 | str i=>
  obtain ⟨t,rfl⟩:=d;cases y with
  | non=>cases a;exact PySem.EqNone.ne_str_none (fin_bl I q (by simp))
  | bl j=>cases a;exact PySem.EqMixed.ne_str_bool (fin_bl I q (by simp))
  | int j=>obtain ⟨b,rfl⟩:=a;exact PySem.EqMixed.ne_str_int (fin_bl I q (by simp))
  | str j=>obtain ⟨b,rfl⟩:=a;exact ne_str (fin_bl I q (congrArg not z88))
  | _=>exact absurd (show false=true from c) N0
 | byt i=>
  obtain ⟨t,rfl⟩:=d;cases y with
  | byt j=>obtain ⟨b,rfl⟩:=a;exact PySem.W.ne_bytes (fin_bl I q (congrArg not zeq))
  | _=>exact absurd (show false=true from c) N0
 | _=>cases y<;>exact absurd (show false=true from c) N0
theorem op_lt:OpR X (U2 .Lt) (rI0 λ i j=>.bl (decide (i < j))):=opB0 λ _ _ _ _ _ _ _ q=>lt_int q
theorem op_le:OpR X (U2 .LtE) (rI0 λ i j=>.bl (decide (i<=j))):=opB0 λ _ _ _ _ _ _ _ q=>le_int q
theorem op_gt:OpR X (U2 .Gt) (rI0 λ i j=>.bl (decide (j < i))):=opB0 λ _ _ _ _ _ _ _ q=>gt_int q
theorem zdz:OpR X (U2 .In) (λ x y H Q=>∃i j,x=.str i/\y=.str j/\Q (.bl (!(Y6 j i 0 j.length 1).isEmpty)) H):=by intro c s σ H x y v u Q I a b h;obtain ⟨i,j,rfl,rfl,q⟩:=h;obtain ⟨t,rfl⟩:=a;obtain ⟨d,rfl⟩:=b;exact in_str (fin_bl I q rfl)
theorem op_isN:OpR X (U2 .Is) (λ x y H Q=>y=.non/\Q (.bl (decide (x=.non))) H):=by
 intro c s σ H x y v u Q I a b h;obtain ⟨rfl,q⟩:=h;cases b;refine is_none_gen (fin_bl I q ?_);cases x<;>first
  | (cases a;rfl)
  | (obtain ⟨t,rfl⟩:=a;rfl)
theorem z4c:OpR X (U2 .IsNot) (λ x y H Q=>y=.non/\Q (.bl (!decide (x=.non))) H):=by
 intro c s σ H x y v u Q I a b h;obtain ⟨rfl,q⟩:=h;cases b;refine isnot_none_gen (fin_bl I q ?_);cases x<;>first
  | (cases a;rfl)
  | (obtain ⟨t,rfl⟩:=a;rfl)
theorem OpR.or {f:Value->Value->Sem Value} {r r':R2} (h:OpR X f r) (h':OpR X f r'):OpR X f (λ x y H Q=>r x y H Q\/r' x y H Q):=by
 intro b s σ H x y v u Q I a c q;rcases q with q|q
 ·exact h b s σ H x y v u Q I a c q
 ·exact h' b s σ H x y v u Q I a c q
theorem nomark (b:Expr) {op:CmpOp} (h:op≠.In:=by decide) (h2:op≠.NotIn:=by decide):T7 op b=false:=by
 have c:(op == CmpOp.In)=false:=by cases op<;>first|rfl|exact absurd rfl h
 have a:(op == CmpOp.NotIn)=false:=by cases op<;>first|rfl|exact absurd rfl h2
 cases b<;>simp [T7,c,a]
theorem z10 {op:CmpOp} {r:R2} (ho:OpR X (U2 op) r) (ha:PE X a ta) (hb:PE X b tb) (hm:T7 op b=false):PE X (.Compare a [op] [b] pos) (tOp r ta tb):=by intro g s σ H Q I h;exact wpAny_Compare1 (binT ha hb I h λ v u c x y d f e i q=>ho g c σ d x y v u Q f e i q) hm
noncomputable def tTest (t:TE):TT:=λ σ H Q=>t σ H λ x H'=>∃k,x=.bl k/\Q k H'
theorem z09 {op:CmpOp} {r:R2} (ho:OpR X (U2 op) r) (ha:PE X a ta) (hb:PE X b tb) (hm:T7 op b=false):PT X (.Compare a [op] [b] pos) (tTest (tOp r ta tb)):=by
 intro d s σ H Q I h;refine wpAny_isTrue_Compare1 (thn (ha d s σ H _ I h) λ v f ⟨x,H1,I1,r1,q1⟩=>thn (hb d f σ H1 _ I1 q1) λ u g ⟨y,H2,I2,r2,q2⟩=>thn (ho d g σ H2 x y v u _ I2 r1 r2 q2) λ c i ⟨z,H3,I3,r3,k,e,q3⟩=>?_) hm;subst e;cases r3;exact M3 ⟨H3,I3,q3⟩
noncomputable def tChain (r r':R2) (ta tb tc:TE):TE:=λ σ H Q=>ta σ H λ x H1=>tb σ H1 λ y H2=>r x y H2 λ z H3=>∃k,z=.bl k/\
 (if k=true then tc σ H3 λ w' H4=>r' y w' H4 Q else Q (.bl false) H3)
theorem z7t {op op':CmpOp} {r r':R2} (ho:OpR X (U2 op) r) (ho':OpR X (U2 op') r') (ha:PE X a ta) (hb:PE X b tb) (hc:PE X c tc)
  (hm:lastMarks [op,op'] [b,c]=false:=by with_unfolding_all rfl):PE X (.Compare a [op,op'] [b,c] pos) (tChain r r' ta tb tc):=by
 intro f s σ H Q I h;refine Compare_chain (thn (ha f s σ H _ I h) λ v l ⟨x,H1,I1,r1,q1⟩=>chain_link (thn (hb f l σ H1 _ I1 q1) λ u m ⟨y,H2,I2,r2,q2⟩=>thn (ho f m σ H2 x y v u _ I2 r1 r2 q2) λ d g ⟨z,H3,I3,r3,k,e,q3⟩=>?_)) hm;subst e;cases r3;refine M3 ?_;cases k with
 | false=>exact ite_ff ⟨.bl false,H3,I3,rfl,q3⟩
 | true=>exact ite_tt (chain_last (thn (hc f g σ H3 _ I3 q3) λ j i ⟨z',H4,I4,r4,q4⟩=>ho' f i σ H4 y z' u j Q I4 r2 r4 q4))
theorem zfh {op op':CmpOp} {r r':R2} (ho:OpR X (U2 op) r) (ho':OpR X (U2 op') r') (ha:PE X a ta) (hb:PE X b tb) (hc:PE X c tc)
  (hm:lastMarks [op,op'] [b,c]=false:=by with_unfolding_all rfl):PT X (.Compare a [op,op'] [b,c] pos) (tTest (tChain r r' ta tb tc)):=by
 intro f s σ H Q I h;refine isTrue_chain (thn (ha f s σ H _ I h) λ v l ⟨x,H1,I1,r1,q1⟩=>test_link (thn (hb f l σ H1 _ I1 q1) λ u n ⟨y,H2,I2,r2,q2⟩=>thn (ho f n σ H2 x y v u _ I2 r1 r2 q2) λ d g ⟨z,H3,I3,r3,k,e,q3⟩=>?_)) hm;subst e;cases r3;refine M3 ?_;cases k with
 | false=>obtain ⟨q,i,j⟩:=q3;cases i;exact ite_ff ⟨H3,I3,j⟩
 | true=>refine ite_tt (test_last (thn (hc f g σ H3 _ I3 q3) λ m o ⟨z',H4,I4,r4,q4⟩=>thn (ho' f o σ H4 y z' u m _ I4 r2 r4 q4) λ t p ⟨z2,H5,I5,r5,k2,e2,q5⟩=>?_));subst e2;cases r5;exact M3 ⟨H5,I5,q5⟩
theorem line63:(sizeLine:Nat) < 2 ^ 63:=by rw [C6];decide
theorem op_add_str:OpR X (M4 .Add) (λ x y H Q=>∃i j,x=.str i/\y=.str j/\i.length + j.length<=sizeLine/\Q (.str (i++j)) H):=by intro e s σ H x y v u Q I a d h;obtain ⟨i,j,rfl,rfl,c,q⟩:=h;obtain ⟨t,rfl⟩:=a;obtain ⟨b,rfl⟩:=d;exact add_str (λ b f=>⟨.str (i++j),H,I.tok _,⟨_,rfl⟩,q⟩) c
theorem vals1 {x:V} {us:List Value} (r:Vals [x] us) :∃u,us=[u]/\RelV x u:=by
 cases r with
 | cons r1 r2=>cases r2;exact ⟨_,rfl,r1⟩
theorem vals2 {x y:V} {us:List Value} (r:Vals [x,y] us) :∃u w',us=[u,w']/\RelV x u/\RelV y w':=by
 cases r with
 | cons r1 r2=>
  cases r2 with
  | cons r3 r4=>cases r4;exact ⟨_,_,rfl,r1,r3⟩
end
structure ObjM (h:Heap) (x dx C:Addr) (mA:Str->Option Value):Prop where
 obj:h.get? x=some (f9 C dx)
 ns:h.Ns1 dx mA
 ne:dx≠x
theorem zdt {h:Heap} {dx:Addr} {mA:Str->Option Value} (n:h.Ns1 dx mA) :∃od,h.get? dx=some od/\∀name,y9 name od=some (mA name):=by
 obtain ⟨o,b,k,f,hd,i,_,g⟩:=n;refine ⟨o,f,λ name=>?_⟩;have e:=g name;unfold nsFind findBy at e;rw [<-Array.find?_toList] at e;unfold y9;rw [hd];dsimp only;split
 ·rename_i y q;rw [q] at e;exact congrArg some e
 ·rename_i q;rw [q] at e;have a:b.toList.any (·.refKey)=false:=by rw [List.any_eq_false];intro y j;obtain ⟨z,t,d⟩:=i y (Array.mem_toList_iff.mp j);simp [DictEntry.refKey,d]
  have c:¬ b.toList.any (·.refKey)=true:=by rw [a];exact N0
  rw [if_neg c];exact congrArg some e
theorem ObjM.look {h:Heap} {x dx C:Addr} {mA:Str->Option Value} (I:ObjM h x dx C mA) :∃od,PySem.W.InstAt h x (f9 C dx) C (some od)/\∀name,y9 name od=some (mA name):=
 let ⟨od,ho,hl⟩:=zdt I.ns
 ⟨od,⟨I.obj,rfl,rfl,ho⟩,hl⟩
theorem RelO.some_of {v:V} {o:Option Value} (r:RelO (some v) o) :∃u,o=some u/\RelV v u:=by
 cases o with
 | none=>exact (show False from r).elim
 | some u=>exact ⟨u,rfl,r⟩
section
variable {P:Program} {w:S0} {H H':Hp} {h h':Heap} {a C dx:Addr} {fs fs':List (Str×V)}
theorem zgr (hok:HOk P w H h) (e:H a=some (.ins C dx fs)) :∃mA,ObjM h a dx C mA/\(∀f,RelO (fs.lookup f) (mA f))/\PySem.Within mA (fs.map (·.1))/\fs.length<=1000/\H dx=some (.own a):=by
 obtain ⟨d,z,ne,b,mA,n,r,q⟩:=(show ObjOk P w H h a (.ins C dx fs) from hok a _ e)
 exact ⟨mA,⟨b,n,ne⟩,r,q,z,d⟩
end
structure Cls (K:c0) (C:Addr):Prop where
 pg:PySem.W.plainGet K C Str.empty=true
 hd:PySem.W.hasDictIn K C=true
 po:PySem.W.plainOver K C=true
 sa:O6 K (.ref C) "__setattr__" = some (some (.builtin "object.__setattr__"))
theorem Cls.get {K:c0} {C:Addr} (c:Cls K C) (f:Str):PySem.W.plainGet K C f=true:=c.pg
structure Con (K:c0) (C:Addr) (f:Str) (v:V) (u:Value):Prop where
 at_:O6 K (.ref C) f=some (some u)
 rel:RelV v u
 get:j1j K u "__get__" = some none
 cp:PySem.W.copiedNames.contains f=false
structure Meth (K:c0) (C:Addr) (m:Str) (f:Addr):Prop where
 at_:O6 K (.ref C) m=some (some (.ref f))
 fn:PySem.W.isFn K (.ref f)=true
 kp:F4 K (.ref f)=true
section
variable {X:Cx} {pins:List (Addr×Obj)} {σ:St} {H:Hp} {s:A0} {A:X1} {E:Value->A0->Prop} {Q:Value->A0->Prop} {c:Value} {b:Bool}
inductive TyOf (K:c0) (H:Hp):V->Value->Prop where
 | non:TyOf K H .non (.type "NoneType")
 | bl (x:Bool):TyOf K H (.bl x) (.type "bool")
 | int (i:Int):TyOf K H (.int i) (.type "int")
 | str (x:Str):TyOf K H (.str x) (.type "str")
 | flt (x:UInt64):TyOf K H (.flt x) (.type "float")
 | lst {a:Addr} {xs:List V} (e:H a=some (.lst xs)):TyOf K H (.ref a) (.type "list")
 | frz {a:Addr} {o:Obj} {xs:List V} (e:H a=some (.frz o (.lst xs))):TyOf K H (.ref a) (.type "list")
 | tup {a:Addr} {xs:List V} (e:H a=some (.tup xs)):TyOf K H (.ref a) (.type "tuple")
 | dK {a:Addr} {kvs:List (Key×V)} (e:H a=some (.dK kvs)):TyOf K H (.ref a) (.type "dict")
 | dT {a:Addr} {kvs:List (List Key×V)} (e:H a=some (.dT kvs)):TyOf K H (.ref a) (.type "dict")
 | ins {a C dx:Addr} {fs:List (Str×V)} (e:H a=some (.ins C dx fs)) (cl:Cls K C) (ha:O6 K (.ref C) "__class__" = some (some (.builtin "object.__class__")))
   (hn:j1j K (.builtin "object.__class__") "__get__" = some (some (.builtin "getset_descriptor.__get__"))) (htk:PySem.W.takesIn K (.builtin "object.__class__")=some true)
   (hm:PySem.W.mroIn K C (.type "object")=some true):TyOf K H (.ref a) (.ref C)
theorem zdc {x:V} {u t:Value} (I:Inv X pins σ H s) (rx:RelV x u) (ty:TyOf X.K H x t) (e:PySem.W.kitOne X.K t c=some b) (h :∀tk,Q (.bool b) { s with toks:=tk }) :
  R0 (Y0 X.prog X.w) A (call (.builtin "isinstance") [u,c]) Q E s:=by
 cases ty with
 | non=>cases (show u=S5 from rx);exact G3 PySem.W.kitx_none I.kIn True.intro e (λ z=>nomatch z) h
 | bl y=>cases (show u=U3 y from rx);exact G3 PySem.W.kitx_bool I.kIn True.intro e (λ z=>nomatch z) h
 | int i=>obtain ⟨t,q⟩:=(show∃t,u=U5 i t from rx);cases q;exact G3 PySem.W.kitx_int I.kIn True.intro e (λ z=>nomatch z) h
 | str y=>obtain ⟨t,q⟩:=(show∃t,u=c9 y t from rx);cases q;exact G3 PySem.W.kitx_str I.kIn True.intro e (λ z=>nomatch z) h
 | flt y=>obtain ⟨t,q⟩:=(show∃t,u=Value.float y t from rx);cases q;exact G3 PySem.W.kitx_float I.kIn True.intro e (λ z=>nomatch z) h
 | @lst a f ea=>
  cases (show u=F1 a from rx);obtain ⟨_,_,n,_,d⟩:=(show ObjOk X.prog X.w H s.heap a (.lst f) from I.hok a _ ea)
  exact G3 j20 I.kIn ⟨_,d,rfl⟩ e (λ z=>nomatch z) h
 | @frz a ob f ea=>
  cases (show u=F1 a from rx);obtain ⟨_,_,_,n,_,d⟩:=(show ObjOk X.prog X.w H s.heap a (.frz ob (.lst f)) from I.hok a _ ea)
  exact G3 j20 I.kIn ⟨_,d,rfl⟩ e (λ z=>nomatch z) h
 | @tup a f ea=>
  cases (show u=F1 a from rx);obtain ⟨_,_,_,p,_⟩:=(show ObjOk X.prog X.w H s.heap a (.tup f) from I.hok a _ ea)
  obtain ⟨o,d,g,_⟩:=p;exact G3 PySem.W.kitx_tuple I.kIn ⟨o,d,g⟩ e (λ z=>nomatch z) h
 | @dK a kvs ea=>
  cases (show u=F1 a from rx);obtain ⟨_,_,r,_,p⟩:=(show ObjOk X.prog X.w H s.heap a (.dK kvs) from I.hok a _ ea)
  obtain ⟨o,j,k,d,g,_⟩:=p;exact G3 j21 I.kIn ⟨o,d,g.1⟩ e (λ z=>nomatch z) h
 | @dT a kvs ea=>
  cases (show u=F1 a from rx);obtain ⟨_,_,f,_,o,j,k,d,g,_⟩:=(show ObjOk X.prog X.w H s.heap a (.dT kvs) from I.hok a _ ea)
  exact G3 j21 I.kIn ⟨o,d,g.1⟩ e (λ z=>nomatch z) h
 | @ins a C dx fs ea cl ha hn htk hm=>cases (show u=F1 a from rx);obtain ⟨m,O,_⟩:=zgr I.hok ea;obtain ⟨l,J,_⟩:=O.look;exact G3 (PySem.W.kitx_own (cl.get _) cl.hd ha hn htk hm) I.kIn J e (λ z=>nomatch z) h
end
structure Room (k:Nat) (A:X1):Prop where
 hd:A.handled=none
 dp:A.depth + 3 * k + 5 < recursionLimit
 un:A.units + 16 * k + 200 < cLine
 gd:A.guards=some []
theorem Room.mono {j k:Nat} {A:X1} (r:Room k A) (h:j<=k):Room j A:=⟨r.hd,by have:=r.dp;omega,by have:=r.un;omega,r.gd⟩
theorem Room.deeper {k:Nat} {A:X1} (r:Room (k + 1) A) (env:Env):Room k (A.deeper env):=
 ⟨r.hd,by have:=r.dp;show A.depth + 1 + 3 * k + 5 < _;omega,by have:=r.un;show A.units + 3 + 16 * k + 200 < _;omega,r.gd⟩
theorem Room.in1 {k:Nat} {A:X1} (r:Room (k + 1) A):Room k A.in1:=
 ⟨r.hd,by have:=r.dp;show A.depth + 3 * k + 5 < _;omega,by have:=r.un;show A.units + 1 + 16 * k + 200 < _;omega,r.gd⟩
theorem Room.depth {k:Nat} {A:X1} (r:Room k A):A.depth < recursionLimit:=by have:=r.dp;omega
theorem Room.units {k:Nat} {A:X1} (r:Room k A):A.units + 64 < cLine:=by have:=r.un;omega
noncomputable def tNil:TA:=λ _ H Q=>Q [] H
noncomputable def tCons (ta:TE) (tr:TA):TA:=λ σ H Q=>ta σ H λ x H1=>tr σ H1 λ xs H2=>Q (x :: xs) H2
section
variable {X:Cx} {e:Expr} {es:List Expr} {te:TE} {t:TA} {pos:Pos}
theorem pa_nil:PA X [] tNil:=λ _ _ _ _ H Q I h=>D4 ⟨[],H,I,.nil,h⟩
theorem z00 (ha:PE X e te) (hr:PA X es t) (hs:V1 (e :: es) X.env=(false,p4 e X.env) :: V1 es X.env:=by rfl):PA X (e :: es) (tCons te t):=by intro pos a s σ H Q I h;rw [hs];show R0 _ _ (j0h ((false,p4 e X.env) :: Z5 pos (V1 es X.env))) _ _ s;refine W3 (thn (ha a s σ H _ I h) λ u b ⟨x,H1,I1,r1,q1⟩=>?_);exact thn (hr pos a b σ H1 _ I1 q1) λ c d ⟨xs,H2,I2,r2,q2⟩=>⟨x :: xs,H2,I2,.cons r1 r2,q2⟩
noncomputable def tTup (t:TA):TE:=λ σ H Q=>t σ H λ xs H1=>xs.length<=sizeLine/\∀p,H1 p=none->Q (.ref p) (upd H1 p (.tup xs))
noncomputable def tLst (t:TA):TE:=λ σ H Q=>t σ H λ xs H1=>xs.length<=sizeLine/\∀p,H1 p=none->Q (.ref p) (upd H1 p (.lst xs))
theorem pe_tup {x1} (h:PA X es t):PE X (.Tuple es x1 pos) (tTup t):=by intro d s σ H Q I f;refine wpAny_Tuple_spliced (thn (h pos d s σ H _ I f) λ g a ⟨xs,H1,I1,r,z,q⟩=>⟨by rw [<-r.length];exact z,?_⟩);have c:H1 a.heap.objs.size=none:=I1.hok.fresh (C0 _);refine ⟨.ref a.heap.objs.size,upd H1 a.heap.objs.size (.tup xs),I1.laid (t':=a.toks) (λ b u e=>y0 _ e) (C0 _) ?_,rfl,q _ c⟩;exact ⟨z,g,r,IsTupN.new _ _⟩
theorem pe_lst (h:PA X es t):PE X (.List es pos) (tLst t):=by intro d s σ H Q I f;refine wpAny_List_spliced (thn (h pos d s σ H _ I f) λ g a ⟨xs,H1,I1,r,z,q⟩=>⟨by rw [<-r.length];exact z,?_⟩);have c:H1 a.heap.objs.size=none:=I1.hok.fresh (C0 _);refine ⟨.ref a.heap.objs.size,upd H1 a.heap.objs.size (.lst xs),I1.laid (t':=a.toks) (λ b u e=>y0 _ e) (C0 _) ?_,rfl,q _ c⟩;exact ⟨z,g,0,r,O0 _ rfl⟩
end
noncomputable abbrev Sp:=List V->Hp->VK->XK->Prop
noncomputable abbrev CXT:=List Env->Hp->A0->XK->Value->A0->Prop
structure Env0 (P:Program) (w:S0) (K:c0) (mg:Str->Option Value) (base:Heap) (A:X1) (outer:List Env) (s:A0) (H:Hp):Prop where
 frames:A.frames=some outer
 mod:Mod K mg base
 bs :∀b o,base.get? b=some o->s.heap.get? b=some o/\H b=none
 bsz:base.objs.size<=s.heap.objs.size
 funs:s.heap.FunFrames base outer
 frf :∀b∈frs outer,H b=none
 hok:HOk P w H s.heap
 bare:S7 s.gens
def CE (outer:List Env) (P:Program) (w:S0) (H:Hp) (s:A0) (Q:VK) (u:Value) (s':A0):Prop:=
 ∃v H',s'.os=s.os/\S7 s'.gens/\Un (frs outer) [] H H' s.heap s'.heap/\HOk P w H' s'.heap/\RelV v u/\Q v H'
def CR (CX:CXT) (outer:List Env) (P:Program) (w:S0) (H:Hp) (s:A0) (Q:VK) (E:XK) (r:Result) (s':A0):Prop:=
 match r with
 | .ok (.ret u)=>CE outer P w H s Q u s'
 | .ok _=>False
 | .error e=>CX outer H s E e s'
structure FnOk (P:Program) (w:S0) (K:c0) (mg:Str->Option Value) (base:Heap) (CX:CXT) (k:Nat) (f:Addr) (fd:FuncData) (ps:List Str) (sp:Sp):Prop where
 len :∀vs H Q E,sp vs H Q E->vs.length=ps.length
 run :∀(A:X1) (outer:List Env) (s:A0) (H:Hp) (args:Args) (us:List Value) (vs:List V) (Q:VK) (E:XK),Room k A->Env0 P w K mg base A outer s H->BindsTo s fd args (ps.zip us)->Vals vs us->sp vs H Q E->
  k6 (Y0 P w) A (.call (.ref f) args) (CR CX outer P w H s Q E) s
theorem Env0.in1 {P:Program} {w:S0} {K:c0} {mg:Str->Option Value} {base:Heap} {A:X1} {outer:List Env} {s:A0} {H:Hp} (e:Env0 P w K mg base A outer s H) :
  Env0 P w K mg base A.in1 outer s H:=⟨e.frames,e.mod,e.bs,e.bsz,e.funs,e.frf,e.hok,e.bare⟩
section
variable {X:Cx} {pins:List (Addr×Obj)} {σ:St} {H:Hp} {s s':A0}
theorem Inv.env0 (I:Inv X pins σ H s):Env0 X.prog X.w X.K X.mg X.base X.A X.stack s H:=
 ⟨I.ok.frames,I.ok.mod,I.bs,L0 I.ok.bsz I.sz,I.stack,I.stkFree,I.hok,I.bare⟩
theorem Inv.after {Q:VK} {u:Value} (I:Inv X pins σ H s) (h:CE X.stack X.prog X.w H s Q u s'):EP X pins σ Q u s':=by obtain ⟨v,e,i,f,un,c,r,q⟩:=h;obtain ⟨a,g,d,t,j⟩:=s';obtain rfl:j=s.os:=i;exact ⟨v,e,I.call (h':=a) (g':=g) (d':=d) (t':=t) (ch:=[]) un c f (λ b z=>absurd z (by simp)),r,q⟩
end
noncomputable def tCall (sp:Sp) (dvs:List V) (E:XK) (t:TA):TE:=λ σ H Q=>t σ H λ vs H1=>sp (vs++dvs) H1 Q E
def Binds (K:c0) (fd:FuncData) (ps:List Str) (ds:List Value):Prop:=
 ∀(s:A0) (us:List Value),K.In s.heap->(us++ds).length=ps.length->BindsTo s fd ⟨us,[]⟩ (ps.zip (us++ds))
theorem Binds.all {K:c0} {fd:FuncData} {ps:List Str} (h :∀us:List Value,us.length=ps.length->bindArgs fd ⟨us,[]⟩=N3 (ps.zip us)):Binds K fd ps []:=λ s us _ a=>by rw [D3] at a⊢;exact .of_eq (h us a)
def Passes (CX:CXT) (X:Cx) (E:XK):Prop:=∀(pins:List (Addr×Obj)) (σ:St) (H:Hp) (s:A0) (e:Value) (s':A0),Inv X pins σ H s->CX X.stack H s E e s'->X.xe e s'
section
variable {X:Cx} {CX:CXT} {k:Nat} {f C:Addr} {fd:FuncData} {ps:List Str} {sp:Sp} {dvs:List V} {ds:List Value} {E:XK} {x m:Str} {p pos apos:Pos} {e o:Expr} {es:List Expr} {ta:TE} {t:TA}
theorem run_fn {pins:List (Addr×Obj)} {σ:St} {H:Hp} {s:A0} {Q:VK} {us:List Value} {vs:List V} (F:FnOk X.prog X.w X.K X.mg X.base CX k f fd ps sp) (hr:Room k X.A) (hb:Binds X.K fd ps ds) (hd:Vals dvs ds) (hx:Passes CX X E)
  (I:Inv X pins σ H s) (r:Vals vs us) (h:sp (vs++dvs) H Q E):R0 (Y0 X.prog X.w) X.A (call (.ref f) us) (EP X pins σ Q) X.xe s:=by
 have b:Vals (vs++dvs) (us++ds):=r.append hd;have d:(us++ds).length=ps.length:=by rw [<-b.length];exact F.len _ _ _ _ h
 refine j15 (R5 (F.run X.A X.stack s H ⟨us,[]⟩ (us++ds) (vs++dvs) Q E hr I.env0 (hb s us I.kIn d) b h) λ r c a=>?_);cases r with
 | error e=>exact hx pins σ H s e c I a
 | ok fl=>
  cases fl with
  | ret u=>exact I.after a
  | next=>exact o5 a
  | brk=>exact o5 a
  | cont=>exact o5 a
theorem zgt (F:FnOk X.prog X.w X.K X.mg X.base CX k f fd ps sp) (hr:Room k X.A) (hg:Gl X x) (hm:X.mg x=some (.ref f)) (hk:F4 X.K (.ref f)=true) (hb:Binds X.K fd ps ds) (hd:Vals dvs ds) (hx:Passes CX X E)
  (ha:PA X (e :: es) t) (hdb:(x == ("__debug__" : Str))=false:=by decide) (he:V1 (e :: es) X.env=(false,p4 e X.env) :: V1 es X.env:=by rfl) (hpl:(Z5 pos (V1 es X.env)).any (·.1)=false:=by rfl) :
  PE X (.Call (.Name x p) (e :: es) [] pos) (tCall sp dvs E t):=by
 intro a s σ H Q I h;refine i4 (zex I hg hm ?_ hdb);refine PySem.W.callWith_K (h₀:=X.base) I.ok.mod.kin hk (thn (ha pos a s σ H _ I h) λ c b ⟨vs,H1,I1,r,q⟩=>⟨I1.kIn,?_⟩) he hpl;exact run_fn F hr hb hd hx I1 r q
structure Mk (K:c0) (C f:Addr):Prop where
 makes:PySem.W.makesIn K C=true
 init:O6 K (.ref C) "__init__" = some (some (.ref f))
 fn:PySem.W.isFn K (.ref f)=true
 kp:F4 K (.ref C)=true
end
section
variable {X:Cx} {CX:CXT} {k:Nat} {f C:Addr} {fd:FuncData} {ps ks:List Str} {sp:Sp} {E:XK} {x m:Str} {p pos apos kpos:Pos} {e o:Expr} {es:List Expr} {kws:List G8} {te ta:TE} {t tk:TA} {nm:Option Str}
structure KBinds (K:c0) (fd:FuncData) (ps ks:List Str) (g:List Value->List Value->List Value) (gV:List V->List V->List V):Prop where
 to :∀(s:A0) (us ws:List Value),K.In s.heap->(g us ws).length=ps.length->BindsTo s fd ⟨us,ks.zip ws⟩ (ps.zip (g us ws))
 rel :∀{vs:List V} {us:List Value} {zs:List V} {ws:List Value},Vals vs us->Vals zs ws->Vals (gV vs zs) (g us ws)
variable {g:List Value->List Value->List Value} {gV:List V->List V->List V}
end
structure FnScope (N P:List Str) (sc:Scope):Prop where
 kind:sc.kind=.function
 co:sc.isCoroutine=false
 gen:sc.isGenerator=false
 nd:N.Nodup
 pre:N.take P.length=P
 par :∀x∈P,sc.names.lookup x=some .local\/sc.names.lookup x=some .cell
 nofree :∀y∈sc.names,y.2≠.free
theorem z8q {kindOf:Str->Option Q5} {x:Str} :∀{binds:List (Str×Value)} {m:Str->Option Value},(∀v,(x,v)∉binds)->bindL kindOf binds m x=m x
 | [],_,_=>rfl
 | (n,v) :: r,m,h=>by
  unfold bindL;rw [z8q λ w a=>h w (W2 _ a)];split
  ·have:x≠n:=by rintro rfl;exact h v E2
   simp [this]
  ·rfl
theorem z8f {kindOf:Str->Option Q5} {x:Str} :∀{binds:List (Str×Value)} {m:Str->Option Value},(∀v,(x,v)∉binds)->bindC kindOf binds m x=m x
 | [],_,_=>rfl
 | (n,v) :: r,m,h=>by
  unfold bindC;rw [z8f λ w a=>h w (W2 _ a)];split
  ·rfl
  ·have:x≠n:=by rintro rfl;exact h v E2
   simp [this]
theorem z92 {kindOf:Str->Option Q5} {x:Str} {v:Value} :∀{P:List Str} {vs:List Value} {i:Nat} {m:Str->Option Value},P.Nodup->P[i]? = some x->vs[i]? = some v->kindOf x=some .local->
  bindL kindOf (P.zip vs) m x=some v
 | [],_,_,_,_,h,_,_=>by simp at h
 | _ :: _,[],_,_,_,_,h,_=>by simp at h
 | p :: P,w :: vs,0,m,nd,h1,h2,hk=>by simp at h1 h2;subst h1;subst h2;show bindL kindOf ((p,w) :: P.zip vs) m p=_;unfold bindL;rw [z8q λ v a=>(List.nodup_cons.mp nd).1 (M6 a).1,if_pos hk];simp
 | p :: P,w :: vs,i + 1,m,nd,h1,h2,hk=>by show bindL kindOf ((p,w) :: P.zip vs) m x=_;unfold bindL;exact z92 (i:=i) (List.nodup_cons.mp nd).2 (by simpa using h1) (by simpa using h2) hk
theorem z8d {kindOf:Str->Option Q5} {x:Str} {v:Value} :∀{P:List Str} {vs:List Value} {i:Nat} {m:Str->Option Value},P.Nodup->P[i]? = some x->vs[i]? = some v->kindOf x≠some .local->
  bindC kindOf (P.zip vs) m x=some v
 | [],_,_,_,_,h,_,_=>by simp at h
 | _ :: _,[],_,_,_,_,h,_=>by simp at h
 | p :: P,w :: vs,0,m,nd,h1,h2,hk=>by simp at h1 h2;subst h1;subst h2;show bindC kindOf ((p,w) :: P.zip vs) m p=_;unfold bindC;rw [z8f λ v a=>(List.nodup_cons.mp nd).1 (M6 a).1,if_neg hk];simp
 | p :: P,w :: vs,i + 1,m,nd,h1,h2,hk=>by show bindC kindOf ((p,w) :: P.zip vs) m x=_;unfold bindC;exact z8d (i:=i) (List.nodup_cons.mp nd).2 (by simpa using h1) (by simpa using h2) hk
noncomputable def start (N:List Str) (vs:List V):St:=vs.map some++Q0 (N.length - vs.length) none
noncomputable def cxOf (CX:CXT) (P:Program) (w:S0) (K:c0) (mg:Str->Option Value) (base:Heap) (N:List Str) (qual:Str) (scope:Scope) (f:Addr) (cd:Value) (A:X1) (outer:List Env) (s:A0) (H:Hp) (E:XK):Cx where
 prog:=P
 w:=w
 K:=K
 mg:=mg
 base:=base
 A:=A.deeper (W8 qual scope s.heap.objs.size f cd)
 N:=N
 s₀:=s
 H₀:=H
 env:=W8 qual scope s.heap.objs.size f cd
 outer:=outer
 stack:=W8 qual scope s.heap.objs.size f cd :: outer
 ex:=[]
 calm:=true
 fn:=λ _=>true
 pn:=[]
 xe:=λ e s'=>R0 (Y0 P w) (A.deeper (W8 qual scope s.heap.objs.size f cd)) («leaving» (W8 qual scope s.heap.objs.size f cd) e) (λ _ s''=>CX outer H s E e s'') (λ e' s''=>CX outer H s E e' s'') s'
theorem zci {sc:Scope} {n:Nat} {x:Str} (h:sc.names.lookup x=some .cell) :∃c,(cellsFrom n sc.names []).lookup x=some c:=by have q:=D7 sc.names n [] (.inl h);exact Option.isSome_iff_exists.mp q
theorem z85 {CX:CXT} {P:Program} {w:S0} {K:c0} {mg:Str->Option Value} {base:Heap} {N ps:List Str} {qual:Str} {scope:Scope} {f:Addr} {cd:Value} {A:X1} {outer:List Env} {s s1:A0} {H:Hp} {E:XK} {us:List Value} {vs:List V}
  (S:FnScope N ps scope) (hd:A.handled=none) (e0:Env0 P w K mg base A outer s H) (hl:vs.length=ps.length) (r:Vals vs us)
  (x:InCallC s s.heap.objs.size (bindL (W8 qual scope s.heap.objs.size f cd).kindOf (ps.zip us) λ _=>none) (cellsFrom (s.heap.objs.size + 1) scope.names []) (bindC (W8 qual scope s.heap.objs.size f cd).kindOf (ps.zip us) λ _=>none) s1) :
  Inv (cxOf CX P w K mg base N qual scope f cd A outer s H E) [] (start N vs) H s1:=by
 have J:ps.length<=N.length:=by have:=congrArg j24 S.pre;rw [F3] at this;omega
 obtain ⟨l,I,rfl,C⟩:=x.done;have o :∀b:Addr,b∉(cxOf CX P w K mg base N qual scope f cd A outer s H E).ex:=λ b z=>absurd (show b∈([]:List Addr) from z) (by simp);refine ⟨⟨e0.mod,S.kind,rfl,rfl,C0 _,λ y z c l d=>?_,λ y g=>?_,λ y c _ h=>?_,λ _=>hd,Around.frames_deeper e0.frames,.inr ⟨rfl,rfl⟩,λ b z=>absurd z (o b),e0.bs,e0.bsz,λ b _ _=>o b,λ b z=>absurd z (o b),e0.funs,e0.frf⟩,
  rfl,e0.bare,Un.kept C,⟨_,x.toInCall.ns,λ i y v l d G=>?_⟩,λ y c h=>⟨_,x.cell y c h⟩,e0.hok.fresh (C0 _),λ y c h=>?_,λ p j=>absurd (show p∈([]:List (Addr×Obj)) from j) (by simp),e0.hok.kept C,?_⟩
 ·exact name_of_addr x.apart (M5 l) (M5 d)
 ·have g:scope.names.lookup y=some .cell\/scope.names.lookup y=some .free:=g;rcases g with g|g
  ·exact zci g
  ·exact absurd rfl (S.nofree _ (M5 g))
 ·exact X6 (x.above y c (M5 h))
 ·have m:i < vs.length:=by
   unfold start at d;by_cases m:i < vs.length
   ·exact m
   ·rw [V2 (by simpa using m)] at d;rw [n4] at d;split at d<;>cases d
  have D:vs[i]? = some v:=by
   unfold start at d;rw [X2 (by simpa using m),V0] at d;cases e:vs[i]? with
   | none=>rw [e] at d;cases d
   | some a=>rw [e] at d;cases d;rfl
  obtain ⟨u,t,F⟩:=r.get D;have j:ps[i]? = some y:=by rw [<-S.pre,List.getElem?_take_of_lt (by omega)];exact l
  have B:ps.Nodup:=by rw [<-S.pre];exact S.nd.sublist (List.take_sublist _ _)
  refine ⟨u,F,?_⟩;rcases S.par y (d0 j) with k|k
  ·exact .inl ⟨k,z92 B j t k⟩
  ·obtain ⟨c,e⟩:=zci (n:=s.heap.objs.size + 1) k;refine .inr ⟨.inl k,c,e,?_⟩;have q:=x.cell y c e;rw [z8d B j t (by show scope.names.lookup y≠_;rw [k];decide)] at q;exact q
 ·exact e0.hok.fresh (X6 (x.above y c (M5 h)))
 ·unfold start;show _=N.length;rw [J0,G0,Z2];omega
theorem fn_of {CX:CXT} {P:Program} {w:S0} {K:c0} {mg:Str->Option Value} {base:Heap} {k:Nat} {f:Addr} {name qual:Str} {params:Arguments} {body:List Stmt} {scope:Scope} {dV kV doc pm cdv ct oc:Value} {an od:Option Addr}
  {osl:Array (Option Value)} {N ps:List Str} {sp:Sp} (lk:K.lookup f=some ⟨oc,od,.func (a6 name qual params body scope dV kV doc pm an cdv ct),osl⟩) (hcd:V7 K cdv qual=true) (S:FnScope N ps scope)
  (len :∀vs H Q E,sp vs H Q E->vs.length=ps.length)
  (hbody :∀(A:X1) (outer:List Env) (s:A0) (H:Hp) (vs:List V) (Q:VK) (E:XK),Room k (A.deeper (W8 qual scope s.heap.objs.size f cdv))->sp vs H Q E->
   ∃t,PSs (cxOf CX P w K mg base N qual scope f cdv A outer s H E) body t/\t { nx:=λ _ H'=>Q .non H',rt:=Q } (start N vs) H) :
  FnOk P w K mg base CX (k + 1) f (a6 name qual params body scope dV kV doc pm an cdv ct) ps sp:=by
 refine ⟨len,λ A outer s H O B vs Q E i c L r l=>?_⟩;have D:=len _ _ _ _ l;have KX:K.In s.heap:=c.mod.kin.keeps λ b o e=>(c.bs b o e).1;have C:s.heap.NoLimit:=c.mod.nolimit.keeps λ b o e=>(c.bs b o e).1;have z :∀y∈ps.zip B,scope.names.lookup y.1=some .local\/(scope.names.lookup y.1=some .cell/\((cellsFrom (s.heap.objs.size + 1) scope.names []).lookup y.1).isSome=true):=λ ⟨n,v⟩ hy=>by
  rcases S.par n (M6 hy).1 with q|q
  ·exact .inl q
  ·exact .inr ⟨q,D7 _ _ _ (.inl q)⟩
 refine codeAny_call_function i.depth (KX _ _ lk) rfl S.co S.gen rfl (PySem.W.codeRec_of KX hcd) (L _ _ _ _ ?_);refine j13 S.kind z λ M p j x=>?_;subst p;refine ⟨C.keeps x.toInCall.keep,codeAny_func ?_⟩;obtain ⟨t,m,G⟩:=hbody A outer s H vs Q E (i.deeper _) l;have I:Inv (cxOf CX P w K mg base N qual scope f cdv A outer s H E) [] (start N vs) H j:=z85 S i.hd c D r x;refine Q3 (m [] j (start N vs) H _ I G) (λ F h a=>?_) λ e h a=>a;have fin :∀{d:St} {H':Hp} {v:V} {u:Value},Inv (cxOf CX P w K mg base N qual scope f cdv A outer s H E) [] d H' h->RelV v u->Q v H'->CE outer P w H s Q u h:=
  λ {d H' v u} J g q=>⟨v,H',J.os,J.bare,J.base,J.hok,g,q⟩
 cases F with
 | ret u=>obtain ⟨v,d,H',J,g,q⟩:=a;exact fin J g q
 | next=>obtain ⟨d,H',J,q⟩:=a;exact fin (v:=V.non) (u:=S5) J rfl q
 | brk=>obtain ⟨_,_,_,q⟩:=a;exact o5 q
 | cont=>obtain ⟨_,_,_,q⟩:=a;exact o5 q
section
variable {X:Cx} {x:Str} {p pos:Pos} {e:Expr} {es:List Expr} {t:TA} {id T:String} {r:List V->Hp->VK->Prop}
noncomputable def tCB (r:List V->Hp->VK->Prop) (t:TA):TE:=λ σ H Q=>t σ H λ vs H1=>r vs H1 Q
theorem z0a (hc:CallR X (.builtin id) r) (hg:Gl X x) (hm:X.mg x=none) (hv:L4 x=some (.builtin id)) (ha:PA X (e :: es) t) (hn:x≠"__name__":=by decide) (hdb:(x == ("__debug__" : Str))=false:=by decide)
  (he:V1 (e :: es) X.env=(false,p4 e X.env) :: V1 es X.env:=by rfl) (hpl:(Z5 pos (V1 es X.env)).any (·.1)=false:=by rfl):PE X (.Call (.Name x p) (e :: es) [] pos) (tCB r t):=by
 intro a s σ H Q I h;refine i4 (ld_blt I hg hm hv ?_ hn hdb);exact V5 (thn (ha pos a s σ H _ I h) λ c b ⟨vs,H1,I1,r1,q1⟩=>hc a b σ H1 vs c Q I1 r1 q1) he hpl
theorem z31 (hc:CallR X (.type T) r) (hg:Gl X x) (hm:X.mg x=none) (hv:L4 x=some (.type T)) (ha:PA X (e :: es) t) (hn:x≠"__name__":=by decide) (hdb:(x == ("__debug__" : Str))=false:=by decide)
  (he:V1 (e :: es) X.env=(false,p4 e X.env) :: V1 es X.env:=by rfl) (hpl:(Z5 pos (V1 es X.env)).any (·.1)=false:=by rfl):PE X (.Call (.Name x p) (e :: es) [] pos) (tCB r t):=by
 intro a s σ H Q I h;refine i4 (ld_blt I hg hm hv ?_ hn hdb);exact K3 (thn (ha pos a s σ H _ I h) λ c b ⟨vs,H1,I1,r1,q1⟩=>hc a b σ H1 vs c Q I1 r1 q1) he hpl
end
end L2
namespace HT
open PySem PyProof.Rows
section
variable {prog:Program} {w:S0} {A:X1} {E:Value->A0->Prop} {s:A0}
theorem cat_tup {t b:Addr} {vs ws:List Value} {Q:Value->A0->Prop} (ht:IsTup s.heap t vs.toArray) (hb:IsTup s.heap b ws.toArray) (hv:vs≠[])
  (h1:ws=[]->Q (.ref t) s) (h2:ws≠[]->Q (.ref s.heap.objs.size) { s with heap:=s.heap.push { cls:=.type "tuple",data:=.seq (vs++ws).toArray } })
  (hsz:vs.length + ws.length<=sizeLine):R0 (Y0 prog w) A (M4 .Add (.ref t) (.ref b)) Q E s:=by
 obtain ⟨⟨cls,i,data,f⟩,c,l,n,hd⟩:=id ht;obtain ⟨⟨o,g,m,d⟩,a,k,h,j⟩:=id hb;simp only at l hd k j;subst l hd k j;have e:vs.toArray++ws.toArray=(vs++ws).toArray:=by simp
 by_cases hw:ws=[]
 ·exact concat_meets ⟨_,c,rfl⟩ ⟨_,a,rfl⟩ Z9 seq_tuple_add E7 y7 (j7 _ _)
   (tuple_addW1 t b vs.toArray ws.toArray n h i g f d (by simpa using hv) (by simp [hw])) ⟨c,a,h1 hw⟩
 ·refine concat_meets ⟨_,c,rfl⟩ ⟨_,a,rfl⟩ Z9 seq_tuple_add E7 y7 (j7 _ _)
   (tuple_addW2 t b vs.toArray ws.toArray n h i g f d (by simpa using hv) (by simpa using hw) (by rw [P0,P0];exact hsz)) ⟨c,a,?_⟩
  rw [e];exact h2 hw
noncomputable def sIx (n d:Nat):Option Int->Nat
 | none=>d
 | some v=>if v < 0 then (v + (n:Int)).toNat else min v.toNat n
theorem sIx_none (n d:Nat):sIx n d none=d:=rfl
theorem sIx_nat (n d k:Nat):sIx n d (some (k:Int))=min k n:=by show (if (k:Int) < 0 then ((k:Int) + (n:Int)).toNat else min (k:Int).toNat n)=min k n;rw [if_neg (by omega),g9]
theorem sIx_le (n d:Nat) (hd:d<=n) (o:Option Int):sIx n d o<=n:=by
 cases o with
 | none=>exact hd
 | some v=>
  show (if v < 0 then (v + (n:Int)).toNat else min v.toNat n)<=n;by_cases hv:v < 0
  ·rw [if_pos hv];omega
  ·rw [if_neg hv];exact Nat.min_le_right _ _
theorem zez (v:Int) (n d:Nat):(if v < 0 then max (v + (n:Int)) 0 else min v (n:Int))=((sIx n d (some v):Nat):Int):=by
 show (if v < 0 then max (v + (n:Int)) 0 else min v (n:Int))=(((if v < 0 then (v + (n:Int)).toNat else min v.toNat n):Nat):Int);by_cases hv:v < 0
 ·simp only [if_pos hv];omega
 ·simp only [if_neg hv];omega
theorem zc1 (lo hi:Option Int) (n:Nat):K6 lo hi 1 (n:Int)=(((sIx n 0 lo:Nat):Int),((sIx n n hi:Nat):Int)):=by
 have a:¬ ((1:Int) < 0):=by omega
 unfold K6;simp only [a,if_false];refine Prod.ext ?_ ?_
 ·cases lo with
  | none=>rfl
  | some v=>exact zez v n 0
 ·cases hi with
  | none=>rfl
  | some v=>exact zez v n n
theorem zar (i j:Nat):V4 (i:Int) (j:Int) 1=j - i:=by
 unfold V4;have a:(1:Int) > 0:=by omega
 simp only [a,if_true,Int.ediv_one];split<;>omega
theorem z61 {v:Value} {o:Option Int} {Q:Option Int->A0->Prop} (p:C9 v o) (h:Q o s):R0 (Y0 prog w) A (Builtin.Slice.slicePartIndex v) Q E s:=by
 cases p with
 | none=>exact slicePart_none h
 | int i t=>exact slicePart_int h
theorem z3p {sl:Addr} {vl vu:Value} {lo hi:Option Int} {n:Nat} {Q:Int×Int×Nat->A0->Prop} (hs:s.heap.IsSliceOf sl vl vu .none) (pl:C9 vl lo) (pu:C9 vu hi)
  (h:Q (((sIx n 0 lo:Nat):Int),1,sIx n n hi - sIx n 0 lo) s):R0 (Y0 prog w) A (S8 (.ref sl) (N3 (n:Int))) Q E s:=by
 obtain ⟨c,a,d,b⟩:=id hs;unfold S8 Builtin.Slice.sliceFields;refine o0 (o0 (U6 a b (x:=vl) rfl (o0 (U6 a b (x:=vu) rfl (o0 (U6 a b (x:=.none) rfl (F0 ?_)))))));refine o0 (slicePart_none ?_);show R0 _ _ (if ((1:Int) == 0)=true then _ else _) _ _ s;rw [if_neg (by decide)];refine o0 (z61 pl (o0 (z61 pu (o0 (F0 ?_)))));show R0 _ _ (match K6 lo hi 1 (n:Int) with|(lo,hi)=>N3 (lo,(1:Int),V4 lo hi 1)) _ _ s;rw [zc1 lo hi n];show R0 _ _ (N3 (((sIx n 0 lo:Nat):Int),(1:Int),V4 ((sIx n 0 lo:Nat):Int) ((sIx n n hi:Nat):Int) 1)) _ _ s;rw [zar];exact F0 h
theorem zfe (xs:Array Value) (i k:Nat):((N1 k).filterMap λ (m:Nat)=>xs[((i:Int) + (m:Int) * 1).toNat]?).toArray=((xs.toList.drop i).take k).toArray:=by
 have e:(λ (m:Nat)=>xs[((i:Int) + (m:Int) * 1).toNat]?)=λ m=>xs[i + m]?:=by
  funext m;have:((i:Int) + (m:Int) * 1).toNat=i + m:=by omega
  rw [this]
 rw [e];have:=pick_run xs i k;rw [List.filterMap_map] at this;have a:((λ x=>xs[x]?) ∘ λ x=>i + x)=λ m=>xs[i + m]?:=rfl;rw [a] at this;rw [this]
theorem getItem_tuple_cut {t sl:Addr} {items:Array Value} {vl vu:Value} {lo hi:Option Int} {Q:Value->A0->Prop} (ht:IsTup s.heap t items) (hs:s.heap.IsSliceOf sl vl vu .none) (pl:C9 vl lo) (pu:C9 vu hi)
  (hw:¬ (sIx items.size 0 lo=0/\sIx items.size items.size hi=items.size))
  (h:Q (.ref s.heap.objs.size) { s with heap:=s.heap.push { cls:=.type "tuple",data:=.seq ((items.toList.drop (sIx items.size 0 lo)).take (sIx items.size items.size hi - sIx items.size 0 lo)).toArray } })
  (hsz:items.size<=sizeLine):R0 (Y0 prog w) A (a9 (.ref t) (.ref sl)) Q E s:=by
 have a:sizeOk (.seq ((items.toList.drop (sIx items.size 0 lo)).take (sIx items.size items.size hi - sIx items.size 0 lo)).toArray):=by show ((items.toList.drop (sIx items.size 0 lo)).take (sIx items.size items.size hi - sIx items.size 0 lo)).toArray.size<=sizeLine;rw [P0,F3,J5,B1];omega
 have g:sIx items.size items.size hi<=items.size:=sIx_le _ _ (C0 _) hi;obtain ⟨e,c,f,k⟩:=id hs;have d:s.TypeIs (.ref sl) "slice":=⟨e,c,f⟩
 unfold a9
 try with_reducible refine T2 ?_
 first|refine o0 (F0 ?_)|skip
 refine o0 (wpAny_sequenceKey ht.typeIs (by decide) ?_);refine o0 (k8 (name:=c4 "__getitem__") ht.typeIs n8
  (j8 n8 ht.typeIs entry_tuple_getitem ?_ (args_tuple_getitem _ _)))
 show R0 _ _ (Builtin.Tuple.tupleItemsOf (.ref t) >>= _) _ _ s;refine o0 (tupleItemsOf_ ht ?_);refine o0 (N9 d ?_);rw [if_pos (by decide)];refine o0 (z3p hs pl pu ?_);have b:¬ ((((sIx items.size 0 lo:Nat):Int) == 0 && (1:Int) == 1 && (sIx items.size items.size hi - sIx items.size 0 lo) == items.size)=true):=by intro q;rw [Z3,Z3] at q;have j:((sIx items.size 0 lo:Nat):Int)=0:=eq_of_beq q.1.1;have i:sIx items.size items.size hi - sIx items.size 0 lo=items.size:=eq_of_beq q.2;exact hw ⟨by omega,by omega⟩
 show R0 _ _ (if (((sIx items.size 0 lo:Nat):Int) == 0 && (1:Int) == 1 && (sIx items.size items.size hi - sIx items.size 0 lo) == items.size)=true then _ else _) _ _ s;rw [if_neg b,zfe];first
  | exact o0 (m:=a5 _) (K4 (F0 ⟨_,rfl,F0 h⟩) a)
  | exact o0 (m:=a5 _) (K4 (o0 (F0 (F0 ⟨_,rfl,F0 h⟩))) a)
  | exact o0 (o0 (m:=a5 _) (K4 (F0 (F0 ⟨_,rfl,F0 h⟩)) a))
  | exact o0 (o0 (m:=a5 _) (K4 (F0 ⟨_,rfl,F0 h⟩) a))
end
end HT
namespace L2
open PySem PySem.Spec PyProof.Rows
noncomputable abbrev TO:=St->Hp->(Option Int->Hp->Prop)->Prop
def PO (X:Cx) (e:Option Expr) (t:TO):Prop:=
 ∀(pins:List (Addr×Obj)) (s:A0) (σ:St) (H:Hp) (Q:Option Int->Hp->Prop),Inv X pins σ H s->t σ H Q->
  R0 (Y0 X.prog X.w) X.A (evalPart e X.env) (λ u s'=>∃o H',Inv X pins σ H' s'/\C9 u o/\Q o H') X.xe s
noncomputable def zgx:TO:=λ _ H Q=>Q none H
noncomputable def tPart (t:TE):TO:=λ σ H Q=>t σ H λ x H1=>∃i,x=.int i/\Q (some i) H1
theorem z3j {ns:List Int} :∀{us:List Value},Vals (ns.map V.int) us->S3 us ns:=by
 induction ns with
 | nil=>intro us r;rw [P7] at r;cases r;exact .nil
 | cons n ns ih=>
  intro us r;rw [X0] at r;cases r with
  | cons r1 r2=>obtain ⟨t,e⟩:=r1;subst e;exact .cons n t (ih r2)
section
variable {X:Cx} {e:Expr} {te:TE} {lo hi:Option Expr} {tl th:TO} {pos p2:Pos}
theorem z45:PO X none zgx:=by intro a s σ H Q I h;rw [evalPart_none];exact F0 ⟨none,H,I,.none,h⟩
theorem z2u (h:PE X e te):PO X (some e) (tPart te):=by intro a s σ H Q I b;rw [evalPart_some];refine thn (h a s σ H _ I b) λ u c ⟨x,H1,I1,r1,q1⟩=>?_;obtain ⟨i,rfl,q⟩:=q1;obtain ⟨t,rfl⟩:=r1;exact ⟨some i,H1,I1,.int i t,q⟩
def SlR (X:Cx) (r:V->Option Int->Option Int->Hp->VK->Prop):Prop:=
 ∀(pins:List (Addr×Obj)) (s:A0) (σ:St) (H:Hp) (x:V) (v vl vu:Value) (lo hi:Option Int) (sl:Addr) (Q:VK),Inv X pins σ H s->RelV x v->s.heap.IsSliceOf sl vl vu .none->C9 vl lo->C9 vu hi->r x lo hi H Q->
  ∃T id,typeLookup (.type T) "__getitem__" = N3 (some (.builtin id))/\s.TypeIs v T/\R0 (Y0 X.prog X.w) X.A (a9 v (.ref sl)) (EP X pins σ Q) X.xe s
theorem SlR.or {r r':V->Option Int->Option Int->Hp->VK->Prop} (h:SlR X r) (h':SlR X r'):SlR X (λ x lo hi H Q=>r x lo hi H Q\/r' x lo hi H Q):=by
 intro g s σ H x v i f lo hi e Q I c b d a q;rcases q with q|q
 ·exact h g s σ H x v i f lo hi e Q I c b d a q
 ·exact h' g s σ H x v i f lo hi e Q I c b d a q
noncomputable def tSl (r:V->Option Int->Option Int->Hp->VK->Prop) (te:TE) (tl th:TO):TE:=λ σ H Q=>te σ H λ x H1=>tl σ H1 λ l H2=>th σ H2 λ u H3=>r x l u H3 Q
theorem z1z {r:V->Option Int->Option Int->Hp->VK->Prop} (hr:SlR X r) (he:PE X e te) (hl:PO X lo tl) (hu:PO X hi th):PE X (.Subscript e (.Slice lo hi none p2) pos) (tSl r te tl th):=by intro c s σ H Q I h;refine Subscript_ (thn (he c s σ H _ I h) λ v m ⟨x,H1,I1,r1,q1⟩=>?_);refine wpAny_Slice (thn (hl c m σ H1 _ I1 q1) λ f n ⟨l,H2,I2,pl,q2⟩=>thn (hu c n σ H2 _ I2 q2) λ d a ⟨u,H3,I3,pu,q3⟩=>?_);rw [evalPart_none];refine F0 ?_;have i:Inv X c σ H3 { a with heap:=a.heap.push { cls:=.type "slice",data:=.fields #[f,d,.none] } }:=I3.kept (t':=a.toks) λ b o q=>y0 _ q;obtain ⟨T,id,j,g,k⟩:=hr c { a with heap:=a.heap.push { cls:=.type "slice",data:=.fields #[f,d,.none] } } σ H3 x v f d l u a.heap.objs.size Q i r1 (Heap.IsSliceOf.new ..) pl pu q3;show R0 (Y0 X.prog X.w) X.A (subscriptTail e (.Slice lo hi none p2) v (.ref a.heap.objs.size)) (EP X c σ Q) X.xe { a with heap:=a.heap.push { cls:=.type "slice",data:=.fields #[f,d,.none] } };exact tail_any (ops:=[.ref a.heap.objs.size,v]) g j k (by with_unfolding_all rfl)
noncomputable def cutV (xs:List V) (lo hi:Option Int):List V:=(xs.drop (HT.sIx xs.length 0 lo)).take (HT.sIx xs.length xs.length hi - HT.sIx xs.length 0 lo)
theorem z4a (xs:List V) (lo hi:Option Int):(cutV xs lo hi).length<=xs.length:=by unfold cutV;rw [F3,J5];omega
def rSlT (K:c0):V->Option Int->Option Int->Hp->VK->Prop:=λ x lo hi H Q=>∃a xs,x=.ref a/\SqT K H a xs/\
 ¬ (HT.sIx xs.length 0 lo=0/\HT.sIx xs.length xs.length hi=xs.length)/\∀p,H p=none->Q (.ref p) (upd H p (.tup (cutV xs lo hi)))
theorem sl_tup:SlR X (rSlT X.K):=by
 intro A s σ H x v y u d e z Q I p k l n h;obtain ⟨a,c,rfl,m,t,q⟩:=h;cases p;obtain ⟨j,r,g,i⟩:=I.tuple m;have f:j.toArray.size=c.length:=by rw [P0];exact r.length.symm
 refine ⟨"tuple",_,PyProof.Rows.slot_tuple_getitem.lookup,g.typeIs,?_⟩;refine HT.getItem_tuple_cut g k l n (by rw [f];exact t) ?_ (by rw [f];exact i);rw [f];refine ⟨.ref s.heap.objs.size,_,I.laid (t':=s.toks) (o:=.tup (cutV c d e)) (λ b w q=>y0 _ q) (C0 _) ?_,rfl,q _ (I.hok.fresh (C0 _))⟩;exact ⟨L0 (z4a c d e) i,_,(r.drop (HT.sIx c.length 0 d)).take (HT.sIx c.length c.length e - HT.sIx c.length 0 d),IsTupN.new _ _⟩
noncomputable def rCatT (K:c0):R2:=λ x y H Q=>∃a b xs ys,x=.ref a/\y=.ref b/\SqT K H a xs/\SqT K H b ys/\xs≠[]/\xs.length + ys.length<=sizeLine/\
 (ys=[]->Q (.ref a) H)/\(ys≠[]->∀p,H p=none->Q (.ref p) (upd H p (.tup (xs++ys))))
theorem Vals.nil_iff {xs:List V} {us:List Value} (r:Vals xs us):us=[]↔xs=[]:=by
 cases r with
 | nil=>simp
 | cons _ _=>simp
theorem zbn:OpR X (M4 .Add) (rCatT X.K):=by intro D s σ H x y v u Q I r j h;obtain ⟨a,b,m,t,rfl,rfl,i,n,k,e,p,g⟩:=h;cases r;cases j;obtain ⟨A,d,l,_⟩:=I.tuple i;obtain ⟨C,c,f,_⟩:=I.tuple n;refine HT.cat_tup l f (λ z=>k (d.nil_iff.mp z)) (λ z=>⟨.ref a,H,I,rfl,p (c.nil_iff.mp z)⟩) (λ z=>?_) (by rw [<-d.length,<-c.length];exact e);refine ⟨.ref s.heap.objs.size,_,I.laid (t':=s.toks) (o:=.tup (m++t)) (λ b B q=>y0 _ q) (C0 _) ?_,rfl,g (λ w=>z (c.nil_iff.mpr w)) _ (I.hok.fresh (C0 _))⟩;exact ⟨by rw [J0];exact e,_,d.append c,IsTupN.new _ _⟩
end
noncomputable def ixN (n:Nat) (i:Int):Option Nat:=if 0<=i then (if i < n then some i.toNat else none) else if -(n:Int)<=i then some (i + n).toNat else none
noncomputable def atI {α:Type} (xs:List α) (i:Int):Option α:=(ixN xs.length i).bind λ j=>xs[j]?
theorem zer {n:Nat} {i:Int} {j:Nat} (h:ixN n i=some j):seqIndex? i n=some j/\j < n/\-(n:Int)<=i/\i < n:=by
 unfold ixN at h;by_cases h0:0<=i
 ·rw [if_pos h0] at h;by_cases h1:i < n
  ·rw [if_pos h1] at h;have e:i.toNat=j:=C1 h;exact ⟨by rw [seqIndex_of h0 h1,e],by omega,by omega,h1⟩
  ·rw [if_neg h1] at h;cases h
 ·rw [if_neg h0] at h;by_cases h1:-(n:Int)<=i
  ·rw [if_pos h1] at h;have e:(i + n).toNat=j:=C1 h;exact ⟨by rw [seqIndex_neg (by omega) h1,e],by omega,h1,by omega⟩
  ·rw [if_neg h1] at h;cases h
theorem zbx {α:Type} {xs:List α} {i:Int} {v:α} (h:atI xs i=some v) :∃j,seqIndex? i xs.length=some j/\xs[j]? = some v/\j < xs.length/\-(xs.length:Int)<=i/\i < xs.length:=by
 unfold atI at h;cases e:ixN xs.length i with
 | none=>rw [e] at h;cases h
 | some j=>rw [e] at h;obtain ⟨b,d,c,a⟩:=zer e;exact ⟨j,b,h,d,c,a⟩
theorem z04 {α:Type} {xs:List α} {j:Nat} {v:α} (h:xs[j]? = some v):atI xs (j:Int)=some v:=by
 have a:j < xs.length:=(List.getElem?_eq_some_iff.mp h).1;have e:ixN xs.length (j:Int)=some j:=by unfold ixN;rw [if_pos (by omega),if_pos (by omega)];simp
 unfold atI;rw [e];exact h
def zey (b:Expr):Prop:=∀o i,j04 b false o i=operate [o,i] (a9 o i)
def IxR (X:Cx) (r:R2):Prop:=
 ∀(value slice:Expr) (pins:List (Addr×Obj)) (s:A0) (σ:St) (H:Hp) (x y:V) (v u:Value) (Q:VK),Inv X pins σ H s->RelV x v->RelV y u->r x y H Q->
  j04 slice false v u=operate [v,u] (a9 v u)->R0 (Y0 X.prog X.w) X.A (subscriptTail value slice v u) (EP X pins σ Q) X.xe s
def MtR (X:Cx) (id:String) (r:V->List V->Hp->VK->Prop):Prop:=
 ∀(pins:List (Addr×Obj)) (s:A0) (σ:St) (H:Hp) (x:V) (xs:List V) (v:Value) (us:List Value) (Q:VK),Inv X pins σ H s->RelV x v->Vals xs us->r x xs H Q->
  R0 (Y0 X.prog X.w) X.A (call (.builtin id) (v :: us)) (EP X pins σ Q) X.xe s
section
variable {X:Cx} {a b:Expr} {ta tb:TE} {pos:Pos}
theorem IxR.or {r r':R2} (h:IxR X r) (h':IxR X r'):IxR X (λ x y H Q=>r x y H Q\/r' x y H Q):=by
 intro b d e s σ H x y v u Q I c f q a;rcases q with q|q
 ·exact h b d e s σ H x y v u Q I c f q a
 ·exact h' b d e s σ H x y v u Q I c f q a
theorem pe_ix {r:R2} (hr:IxR X r) (ha:PE X a ta) (hb:PE X b tb) (hs:zey b):PE X (.Subscript a b pos) (tOp r ta tb):=by intro g s σ H Q I h;exact Subscript_ (binT ha hb I h λ v u c x y d f e i q=>hr a b g c σ d x y v u Q f e i q (hs _ _))
noncomputable def rIxL (K:c0):R2:=λ x y H Q=>∃p xs i v,x=.ref p/\y=.int i/\SqL K H p xs/\atI xs i=some v/\Q v H
noncomputable def rIxT (K:c0):R2:=λ x y H Q=>∃p xs i v,x=.ref p/\y=.int i/\SqT K H p xs/\atI xs i=some v/\Q v H
noncomputable def rIxS:R2:=λ x y H Q=>∃z i c,x=.str z/\y=.int i/\z.length<=sizeLine/\atI z.cps.toList i=some c/\Q (.str ⟨#[c]⟩) H
theorem ix_list:IxR X (rIxL X.K):=by
 intro L G e s σ H x y v u Q I E n h d;obtain ⟨p,J,i,z,rfl,rfl,C,l,q⟩:=h;cases E;obtain ⟨t,rfl⟩:=n;obtain ⟨k,r,c,N⟩:=I.list C;obtain ⟨j,a,B,F,g,m⟩:=zbx l;obtain ⟨w,f,A⟩:=r.get B;have o:=r.length;have M:=line63;have fin:EP X e σ Q w s:=⟨z,H,I,A,q⟩
 by_cases h0:0<=i
 ·have b:i.toNat=j:=by rw [seqIndex_of h0 m] at a;exact C1 a
  exact item_listR c.isList h0 (by omega) (by rw [b];simpa using f) fin d
 ·have b:(i + (k.toArray.size:Int)).toNat=j:=by rw [seqIndex_neg (by omega) g] at a;rw [P0,<-o];exact C1 a
  exact subscriptTail_builtinR (x:=w) c.isList.typeIs slot_list_getitem.lookup
   (wpAny_getItem_list_neg (Q:=λ r D=>r=w/\EP X e σ Q r D) c.isList (by omega) (by rw [P0]<;>omega) (by omega) (by rw [b];simpa using f) ⟨rfl,fin⟩) d
theorem ix_tup:IxR X (rIxT X.K):=by
 intro J C b s σ H x y v u Q I o e h f;obtain ⟨p,G,i,z,rfl,rfl,m,d,q⟩:=h;cases o;obtain ⟨t,rfl⟩:=e;obtain ⟨E,r,a,M⟩:=I.tuple m;obtain ⟨j,c,l,B,D,F⟩:=zbx d;obtain ⟨w,A,k⟩:=r.get l;have g:=r.length;have L:=line63;have fin:EP X b σ Q w s:=⟨z,H,I,k,q⟩
 exact subscriptTail_builtinR (x:=w) a.typeIs slot_tuple_getitem.lookup
  (getItem_tuple (j:=j) (Q:=λ r n=>r=w/\EP X b σ Q r n) a (by omega) (by omega) (by rw [P0,<-g];exact c) (by simpa using A) ⟨rfl,fin⟩) f
theorem ix_str:IxR X rIxS:=by
 intro w r C s σ H x y v u Q I o g h l;obtain ⟨z,i,c,rfl,rfl,D,e,q⟩:=h;obtain ⟨t,rfl⟩:=o;obtain ⟨A,rfl⟩:=g;obtain ⟨j,a,n,p,d,f⟩:=zbx e;have m:z.cps.toList.length=z.length:=by simp [Str.length]
 rw [m] at a d f;have B:=line63;exact tail_any (typeIs_str s z t) slot_str_getitem.lookup (getItem_str (c:=c) (by have k:decide (i < -(2 ^ 63:Int))=false:=decide_eq_false (by omega);have b:decide (i ≥ 2 ^ 63)=false:=decide_eq_false (by omega);rw [k,b,T8]) (by rw [a];simpa using n) ⟨.str ⟨#[c]⟩,H,I.tok _,⟨_,rfl⟩,q⟩) l
noncomputable def rIx (K:c0):R2:=λ x y H Q=>rIxL K x y H Q\/rIxT K x y H Q\/rIxS x y H Q
theorem ix_seq:IxR X (rIx X.K):=ix_list.or (ix_tup.or ix_str)
theorem zcu (its:List Value) (n j:Nat) (u:Value):U1 (·.setIfInBounds j u) { cls:=.type "list",data:=.seq its.toArray n }={ cls:=.type "list",data:=.seq (its.set j u).toArray n }:=by simp [U1]
theorem Inv.lst {pins:List (Addr×Obj)} {σ:St} {H:Hp} {s:A0} {p:Addr} {xs:List V} (I:Inv X pins σ H s) (h:H p=some (.lst xs)) :
  ∃(its:List Value) (n:Nat),Vals xs its/\s.heap.get? p=some { cls:=.type "list",data:=.seq its.toArray n }/\xs.length<=sizeLine:=by
 obtain ⟨z,its,n,r,e⟩:=I.hok p _ h;exact ⟨its,n,r,e,z⟩
theorem Inv.lstUpd {pins:List (Addr×Obj)} {σ:St} {H:Hp} {s:A0} {p:Addr} {xs ys:List V} {its its':List Value} {n n':Nat} {f:Obj->Obj} (I:Inv X pins σ H s) (h:H p=some (.lst xs))
  (ho:s.heap.get? p=some { cls:=.type "list",data:=.seq its.toArray n }) (hf:f { cls:=.type "list",data:=.seq its.toArray n }={ cls:=.type "list",data:=.seq its'.toArray n' }) (r:Vals ys its') (hz:ys.length<=sizeLine) (t:Nat) :
  Inv X pins σ (upd H p (.lst ys)) { s with heap:=s.heap.update p f,toks:=t }:=by
 have e:(s.heap.update p f).get? p=some { cls:=.type "list",data:=.seq its'.toArray n' }:=by rw [i8 f ho (by rw [hf]<;>rfl),hf]
 refine I.write (x:=p) (e:=p) (by rw [h];trivial) (.inl rfl) (λ b u a q=>(Q7 _ _ (P3 a)).trans q) ⟨_,e⟩ ?_;exact ⟨hz,its',n',r,e⟩
def rSetL:V->V->V->Hp->(Hp->Prop)->Prop:=λ o i v H Q=>∃p xs k j,o=.ref p/\i=.int k/\H p=some (.lst xs)/\ixN xs.length k=some j/\Q (upd H p (.lst (xs.set j v)))
theorem z1y:PSet X rSetL:=by
 intro B s σ H o i v D G u Q I z A x h;obtain ⟨p,y,k,j,rfl,rfl,m,w,q⟩:=h;cases z;obtain ⟨t,rfl⟩:=A;obtain ⟨g,n,r,c,C⟩:=I.lst m;obtain ⟨a,E,e,f⟩:=zer w;have b:=r.length;have F:=line63;have l:Inv X B σ (upd H p (.lst (y.set j v))) { s with heap:=s.heap.update p (U1 (·.setIfInBounds j u)) }:=
  I.lstUpd m c (zcu g n j u) (r.set x j) (by rw [Z7];exact C) s.toks
 by_cases h0:0<=k
 ·have d:k.toNat=j:=by rw [seqIndex_of h0 f] at a;exact C1 a
  exact PySem.W.ki_setAt c h0 (by omega) (by rw [P0,<-b];exact f) (by rw [d];exact ⟨_,l,q⟩)
 ·have d:(k + (g.toArray.size:Int)).toNat=j:=by rw [seqIndex_neg (by omega) e] at a;rw [P0,<-b];exact C1 a
  exact PySem.W.ki_setBack c (by omega) (by rw [P0,<-b];exact e) (by omega) (by rw [d];exact ⟨_,l,q⟩)
theorem z7d (lo hi:Option Int) (n:Nat):(V6 lo hi none n).1=((HT.sIx n 0 lo:Nat):Int)/\(V6 lo hi none n).2.1=((HT.sIx n n hi:Nat):Int)/\(V6 lo hi none n).2.2=1:=by
 refine ⟨?_,?_,rfl⟩
 ·cases lo with
  | none=>simp [V6,HT.sIx]
  | some i=>
   simp only [V6,HT.sIx,Option.getD_none,show (1:Int) > 0 by decide,if_true];by_cases h:i < 0
   ·simp only [h,if_true]<;>omega
   ·simp only [h,if_false]<;>omega
 ·cases hi with
  | none=>simp [V6,HT.sIx]
  | some i=>
   simp only [V6,HT.sIx,Option.getD_none,show (1:Int) > 0 by decide,if_true];by_cases h:i < 0
   ·simp only [h,if_true]<;>omega
   ·simp only [h,if_false]<;>omega
theorem z62 (its:List Value) (lo hi:Option Int):slicePick its.toArray lo hi none=((its.drop (HT.sIx its.length 0 lo)).take (HT.sIx its.length its.length hi - HT.sIx its.length 0 lo)).toArray:=by obtain ⟨a,c,b⟩:=z7d lo hi its.toArray.size;unfold slicePick;rw [a,c,b];simp only [sliceRange_one,pick_run,P0]<;>rfl
def rSlL (K:c0):V->Option Int->Option Int->Hp->VK->Prop:=λ x lo hi H Q=>∃a xs,x=.ref a/\SqL K H a xs/\∀p,H p=none->Q (.ref p) (upd H p (.lst (cutV xs lo hi)))
theorem sl_list:SlR X (rSlL X.K):=by intro z s σ H x v w p d e y Q I l g i k h;obtain ⟨a,c,rfl,j,q⟩:=h;cases l;obtain ⟨t,r,f,n⟩:=I.list j;have m:=r.length;refine ⟨"list",_,slot_list_getitem.lookup,f.isList.typeIs,?_⟩;refine wpAny_getItem_list_slice f.isList g i k .none (by simp) ?_ (by rw [P0]<;>omega);rw [z62,<-m];refine ⟨.ref s.heap.objs.size,_,I.laid (t':=s.toks) (o:=.lst (cutV c d e)) (λ b u q=>y0 _ q) (C0 _) ?_,rfl,q _ (I.hok.fresh (C0 _))⟩;exact ⟨L0 (z4a c d e) n,_,0,(r.drop (HT.sIx c.length 0 d)).take (HT.sIx c.length c.length e - HT.sIx c.length 0 d),O0 _ rfl⟩
noncomputable def flatV:V->Bool
 | .non=>true
 | .bl _=>true
 | .int _=>true
 | .str _=>true
 | _=>false
noncomputable def eqV:V->V->Bool
 | .non,.non=>true
 | .bl a,.bl b=>a == b
 | .bl a,.int b=>(if a then 1 else 0) == b
 | .int a,.bl b=>a == (if b then 1 else 0)
 | .int a,.int b=>a == b
 | .str a,.str b=>a == b
 | _,_=>false
theorem eqAt_V {A:X1} {s:A0} {y x:V} {u v:Value} (ry:RelV y u) (rx:RelV x v) (fy:flatV y=true) (fx:flatV x=true):SeqAt.EqAt A s u v (eqV y x):=by
 cases y with
 | non=>
  cases ry;cases x with
  | non=>cases rx;exact SeqAt.EqAt.same _
  | bl b=>cases rx;exact SeqAt.EqAt.none_bool b
  | int b=>obtain ⟨t,rfl⟩:=rx;exact SeqAt.EqAt.none_int b t
  | str b=>obtain ⟨t,rfl⟩:=rx;exact SeqAt.EqAt.none_str b t
  | _=>exact absurd (show false=true from fx) N0
 | bl a=>
  cases ry;cases x with
  | non=>cases rx;exact SeqAt.EqAt.bool_none a
  | bl b=>cases rx;exact SeqAt.EqAt.bool_bool a b
  | int b=>obtain ⟨t,rfl⟩:=rx;exact SeqAt.EqAt.bool_int a b t
  | str b=>obtain ⟨t,rfl⟩:=rx;exact SeqAt.EqAt.bool_str a b t
  | _=>exact absurd (show false=true from fx) N0
 | int a=>
  obtain ⟨c,rfl⟩:=ry;cases x with
  | non=>cases rx;exact SeqAt.EqAt.int_none a c
  | bl b=>cases rx;exact SeqAt.EqAt.int_bool a c b
  | int b=>obtain ⟨t,rfl⟩:=rx;exact SeqAt.EqAt.int_int a c b t
  | str b=>obtain ⟨t,rfl⟩:=rx;exact j08 a c b t
  | _=>exact absurd (show false=true from fx) N0
 | str a=>
  obtain ⟨c,rfl⟩:=ry;cases x with
  | non=>cases rx;exact SeqAt.EqAt.str_none a c
  | bl b=>cases rx;exact SeqAt.EqAt.str_bool a c b
  | int b=>obtain ⟨t,rfl⟩:=rx;exact j07 a c b t
  | str b=>obtain ⟨t,rfl⟩:=rx;exact SeqAt.EqAt.str_str a c b t
  | _=>exact absurd (show false=true from fx) N0
 | _=>exact absurd (show false=true from fy) N0
noncomputable def eqU (x:V) (u:Value):Bool:=match u with
 | .none=>eqV .non x
 | .bool b=>eqV (.bl b) x
 | .int i _=>eqV (.int i) x
 | .str z _=>eqV (.str z) x
 | _=>false
theorem eqU_of {x y:V} {u:Value} (r:RelV y u) (f:flatV y=true):eqU x u=eqV y x:=by
 cases y with
 | non=>cases r;rfl
 | bl b=>cases r;rfl
 | int i=>obtain ⟨t,rfl⟩:=r;rfl
 | str z=>obtain ⟨t,rfl⟩:=r;rfl
 | _=>exact absurd (show false=true from f) N0
theorem zbq {x:V} :∀{xs:List V} {us:List Value},Vals xs us->xs.all flatV=true->us.any (eqU x)=xs.any λ y=>eqV y x
 | _,_,.nil,_=>rfl
 | y :: xs,u :: us,.cons r t,f=>by rw [List.all_cons,Z3] at f;rw [A7,A7,eqU_of r f.1,zbq t f.2]
theorem z73 {A:X1} {s:A0} {x:V} {v:Value} (rx:RelV x v) (fx:flatV x=true) :∀{xs:List V} {us:List Value},Vals xs us->xs.all flatV=true->∀u∈us,SeqAt.EqAt A s u v (eqU x u)
 | _,_,.nil,_=>λ u a=>by cases a
 | y :: xs,u :: us,.cons r t,f=>λ b a=>by
  rw [List.all_cons,Z3] at f;rcases List.mem_cons.mp a with rfl|a
  ·rw [eqU_of r f.1];exact eqAt_V r rx f.1 fx
  ·exact z73 rx fx t f.2 b a
noncomputable def inV (x:V) (xs:List V):Bool:=xs.any λ y=>eqV y x
noncomputable def rIn (K:c0) (neg:Bool):R2:=λ x y H Q=>∃p xs,y=.ref p/\(SqL K H p xs\/SqT K H p xs)/\flatV x=true/\xs.all flatV=true/\Q (.bl (if neg then !inV x xs else inV x xs)) H
theorem z8y:OpR X (U2 .In) (rIn X.K false):=by
 intro k s σ H x y v u Q I f g h;obtain ⟨p,j,rfl,b,e,fs,q⟩:=h;cases g;rcases b with b|b
 ·obtain ⟨a,r,c,i⟩:=I.list b;refine SeqAt.in_listAt (eqU x) c.isList (λ w d=>z73 f e r fs w (by simpa using d)) ⟨.bl _,H,I,rfl,?_⟩;rw [show a.toArray.any (eqU x)=a.any (eqU x) by simp,zbq r fs];exact q
 ·obtain ⟨a,r,c,i⟩:=I.tuple b;refine SeqAt.in_tupleAt (eqU x) c (λ w d=>z73 f e r fs w (by simpa using d)) ⟨.bl _,H,I,rfl,?_⟩;rw [show a.toArray.any (eqU x)=a.any (eqU x) by simp,zbq r fs];exact q
theorem call_len_seq:CallR X (.builtin "len") (λ xs H Q=>∃p ys,xs=[.ref p]/\(SqL X.K H p ys\/SqT X.K H p ys)/\Q (.int ys.length) H):=by
 intro i s σ H xs k Q I r h;obtain ⟨p,ys,rfl,a,q⟩:=h;obtain ⟨u,rfl,f⟩:=vals1 r;cases f;have j:=line63;rcases a with a|a
 ·obtain ⟨g,c,b,e⟩:=I.list a;have d:=c.length;exact Calls.call_len_list b.isList (by simp only [P0]<;>omega) ⟨.int ys.length,H,I.tok _,⟨s.toks + 1,by rw [P0,d]⟩,q⟩
 ·obtain ⟨g,c,b,e⟩:=I.tuple a;have d:=c.length;exact len_tuple b (by simp only [P0]<;>omega) ⟨.int ys.length,H,I.tok _,⟨s.toks + 1,by rw [P0,d]⟩,q⟩
theorem z7y:CallR X (.builtin "len") (λ xs H Q=>∃z,xs=[.str z]/\z.length<=sizeLine/\Q (.int z.length) H):=by intro b s σ H xs a Q I r h;obtain ⟨z,rfl,d,q⟩:=h;obtain ⟨u,rfl,t,rfl⟩:=vals1 r;have c:=line63;exact len_str (by omega) ⟨.int z.length,H,I.tok _,⟨_,rfl⟩,q⟩
theorem CallR.or {f:Value} {r r':List V->Hp->VK->Prop} (h:CallR X f r) (h':CallR X f r'):CallR X f (λ xs H Q=>r xs H Q\/r' xs H Q):=by
 intro b s σ H xs c Q I a q;rcases q with q|q
 ·exact h b s σ H xs c Q I a q
 ·exact h' b s σ H xs c Q I a q
theorem z1i:CallR X (.type "tuple") (λ xs H Q=>∃p ys,xs=[.ref p]/\((SqL X.K H p ys/\∀l,H l=none->Q (.ref l) (upd H l (.tup ys)))\/(SqT X.K H p ys/\Q (.ref p) H))):=by
 intro j s σ H xs t Q I r h;obtain ⟨p,ys,rfl,h⟩:=h;obtain ⟨u,rfl,n⟩:=vals1 r;cases n;rcases h with ⟨g,q⟩|⟨g,q⟩
 ·obtain ⟨c,f,d,k⟩:=I.list g;have v:=f.length;refine call_tuple_list d.isList (λ a kp=>?_) (by simp only [P0]<;>omega);have i:Inv X j σ H { s with heap:=a }:=I.kept (t':=s.toks) kp;have m:Inv X j σ (upd H a.objs.size (.tup ys)) { s with heap:=a.push { cls:=.type "tuple",data:=.seq c.toArray } }:=
   i.laid (t':=s.toks) (λ b o e=>y0 _ e) (C0 _) (show ObjOk X.prog X.w _ _ _ (.tup ys) from ⟨k,c,f,IsTupN.new _ _⟩)
  exact ⟨.ref a.objs.size,_,m,rfl,q _ (i.hok.fresh (C0 _))⟩
 ·obtain ⟨c,f,d,k⟩:=I.tuple g;exact call_tuple_same d ⟨.ref p,H,I,rfl,q⟩
def tyV (K:c0) (T:String) (x:V) (H:Hp):Prop:=match x with
 | .str _=>T = "str"
 | .int _=>T = "int"
 | .ref p=>(T = "list"/\∃xs,SqL K H p xs)\/(T = "tuple"/\∃o,K.lookup p=some o/\o.cls=.type "tuple"/\o.dict=none)\/
   (T = "dict"/\((∃kvs,H p=some (.dK kvs))\/∃kvs,H p=some (.dT kvs)))\/(T = "set"/\∃S n,H p=some (.set S n))
 | _=>False
theorem tyV_is {pins:List (Addr×Obj)} {σ:St} {H:Hp} {s:A0} {T:String} {x:V} {v:Value} (I:Inv X pins σ H s) (r:RelV x v) (ty:tyV X.K T x H) :
  s.TypeIs v T/\∀a,v=.ref a->∃ob,s.heap.get? a=some ob/\ob.dict=none:=by
 cases x with
 | str z=>obtain ⟨t,rfl⟩:=r;cases (show T = "str" from ty);exact ⟨typeIs_str s z t,λ _ e=>nomatch e⟩
 | int i=>obtain ⟨t,rfl⟩:=r;cases (show T = "int" from ty);exact ⟨typeIs_int s i t,λ _ e=>nomatch e⟩
 | ref p=>
  cases r;rcases ty with ⟨rfl,l,j⟩|⟨rfl,o,b,hc,hd⟩|⟨rfl,b⟩|⟨rfl,S,n,b⟩
  ·obtain ⟨k,_,g,_⟩:=I.list j;refine ⟨g.isList.typeIs,λ a e=>?_⟩;cases e;obtain ⟨o,n,e,c,hd,_⟩:=g;exact ⟨o,e,hd⟩
  ·refine ⟨⟨o,I.kIn p o b,hc⟩,λ a e=>?_⟩;cases e;exact ⟨o,I.kIn _ o b,hd⟩
  ·have z :∃o,s.heap.get? p=some o/\o.ExactDict:=by
    rcases b with ⟨h,b⟩|⟨h,b⟩
    ·obtain ⟨_,_,_,_,o,_,_,e,d,_⟩:=I.hok p _ b;exact ⟨o,e,d⟩
    ·obtain ⟨_,_,_,_,o,_,_,e,d,_⟩:=I.hok p _ b;exact ⟨o,e,d⟩
   obtain ⟨o,e,d⟩:=z;refine ⟨⟨o,e,d.1⟩,λ a f=>?_⟩;cases f;exact ⟨o,e,d.2.1⟩
  ·obtain ⟨o,_,_,_,e,d,_⟩:=I.hok p _ b;refine ⟨⟨o,e,d.1⟩,λ a f=>?_⟩;cases f;exact ⟨o,e,d.2.1⟩
 | _=>exact o5 ty
noncomputable def tBM0 (K:c0) (T:String) (r:V->List V->Hp->VK->Prop) (to:TE):TE:=λ σ H Q=>to σ H λ x H1=>tyV K T x H1/\r x [] H1 Q
noncomputable def tBM (K:c0) (T:String) (r:V->List V->Hp->VK->Prop) (to:TE) (t:TA):TE:=λ σ H Q=>to σ H λ x H1=>tyV K T x H1/\t σ H1 λ xs H2=>r x xs H2 Q
variable {o e:Expr} {es:List Expr} {to:TE} {t:TA} {name:Str} {apos cpos:Pos} {T id:String} {r:V->List V->Hp->VK->Prop}
theorem pe_bm0 (pa:PlainAttrs T) (slot:Slot T name id) (hty:typeOf (.builtin id)=N3 (.type "method_descriptor")) (hm:MtR X id r) (ho:PE X o to)
  (hbase:i6 o name X.env (p4 o X.env)=p4 o X.env:=by rfl) (hline:(apos.endLine == cpos.line)=true:=by rfl):PE X (.Call (.Attribute o name apos) [] [] cpos) (tBM0 X.K T r to):=by
 intro a s σ H Q I h;refine wpAny_Call_method0_late hbase hline (thn (ho a s σ H _ I h) λ v d ⟨x,H1,I1,r1,ty,q1⟩=>?_);obtain ⟨b,c⟩:=tyV_is I1 r1 ty;exact ⟨T,id,pa,slot,hty,b,c,Q4 rfl (j1i (hm a d σ H1 x [] v [] Q I1 r1 .nil q1))⟩
theorem pe_bm (pa:PlainAttrs T) (slot:Slot T name id) (hty:typeOf (.builtin id)=N3 (.type "method_descriptor")) (hm:MtR X id r) (ho:PE X o to) (ha:PA X (e :: es) t)
  (hbase:i6 o name X.env (p4 o X.env)=p4 o X.env:=by rfl)
  (hfew:((Z5 cpos (V1 (e :: es) X.env)).all (λ x=>!x.1) && (backToKw cpos (j06 [] X.env)).all (λ x=>x.1.isSome)
   && decide ((e :: es).length + ([]:List G8).length + (if ([]:List G8).isEmpty then 0 else 1) < 30))=true:=by rfl)
  (hline:(apos.endLine == cpos.line)=true:=by rfl) (hs:V1 (e :: es) X.env=(false,p4 e X.env) :: V1 es X.env:=by rfl) (hplain:(Z5 cpos (V1 es X.env)).any (·.1)=false:=by rfl) :
  PE X (.Call (.Attribute o name apos) (e :: es) [] cpos) (tBM X.K T r to t):=by
 intro a s σ H Q I h;refine wpAny_Call_method_late hbase hfew hline rfl (thn (ho a s σ H _ I h) λ v f ⟨x,H1,I1,r1,ty,q1⟩=>?_);obtain ⟨c,d⟩:=tyV_is I1 r1 ty;refine ⟨T,id,pa,slot,hty,c,d,?_⟩;have b:=ha cpos a f σ H1 _ I1 q1;rw [hs] at b⊢;refine Q4 (by show (false || (Z5 cpos (V1 es X.env)).any (·.1))=false;rw [hplain]<;>rfl) (o8 ?_);exact thn b λ g i ⟨vs,H2,I2,r2,q2⟩=>hm a i σ H2 x vs v g Q I2 r1 r2 q2
end
def MtM (X:Cx) (id:String) (r:V->List V->Hp->VK->Prop):Prop:=
 ∀(pins:List (Addr×Obj)) (s:A0) (σ:St) (H:Hp) (x:V) (xs:List V) (v:Value) (us:List Value) (Q:VK),Inv X pins σ H s->RelV x v->Vals xs us->r x xs H Q->
  R0 (Y0 X.prog X.w) X.A (call (.builtin id) (v :: us)) (EP X pins σ Q) X.xe s
theorem Vals.one :∀{x:V} {us:List Value},Vals [x] us->∃u,us=[u]/\RelV x u
 | _,_,.cons r .nil=>⟨_,rfl,r⟩
theorem Vals.zero :∀{us:List Value},Vals [] us->us=[]
 | _,.nil=>rfl
theorem Vals.dropLast {xs:List V} {us:List Value} (h:Vals xs us):Vals xs.dropLast us.dropLast:=by
 induction h with
 | nil=>exact .nil
 | cons r t ih=>
  cases t with
  | nil=>exact .nil
  | cons q t'=>exact .cons r ih
theorem zbw {α:Type} (l:List α):l.eraseIdx (l.length - 1)=l.dropLast:=by
 induction l with
 | nil=>rfl
 | cons a r ih=>
  cases r with
  | nil=>rfl
  | cons b r=>
   have e:(a :: b :: r).length - 1=((b :: r).length - 1) + 1:=by have d:(a :: b :: r).length=r.length + 2:=rfl;have c:(b :: r).length=r.length + 1:=rfl;omega
   rw [e,List.eraseIdx_cons_succ,ih]
   all_goals rfl
section
variable {X:Cx} {pins:List (Addr×Obj)} {σ:St} {H:Hp} {s:A0} {l b:Addr} {xs ys zs:List V}
theorem Inv.lset {its its':List Value} {n:Nat} {f:Array Value->Array Value} {t':Nat} (I:Inv X pins σ H s) (hH:H l=some (.lst xs))
  (e:s.heap.get? l=some { cls:=.type "list",data:=.seq its.toArray n }) (hf:f its.toArray=its'.toArray) (hv:Vals ys its') (hz:ys.length<=sizeLine) :
  Inv X pins σ (upd H l (.lst ys)) { s with heap:=s.heap.update l (U1 f),toks:=t' }:=by
 have q:=PySem.IsL.update e f;rw [hf] at q;refine I.write (x:=l) (e:=l) (by rw [hH];exact trivial) (.inl rfl) (λ c u b a=>(Q7 s.heap (U1 f) (P3 b)).trans a) ⟨_,q⟩ ?_;exact ⟨hz,its',_,hv,q⟩
theorem Inv.lnew {its:List Value} {t':Nat} (I:Inv X pins σ H s) (hv:Vals ys its) (hz:ys.length<=sizeLine) :
  Inv X pins σ (upd H s.heap.objs.size (.lst ys)) { s with heap:=s.heap.push { cls:=.type "list",data:=.seq its.toArray },toks:=t' }:=
 I.laid (λ _ _ q=>y0 _ q) (C0 _) ⟨hz,its,0,hv,O0 _ rfl⟩
theorem Inv.fresh (I:Inv X pins σ H s):H s.heap.objs.size=none:=I.hok.fresh (C0 _)
theorem Inv.lstM (I:Inv X pins σ H s) (hH:H l=some (.lst xs)):xs.length<=sizeLine/\∃(its:List Value) (n:Nat),Vals xs its/\xs.length=its.length/\s.heap.get? l=some { cls:=.type "list",data:=.seq its.toArray n }:=by obtain ⟨z,its,n,r,e⟩:=I.hok l _ hH;exact ⟨z,its,n,r,r.length,e⟩
end
section
variable {X:Cx}
def za9:V->List V->Hp->VK->Prop:=λ x vs H Q=>∃l xs y,x=.ref l/\vs=[y]/\H l=some (.lst xs)/\xs.length < sizeLine/\Q .non (upd H l (.lst (xs++[y])))
theorem ze6:MtM X "list.append" za9:=by intro m s σ H x g v i Q I d c h;obtain ⟨l,k,y,rfl,rfl,b,o,q⟩:=h;cases d;obtain ⟨u,rfl,f⟩:=c.one;obtain ⟨z,a,n,r,j,e⟩:=I.lstM b;refine call_meets F.slot_list_append ⟨_,e,rfl⟩ F.entry_list_append (F.args_list_append_2 _ _) (PySem.list_append l a.toArray n u (by rw [P0];omega)) ⟨e,?_⟩;refine ⟨.non,_,I.lset (its':=a++[u]) b e (by simp) (r.append (.cons f .nil)) ?_,rfl,q⟩;rw [J0,T3];omega
def rPop:V->List V->Hp->VK->Prop:=λ x vs H Q=>∃l xs y,x=.ref l/\vs=[]/\H l=some (.lst xs)/\xs[xs.length - 1]? = some y/\Q y (upd H l (.lst xs.dropLast))
theorem mt_pop:MtM X "list.pop" rPop:=by
 intro w s σ H x o v p Q I j f h;obtain ⟨l,t,y,rfl,rfl,b,g,q⟩:=h;cases j;have c:=f.zero;subst c;obtain ⟨z,a,n,r,d,e⟩:=I.lstM b;obtain ⟨u,i,m⟩:=r.get g;have k:a.toArray[a.toArray.size - 1]? = some u:=by show a.toArray[a.length - 1]? = some u;rw [<-Array.getElem?_toList,<-d];exact i
 refine call_meets F.slot_list_pop ⟨_,e,rfl⟩ F.entry_list_pop (F.args_list_pop_1 _) (MeetsSeq.list_pop_last l a.toArray n u k (by rw [P0];omega)) ⟨e,?_⟩;refine ⟨y,_,I.lset (its':=a.dropLast) b e ?_ r.dropLast ?_,m,q⟩
 ·show a.toArray.eraseIdxIfInBounds (a.toArray.size - 1)=a.dropLast.toArray;rw [P0,List.eraseIdxIfInBounds_toArray,zbw]
 ·rw [List.length_dropLast];omega
noncomputable def rCat:R2:=λ x y H Q=>∃l b xs zs,x=.ref l/\y=.ref b/\H l=some (.lst xs)/\H b=some (.lst zs)/\xs.length + zs.length<=sizeLine/\∀p,H p=none->Q (.ref p) (upd H p (.lst (xs++zs)))
theorem op_cat:OpR X (M4 .Add) rCat:=by
 intro B s σ H x y v u Q I m g h;obtain ⟨l,b,t,A,rfl,rfl,f,k,C,q⟩:=h;cases m;cases g;obtain ⟨z,a,n,r,o,e⟩:=I.lstM f;obtain ⟨p,c,w,i,D,d⟩:=I.lstM k;refine PySem.P.add_list e d ?_ (by rw [P0,P0];omega);have j:a.toArray++c.toArray=(a++c).toArray:=by simp
 rw [j];exact ⟨.ref _,_,I.lnew (t':=s.toks) (r.append i) (by rw [J0];omega),rfl,q _ I.fresh⟩
end
section
variable {prog:Program} {w:S0} {A:X1} {E:Value->A0->Prop} {s:A0}
set_option maxRecDepth 100000 in
end
section
variable {κ:Type} [DecidableEq κ]
noncomputable def valV (kvs:List (κ×V)) (k:κ):Option V:=(kvs.find? λ kv=>decide (kv.1=k)).map (·.2)
noncomputable def putK (kvs:List (κ×V)) (k:κ) (v:V):List (κ×V):=
 if (kvs.any λ kv=>decide (kv.1=k))=true then kvs.map (λ kv=>if kv.1=k then (kv.1,v) else kv) else kvs++[(k,v)]
noncomputable def dropK (kvs:List (κ×V)) (k:κ):List (κ×V):=kvs.filter λ kv=>decide (kv.1≠k)
theorem z0r {p:κ×V} {r:List (κ×V)} {k:κ} (e:p.1=k):valV (p :: r) k=some p.2:=by simp [valV,C4,e]
theorem z0t {p:κ×V} {r:List (κ×V)} {k:κ} (e:¬ p.1=k):valV (p :: r) k=valV r k:=by simp [valV,C4,e]
theorem z4z (k:κ) :∀kvs:List (κ×V),(kvs.any λ kv=>decide (kv.1=k))=(valV kvs k).isSome
 | []=>rfl
 | p :: r=>by
  rw [A7];by_cases e:p.1=k
  ·simp only [z0r e,decide_eq_true e,Bool.true_or,Option.isSome_some]
  ·rw [z0t e,decide_eq_false e,Bool.false_or];exact z4z k r
theorem zc6 (k j:κ) (y:V) :∀kvs:List (κ×V),valV (kvs.map λ kv=>if kv.1=k then (kv.1,y) else kv) j=(valV kvs j).map λ x=>if j=k then y else x
 | []=>rfl
 | p :: r=>by
  have a:=zc6 k j y r;rw [X0];by_cases h:p.1=k
  ·rw [if_pos h];by_cases e:p.1=j
   ·rw [z0r (p:=(p.1,y)) e,z0r e,J7,if_pos (e.symm.trans h)]
   ·rw [z0t (p:=(p.1,y)) e,z0t e,a]
  ·rw [if_neg h];by_cases e:p.1=j
   ·rw [z0r (p:=p) e,z0r e,J7,if_neg (λ z=>h (e.trans z))]
   ·rw [z0t (p:=p) e,z0t e,a]
theorem z8u (k j:κ) (y:V) :∀kvs:List (κ×V),valV kvs k=none->valV (kvs++[(k,y)]) j=if j=k then some y else valV kvs j
 | [],_=>by
  by_cases e:k=j
  ·rw [if_pos e.symm];exact z0r (p:=(k,y)) e
  ·rw [if_neg (λ z=>e z.symm)];exact z0t (p:=(k,y)) e
 | p :: r,hn=>by
  rw [List.cons_append];have a:¬ p.1=k:=λ z=>by rw [z0r z] at hn;cases hn
  rw [z0t a] at hn;have b:=z8u k j y r hn;by_cases e:p.1=j
  ·rw [z0r e,z0r e,if_neg (λ z=>a (e.trans z))]
  ·rw [z0t e,z0t e,b]
theorem z7o (kvs:List (κ×V)) (k j:κ) (y:V):valV (putK kvs k y) j=if j=k then some y else valV kvs j:=by
 unfold putK;by_cases a:(kvs.any λ b=>decide (b.1=k))=true
 ·rw [if_pos a,zc6];rw [z4z] at a;by_cases e:j=k
  ·obtain ⟨x,c⟩:=Option.isSome_iff_exists.mp a;rw [if_pos e,e,c,J7,if_pos rfl]
  ·rw [if_neg e];cases valV kvs j with
   | none=>rfl
   | some x=>rw [J7,if_neg e]
 ·rw [if_neg a];refine z8u k j y kvs ?_;rw [z4z] at a;cases q:valV kvs k with
  | none=>rfl
  | some x=>rw [q] at a;exact (a rfl).elim
theorem z1m (kvs:List (κ×V)) (k:κ) (v:V):(putK kvs k v).length<=kvs.length + 1:=by
 unfold putK;split
 ·rw [G0];omega
 ·rw [J0,Z0,U4];omega
theorem RelO.isSome_eq {o:Option V} {u:Option Value} (r:RelO o u):o.isSome=u.isSome:=by
 cases o with
 | none=>cases u with
  | none=>rfl
  | some _=>exact (show False from r).elim
 | some _=>cases u with
  | none=>exact (show False from r).elim
  | some _=>rfl
theorem RelO.getD {o:Option V} {u:Option Value} {d:V} {d':Value} (r:RelO o u) (rd:RelV d d'):RelV (o.getD d) (u.getD d'):=by
 cases o with
 | none=>cases u with
  | none=>exact rd
  | some _=>exact (show False from r).elim
 | some _=>cases u with
  | none=>exact (show False from r).elim
  | some _=>exact r
theorem KV.val {kvs:List (κ×V)} {vs:List (κ×Value)} (r:KV kvs vs) (k:κ):RelO (valV kvs k) (Z8 vs k):=by
 unfold KV at r;induction r with
 | nil=>exact True.intro
 | @cons p q ps qs h t ih=>
  obtain ⟨c,d⟩:=h;by_cases e:p.1=k
  ·have a:q.1=k:=c.symm.trans e;have b:Z8 (q :: qs) k=some q.2:=by simp [Z8,C4,a]
   rw [z0r e,b];exact d
  ·have a:¬ q.1=k:=λ z=>e (c.trans z);have b:Z8 (q :: qs) k=Z8 qs k:=by simp [Z8,C4,a]
   rw [z0t e,b];exact ih
theorem KV.any {kvs:List (κ×V)} {vs:List (κ×Value)} (r:KV kvs vs) (k:κ):(kvs.any λ kv=>decide (kv.1=k))=vs.any λ kv=>decide (kv.1=k):=by
 unfold KV at r;induction r with
 | nil=>rfl
 | cons h t ih=>rw [A7,A7,ih,h.1]
theorem KV.repl {kvs:List (κ×V)} {vs:List (κ×Value)} (r:KV kvs vs) (k:κ) {y:V} {u:Value} (ry:RelV y u) :
  KV (kvs.map λ kv=>if kv.1=k then (kv.1,y) else kv) (vs.map λ kv=>if kv.1=k then (kv.1,u) else kv):=by
 unfold KV at r⊢;induction r with
 | nil=>exact .nil
 | @cons p q ps qs h t ih=>
  rw [X0,X0];refine .cons ?_ ih;obtain ⟨a,b⟩:=h;by_cases e:p.1=k
  ·rw [if_pos e,if_pos (a.symm.trans e)];exact ⟨a,ry⟩
  ·rw [if_neg e,if_neg (λ z=>e (a.trans z))];exact ⟨a,b⟩
theorem KV.put {kvs:List (κ×V)} {vs:List (κ×Value)} (r:KV kvs vs) (k:κ) {y:V} {u:Value} (ry:RelV y u):KV (putK kvs k y) (stored vs k u):=by
 unfold putK stored;rw [r.any k];by_cases e:(vs.any λ a=>decide (a.1=k))=true
 ·rw [if_pos e,if_pos e];exact r.repl k ry
 ·rw [if_neg e,if_neg e];exact Paired.snoc r ⟨rfl,ry⟩
theorem KV.drop {kvs:List (κ×V)} {vs:List (κ×Value)} (r:KV kvs vs) (k:κ):KV (dropK kvs k) (without vs k):=by
 unfold KV at r⊢;unfold dropK without;induction r with
 | nil=>exact .nil
 | @cons p q ps qs h t ih=>
  obtain ⟨c,f⟩:=h;rw [E6,E6];by_cases e:p.1=k
  ·have a:¬ decide (p.1≠k)=true:=by simp [e]
   have b:¬ decide (q.1≠k)=true:=by simp [c.symm.trans e]
   rw [if_neg a,if_neg b];exact ih
  ·have d:¬ q.1=k:=λ z=>e (c.trans z);have a:decide (p.1≠k)=true:=by simp [e]
   have b:decide (q.1≠k)=true:=by simp [d]
   rw [if_pos a,if_pos b];exact .cons ⟨c,f⟩ ih
theorem KV.length {kvs:List (κ×V)} {vs:List (κ×Value)} (r:KV kvs vs):kvs.length=vs.length:=E8 r
theorem zf8 (kvs:List (κ×V)) (k:κ):(dropK kvs k).length<=kvs.length:=O1 _ _
end
theorem kV_is {P:Program} {w:S0} {k:Key} {u:Value} (r:RelV (kV k) u):(z0g P w).is k u=true:=by
 cases k with
 | inl i=>obtain ⟨t,e⟩:=(show∃t,u=U5 i t from r);subst e;exact z9z P w i t
 | inr x=>obtain ⟨t,e⟩:=(show∃t,u=c9 x t from r);subst e;exact z99 P w x t
theorem z8g {P:Program} {w:S0} :∀{ks:List Key} {us:List Value},Vals (ks.map kV) us->ItemsAre (z0g P w) ks us
 | [],_,r=>by rw [P7] at r;cases r;exact .nil
 | k :: ks,_,r=>by
  rw [X0] at r;cases r with
  | cons h t=>exact .cons (kV_is h) (z8g t)
abbrev KT (H:Hp):List (List Key×V)->List (List Key×Addr×Value)->Prop:=X7 λ p q=>p.1=q.1/\H q.2.1=some (.tup (p.1.map kV))/\RelV p.2 q.2.2
theorem KT.val {H:Hp} {kvs:List (List Key×V)} {xs:List (List Key×Addr×Value)} (r:KT H kvs xs) (k:List Key):RelO (valV kvs k) ((L8 xs k).map (·.2)):=by
 induction r with
 | nil=>exact True.intro
 | @cons p q ps qs h t ih=>
  obtain ⟨c,_,d⟩:=h;by_cases e:p.1=k
  ·have a:q.1=k:=c.symm.trans e;have b:L8 (q :: qs) k=some q.2:=by simp [L8,C4,a]
   rw [z0r e,b];exact d
  ·have a:¬ q.1=k:=λ z=>e (c.trans z);have b:L8 (q :: qs) k=L8 qs k:=by simp [L8,C4,a]
   rw [z0t e,b];exact ih
theorem KT.repl {H:Hp} {kvs:List (List Key×V)} {xs:List (List Key×Addr×Value)} (r:KT H kvs xs) (k:List Key) {y:V} {u:Value} (ry:RelV y u) :
  KT H (kvs.map λ kv=>if kv.1=k then (kv.1,y) else kv) (xs.map (putAt k u)):=by
 induction r with
 | nil=>exact .nil
 | @cons p q ps qs h t ih=>
  rw [X0,X0];refine .cons ?_ ih;obtain ⟨a,b,c⟩:=h;unfold putAt;by_cases e:p.1=k
  ·rw [if_pos e,if_pos (a.symm.trans e)];exact ⟨a,b,ry⟩
  ·rw [if_neg e,if_neg (λ z=>e (a.trans z))];exact ⟨a,b,c⟩
theorem KT.put {H:Hp} {kvs:List (List Key×V)} {xs:List (List Key×Addr×Value)} (r:KT H kvs xs) (k:List Key) {b:Addr} {y:V} {u:Value} (hb:H b=some (.tup (k.map kV))) (ry:RelV y u) :
  KT H (putK kvs k y) (storedH xs k b u):=by
 have e:(kvs.any λ a=>decide (a.1=k))=(L8 xs k).isSome:=by rw [z4z,(r.val k).isSome_eq,g6]
 unfold putK storedH;rw [e];by_cases q:(L8 xs k).isSome=true
 ·rw [if_pos q,if_pos q];exact r.repl k ry
 ·rw [if_neg q,if_neg q];exact Paired.snoc r ⟨rfl,hb,ry⟩
theorem KT.keeps {H H':Hp} {kvs:List (List Key×V)} {xs:List (List Key×Addr×Value)} (r:KT H kvs xs) (ht :∀b ys,H b=some (.tup ys)->H' b=some (.tup ys)):KT H' kvs xs:=
 Paired.mapP r λ _ _ z=>⟨z.1,ht _ _ z.2.1,z.2.2⟩
section
variable {P:Program} {w:S0} {H:Hp} {h:Heap} {a:Addr}
theorem rd_of {u:HO} (ok:HOk P w H h) (e:Rd H a u):ObjOk P w H h a u:=e.ok ok
theorem dk_rd {kvs:List (Key×V)} (ok:HOk P w H h) (e:Rd H a (.dK kvs)):kvs.length<=sizeLine/\(a == j4)=false/\∃vs,KV kvs vs/\h.DictOf (z0g P w) a vs:=
 show ObjOk P w H h a (.dK kvs) from rd_of ok e
theorem dk_of {kvs:List (Key×V)} (ok:HOk P w H h) (e:H a=some (.dK kvs)):kvs.length<=sizeLine/\(a == j4)=false/\∃vs,KV kvs vs/\h.DictOf (z0g P w) a vs:=dk_rd ok (.inl e)
theorem key_of {ks:List Key} (ok:HOk P w H h) (e:H a=some (.tup (ks.map kV))):(B6 (z0g P w)).is h ks a:=by
 obtain ⟨_,f,r,⟨o,d,c,n,b⟩,_⟩:=(show ObjOk P w H h a (.tup (ks.map kV)) from ok a _ e)
 exact ⟨o,f.toArray,n,d,c,b,by simpa using z8g r⟩
theorem dt_rd {kvs:List (List Key×V)} (ok:HOk P w H h) (e:Rd H a (.dT kvs)):kvs.length<=sizeLine/\(a == j4)=false/\
  ∃xs,KT H kvs xs/\h.DictOfH (B6 (z0g P w)) a xs:=by
 obtain ⟨z,y,xs,r,o,j,k,d,f,c,g,i⟩:=(show ObjOk P w H h a (.dT kvs) from rd_of ok e)
 refine ⟨z,y,xs,r,o,j,k,d,f,c,g,λ x b=>?_,i⟩;have all :∀{l:List (List Key×V)} {m:List (List Key×Addr×Value)},KT H l m->∀x∈m,(B6 (z0g P w)).is h x.1 x.2.1:=by
  intro l m q;induction q with
  | nil=>intro x b;exact nomatch b
  | @cons p q ps qs hq t ih=>
   intro x b;rcases List.mem_cons.mp b with e|b
   ·subst e;exact key_of ok (by rw [<-hq.1];exact hq.2.1)
   ·exact ih x b
 exact all r x b
theorem dt_of {kvs:List (List Key×V)} (ok:HOk P w H h) (e:H a=some (.dT kvs)):kvs.length<=sizeLine/\(a == j4)=false/\
  ∃xs,KT H kvs xs/\h.DictOfH (B6 (z0g P w)) a xs:=dt_rd ok (.inl e)
end
def DGet (H:Hp) (a:Addr) (y:V) (r:Option V):Prop:=
 (∃kvs k,Rd H a (.dK kvs)/\y=kV k/\r=valV kvs k)\/∃kvs k b,Rd H a (.dT kvs)/\y=.ref b/\H b=some (.tup (k.map kV))/\r=valV kvs k
def DPut (H:Hp) (a:Addr) (y v:V) (H':Hp):Prop:=
 (∃kvs k,H a=some (.dK kvs)/\y=kV k/\kvs.length < sizeLine/\H'=upd H a (.dK (putK kvs k v)))\/
 ∃kvs k b,H a=some (.dT kvs)/\y=.ref b/\H b=some (.tup (k.map kV))/\kvs.length < sizeLine/\H'=upd H a (.dT (putK kvs k v))
theorem DGet.k {H:Hp} {a:Addr} {kvs:List (Key×V)} {k:Key} (e:H a=some (.dK kvs)):DGet H a (kV k) (valV kvs k):=.inl ⟨kvs,k,.inl e,rfl,rfl⟩
theorem DPut.k {H:Hp} {a:Addr} {kvs:List (Key×V)} {k:Key} {v:V} (e:H a=some (.dK kvs)) (hl:kvs.length < sizeLine):DPut H a (kV k) v (upd H a (.dK (putK kvs k v))):=.inl ⟨kvs,k,e,rfl,hl,rfl⟩
section
variable {X:Cx} {pins:List (Addr×Obj)} {σ:St} {H:Hp} {s:A0} {a:Addr} {y v:V} {u r:Value} {o:Option V} {A:X1} {E:Value->A0->Prop}
theorem Inv.big (I:Inv X pins σ H s):j4 < s.heap.objs.size:=by have h:Y1 < s.heap.objs.size:=(I.mod.glob.keeps I.bk).lt;exact A6 (by decide) h
theorem zdw {Q:Value->A0->Prop} (hu:A.units + 1 < cLine) (I:Inv X pins σ H s) (g:DGet H a y (some v)) (ry:RelV y u) (h :∀w' s',Inv X pins σ H s'->RelV v w'->Q w' s') :
  R0 (Y0 X.prog X.w) A (a9 (.ref a) u) Q E s:=by
 rcases g with ⟨m,k,e,d,l⟩|⟨m,k,b,e,d,eb,l⟩
 ·subst d;obtain ⟨z,hd,q,f,i⟩:=dk_rd I.hok e;obtain ⟨w',j,c⟩:=RelO.some_of (v:=v) (o:=Z8 q k) (by rw [l];exact f.val k);exact wpAny_getItem_of (kV_is ry) i.mapOf j (h w' _ (I.tok _) c)
 ·subst d;cases (show u=F1 b from ry);obtain ⟨z,hd,t,f,i⟩:=dt_rd I.hok e;obtain ⟨w',j,c⟩:=RelO.some_of (v:=v) (o:=(L8 t k).map (·.2)) (by rw [l];exact f.val k);obtain ⟨p,n,r⟩:=Option.map_eq_some_iff.mp j;refine wpAny_getItem_heap (w6 hu) (key_of I.hok eb) i n ?_;rw [r];exact h w' _ (I.tok _) c
theorem d_in {Q:Value->A0->Prop} (hu:A.units + 1 < cLine) (I:Inv X pins σ H s) (g:DGet H a y o) (ry:RelV y u) (h :∀s',Inv X pins σ H s'->Q (.bool o.isSome) s') :
  R0 (Y0 X.prog X.w) A (U2 .In u (.ref a)) Q E s:=by
 rcases g with ⟨i,k,e,c,l⟩|⟨i,k,b,e,c,eb,l⟩
 ·subst c;obtain ⟨z,hd,j,d,f⟩:=dk_rd I.hok e;refine wpAny_in_of (kV_is ry) hd f.mapOf ?_;rw [<-(d.val k).isSome_eq,<-l];exact h _ (I.tok _)
 ·subst c;cases (show u=F1 b from ry);obtain ⟨z,hd,m,d,f⟩:=dt_rd I.hok e;refine wpAny_in_heap (w6 hu) (key_of I.hok eb) hd f ?_;have q:=(d.val k).isSome_eq;rw [g6] at q;rw [<-q,<-l];exact h _ (I.tok _)
theorem zgh {Q:Value->A0->Prop} (hu:A.units + 1 < cLine) (I:Inv X pins σ H s) (g:DGet H a y o) (ry:RelV y u) (h :∀s',Inv X pins σ H s'->Q (.bool (!o.isSome)) s') :
  R0 (Y0 X.prog X.w) A (U2 .NotIn u (.ref a)) Q E s:=by
 rcases g with ⟨i,k,e,c,l⟩|⟨i,k,b,e,c,eb,l⟩
 ·subst c;obtain ⟨z,hd,j,d,f⟩:=dk_rd I.hok e;refine wpAny_notIn_of (kV_is ry) hd f.mapOf ?_;rw [<-(d.val k).isSome_eq,<-l];exact h _ (I.tok _)
 ·subst c;cases (show u=F1 b from ry);obtain ⟨z,hd,m,d,f⟩:=dt_rd I.hok e;refine X9 (w6 hu) (key_of I.hok eb) hd f ?_;have q:=(d.val k).isSome_eq;rw [g6] at q;rw [<-q,<-l];exact h _ (I.tok _)
theorem z4d {h':Heap} {t':Nat} {ob:HO} (I:Inv X pins σ H s) (mu:Mut (H a)) (hs:S6 a s.heap h') (he :∃q,h'.get? a=some q) (new:ObjOk X.prog X.w (upd H a ob) h' a ob) :
  Inv X pins σ (upd H a ob) { s with heap:=h',toks:=t' }:=
 I.write (x:=a) (e:=a) mu (.inl rfl) (λ b q c z=>(hs.2 b c).trans z) he new
theorem dk_new {P:Program} {w:S0} {H':Hp} {h':Heap} {kvs:List (Key×V)} {vs:List (Key×Value)} (z:kvs.length<=sizeLine) (hd:(a == j4)=false) (rel:KV kvs vs) (dd:h'.DictOf (z0g P w) a vs) :
  ObjOk P w H' h' a (.dK kvs):=⟨z,hd,vs,rel,dd⟩
theorem zen {H':Hp} {Q:Unit->A0->Prop} (hu:A.units + 1 < cLine) (I:Inv X pins σ H s) (g:DPut H a y v H') (ry:RelV y u) (rv:RelV v r) (h :∀s',Inv X pins σ H' s'->Q () s') :
  R0 (Y0 X.prog X.w) A (setItem (.ref a) u r) Q E s:=by
 rcases g with ⟨d,k,e,m,l,t⟩|⟨d,k,b,e,m,eb,l,t⟩
 ·subst m t;obtain ⟨z,hd,G,f,p⟩:=dk_of I.hok e;have x:G.length<=sizeLine:=by rw [<-f.length];exact z
  have o:(putK d k v).length<=sizeLine:=by have:=z1m d k v;omega
  refine wpAny_setItem_pairs (hsz:=x) (kV_is ry) p λ C i n=>h _ ?_;have J :∃q,C.get? a=some q:=let ⟨q,_,_,j,_⟩:=i;⟨q,j⟩;exact z4d I (by rw [e];exact True.intro) n J (dk_new o hd (f.put k rv) i)
 ·subst m t;cases (show u=F1 b from ry);obtain ⟨z,hd,L,f,p⟩:=dt_of I.hok e;have x:L.length<=sizeLine:=by rw [<-E8 f];exact z
  have o:(putK d k v).length<=sizeLine:=by have:=z1m d k v;omega
  refine wpAny_setItem_heap (hsz:=x) (w6 hu) (key_of I.hok eb) p λ C i n=>h _ ?_;obtain ⟨q,N,O,j,M,D,F,_,K⟩:=i;refine z4d I (by rw [e];exact True.intro) n ⟨q,j⟩ ⟨o,hd,_,(f.put k eb rv).keeps λ c P B=>?_,q,N,O,j,M,D,F,K⟩;rw [upd_ne (ne_of B e (λ z=>nomatch z))];exact B
end
section
variable {X:Cx} {pins:List (Addr×Obj)} {σ:St} {H:Hp} {s:A0} {a:Addr} {kvs:List (Key×V)} {k:Key} {u:Value} {A:X1} {E:Value->A0->Prop}
theorem d_pop {v:V} {more:List Value} {Q:Value->A0->Prop} (I:Inv X pins σ H s) (e:H a=some (.dK kvs)) (ry:RelV (kV k) u) (l:valV kvs k=some v) (hm:more=[]\/∃x,more=[x])
  (h :∀w' s',Inv X pins σ (upd H a (.dK (dropK kvs k))) s'->RelV v w'->Q w' s'):R0 (Y0 X.prog X.w) A (call (.builtin "dict.pop") (.ref a :: u :: more)) Q E s:=by
 obtain ⟨z,hd,c,b,f⟩:=dk_of I.hok e;obtain ⟨w',r,g⟩:=RelO.some_of (v:=v) (o:=Z8 c k) (by rw [<-l];exact b.val k);have m:(keyPart u).isSome=true:=by
  cases k with
  | inl i=>obtain ⟨t,q⟩:=(show∃t,u=U5 i t from ry);subst q;rfl
  | inr x=>obtain ⟨t,q⟩:=(show∃t,u=c9 x t from ry);subst q;rfl
 have y:argsOk "dict.pop" ⟨.ref a :: u :: more,[]⟩:=by
  rcases hm with q|⟨x,q⟩
  ·subst q;exact PySem.F.args_dict_pop_2 _ _
  ·subst q;exact PySem.F.args_dict_pop_3 _ _ _
 refine Q9 j09 f.typeIs PySem.F.entry_dict_pop y (meets_dict_pop_there (z0g X.prog X.w) a (kV_is ry) more hm m)
  ⟨c,w',f,by rw [<-b.length];exact z,r,λ n d j=>h w' _ ?_ g⟩
 have p :∃q,n.get? a=some q:=let ⟨q,_,_,hq,_⟩:=d;⟨q,hq⟩;exact z4d I (by rw [e];exact True.intro) j p (dk_new (L0 (zf8 kvs k) z) hd (b.drop k) d)
end
def NoSl (i:Expr):Prop:=∀ov iv,j04 i false ov iv=operate [ov,iv] (a9 ov iv)
theorem zgq {prog:Program} {w:S0} {A:X1} {E:Value->A0->Prop} {s:A0} {env:Env} {value slice:Expr} {pos:Pos} {T id:String} {Q:Value->A0->Prop}
  (hl:typeLookup (.type T) "__getitem__" = N3 (some (.builtin id))) (hs:NoSl slice)
  (h:R0 (Y0 prog w) A (p4 value env) (λ o s₁=>R0 (Y0 prog w) A (p4 slice env) (λ i s₂=>s₂.TypeIs o T/\R0 (Y0 prog w) A (a9 o i) Q E s₂) E s₁) E s) :
  R0 (Y0 prog w) A (p4 (.Subscript value slice pos) env) Q E s:=by
 refine Subscript_ (Q3 h (λ o s₁ e=>Q3 e (λ i s₂ a=>?_) λ _ _ x=>x) λ _ _ x=>x);obtain ⟨c,a⟩:=a;unfold subscriptTail;refine o0 ?_;rw [getitemInPython_of_ne c.not_modules];refine o0 (wpAny_specialOf c hl ?_);have fin:R0 (Y0 prog w) A (j04 slice false o i) (λ r b=>R0 (Y0 prog w) A (letTemporaryGo value o r >>= λ _=>N3 r) Q E b) E s₂:=by rw [hs o i];exact wpAny_operating (Q3 a (λ r b d=>o0 (wpAny_letTemporaryGo (F0 d))) λ _ _ x=>x)
 first
  | exact F0 (o0 fin)
  | exact o0 (F0 (o0 fin))
  | exact o0 fin
theorem za4 {X:Cx} {pins:List (Addr×Obj)} {σ:St} {H:Hp} {s:A0} {a:Addr} {y:V} {o:Option V} (I:Inv X pins σ H s) (g:DGet H a y o):s.TypeIs (.ref a) "dict":=by
 rcases g with ⟨d,k,e,_,_⟩|⟨d,k,b,e,_,_,_⟩
 ·obtain ⟨_,_,f,_,c⟩:=dk_rd I.hok e;exact c.typeIs
 ·obtain ⟨_,_,h,_,c⟩:=dt_rd I.hok e;exact c.typeIs
noncomputable def tDGet (td ty:TE):TE:=λ σ H Q=>td σ H λ x H1=>ty σ H1 λ y H2=>∃a v,x=.ref a/\DGet H2 a y (some v)/\Q v H2
noncomputable def tDIn (ty td:TE):TE:=λ σ H Q=>ty σ H λ y H1=>td σ H1 λ x H2=>∃a o,x=.ref a/\DGet H2 a y o/\Q (.bl o.isSome) H2
noncomputable def zgc (ty td:TE):TE:=λ σ H Q=>ty σ H λ y H1=>td σ H1 λ x H2=>∃a o,x=.ref a/\DGet H2 a y o/\Q (.bl (!o.isSome)) H2
noncomputable def sDPut (td ty tv:TE):TS:=λ D σ H=>tv σ H λ v H1=>td σ H1 λ x H2=>ty σ H2 λ y H3=>∃a H4,x=.ref a/\DPut H3 a y v H4/\D.nx σ H4
section
variable {X:Cx} {o i e value:Expr} {pos pos' tpos:Pos} {td ty tv:TE}
theorem zbm (hu:X.A.units + 1 < cLine) (ho:PE X o td) (hi:PE X i ty) (hs:NoSl i):PE X (.Subscript o i pos) (tDGet td ty):=by intro b s σ H Q I h;refine zgq PySem.F.slot_dict_getitem.lookup hs (thn (ho b s σ H _ I h) λ u e ⟨x,H1,I1,rx,q1⟩=>thn (hi b e σ H1 _ I1 q1) λ j l ⟨y,H2,I2,ry,a,v,ex,g,q2⟩=>?_);subst ex;obtain rfl:u=F1 a:=rx;exact ⟨za4 I2 g,zdw hu I2 g ry λ k f d c=>⟨v,H2,d,c,q2⟩⟩
theorem pc_din (hu:X.A.units + 1 < cLine) (hi:PE X i ty) (ho:PE X o td):PC X .In i o (tDIn ty td):=by intro b s σ H Q I h;refine thn (hi b s σ H _ I h) λ f c ⟨y,H1,I1,ry,q1⟩=>thn (ho b c σ H1 _ I1 q1) λ u j ⟨x,H2,I2,rx,a,ov,ex,g,q2⟩=>?_;subst ex;obtain rfl:u=F1 a:=rx;exact d_in hu I2 g ry λ e d=>⟨.bl ov.isSome,H2,d,rfl,q2⟩
theorem z87 (hu:X.A.units + 1 < cLine) (hi:PE X i ty) (ho:PE X o td):PC X .NotIn i o (zgc ty td):=by intro b s σ H Q I h;refine thn (hi b s σ H _ I h) λ f c ⟨y,H1,I1,ry,q1⟩=>thn (ho b c σ H1 _ I1 q1) λ u j ⟨x,H2,I2,rx,a,ov,ex,g,q2⟩=>?_;subst ex;obtain rfl:u=F1 a:=rx;exact zgh hu I2 g ry λ e d=>⟨.bl (!ov.isSome),H2,d,rfl,q2⟩
theorem z84 (hu:X.A.units + 1 < cLine) (ho:PE X o td) (hi:PE X i ty) (hv:PE X value tv) (hs:m8 value (some (.Subscript o i pos')) pos.line X.env=N3 false) :
  PS X (.Assign [.Subscript o i pos'] value pos) (sDPut td ty tv):=by
 intro b s σ H D I h;refine wpAny_Assign_Subscript (thn (hv b s σ H _ I h) λ r d ⟨v,H1,I1,rv,q1⟩=>thn (ho b d σ H1 _ I1 q1) λ u e ⟨x,H2,I2,rx,q2⟩=>thn (hi b e σ H2 _ I2 q2) λ k f ⟨y,H3,I3,ry,a,H4,ex,g,q3⟩=>?_) hs;subst ex;obtain rfl:u=F1 a:=rx;exact zen hu I3 g ry rv λ j c=>⟨σ,H4,c,q3⟩
end
theorem zc4 {P:Program} {w:S0} {H:Hp} (h:Heap) (hb:j4 < h.objs.size):ObjOk P w H (h.push { cls:=.type "dict",data:=.dict #[] }) h.objs.size (.dK []):=
 ⟨R1 _,beq_eq_false_iff_ne.mpr (P3 (T0 hb)),[],.nil,j11 h⟩
noncomputable def tDNewK:TE:=λ _ H Q=>∀p,H p=none->Q (.ref p) (upd H p (.dK []))
section
variable {X:Cx} {pos:Pos}
theorem z7h:PE X (.Dict [] [] pos) tDNewK:=λ b s σ H Q I h=>wpAny_Dict_empty ⟨.ref s.heap.objs.size,_,I.laid (a:=s.heap.objs.size) (o:=.dK []) (t':=s.toks) (λ _ _ q=>y0 _ q) (C0 _) (zc4 s.heap I.big),rfl,h _ (I.hok.fresh (C0 _))⟩
end
noncomputable def tPairs:List (TE×TE)->St->Hp->(List (V×V)->Hp->Prop)->Prop
 | [],_,H,Q=>Q [] H
 | (tk,tv) :: r,σ,H,Q=>tk σ H λ x H1=>tv σ H1 λ y H2=>tPairs r σ H2 λ ps H3=>Q ((x,y) :: ps) H3
abbrev VV:List (V×V)->List (Value×Value)->Prop:=X7 λ p q=>RelV p.1 q.1/\RelV p.2 q.2
def PPs (X:Cx) (pos:Pos) (keys:List (Option Expr)) (values:List Expr) (trs:List (TE×TE)):Prop:=
 ∀(pins:List (Addr×Obj)) (s:A0) (σ:St) (H:Hp) (Q:List (V×V)->Hp->Prop),Inv X pins σ H s->tPairs trs σ H Q->
  R0 (Y0 X.prog X.w) X.A (evalPairs (pairTrees keys values X.env pos)) (λ vs s'=>∃ps H',Inv X pins σ H' s'/\VV ps vs/\Q ps H') X.xe s
theorem zh2 {X:Cx} {pos:Pos}:PPs X pos [] [] []:=λ a s σ H Q I h=>pairTrees_nil_walk ⟨[],H,I,.nil,h⟩
theorem zg2 {X:Cx} {pos:Pos} {k v:Expr} {ks:List (Option Expr)} {vs:List Expr} {tk tv:TE} {trs:List (TE×TE)} (hk:PE X k tk) (hv:PE X v tv) (hr:PPs X pos ks vs trs) :
  PPs X pos (some k :: ks) (v :: vs) ((tk,tv) :: trs):=λ a s σ H Q I h=>
 pairTrees_cons_walk (thn (hk a s σ H _ I h) λ u b ⟨x,H1,I1,rx,q1⟩=>thn (hv a b σ H1 _ I1 q1) λ f c ⟨y,H2,I2,ry,q2⟩=>thn (hr a c σ H2 _ I2 q2) λ e d ⟨ps,H3,I3,rel,q3⟩=>⟨(x,y) :: ps,H3,I3,.cons ⟨rx,ry⟩ rel,q3⟩)
noncomputable def mergeK (kvs more:List (Key×V)):List (Key×V):=more.foldl (λ acc kv=>putK acc kv.1 kv.2) kvs
theorem KV.merge :∀{more:List (Key×V)} {rs:List (Key×Value)} {kvs:List (Key×V)} {vs:List (Key×Value)},KV more rs->KV kvs vs->KV (mergeK kvs more) (merged vs rs):=by
 intro more rs kvs vs r;unfold KV at r;induction r generalizing kvs vs with
 | nil=>intro q;exact q
 | @cons p q ps qs h t ih=>
  intro a;have e:KV (putK kvs p.1 p.2) (stored vs q.1 q.2):=by have:=a.put p.1 h.2;rw [<-h.1];exact this
  exact ih e
theorem z2w :∀(more kvs:List (Key×V)),(mergeK kvs more).length<=kvs.length + more.length
 | [],kvs=>by show kvs.length<=kvs.length + 0;omega
 | p :: r,kvs=>by have a:=z2w r (putK kvs p.1 p.2);have b:=z1m kvs p.1 p.2;show (mergeK (putK kvs p.1 p.2) r).length<=_;rw [Z0];omega
theorem z6x {P:Program} {w:S0} :∀{kvs:List (Key×V)} {ws:List (Value×Value)},VV (kvs.map λ kv=>(kV kv.1,kv.2)) ws->∃rs,Carries (z0g P w) ws rs/\KV kvs rs
 | [],_,r=>by rw [P7] at r;cases r;exact ⟨[],True.intro,.nil⟩
 | p :: kvs,_,r=>by
  rw [X0] at r;cases r with
  | @cons a b as bs h t=>obtain ⟨rs,c,q⟩:=z6x (P:=P) (w:=w) t;obtain ⟨e,d⟩:=b;exact ⟨(p.1,d) :: rs,⟨kV_is h.1,rfl,c⟩,.cons ⟨rfl,h.2⟩ q⟩
noncomputable def tDisp (trs:List (TE×TE)):TE:=λ σ H Q=>∀p,H p=none->tPairs trs σ (upd H p (.dK [])) λ ps H2=>H2 p=some (.dK [])/\∃kvs:List (Key×V),ps=kvs.map (λ kv=>(kV kv.1,kv.2))/\kvs.length<=15/\Q (.ref p) (upd H2 p (.dK (mergeK [] kvs)))
theorem zgk {X:Cx} {pos:Pos} {keys:List (Option Expr)} {values:List Expr} {trs:List (TE×TE)} (h:PPs X pos keys values trs) (hall:keys.all (·.isSome)=true) (hl:keys.length=values.length) (h0:keys≠[])
  (h15:keys.length<=15):PE X (.Dict keys values pos) (tDisp trs):=by
 intro p s σ H Q I q;have m:=I.hok.fresh (C0 s.heap.objs.size);have n:=I.laid (a:=s.heap.objs.size) (o:=.dK []) (h':=s.heap.push { cls:=.type "dict",data:=.dict #[] }) (t':=s.toks) (λ _ _ q=>y0 _ q) (C0 _) (zc4 s.heap I.big);refine wpAny_Dict_walk (knd:=z0g X.prog X.w) hall hl h0 h15 (thn (h p _ σ _ _ n (q _ m)) λ t v ⟨ps,H2,I2,rel,e,kvs,ep,lk,q2⟩=>?_);subst ep;obtain ⟨k,c,g⟩:=z6x (P:=X.prog) (w:=X.w) rel;obtain ⟨z,hd,u,i,l⟩:=dk_of I2.hok e;cases i;refine ⟨k,c,l,λ h' b j=>⟨.ref s.heap.objs.size,_,?_,rfl,q2⟩⟩;have r:(mergeK [] kvs).length<=sizeLine:=by have d:=z2w kvs [];rw [U4] at d;rw [C6];omega
 have f :∃q,h'.get? s.heap.objs.size=some q:=let ⟨q,_,_,hq,_⟩:=b;⟨q,hq⟩;exact z4d I2 (by rw [e];exact True.intro) j f (dk_new r hd (g.merge .nil) b)
structure M1 (X:Cx) (o:Expr) (m:Str) (apos:Pos) (e:Expr) (cpos:Pos):Prop where
 base:i6 o m X.env (p4 o X.env)=p4 o X.env
 few:((Z5 cpos (V1 [e] X.env)).all (λ x=>!x.1) && (backToKw cpos (j06 [] X.env)).all (λ x=>x.1.isSome)
  && decide (([e]:List Expr).length + ([]:List G8).length + (if ([]:List G8).isEmpty then 0 else 1) < 30))=true
 line:(apos.endLine == cpos.line)=true
 trees:Z5 cpos (V1 [e] X.env)=[(false,p4 e X.env)]
structure M2 (X:Cx) (o:Expr) (m:Str) (apos:Pos) (e f:Expr) (cpos:Pos):Prop where
 base:i6 o m X.env (p4 o X.env)=p4 o X.env
 few:((Z5 cpos (V1 [e,f] X.env)).all (λ x=>!x.1) && (backToKw cpos (j06 [] X.env)).all (λ x=>x.1.isSome)
  && decide (([e,f]:List Expr).length + ([]:List G8).length + (if ([]:List G8).isEmpty then 0 else 1) < 30))=true
 line:(apos.endLine == cpos.line)=true
 trees:Z5 cpos (V1 [e,f] X.env)=[(false,p4 e X.env),(false,p4 f X.env)]
def IsD (H:Hp) (a:Addr):Prop:=(∃kvs,Rd H a (.dK kvs))\/∃kvs,Rd H a (.dT kvs)
theorem isD_at {X:Cx} {pins:List (Addr×Obj)} {σ:St} {H:Hp} {s:A0} {a:Addr} (I:Inv X pins σ H s) (d:IsD H a) :
  s.TypeIs (.ref a) "dict"/\(∀b,F1 a=.ref b->∃ob,s.heap.get? b=some ob/\ob.dict=none)/\(a == j4)=false:=by
 rcases d with ⟨h,e⟩|⟨h,e⟩
 ·obtain ⟨_,hd,i,_,c⟩:=dk_rd I.hok e;refine ⟨c.typeIs,λ b q=>?_,hd⟩;cases q;obtain ⟨ob,_,_,g,f,_⟩:=c;exact ⟨ob,g,f.2.1⟩
 ·obtain ⟨_,hd,j,_,c⟩:=dt_rd I.hok e;refine ⟨c.typeIs,λ b q=>?_,hd⟩;cases q;obtain ⟨ob,_,_,g,f,_⟩:=c;exact ⟨ob,g,f.2.1⟩
section
variable {X:Cx} {pins:List (Addr×Obj)} {σ:St} {H:Hp} {s:A0} {a:Addr} {y d:V} {u r:Value} {o:Option V} {A:X1} {E:Value->A0->Prop}
theorem d_get2 {Q:Value->A0->Prop} (hu:A.units + 1 < cLine) (I:Inv X pins σ H s) (g:DGet H a y o) (ry:RelV y u) (rd:RelV d r) (h :∀w' s',Inv X pins σ H s'->RelV (o.getD d) w'->Q w' s') :
  R0 (Y0 X.prog X.w) A (call (.builtin "dict.get") [.ref a,u,r]) Q E s:=by
 rcases g with ⟨j,k,e,f,l⟩|⟨j,k,b,e,f,eb,l⟩
 ·subst f;obtain ⟨z,hd,n,i,c⟩:=dk_rd I.hok e;refine Q9 G7 c.typeIs j00 (V9 _ _ _) (meets_dict_get_default (z0g X.prog X.w) a (kV_is ry) hd r) ⟨_,c.mapOf,h _ _ (I.tok _) ?_⟩;rw [l];exact (i.val k).getD rd
 ·subst f;cases (show u=F1 b from ry);obtain ⟨z,hd,m,i,c⟩:=dt_rd I.hok e;refine Q9 G7 c.typeIs j00 (V9 _ _ _) (meetsH_dict_get_default (B6 (z0g X.prog X.w)) a b hd r) ⟨w6 hu,k,m,key_of I.hok eb,c,h _ _ (I.tok _) ?_⟩;rw [l];exact (i.val k).getD rd
end
noncomputable def tDGet2 (td ty tx:TE):TE:=λ σ H Q=>td σ H λ x H1=>∃a,x=.ref a/\IsD H1 a/\ty σ H1 λ y H2=>tx σ H2 λ z H3=>∃o,DGet H3 a y o/\Q (o.getD z) H3
noncomputable def tDPop1 (td ty:TE):TE:=λ σ H Q=>td σ H λ x H1=>∃a,x=.ref a/\IsD H1 a/\ty σ H1 λ y H2=>∃kvs k v,H2 a=some (.dK kvs)/\y=kV k/\valV kvs k=some v/\Q v (upd H2 a (.dK (dropK kvs k)))
section
variable {X:Cx} {o e f:Expr} {apos cpos:Pos} {td ty tx:TE}
theorem zfx (hu:X.A.units + 1 < cLine) (ho:PE X o td) (he:PE X e ty) (hf:PE X f tx) (m:M2 X o "get" apos e f cpos):PE X (.Call (.Attribute o "get" apos) [e,f] [] cpos) (tDGet2 td ty tx):=by
 intro b s σ H Q I h;refine wpAny_Call_method m.base m.few m.line v7 G7 PySem.F.type_dict_get (thn (ho b s σ H _ I h) λ u j ⟨x,H1,I1,rx,a,ex,d,q1⟩=>?_);subst ex;obtain rfl:u=F1 a:=rx;obtain ⟨n,i,_⟩:=isD_at I1 d;refine ⟨n,i,?_⟩;rw [m.trees];refine Q4 rfl (o8 (W3 (thn (he b j σ H1 _ I1 q1) λ v l ⟨y,H2,I2,ry,q2⟩=>W3 (thn (hf b l σ H2 _ I2 q2) λ q p ⟨z,H3,I3,rz,ov,g,q3⟩=>D4 ?_))));exact d_get2 hu I3 g ry rz λ r t c k=>⟨_,H3,c,k,q3⟩
theorem zga (ho:PE X o td) (he:PE X e ty) (m:M1 X o "pop" apos e cpos):PE X (.Call (.Attribute o "pop" apos) [e] [] cpos) (tDPop1 td ty):=by intro b s σ H Q I h;refine wpAny_Call_method m.base m.few m.line v7 j09 PySem.F.type_dict_pop (thn (ho b s σ H _ I h) λ u i ⟨x,H1,I1,rx,a,ex,d,q1⟩=>?_);subst ex;obtain rfl:u=F1 a:=rx;obtain ⟨f,j,_⟩:=isD_at I1 d;refine ⟨f,j,?_⟩;rw [m.trees];refine Q4 rfl (o8 (W3 (thn (he b i σ H1 _ I1 q1) λ p r ⟨y,H2,I2,ry,kvs,k,v,ea,ey,l,q2⟩=>D4 ?_)));subst ey;exact d_pop I2 ea ry l (.inl rfl) λ q n g c=>⟨v,_,g,c,q2⟩
end
end L2
namespace Att
open PySem PySem.W PySem.Calls PyProof.Rows
theorem z3x {P:W0} {h:Heap} :∀(ns:List Int) (vs:List Value),WellAll P h vs (ns.map WData.int)->S3 vs ns:=by
 intro ns;induction ns with
 | nil=>intro vs w;rw [P7] at w;cases w;exact .nil
 | cons n ns ih=>
  intro vs w;rw [X0] at w;cases w with
  | cons a b=>cases a;exact .cons _ _ (ih _ b)
theorem zdu {l:OpenLaw} {n:Nat} (hn:l.most=some n) {P:W0} {h:Heap} {args:List WData} {vals:List Value}
  (hpre:l.row.toRowW.claim.pre args=true) (hwl:WellAll P h vals args) :
  ∃a vs ns,vals=[F1 a]/\args=[WData.list (ns.map WData.int)]/\h.get? a=some { cls:=.type "list",data:=.seq vs.toArray }/\S3 vs ns/\ns.length<=n:=by
 have j:WShape.hasAll [] args [.list .int]=true:=(pre_splitW hpre).1;have e:l.pre.holds [] { args:=args }=true:=(pre_splitW hpre).2;obtain ⟨d,r,rfl,g,i⟩:=hasAllW_cons j;obtain rfl:=hasAllW_nil i;obtain ⟨o,rfl,f⟩:=hasW_list g;obtain ⟨ns,rfl⟩:=items_int f;have m:ns.length<=n:=by
  unfold OpenLaw.pre at e;have b:(WTm.not (.lt (.lit (.int (n:Int))) (.len (.arg 0)))).holds [] { args:=[.list (ns.map .int)] }=true:=by have b:=(holds_andW e).1;rw [hn] at b;exact b
  have c:=condW_of b (w_not (w_lt w_lit (w_len_list (w_arg rfl))));rw [G0] at c;refine K7 λ q=>?_;have k:(n:Int) < ((ns.length:Nat):Int):=by omega
  first
   | (rw [decide_eq_true k] at c;exact absurd c (by decide))
   | (simp at c;omega)
 cases hwl with
 | cons w1 w2=>
  cases w2;cases w1 with
  | list ho hall=>exact ⟨_,_,ns,rfl,rfl,ho,z3x ns _ hall,m⟩
theorem zdb (l:OpenLaw) (args:List WData):l.row.toRowW.claim.post args (.bool true) args=true:=
 postW_of (r:=l.row.toRowW) (X:=(true == true))
  (show WShape.has [] (.bool true) .bool=true by first|rfl|decide|simp [WShape.has,WShape.arms,WShape.armsAll])
  (show (WTm.eq .res (.lit (.bool true))).value [] { args:=args,res:=some (.bool true),after:=args }=some (.bool (true == true)) from w_eq_bool (w_res rfl) w_lit) rfl
theorem attach_call {l:OpenLaw} {n:Nat} {q:Program} {loose:List Str} {XP:(Str->Option Value)->Heap->Prop} {YP:S0->Heap->Prop} {d:DefRec}
  (hn:l.most=some n) (hdf:d.params.defaults=[])
  (call :∀(w:S0) (s₀ s₁:A0) (mg mb:Str->Option Value) (fa:Addr) (o:Obj) (pm cd doc:Value) (a:Addr) (vs:List Value) (ns:List Int),
   Ground q loose [] XP w s₀ mg mb s₁.heap->YP w s₁.heap->
   s₁.heap.get? fa=some o->o.data=.func (docDef d.name d.params d.body d.scope pm cd doc)->s₁.heap.CodeRec cd d.name->mg d.name=some (.ref fa)->
   s₁.heap.get? a=some { cls:=.type "list",data:=.seq vs.toArray }->S3 vs ns->ns.length<=n->s₁.gens = #[]->
   k6 (Y0 l.prog w) P9 (.call (.ref fa) ⟨[.ref a],[]⟩) (λ r s'=>r=.ok (.ret (.bool true))/\OldK s₁.heap s'.heap/\s'.os=s₁.os/\S7 s'.gens) s₁) :
  WalkO q loose XP YP l.row.toRowW d [] (λ f vs=>PySem.call f vs):=by
 intro w s₀ s₁ mg mb G Y fa o pm cd doc m kV p hd s b g i B D A v z C k E;obtain rfl:m=.none:=Dflts.none b hdf;obtain rfl:kV=.none:=Dflts.noKw b;obtain ⟨a,vs,ns,rfl,rfl,y,h,x⟩:=zdu hn v k;refine enter_call (R5 (call w s₀ s₁ mg mb fa o pm cd doc a vs ns G Y p (fd_plain hd) s g y h x i) λ r s' u=>?_);obtain ⟨rfl,j,c,e⟩:=u;exact ⟨.inl ⟨.bool true,.bool true,[],rfl,λ _=>rfl,.bool true,zdb l _,λ _=>⟨b8,λ _ t=>(nomatch t)⟩⟩,j,c,e⟩
end Att
namespace L2
open PySem PySem.Spec PyProof.Rows
theorem z8n :∀{vs:List Value} {ns:List Int},S3 vs ns->Vals (ns.map V.int) vs
 | _,_,.nil=>.nil
 | _,_,.cons n t h=>.cons ⟨t,rfl⟩ (z8n h)
noncomputable def z6t (s:Stmt):Arguments:=match s with
 | .FunctionDef _ a _ _ _ _ _ _ _ _=>a
 | _=>{ posonlyargs:=[],args:=[],vararg:=none,kwonlyargs:=[],kw_defaults:=[],kwarg:=none,defaults:=[] }
noncomputable def z3q (s:Stmt):List Stmt:=match s with
 | .FunctionDef _ _ b _ _ _ _ _ _ _=>b
 | _=>[]
noncomputable def z07 (s:Stmt):Scope:=match s with
 | .FunctionDef _ _ _ _ _ _ sc _ _ _=>sc
 | _=>{ kind:=.function,names:=[],isGenerator:=false,isCoroutine:=false }
noncomputable abbrev CX0:CXT:=λ _ _ _ _ _ _=>False
noncomputable abbrev E0:XK:=λ _ _ _=>False
theorem pass0 {X:Cx}:Passes CX0 X E0:=λ _ _ _ _ _ _ _ h=>h.elim
structure Fun (K:c0) (x qual:Str) (st:Stmt) (f:Addr) (fd:FuncData):Prop where
 ex :∃(oc:Value) (od:Option Addr) (kV doc pm:Value) (an:Option Addr) (cdv ct:Value) (osl:Array (Option Value)),
  fd=a6 x qual (z6t st) (z3q st) (z07 st) .none kV doc pm an cdv ct/\K.lookup f=some ⟨oc,od,.func fd,osl⟩/\V7 K cdv qual=true
 kp:F4 K (.ref f)=true
section
variable {P:Program} {w:S0} {K:c0} {mg:Str->Option Value} {base:Heap}
theorem Fun.ok {x qual:Str} {st:Stmt} {f:Addr} {fd:FuncData} {N ps:List Str} {k:Nat} {sp:Sp} (F:Fun K x qual st f fd) (S:FnScope N ps (z07 st)) (len :∀vs H Q E,sp vs H Q E->vs.length=ps.length)
  (hbody :∀(cdv:Value) (A:X1) (outer:List Env) (s:A0) (H:Hp) (vs:List V) (Q:VK) (E:XK),Room k (A.deeper (W8 qual (z07 st) s.heap.objs.size f cdv))->sp vs H Q E->
   ∃t,PSs (cxOf CX0 P w K mg base N qual (z07 st) f cdv A outer s H E).nox (z3q st) t/\t { nx:=λ _ H'=>Q .non H',rt:=Q } (start N vs) H):FnOk P w K mg base CX0 (k + 1) f fd ps sp:=by
 obtain ⟨g,l,kV,n,m,i,cdv,j,e,rfl,a,b⟩:=F.ex;refine fn_of a b S len λ A outer s H vs Q E d c=>?_;obtain ⟨t,h,q⟩:=hbody cdv A outer s H vs Q E d c;exact ⟨t,h.nox,q⟩
theorem Fun.binds {x qual:Str} {st:Stmt} {f:Addr} {fd:FuncData} {ps:List Str} (F:Fun K x qual st f fd)
  (h :∀(kV doc pm:Value) (an:Option Addr) (cdv ct:Value) (us:List Value),us.length=ps.length->bindArgs (a6 x qual (z6t st) (z3q st) (z07 st) .none kV doc pm an cdv ct) ⟨us,[]⟩=N3 (ps.zip us)):Binds K fd ps []:=by
 obtain ⟨c,e,kV,doc,pm,an,cdv,ct,a,rfl,b,d⟩:=F.ex;exact .all (h kV doc pm an cdv ct)
theorem fun_mk {x qual:Str} {st:Stmt} {f:Addr} {oc:Value} {od an:Option Addr} {osl:Array (Option Value)} {kV doc pm cdv ct:Value} (l:K.lookup f=some ⟨oc,od,.func (a6 x qual (z6t st) (z3q st) (z07 st) .none kV doc pm an cdv ct),osl⟩)
  (c:V7 K cdv qual=true) (k:F4 K (.ref f)=true):Fun K x qual st f (a6 x qual (z6t st) (z3q st) (z07 st) .none kV doc pm an cdv ct):=⟨⟨oc,od,kV,doc,pm,an,cdv,ct,osl,rfl,l,c⟩,k⟩
end
theorem hu_of {A:X1} {k:Nat} (hr:Room k A):A.units + 1 < cLine:=P1 (Nat.add_le_add_left (by decide:1<=64) _) hr.units
section
variable {X:Cx}
theorem pv (i:Nat) {x:Str} {pos:Pos} (hN:X.N[i]? = some x:=by rfl) (hv:Vis X.env.scope x:=by first|exact L1 rfl|exact G1 (L1 rfl)|exact G1 (G1 rfl)) (hd:(x == ("__debug__" : Str))=false:=by decide)
  (hcd:(x == ("__classdict__" : Str))=false:=by decide):PE X (.Name x pos) (tVar i):=pe_var hN hv hd hcd
end
theorem iteF {A B:Prop} (h:B):if false=true then A else B:=by rw [if_neg N0];exact h
theorem iteT {A B:Prop} (h:A):if true=true then A else B:=by rw [if_pos rfl];exact h
theorem ite2 {c A B:Prop} [Decidable c] (h1:c->A) (h2:¬ c->B):if c then A else B:=by
 by_cases h:c
 ·rw [if_pos h];exact h1 h
 ·rw [if_neg h];exact h2 h
def Same (H H':Hp):Prop:=∀b o,H b=some o->H' b=some o
theorem Same.refl (H:Hp):Same H H:=λ _ _ h=>h
theorem Same.trans {H H1 H2:Hp} (a:Same H H1) (b:Same H1 H2):Same H H2:=λ c o h=>b c o (a c o h)
theorem Same.free {H H':Hp} (e:Same H H') {l:Addr} (h:H' l=Option.none):H l=Option.none:=by
 cases q:H l with
 | none=>rfl
 | some o=>rw [e l o q] at h;cases h
theorem Same.seq {K:c0} {H H':Hp} {a:Addr} {xs:List V} (e:Same H H') (h:SqL K H a xs):SqL K H' a xs:=by
 rcases h with (h|⟨o,h⟩)|h
 ·exact .inl (.inl (e _ _ h))
 ·exact .inl (.inr ⟨o,e _ _ h⟩)
 ·exact .inr h
section
variable {κ:Type} [DecidableEq κ]
theorem ze4 {p:κ×V} {r:List (κ×V)} {k:κ} (e:p.1=k):dropK (p :: r) k=dropK r k:=by unfold dropK;rw [E6,if_neg (by simp [e])]
theorem zec {p:κ×V} {r:List (κ×V)} {k:κ} (e:¬ p.1=k):dropK (p :: r) k=p :: dropK r k:=by unfold dropK;rw [E6,if_pos (by simp [e])]
end
end L2
set_option maxHeartbeats 4000000
namespace L2
open PySem PySem.Spec PyProof.Rows
section
variable {prog:Program} {w:S0} {A:X1} {R:Result->A0->Prop} {s:A0}
theorem zd7 {elt target iter:Expr} {ifs:List Expr} {scope:Scope} {pos:Pos} {it acc:Value} {env:Env} (J:Nat->A0->Prop)
  (turn :∀n s,J n s->R0 (Y0 prog w) A (v9 it) (λ r s₁=>match r with
   | none=>R (.ok .next) s₁
   | some v=>R0 (Y0 prog w) A (K8 target it v) (λ _ s₂=>R0 (Y0 prog w) A (assign target env v) (λ _ s₃=>
     R0 (Y0 prog w) A (O9 ifs true λ c r=>if r=true then do let ok <-isTrue c env (p4 c env);N3 (A3 ok) else N3 (A3 r)) (λ ok s₄=>
      if ok=true then R0 (Y0 prog w) A (p4 elt env) (λ x s₅=>R0 (Y0 prog w) A (call (.builtin "list.append") [acc,x]) (λ _ s₆=>∃m,m < n/\J m s₆) (λ _ _=>False) s₅) (λ _ _=>False) s₄
      else∃m,m < n/\J m s₄) (λ _ _=>False) s₃) (λ _ _=>False) s₂) (λ _ _=>False) s₁) (λ _ _=>False) s)
  (n:Nat) (h:J n s):k6 (Y0 prog w) A (.compLoop (.ListComp elt [⟨target,iter,ifs,0⟩] scope pos) 0 it acc env) R s:=by
 refine codeAny_loop rfl J (λ n s e=>?_) n h;show R0 _ A ((compTurn (.ListComp elt [⟨target,iter,ifs,0⟩] scope pos) 0 it acc env).onRaise (λ x=>do noteFrame x env;theTreesLotGoes x)) _ _ s;refine wpAny_noted ?_;rw [compTurn_list];refine o0 (wpAny_standAt (o0 (Q3 (turn n s e) (λ r s₁ a=>?_) λ _ _ f=>f.elim)));cases r with
 | none=>exact F0 a
 | some v=>
  refine o0 (Q3 a (λ _ s₂ d=>o0 (Q3 d (λ _ s₃ g=>o0 (Q3 g (λ ok s₄ b=>?_) λ _ _ f=>f.elim)) λ _ _ f=>f.elim)) λ _ _ f=>f.elim);cases ok with
  | false=>exact F0 ⟨rfl,b⟩
  | true=>exact o0 (o0 (Q3 b (λ x s₅ i=>o0 (Q3 i (λ _ s₆ j=>F0 (F0 ⟨rfl,j⟩)) λ _ _ f=>f.elim)) λ _ _ f=>f.elim))
end
theorem z1u {env:Env} :∀(names:List (Str×Q5)) (acc:List (Str×Addr)),(∀y∈names,y.2=Q1->∃c,env.cells.lookup y.1=some c)->(∀y c,acc.lookup y=some c->env.cells.lookup y=some c)->
  ∃cl,(O9 names acc λ (x:Str×Q5) (r:List (Str×Addr))=>(match x with
    | (name,kind)=>if (kind == Q1)=true then do let c <-cellOf env name;N3 (A3 ((name,c) :: r)) else N3 (A3 r):Sem (ForInStep (List (Str×Addr)))))=N3 cl/\
   (∀y c,cl.lookup y=some c->env.cells.lookup y=some c)/\(∀y,((y,Q1)∈names\/∃c,acc.lookup y=some c)->∃c,cl.lookup y=some c)
 | [],acc,_,ha=>⟨acc,by rw [d7],ha,λ y h=>h.elim (λ z=>nomatch z) id⟩
 | (n,k) :: r,acc,hf,ha=>by
  rw [T5];dsimp only;by_cases hk:k=Q1
  ·subst hk;obtain ⟨c,i⟩:=hf (n,.free) E2 rfl;have e:cellOf env n=N3 c:=by unfold cellOf;rw [i]
   rw [if_pos (by rfl),e];obtain ⟨cl,f,g,b⟩:=z1u r ((n,c) :: acc) (λ y a=>hf y (W2 _ a)) (λ y d hd=>by
    rw [Y3] at hd;by_cases a:(y == n)=true
    ·rw [a] at hd;have:=eq_of_beq a;subst this;cases hd;exact i
    ·rw [r9] at a;rw [a] at hd;exact ha y d hd)
   refine ⟨cl,f,g,λ y a=>b y ?_⟩;rcases a with a|⟨d,hd⟩
   ·rcases List.mem_cons.mp a with z|z
    ·cases z;exact .inr ⟨c,by rw [Y3];simp⟩
    ·exact .inl z
   ·refine .inr ?_;rw [Y3];by_cases a:(y == n)=true
    ·rw [a];exact ⟨c,rfl⟩
    ·rw [r9] at a;rw [a];exact ⟨d,hd⟩
  ·rw [if_neg (by simpa using hk)];obtain ⟨cl,f,g,b⟩:=z1u r acc (λ y a=>hf y (W2 _ a)) ha;refine ⟨cl,f,g,λ y a=>b y ?_⟩;rcases a with a|a
   ·rcases List.mem_cons.mp a with z|z
    ·cases z;exact absurd rfl hk
    ·exact .inl z
   ·exact .inr a
theorem zc7 {scope:Scope} {env:Env} (hf :∀y∈scope.names,y.2=Q1->∃c,env.cells.lookup y.1=some c) :
  ∃cl,j17 scope env=N3 cl/\(∀y c,cl.lookup y=some c->env.cells.lookup y=some c)/\(∀y,(y,Q1)∈scope.names->∃c,cl.lookup y=some c):=by
 obtain ⟨cl,b,d,a⟩:=z1u (env:=env) scope.names [] hf (λ _ _ z=>nomatch z);refine ⟨cl,?_,d,λ y e=>a y (.inl e)⟩;simp only [j17];rw [b];rfl
theorem mem_of_lookup {κ:Type} {y:Str} {k:κ} :∀{l:List (Str×κ)},l.lookup y=some k->(y,k)∈l
 | (n,c) :: r,h=>by
  rw [Y3] at h;by_cases hy:(y == n)=true
  ·rw [hy] at h;cases h;rw [eq_of_beq hy];exact E2
  ·rw [r9] at hy;rw [hy] at h;exact W2 _ (mem_of_lookup h)
theorem z3o {scope:Scope} {env:Env} (hcell :∀y∈scope.names,y.2≠NameKind.cell) {y:Str} {k:Q5} (h:(M7 scope env).names.lookup y=some k) (hk:k=.cell\/k=.free):(y,Q1)∈scope.names:=by
 have m:=mem_of_lookup h;unfold M7 at m;obtain ⟨⟨n,c⟩,a,e⟩:=List.mem_map.mp m;dsimp only at e;by_cases hc:(c == Q1)=true
 ·have:=eq_of_beq hc;subst this;split at e<;>(injection e with e1 e2;subst e1;exact a)
 ·rw [if_neg (by simp [hc])] at e;injection e with e1 e2;subst e1 e2;rcases hk with rfl|rfl
  ·exact absurd rfl (hcell _ a)
  ·exact absurd rfl hc
noncomputable abbrev cxComp (X:Cx) (scope:Scope) (cl:List (Str×Addr)) (N:List Str) (C:Addr) (s₂:A0) (H₂:Hp) (fp:List Addr):Cx:=
 { X with N:=N,s₀:=s₂,H₀:=H₂,env:=compEnvC scope cl C X.env,outer:=X.stack,stack:=X.stack,ex:=fp,fn:=λ _=>false,pn:=[],xe:=λ _ _=>False }
def PF (X:Cx) (ifs:List Expr) (t:TT):Prop:=
 ∀(pins:List (Addr×Obj)) (s:A0) (σ:St) (H:Hp) (Q:Bool->Hp->Prop),Inv X pins σ H s->t σ H Q->
  R0 (Y0 X.prog X.w) X.A (O9 ifs true λ c r=>if r=true then do let ok <-isTrue c X.env (p4 c X.env);N3 (A3 ok) else N3 (A3 r)) (TP X pins σ Q) X.xe s
theorem pf_nil {X:Cx}:PF X [] (λ _ H Q=>Q true H):=λ _ _ _ H _ I h=>wpAny_tests_nil ⟨H,I,h⟩
theorem pf_one {X:Cx} {c:Expr} {t:TT} (h:PT X c t):PF X [c] t:=λ a s σ H Q I q=>wpAny_tests_one (h a s σ H Q I q)
theorem Vals.snoc {xs:List V} {us:List Value} {x:V} {u:Value} (r:Vals xs us) (q:RelV x u):Vals (xs++[x]) (us++[u]):=Vals.append r (.cons q .nil)
def TagOf (H:Hp) (x:V) (T:String):Prop:=match x with
 | .non=>T = "NoneType"
 | .bl _=>T = "bool"
 | .int _=>T = "int"
 | .str _=>T = "str"
 | .ref a=>((∃xs,H a=some (.lst xs))/\T = "list")\/((∃xs,H a=some (.tup xs))/\T = "tuple")\/((∃kvs,H a=some (.dK kvs))/\T = "dict")
 | _=>False
noncomputable def instB (T C:String):Bool:=T == C || (T == "bool" && C == "int")
theorem TagOf.ty {K:c0} {H:Hp} {x:V} {T:String} (h:TagOf H x T):TyOf K H x (.type T):=by
 cases x with
 | non=>cases (show T = "NoneType" from h);exact .non
 | bl b=>cases (show T = "bool" from h);exact .bl b
 | int i=>cases (show T = "int" from h);exact .int i
 | str z=>cases (show T = "str" from h);exact .str z
 | ref a=>
  rcases h with ⟨⟨c,e⟩,rfl⟩|⟨⟨c,e⟩,rfl⟩|⟨⟨c,e⟩,rfl⟩
  ·exact .lst e
  ·exact .tup e
  ·exact .dK e
 | _=>exact h.elim
theorem TagOf.one {H:Hp} {x:V} {T:String} (h:TagOf H x T):T = "NoneType"\/T = "bool"\/T = "int"\/T = "str"\/T = "list"\/T = "tuple"\/T = "dict":=by
 cases x with
 | non=>exact .inl h
 | bl b=>exact .inr (.inl h)
 | int i=>exact .inr (.inr (.inl h))
 | str z=>exact .inr (.inr (.inr (.inl h)))
 | ref a=>rcases h with ⟨_,rfl⟩|⟨_,rfl⟩|⟨_,rfl⟩<;>simp
 | _=>exact h.elim
noncomputable def isiC:List String:=["int","str","bool","tuple","list"]
theorem kit_of (K:c0) {T C:String} (h:T = "NoneType"\/T = "bool"\/T = "int"\/T = "str"\/T = "list"\/T = "tuple"\/T = "dict") (hC:C∈isiC):PySem.W.kitOne K (.type T) (.type C)=some (instB T C):=by
 have hC:C = "int"\/C = "str"\/C = "bool"\/C = "tuple"\/C = "list":=by simpa [isiC] using hC
 rcases h with rfl|rfl|rfl|rfl|rfl|rfl|rfl<;>rcases hC with rfl|rfl|rfl|rfl|rfl<;>kernel_rfl
section
variable {X:Cx}
theorem z0l:CallR X (.builtin "isinstance") (λ xs H Q=>∃x C T,xs=[x,.ty C]/\TagOf H x T/\C∈isiC/\Q (.bl (instB T C)) H):=by intro g s σ H xs i Q I r h;obtain ⟨x,C,T,rfl,a,b,q⟩:=h;obtain ⟨u,e,rfl,c,f⟩:=vals2 r;cases (show e=n5 C from f);exact zdc I c a.ty (kit_of X.K a.one b) λ d=>⟨.bl _,H,I.tok d,rfl,q⟩
theorem zel {ys:List V} {its:List Value} (rv:Vals ys its) (hb :∀y∈ys,∃b,y=V.bl b):((N1 its.length).all λ i=>decide (ys[i]? = some (V.bl true)))=ys.all λ y=>decide (y=V.bl true):=by
 have e:=rv.length;rw [Bool.eq_iff_iff,List.all_eq_true,List.all_eq_true];constructor
 ·intro h y d;obtain ⟨i,a,rfl⟩:=List.getElem_of_mem d;have:=h i (List.mem_range.mpr (by omega));simpa [a] using this
 ·intro h i a;have c:i < ys.length:=by have:=List.mem_range.mp a;omega
  have:=h ys[i] (K5 c);simpa [c] using this
theorem z23 (hc:X.calm=true):CallR X (.builtin "all") (λ xs H Q=>∃p ys,xs=[.ref p]/\SqL X.K H p ys/\(∀y∈ys,∃b,y=V.bl b)/\Q (.bl (ys.all λ y=>decide (y=V.bl true))) H):=by
 intro N s σ H xs J Q I r h;obtain ⟨p,ys,rfl,C,l,q⟩:=h;obtain ⟨u,rfl,D⟩:=vals1 r;cases D;obtain ⟨j,d,c,P⟩:=I.list C;have B:p≠s.heap.objs.size:=by obtain ⟨o,e,_⟩:=c.isList;exact T0 (M0 e)
 refine call_all_walk (F6 c.isList ?_);refine ⟨s.heap.objs.size,_,_,_,_,_,λ i=>decide (ys[i]? = some (V.bl true)),rfl,Walks.list (show X.A.in1.handled=none from I.ok.hd hc) s.heap.objs.size p B j.toArray,⟨⟨_,O0 _ rfl,rfl,rfl⟩,c.isList.at λ o e=>y0 _ e⟩,?_,?_⟩
 ·intro i v L G O a w;have a:j[i]? = some v:=by simpa using a
  obtain ⟨t,e⟩:=List.getElem?_eq_some_iff.mp a;have f:i < ys.length:=by rw [d.length];exact t
  obtain ⟨b,m⟩:=l ys[i] (K5 f);obtain ⟨u,k,g⟩:=d.get (i:=i) (x:=ys[i]) (by simp [f]);rw [a] at k;cases k;rw [m] at g;cases (show v=U3 b from g);have:decide (ys[i]? = some (V.bl true))=b:=by rw [D0 f,m];cases b<;>simp
  exact M3 (this ▸ w)
 ·intro M n F;have e:=zel d l;rw [<-P0] at e;refine ⟨.bl _,H,I.kept (t':=n) λ b o z=>F b o ?_ (y0 _ z),rfl,e.symm ▸ q⟩;intro E;rw [List.mem_singleton.mp E] at z;exact absurd (M0 z) (E3 _)
def CDivB (i j:Int):Prop:=0 < j/\j < 2 ^ 64
theorem z75:OpR X (M4 .FloorDiv) (rI CDivB λ i j=>.int (i / j)):=opI λ i j _ _ _ _ _ a q=>by
 obtain ⟨c,b⟩:=a;refine floordiv_int (by omega) ?_ (.inl (PyProof.noPylong_of_log2 ?_))
 ·rw [Int.fdiv_eq_ediv_of_nonneg _ (by omega)];exact q
 ·have:j.natAbs.log2 < 64:=(Nat.log2_lt (by omega)).mpr (by omega);omega
structure KDict (K:c0) (P:W0) (a:Addr) (kvs:List (Str×V)):Prop where
 ex :∃es n,K.lookup a=some ⟨.type "dict",none,.dict es n,#[]⟩/\X7 (λ (p:Str×V) (e:DictEntry)=>(∃t,e.key=.str p.1 t)/\e.hash=b0 P p.1/\RelV p.2 e.val) kvs es.toList
 lo:(a == j4)=false
theorem zcy {kvs:List (Str×V)} {P:W0} :∀{es:List DictEntry},X7 (λ (p:Str×V) (e:DictEntry)=>(∃t,e.key=.str p.1 t)/\e.hash=b0 P p.1/\RelV p.2 e.val) kvs es->∀z,
  RelO (kvs.lookup z) (findBy o7 es.toArray z):=by
 intro es r;induction r with
 | nil=>intro z;exact True.intro
 | @cons p e kvs es h t a=>
  intro z;obtain ⟨⟨g,d⟩,f,c⟩:=h;have a:=a z;unfold findBy at a⊢;rw [List.find?_toArray] at a⊢;rw [C4,Y3];have b:o7 z e.key=(z == p.1):=by rw [d];show (p.1 == z)=_;rw [Bool.eq_iff_iff,beq_iff_eq,beq_iff_eq];exact ⟨λ q=>q.symm,λ q=>q.symm⟩
  cases hz:(z == p.1) with
  | true=>rw [b,hz];exact c
  | false=>rw [b,hz];exact a
theorem KDict.mapOf {a:Addr} {kvs:List (Str×V)} (D:KDict X.K X.w.params a kvs) {h:Heap} (k:X.K.In h) :∃f,h.MapOf (strKind X.prog X.w) a f/\∀z,RelO (kvs.lookup z) (f z):=by
 obtain ⟨c,n,d,r⟩:=D.ex;have b:PySem.W.KeysLit X.w.params c.toList:=by
  clear d D;generalize c.toList=l at r;induction r with
  | nil=>exact True.intro
  | cons h t ih=>obtain ⟨⟨i,b⟩,e,j⟩:=h;exact ⟨⟨_,i,b,e⟩,ih⟩
 have g :∀z,RelO (kvs.lookup z) (findBy o7 c.toList.toArray z):=zcy r;exact ⟨_,PySem.W.mapOf_K (prog:=X.prog) k d b,λ z=>by simpa using g z⟩
theorem zg8 {a:Addr} {kvs:List (Str×V)} (D:KDict X.K X.w.params a kvs):OpR X (U2 .In) (λ x y H Q=>∃z,x=.str z/\y=.ref a/\Q (.bl (kvs.lookup z).isSome) H):=by intro g s σ H x y v u Q I b e h;obtain ⟨z,rfl,rfl,q⟩:=h;obtain ⟨t,rfl⟩:=b;cases e;obtain ⟨f,c,d⟩:=D.mapOf I.kIn;refine wpAny_in_of (B8 X.prog X.w z t) D.lo c ⟨.bl _,H,I.tok _,rfl,?_⟩;have:=d z;rw [RelO.isSome_eq this] at q;exact q
theorem ix_kd {a:Addr} {kvs:List (Str×V)} (D:KDict X.K X.w.params a kvs):IxR X (λ x y H Q=>∃z v,x=.ref a/\y=.str z/\kvs.lookup z=some v/\Q v H):=by
 intro l k m s σ H x y v u Q I j d h g;obtain ⟨z,r,rfl,rfl,e,q⟩:=h;cases j;obtain ⟨t,rfl⟩:=d;obtain ⟨f,c,i⟩:=D.mapOf I.kIn;have b:=i z;rw [e] at b;cases ef:f z with
 | none=>rw [ef] at b;exact b.elim
 | some u=>rw [ef] at b;exact tail_any c.typeIs slot_dict_getitem.lookup (wpAny_getItem_of (B8 X.prog X.w z t) c ef ⟨r,H,I.tok _,b,q⟩) g
structure KDictT (K:c0) (P:W0) (a:Addr) (kvs:List ((Str×Str)×V)):Prop where
 ex :∃es n,K.lookup a=some ⟨.type "dict",none,.dict es n,#[]⟩/\X7 (λ (p:(Str×Str)×V) (e:DictEntry)=>(∃(b:Addr) (t t':Tok) (m:Nat),e.key=.ref b/\K.lookup b=some ⟨.type "tuple",none,.seq #[.str p.1.1 t,.str p.1.2 t'] m,#[]⟩)/\
  e.hash=A1 (v0 [b0 P p.1.1,b0 P p.1.2])/\RelV p.2 e.val) kvs es.toList
 nd:(kvs.map (·.1)).Nodup
 lo:(a == j4)=false
theorem zeb {prog:Program} {w:S0} {K:c0} {h:Heap} (k:K.In h) :∀{kvs:List ((Str×Str)×V)} {es:List DictEntry},
  X7 (λ (p:(Str×Str)×V) (e:DictEntry)=>(∃(b:Addr) (t t':Tok) (m:Nat),e.key=.ref b/\K.lookup b=some ⟨.type "tuple",none,.seq #[.str p.1.1 t,.str p.1.2 t'] m,#[]⟩)/\
   e.hash=A1 (v0 [b0 w.params p.1.1,b0 w.params p.1.2])/\RelV p.2 e.val) kvs es->
  ∃xs:List (List Str×Addr×Value),es=xs.map (entryOfKey (B6 (strKind prog w)))/\(∀x∈xs,(B6 (strKind prog w)).is h x.1 x.2.1)/\xs.map (·.1)=kvs.map (λ p=>[p.1.1,p.1.2])/\
   ∀a b,RelO (kvs.lookup (a,b)) ((L8 xs [a,b]).map (·.2)):=by
 intro kvs es r;induction r with
 | nil=>exact ⟨[],rfl,λ x f=>absurd f B0,rfl,λ a b=>True.intro⟩
 | @cons p e kvs es hpe t ih=>
  obtain ⟨xs,q,v,o,s⟩:=ih;obtain ⟨⟨b,D,C,m,l,u⟩,g,n⟩:=hpe;refine ⟨([p.1.1,p.1.2],b,e.val) :: xs,?_,?_,?_,?_⟩
  ·rw [X0,<-q];congr 1;obtain ⟨y,A,B⟩:=e;have l:A=.ref b:=l;have g:y=_:=g;subst l g;rfl
  ·intro x f;rcases List.mem_cons.mp f with rfl|f
   ·exact ⟨_,_,m,k _ _ u,rfl,rfl,.cons (B8 prog w _ _) (.cons (B8 prog w _ _) .nil)⟩
   ·exact v x f
  ·rw [X0,X0,o]
  ·intro c d;have:=s c d;rw [Y3];unfold L8 at this⊢;rw [C4];by_cases hcd:(c,d)=p.1
   ·have j:((c,d) == p.1)=true:=by rw [beq_iff_eq];exact hcd
    rw [j];have i:decide ([p.1.1,p.1.2]=[c,d])=true:=by rw [<-hcd];simp
    rw [i];exact n
   ·have j:((c,d) == p.1)=false:=by rw [beq_eq_false_iff_ne];exact hcd
    rw [j];have i:decide ([p.1.1,p.1.2]=[c,d])=false:=by rw [decide_eq_false_iff_not];intro z;injection z with z1 z;injection z with z2 _;exact hcd (Prod.ext z1.symm z2.symm)
    rw [i];exact this
theorem z4i :∀{l:List (Str×Str)},l.Nodup->(l.map λ p=>[p.1,p.2]).Nodup
 | [],_=>W9
 | p :: r,h=>by obtain ⟨b,a⟩:=List.nodup_cons.mp h;rw [X0];refine List.nodup_cons.mpr ⟨λ m=>b ?_,z4i a⟩;obtain ⟨q,c,e⟩:=List.mem_map.mp m;injection e with e1 e;injection e with e2 _;have:q=p:=Prod.ext e1 e2;exact this ▸ c
theorem KDictT.dict {a:Addr} {kvs:List ((Str×Str)×V)} (D:KDictT X.K X.w.params a kvs) {h:Heap} (k:X.K.In h) :∃xs,h.DictOfH (B6 (strKind X.prog X.w)) a xs/\∀c d,RelO (kvs.lookup (c,d)) ((L8 xs [c,d]).map (·.2)):=by obtain ⟨j,n,i,r⟩:=D.ex;obtain ⟨xs,e,f,b,g⟩:=zeb (prog:=X.prog) (w:=X.w) k r;refine ⟨xs,⟨_,j,n,k _ _ i,⟨rfl,rfl,rfl⟩,rfl,e,f,?_⟩,g⟩;rw [b];have:=z4i D.nd;rw [Q2] at this;exact this
theorem zhf {pins:List (Addr×Obj)} {σ:St} {H:Hp} {s:A0} {p:Addr} {c d:Str} (I:Inv X pins σ H s) (hp:H p=some (.tup [.str c,.str d])):(B6 (strKind X.prog X.w)).is s.heap [c,d] p:=by
 obtain ⟨_,g,a,⟨o,b,e,n,hd⟩,_⟩:=(show ObjOk X.prog X.w H s.heap p (.tup [.str c,.str d]) from I.hok p _ hp)
 cases a with
 | cons r1 a=>
  cases a with
  | cons r2 a=>cases a;obtain ⟨f,rfl⟩:=r1;obtain ⟨h,rfl⟩:=r2;exact ⟨o,_,n,b,e,hd,.cons (B8 X.prog X.w _ _) (.cons (B8 X.prog X.w _ _) .nil)⟩
theorem z7e {a:Addr} {kvs:List ((Str×Str)×V)} (hu:X.A.units + 1 < cLine) (D:KDictT X.K X.w.params a kvs) :
  OpR X (U2 .NotIn) (λ x y H Q=>∃p c d,x=.ref p/\H p=some (.tup [.str c,.str d])/\y=.ref a/\Q (.bl (!(kvs.lookup (c,d)).isSome)) H):=by
 intro j s σ H x y v u Q I b i h;obtain ⟨p,c,d,rfl,e,rfl,q⟩:=h;cases b;cases i;obtain ⟨l,f,g⟩:=D.dict I.kIn;refine X9 (k:=[c,d]) hu (zhf I e) D.lo f ⟨.bl _,H,I.tok _,rfl,?_⟩;have:=RelO.isSome_eq (g c d);rw [g6] at this;rw [this] at q;exact q
end
structure Cal (P:Program) (w:S0) (K:c0) (mg:Str->Option Value) (base:Heap) (x:Str) (ps:List Str) (k:Nat) (sp:Sp):Prop where
 ex :∃f fd,FnOk P w K mg base CX0 k f fd ps sp/\mg x=some (.ref f)/\F4 K (.ref f)=true/\Binds K fd ps []
section
variable {X:Cx} {x:Str} {ps:List Str} {k:Nat} {sp:Sp} {e:Expr} {es:List Expr} {t:TA} {p pos:Pos}
theorem pe_cal (c:Cal X.prog X.w X.K X.mg X.base x ps k sp) (hr:Room k X.A) (hg:Gl X x) (ha:PA X (e :: es) t) (hn:x≠"__name__":=by decide) (hdb:(x == ("__debug__" : Str))=false:=by decide)
  (he:V1 (e :: es) X.env=(false,p4 e X.env) :: V1 es X.env:=by rfl) (hpl:(Z5 pos (V1 es X.env)).any (·.1)=false:=by rfl):PE X (.Call (.Name x p) (e :: es) [] pos) (tCall sp [] E0 t):=by
 obtain ⟨f,g,F,a,b,d⟩:=c.ex;exact zgt F hr hg a b d .nil pass0 ha hdb he hpl
end
structure TX (K:c0) (mg:Str->Option Value):Prop where
 of :∀{n:Str} {v:Value},V3 K Y1 n=some (some v)->mg n=some v
 no :∀{n:Str},V3 K Y1 n=some none->mg n=none
theorem TX.mk' {K:c0} {mg:Str->Option Value} {h:Heap} (X:K.In h) (G:h.Ns Y1 mg):TX K mg:=⟨λ e=>PySem.W.mg_of X G e,λ e=>PySem.W.mg_none_of X G e⟩
section
variable {X:Cx}
noncomputable def rAdd4 (K:c0):R2:=λ x y H Q=>(∃i j,x=.int i/\y=.int j/\Q (.int (i + j)) H)\/(∃i j,x=.str i/\y=.str j/\i.length + j.length<=sizeLine/\Q (.str (i++j)) H)\/rCat x y H Q\/rCatT K x y H Q
theorem opAdd:OpR X (M4 .Add) (rAdd4 X.K):=op_add.or (op_add_str.or (op_cat.or zbn))
theorem opEq:OpR X (U2 .Eq) rEq:=op_eq
theorem opNe:OpR X (U2 .NotEq) rNe:=op_ne
theorem z0o:CallR X (.builtin "len") (λ xs H Q=>(∃p ys,xs=[.ref p]/\(SqL X.K H p ys\/SqT X.K H p ys)/\Q (.int ys.length) H)\/∃z,xs=[.str z]/\z.length<=sizeLine/\Q (.int z.length) H):=call_len_seq.or z7y
end
noncomputable def z0u (x:V) (g:Int):Bool:=match x with
 | .int i=>decide (-g<=i) && decide (i<=g)
 | _=>false
noncomputable def tupOf (H:Hp) (x:V):Option (List V):=match x with
 | .ref a=>(match H a with|some (.tup xs)=>some xs|_=>none)
 | _=>none
theorem zaf {H H':Hp} {x:V} {T:String} (t:TagOf H x T) (e:Same H H'):tupOf H' x=tupOf H x:=by
 cases x with
 | ref a=>rcases t with ⟨⟨b,h⟩,_⟩|⟨⟨b,h⟩,_⟩|⟨⟨b,h⟩,_⟩<;>(unfold tupOf;dsimp only;rw [h,e a _ h])
 | _=>rfl
theorem TagOf.same {H H':Hp} {x:V} {T:String} (t:TagOf H x T) (e:Same H H'):TagOf H' x T:=by
 cases x with
 | ref a=>
  rcases t with ⟨⟨b,h⟩,z⟩|⟨⟨b,h⟩,z⟩|⟨⟨b,h⟩,z⟩
  ·exact .inl ⟨⟨b,e a _ h⟩,z⟩
  ·exact .inr (.inl ⟨⟨b,e a _ h⟩,z⟩)
  ·exact .inr (.inr ⟨⟨b,e a _ h⟩,z⟩)
 | _=>exact t
theorem TagOf.tuple {H:Hp} {x:V} (t:TagOf H x "tuple") :∃a xs,x=.ref a/\H a=some (.tup xs):=by
 cases x with
 | ref a=>
  rcases t with ⟨_,z⟩|⟨⟨xs,h⟩,_⟩|⟨_,z⟩
  ·exact absurd z (by decide)
  ·exact ⟨a,xs,rfl,h⟩
  ·exact absurd z (by decide)
 | non=>exact absurd (show "tuple" = "NoneType" from t) (by decide)
 | bl b=>exact absurd (show "tuple" = "bool" from t) (by decide)
 | int i=>exact absurd (show "tuple" = "int" from t) (by decide)
 | str z=>exact absurd (show "tuple" = "str" from t) (by decide)
 | _=>exact t.elim
theorem TagOf.int {H:Hp} {x:V} (t:TagOf H x "int") :∃i,x=.int i:=by
 cases x with
 | ref a=>rcases t with ⟨_,z⟩|⟨_,z⟩|⟨_,z⟩<;>exact absurd z (by decide)
 | non=>exact absurd (show "int" = "NoneType" from t) (by decide)
 | bl b=>exact absurd (show "int" = "bool" from t) (by decide)
 | int i=>exact ⟨i,rfl⟩
 | str z=>exact absurd (show "int" = "str" from t) (by decide)
 | _=>exact t.elim
theorem TagOf.str {H:Hp} {x:V} (t:TagOf H x "str") :∃z,x=.str z:=by
 cases x with
 | ref a=>rcases t with ⟨_,z⟩|⟨_,z⟩|⟨_,z⟩<;>exact absurd z (by decide)
 | non=>exact absurd (show "str" = "NoneType" from t) (by decide)
 | bl b=>exact absurd (show "str" = "bool" from t) (by decide)
 | int i=>exact absurd (show "str" = "int" from t) (by decide)
 | str z=>exact ⟨z,rfl⟩
 | _=>exact t.elim
theorem noInt {H:Hp} {x:V} {T:String} (t:TagOf H x T) (h:T≠"int") (g:Int):z0u x g=false:=by
 cases x with
 | int i=>exact absurd t h
 | _=>rfl
theorem noTup {H:Hp} {x:V} {T:String} (t:TagOf H x T) (h:T≠"tuple"):tupOf H x=none:=by
 cases x with
 | ref a=>
  rcases t with ⟨⟨b,e⟩,_⟩|⟨_,z⟩|⟨⟨b,e⟩,_⟩
  ·unfold tupOf;dsimp only;rw [e]
  ·exact absurd z h
  ·unfold tupOf;dsimp only;rw [e]
 | _=>rfl
theorem z5n {H:Hp} {x:V} {T:String} (t:TagOf H x T) {C:String} (h:C≠"int"):instB T C=decide (T=C):=by
 unfold instB;have:(C == "int")=false:=by simpa using h
 rw [this,z8,T8,Bool.beq_eq_decide_eq]
def Flat (H:Hp) (x:V):Prop:=∀xs,tupOf H x=some xs->xs.length<=1000/\∀y∈xs,∃T,TagOf H y T
theorem z7p {α β:Type} [BEq α] [LawfulBEq α] {l:List (α×β)} {a:α} {b:β} (h:l.lookup a=some b):(a,b)∈l:=by
 induction l with
 | nil=>cases h
 | cons p r ih=>
  obtain ⟨c,d⟩:=p;rw [Y3] at h;cases hc:(a == c) with
  | true=>rw [hc] at h;cases h;rw [eq_of_beq hc];exact E2
  | false=>rw [hc] at h;exact W2 _ (ih h)
theorem z5r {names:List (Str×Q5)} {Q:Str×Q5->Prop} (h:(names.all λ y=>y.2 != Q1)=true) :∀y∈names,y.2=Q1->Q y:=λ y a e=>by have:=List.all_eq_true.mp h y a;rw [e] at this;exact absurd this (by decide)
theorem Same.upd {H:Hp} {p:Addr} {o:HO} (h:H p=none):Same H (upd H p o):=λ b u e=>by rw [upd_ne (z0f e h)];exact e
theorem Same.seqT {K:c0} {H H':Hp} {a:Addr} {xs:List V} (e:Same H H') (h:SqT K H a xs):SqT K H' a xs:=by
 rcases h with (h|⟨o,h⟩)|h
 ·exact .inl (.inl (e _ _ h))
 ·exact .inl (.inr ⟨o,e _ _ h⟩)
 ·exact .inr h
theorem zbz {H:Hp} {x:V} {xs:List V} (h:tupOf H x=some xs) :∃a,x=.ref a/\H a=some (.tup xs):=by
 unfold tupOf at h;cases x with
 | ref a=>
  dsimp only at h;split at h
  ·rename_i ys e;exact ⟨a,rfl,by rw [e,C1 h]⟩
  ·cases h
 | _=>cases h
end L2
namespace L2
open PySem PySem.Spec PyProof.Rows
open Builtin.Str (occurrences partsBetween strKind)
section
variable {X:Cx}
theorem z8z {vl:Value} {lo:Option Int} (p:C9 vl lo) :∃l:Option (Int×Tok),vl=partValue l/\l.map (·.1)=lo:=by
 cases p with
 | none=>exact ⟨none,rfl,rfl⟩
 | int i t=>exact ⟨some (i,t),rfl,rfl⟩
end
end L2
namespace L2
open PySem PySem.Spec PyProof.Rows
section
variable {X:Cx}
def rSlS:V->Option Int->Option Int->Hp->VK->Prop:=λ x lo hi H Q=>∃z,x=.str z/\z.length<=sizeLine/\Q (.str (Txt.slice z lo hi)) H
theorem sl_str:SlR X rSlS:=by
 intro r s σ H x v n j o m p Q I g a b d h;obtain ⟨z,rfl,i,q⟩:=h;obtain ⟨t,rfl⟩:=g;obtain ⟨l,rfl,c⟩:=z8z b;obtain ⟨u,rfl,f⟩:=z8z d;subst c f;refine ⟨"str",_,F.slot_str_getitem.lookup,typeIs_str _ _ _,wpAny_getItem_str_slice (l:=l) (u:=u) (st:=none) a rfl
  (post_val_or_str ⟨L0 (Txt.slice_le z _ _) i,λ e k=>⟨.str (Txt.slice z _ _),H,I.tok k,⟨e,rfl⟩,q⟩⟩)⟩
theorem slSeq:SlR X (λ x lo hi H Q=>rSlL X.K x lo hi H Q\/rSlT X.K x lo hi H Q\/rSlS x lo hi H Q):=sl_list.or (sl_tup.or sl_str)
end
def RowAt (H:Hp) (r:Addr):Prop:=∃a b c:Int,H r=some (.lst [.int a,.int b,.int c])/\0<=c/\c < 536870909
def Kept (r:Addr) (H H':Hp):Prop:=∀b o,b≠r->H b=some o->H' b=some o
theorem Kept.set {r:Addr} {H:Hp} {o:HO}:Kept r H (upd H r o):=λ b u n h=>by rw [upd_ne n];exact h
structure Rw (r:Addr) (H H':Hp):Prop where
 k:Kept r H H'
 r:RowAt H' r
section
variable {r:Addr} {σ:St} {H0:Hp} {K:c0}
theorem g_name {i:Nat} {v:V} {σ:St} {H:Hp} {Q:St->Hp->Prop} (h:Q (σ.set i (some v)) H):gName i v σ H Q:=h
theorem t_nx {nx ct bk:St->Hp->Prop} {rt:VK} {σ:St} {H:Hp} (h:nx σ H):Ends.nx { nx:=nx,rt:=rt,bk:=bk,ct:=ct } σ H:=h
end
end L2
namespace L2
open PySem
section
variable {prog:Program} {w:S0} {A:X1} {E:Value->A0->Prop} {s:A0}
theorem tupOn {it t:Addr} {i:Nat} {its:Array Value} {x:Value} {Q:Value->A0->Prop} (a:s.heap.IsTupleIter it t i) (b:s.heap.IsTuple t its) (c:its[i]? = some x)
  (q :∀h',h'.IsTupleIter it t (i + 1)->S6 it s.heap h'->Q x { s with heap:=h' }):R0 (Y0 prog w) A (P4 (.ref it)) Q E s:=by
 obtain ⟨o,e,h,d⟩:=id a;obtain ⟨p,g,_,n,f⟩:=b;unfold P4;refine o0 (k8 (name:=c4 "__next__") a.typeIs N5 (j8 N5 a.typeIs j0b (show R0 _ _ (field (.ref it) 0 >>= _) _ _ s from o0 (U6 e d (x:=.ref t) rfl ?_)) (j02 _)));show R0 _ _ (if (F1 t == S5)=true then _ else (field (.ref it) 1 >>= _)) _ _ s;rw [if_neg (by exact N0)];refine o0 (U6 e d (x:=.int i 0) rfl (show R0 _ _ (seqItems? (.ref t) >>= _) _ _ s from o0 (V8 g f ?_)));simp only [g9,c];refine o0 (wpAny_setField e d (by simp) (F0 ⟨x,rfl,F0 (q _ ⟨_,i8 _ e (Obj.isFreed_of_fields (Obj.data_mapFields d _)),(Obj.cls_mapFields ..).trans h,?_⟩ (C3 ..))⟩));rw [Obj.data_mapFields d];simp [E5]
theorem tupOff {it t:Addr} {i:Nat} {its:Array Value} {Q:Value->A0->Prop} (hh:A.handled=none) (a:s.heap.IsTupleIter it t i) (b:s.heap.IsTuple t its) (c:its[i]? = none)
  (q :∀h' e,Heap.ExtBut it s.heap h'->(∃o,h'.get? e=some o/\o.cls=.type "StopIteration")->E (.ref e) { s with heap:=h' }):R0 (Y0 prog w) A (P4 (.ref it)) Q E s:=by
 obtain ⟨o,f,j,d⟩:=id a;obtain ⟨p,h,_,n,g⟩:=b;unfold P4;refine o0 (k8 (name:=c4 "__next__") a.typeIs N5 (j8 N5 a.typeIs j0b (show R0 _ _ (field (.ref it) 0 >>= _) _ _ s from o0 (U6 f d (x:=.ref t) rfl ?_)) (j02 _)));show R0 _ _ (if (F1 t == S5)=true then _ else (field (.ref it) 1 >>= _)) _ _ s;rw [if_neg (by exact N0)];refine o0 (U6 f d (x:=.int i 0) rfl (show R0 _ _ (seqItems? (.ref t) >>= _) _ _ s from o0 (V8 h g ?_)));simp only [g9,c];refine o0 (t9 (o0 (wpAny_setField f d (by simp) (show R0 _ _ (newExc (.type "StopIteration") [] >>= _) _ _ _ from o0 ?_))));simp only [newExc,newTuple];refine o0 (K4 (o0 (m:=firstArgMember _ _) (j03 (a:=S5) (by first|rfl|(simp only [firstArgMember];rfl)) (K4 ?_ (by size_fits)))) (by size_fits));simp only [raiseNew];refine o0 (wpAny_handled ?_);first|rw [show A.in1.handled=none from hh]|rw [hh]
 exact o0 (F0 (wpAny_throw (q _ _ (((C3 ..).extBut.push _).push _) ⟨_,O0 _ rfl,rfl⟩)))
structure ZApart (z T U i j a b:Addr):Prop where
 dis:[z,T,U,i,j].Nodup
 fa:a∉[z,T,U,i,j]
 fb:b∉[z,T,U,i,j]
structure ZAt (h:Heap) (z T U i j a b:Addr) (n:Nat) (f:Value):Prop where
 z:IsZip h z T U f
 t:IsPair h T (.ref i) (.ref j)
 u :∃p q,IsPair h U p q
 i:h.IsTupleIter i a n
 j:h.IsTupleIter j b n
end
end L2
namespace L2
open PySem PySem.Spec PyProof.Rows
inductive Dt where
 | non|bl (b:Bool)|int (i:Int)|str (z:Str)|tup (ds:List Dt)
mutual
noncomputable def IsDt (K:c0) (H:Hp):Dt->V->Prop
 | .non,v=>v=.non
 | .bl b,v=>v=.bl b
 | .int i,v=>v=.int i
 | .str z,v=>v=.str z
 | .tup ds,v=>∃a xs,v=.ref a/\SqT K H a xs/\IsDts K H ds xs
noncomputable def IsDts (K:c0) (H:Hp):List Dt->List V->Prop
 | [],xs=>xs=[]
 | d :: ds,xs=>∃x r,xs=x :: r/\IsDt K H d x/\IsDts K H ds r
end
mutual
noncomputable def Dt.deep:Dt->Nat
 | .tup ds=>Dt.deeps ds + 1
 | _=>0
noncomputable def Dt.deeps:List Dt->Nat
 | []=>0
 | d :: ds=>max d.deep (Dt.deeps ds)
noncomputable def Dt.plain:Dt->Bool
 | .int _=>true
 | .str _=>true
 | .tup ds=>Dt.plains ds
 | _=>false
noncomputable def Dt.plains:List Dt->Bool
 | []=>true
 | d :: ds=>d.plain && Dt.plains ds
end
section
variable {X:Cx}
theorem Inv.turnedL {pins:List (Addr×Obj)} {σ:St} {H:Hp} {s:A0} {h':Heap} {t':Nat} {fp:List Addr} (I:Inv X pins σ H s) (k :∀b o,b∉fp->s.heap.get? b=some o->h'.get? b=some o) (hf :∀b∈fp,FpOk X pins H b) :
  Inv X pins σ H { s with heap:=h',toks:=t' }:=by
 have f :∀b u,H b=some u->b∉fp:=λ b u e z=>by have:=(hf b z).1;rw [this] at e;cases e
 refine I.step (g':=s.gens) (d':=s.drawn) (ch:=fp) (λ b d=>⟨(hf b d).2.2.2.1,(hf b d).2.1,(hf b d).2.2.2.2.1,(hf b d).2.2.2.2.2⟩) (λ b o _ _ a e _=>k b o a e) (λ b o _ _ a e _=>⟨o.slots,k b o a e⟩) (λ _ _ _ _ n=>n)
  (λ b o a e=>⟨o,k b o a e⟩) (λ _ _ e=>e) (λ _ _ _ e=>e) (λ b l e=>⟨#[],by rw [e];simp⟩) (λ m h=>?_) (λ b u e=>?_) I.bare
 ·obtain ⟨o,i,j,g,r⟩:=h;exact ⟨o,i,j,k _ o (λ z=>(hf _ z).2.1 rfl) g,r⟩
 ·refine (I.hok b u e).stay (λ c v a q=>k c v ?_ q) (λ _ q=>q) λ _ _ q=>q;rcases a with z|z
  ·rw [z];exact f b u e
  ·exact f c _ z
theorem Inv.turnedLaid {pins:List (Addr×Obj)} {σ:St} {H:Hp} {s:A0} {h':Heap} {t':Nat} {fp:List Addr} {a:Addr} {o:HO} (I:Inv X pins σ H s) (k :∀b o,b∉fp->s.heap.get? b=some o->h'.get? b=some o) (hf :∀b∈fp,FpOk X pins H b)
  (hp:s.heap.objs.size<=a) (new:ObjOk X.prog X.w (upd H a o) h' a o):Inv X pins σ (upd H a o) { s with heap:=h',toks:=t' }:=by
 have j:H a=none:=I.hok.fresh hp;have g :∀b u,H b=some u->b∉fp:=λ b u e z=>by have:=(hf b z).1;rw [this] at e;cases e
 have old :∀b u,H b=some u->upd H a o b=some u:=λ b u e=>by rw [upd_ne (z0f e j)];exact e
 refine I.step (g':=s.gens) (d':=s.drawn) (ch:=fp) (λ b f=>⟨(hf b f).2.2.2.1,(hf b f).2.1,(hf b f).2.2.2.2.1,(hf b f).2.2.2.2.2⟩) (λ b o _ _ d e _=>k b o d e) (λ b o _ _ d e _=>⟨o.slots,k b o d e⟩)
  (λ b u _ e n=>by rw [upd_ne (λ z=>by subst z;exact absurd (M0 e) (Nat.not_lt.mpr hp))];exact n)
  (λ b o d e=>⟨o,k b o d e⟩) (λ _ _ e=>old _ _ e) (λ _ _ _ e=>old _ _ e) (λ b x e=>⟨#[],by rw [old _ _ e];simp⟩) (λ m i=>?_) (λ b u e=>?_) I.bare
 ·obtain ⟨o,l,p,h,r⟩:=i;exact ⟨o,l,p,k _ o (λ z=>(hf _ z).2.1 rfl) h,r⟩
 ·by_cases f:b=a
  ·subst f;rw [z01] at e;cases e;exact new
  ·rw [upd_ne f] at e;refine (I.hok b u e).stay (λ c v d q=>k c v ?_ q) (λ c q=>old _ _ q) λ c t q=>old _ _ q;rcases d with z|z
   ·rw [z];exact g b u e
   ·exact g c _ z
theorem zav:OpR X (M4 .Add) (λ x y H Q=>∃a b ys,x=.ref a/\y=.ref b/\SqT X.K H a []/\SqT X.K H b ys/\Q (.ref b) H):=by intro M s σ H x y v u Q I A l h;obtain ⟨a,b,ys,rfl,rfl,k,w,q⟩:=h;cases A;cases l;obtain ⟨J,m,j,_⟩:=I.tuple k;obtain ⟨z,G,B,_⟩:=I.tuple w;cases m;obtain ⟨⟨E,C,L,p⟩,f,c,t,i⟩:=id j;obtain ⟨⟨D,o,F,n⟩,d,e,r,g⟩:=id B;simp only at c i e g;subst c i e g;exact concat_meets ⟨_,f,rfl⟩ ⟨_,d,rfl⟩ Z9 seq_tuple_add E7 y7 (j7 _ _) (tuple_addW0 a b ([]:List Value).toArray z.toArray t r C o p n (by simp)) ⟨f,d,⟨.ref b,H,I,rfl,q⟩⟩
noncomputable def rCatS (K:c0):R2:=λ x y H Q=>∃a b xs ys,x=.ref a/\y=.ref b/\SqT K H a xs/\SqT K H b ys/\ys≠[]/\xs.length + ys.length<=sizeLine/\∀p H',Same H H'->SqT K H' p (xs++ys)->Q (.ref p) H'
theorem zhj:OpR X (M4 .Add) (rCatS X.K):=by
 intro i s σ H x y v u Q I g f h;obtain ⟨a,b,c,j,rfl,rfl,e,d,l,m,q⟩:=h;cases c with
 | nil=>exact zav i s σ H _ _ v u Q I g f ⟨a,b,j,rfl,rfl,e,d,q b H (Same.refl H) d⟩
 | cons x c=>exact zbn i s σ H _ _ v u Q I g f ⟨a,b,x :: c,j,rfl,rfl,e,d,by simp,m,λ z=>absurd z l,λ _ p k=>q p _ (Same.upd k) (SqT.of z01)⟩
theorem z15 {o e:Expr} {es:List Expr} {to:TE} {t:TA} {apos cpos:Pos} (ho:PE X o to) (ha:PA X (e :: es) t)
  (hbase:i6 o "append" X.env (p4 o X.env)=p4 o X.env:=by rfl)
  (hfew:((Z5 cpos (V1 (e :: es) X.env)).all (λ x=>!x.1) && (backToKw cpos (j06 [] X.env)).all (λ x=>x.1.isSome)
   && decide ((e :: es).length + ([]:List G8).length + (if ([]:List G8).isEmpty then 0 else 1) < 30))=true:=by rfl)
  (hline:(apos.endLine == cpos.line)=true:=by rfl) (hs:V1 (e :: es) X.env=(false,p4 e X.env) :: V1 es X.env:=by rfl) (hplain:(Z5 cpos (V1 es X.env)).any (·.1)=false:=by rfl) :
  PE X (.Call (.Attribute o "append" apos) (e :: es) [] cpos) (tBM X.K "list" za9 to t):=pe_bm U9 PySem.F.slot_list_append PySem.F.type_list_append ze6 ho ha hbase hfew hline hs hplain
end
theorem SqT.wrote {K:c0} {H:Hp} {l a:Addr} {o:HO} {zs xs:List V} (e:H l=some (.lst zs)) (h:SqT K H a xs):SqT K (upd H l o) a xs:=by
 rcases h with (h|⟨ob,h⟩)|h
 ·exact .inl (.inl (by rw [upd_ne (ne_of h e (by intro z;cases z))];exact h))
 ·exact .inl (.inr ⟨ob,by rw [upd_ne (ne_of h e (by intro z;cases z))];exact h⟩)
 ·exact .inr h
theorem iteP {c A B:Prop} [Decidable c] (hc:c) (h:A):if c then A else B:=by rw [if_pos hc];exact h
theorem iteN {c A B:Prop} [Decidable c] (hc:¬ c) (h:B):if c then A else B:=by rw [if_neg hc];exact h
theorem zhl {names:List (Str×Q5)} {n:Str} {Q:Str×Q5->Prop} (h:(names.all λ y=>y.2 != Q1 || y.1 == n)=true) (q :∀k,Q (n,k)) :∀y∈names,y.2=Q1->Q y:=λ y c e=>by
 have:=List.all_eq_true.mp h y c;rw [e] at this;have:(y.1 == n)=true:=by simpa using this
 obtain ⟨a,b⟩:=y;rw [beq_iff_eq] at this;have:a=n:=this;subst this;exact q b
noncomputable def CXE (P:Program) (w:S0) (base:Heap):CXT:=λ outer H s E e s'=>∃(ea:Addr) (cls a0:Value) (B:Heap) (H':Hp),e=.ref ea/\s'.os=s.os/\S7 s'.gens/\Un (frs outer) [] H H' s.heap s'.heap/\HOk P w H' s'.heap/\H' ea=none/\
 base.StaysIn B/\Heap.FlyingW B outer ea cls a0 s'.heap/\(∀b o,s'.heap.get? b=some o->b∉frs outer->((∃u,H' b=some u)\/∃u,s.heap.get? b=some u)->B.get? b=some o)/\E cls none H'
structure CalE (P:Program) (w:S0) (K:c0) (mg:Str->Option Value) (base:Heap) (x:Str) (ps:List Str) (k:Nat) (sp:Sp):Prop where
 ex :∃f fd,FnOk P w K mg base (CXE P w base) k f fd ps sp/\mg x=some (.ref f)/\F4 K (.ref f)=true/\Binds K fd ps []
end L2
set_option maxHeartbeats 400000
namespace L2
open PySem PySem.Spec PyProof.Rows PySem.W PySem.Calls PySem.Builtin PySem.Builtin.ObjectAttr PySem.Builtin.Getset_descriptor
end L2
namespace L2
open PySem PySem.Spec PyProof.Rows PySem.W
end L2
namespace L2
open PySem PySem.Spec PyProof.Rows
end L2
set_option maxHeartbeats 4000000
namespace L2
open PySem PySem.Spec PyProof.Rows
noncomputable def cStG (σ:St) (fr:List (Nat×Str)) (us:List (Option V)):St:=us++fr.map λ p=>(σ[p.1]?).join
noncomputable def tCompG (wi:TI) (n:Nat) (fr:List (Nat×Str)) (g:TG) (tc:TT) (te:TE):TE:=λ σ H Q=>wi σ H λ J H1=>∃W:Nat->Nat->List V->Hp->Prop,(∃m,W 0 m [] H1)/\∀i m ys H,W i m ys H->
 (J.stop i H/\ys.length<=sizeLine/\∀p,H p=none->Q (.ref p) (upd H p (.lst ys)))\/
 (J.go i H/\ys.length<=sizeLine/\∀v H',J.yld i H v H'->g v (cStG σ fr (Q0 n none)) H' λ σ6 H6=>∃us,us.length=n/\σ6=cStG σ fr us/\tc (cStG σ fr us) H6 λ b H2=>if b=true then te (cStG σ fr us) H2 λ y H3=>∃m',m' < m/\W (i + 1) m' (ys++[y]) H3 else∃m',m' < m/\W (i + 1) m' ys H2)
section
variable {X:Cx}
theorem zfs {scope:Scope} {cl:List (Str×Addr)} {N:List Str} {C:Addr} {s₂:A0} {H₂:Hp} {fp:List Addr} {x:Str} {px:Pos} (i:Nat) (hN:N.Nodup) (hi:N[i]? = some x) (hx:scope.names.lookup x=some .local):PG (cxComp X scope cl N C s₂ H₂ fp) (.Name x px) (gName i):=
 z0p hN hi (.inl (lookup_relabel_local hx)) (.inr (lookup_relabel_local hx))
theorem zax {xs:List Str} {tg:Expr} {g:TG} {pos:Pos} {elt iter:Expr} {ifs:List Expr} {scope:Scope} {fr:List (Nat×Str)} {wi:TI} {tc:TT} {te:TE} {use:Option (Value->Sem Unit)} {QQ:Value->A0->Prop} {pins:List (Addr×Obj)} {s:A0} {σ:St} {H:Hp} {Q:VK} {pp:Pos} (hcalm:X.calm=true) (hi:PI X tg iter wi)
  (hfr :∀p∈fr,X.N[p.1]? = some p.2/\(X.env.kindOf p.2=some .cell\/X.env.kindOf p.2=some .free))
  (hfree :∀y∈scope.names,y.2=Q1->X.env.kindOf y.1=some .cell\/X.env.kindOf y.1=some .free)
  (hfs :∀p∈fr,(p.2,Q1)∈scope.names/\((M7 scope X.env).names.lookup p.2=some .cell\/(M7 scope X.env).names.lookup p.2=some .free))
  (hcell :∀y∈scope.names,y.2≠NameKind.cell) (hkind:scope.kind=.function) (hnames :∀y∈scope.names,y.2=NameKind.local->scope.names.lookup y.1=some .local)
  (hg :∀cl C s₂ H₂ fp,PG (cxComp X scope cl (xs++fr.map (·.2)) C s₂ H₂ fp) tg g)
  (ht :∀cl C s₂ H₂ fp,PF (cxComp X scope cl (xs++fr.map (·.2)) C s₂ H₂ fp) ifs tc) (he :∀cl C s₂ H₂ fp,PE (cxComp X scope cl (xs++fr.map (·.2)) C s₂ H₂ fp) elt te)
  (hs :∀x,G5 iter X.env x=N3 x) (I:Inv X pins σ H s) (h:tCompG wi xs.length fr g tc te σ H Q)
  (hend :∀(D:Addr) (s4:A0) (H4:Hp),Inv X pins σ H4 s4->(∃m,s4.heap.Ns (D + 1) m)->H4 (D + 1)=none->D + 1≠X.env.locals->X.s₀.heap.objs.size<=D + 1->(D + 1∉X.fs/\(∀x c,X.env.cells.lookup x=some c->c≠D + 1)/\∀p∈X.pn++pins,p.1≠D + 1)->Q (.ref D) H4->compPost (Y0 X.prog X.w) X.A X.xe use QQ (.ref D) (D + 1) (.ok .next) s4) :
  R0 (Y0 X.prog X.w) X.A (comprehension (.ListComp elt [⟨tg,iter,ifs,0⟩] scope pos) scope X.env pp (newList []) false (firstIter [⟨tg,iter,ifs,0⟩] X.env) use) QQ X.xe s:=by
 obtain ⟨cl,g0,U,b4⟩:=zc7 (scope:=scope) (env:=X.env) λ y R hk=>I.ok.has y.1 (hfree y R hk);refine wpAny_comprehension_free (use:=use) rfl hs g0 hkind hnames (thn (hi pins s σ H _ I h) λ xv s₁ h₁=>thn h₁ λ g2 s₂ h₂=>?_);obtain ⟨it,fp,tn,J,M,e,f,T,b2,O,W,⟨m0,w0⟩,f3⟩:=h₂;subst e
 -- the list that is filled,the block's names
 refine K4 (wpAny_newFunctionEnv hcell (by intro y R;simp at R) (λ h₁ a2 a1=>?_) hkind);dsimp only at a2 a1⊢;generalize hD:s₂.heap.objs.size=D at a2 a1⊢;generalize hG:s₂.heap.push { cls:=.type "list",dict:=none,data:=.seq ([]:List Value).toArray }=G at a2 a1⊢;have hC:G.objs.size=D + 1:=by rw [<-hG,A4,hD]
 generalize hCC:G.objs.size=C at a2 a1 hC⊢;subst hC;have a7 :∀b∈fp,b < D:=λ b a=>by obtain ⟨o,e,_⟩:=T.obj _ _ b2 b a;rw [<-hD];exact M0 e
 have old :∀b o,s₂.heap.get? b=some o->h₁.get? b=some o:=λ b o e=>a1.extBut b o (T0 (E1 (by rw [<-hD];exact M0 e))) (y0 _ (hG ▸ y0 _ e));have e5:G.get? D=some { cls:=.type "list",dict:=none,data:=.seq ([]:List Value).toArray }:=by rw [<-hG,<-hD];exact O0 _ rfl
 have e4:h₁.PlainList D #[]:=⟨0,a1.extBut _ _ (T0 (A2 D)) (y0 _ e5)⟩
 have d9 :∀y c,cl.lookup y=some c->c < D:=λ y c e=>by obtain ⟨v,q⟩:=f.cell y c (U y c e);rw [<-hD];exact q.lt
 have d5 :∀b∈frs X.stack,b < D:=λ b a=>by
  rcases List.mem_cons.mp (f.stkSub b a) with e|a
  ·rw [e,<-hD];exact f.lt
  ·rw [<-hD];exact Nat.lt_of_not_le λ z=>f.nofs z a
 have c8 :∀b∈fp,b∉frs X.stack:=λ b a d8=>by
  rcases List.mem_cons.mp (f.stkSub b d8) with e|z
  ·exact (O b a).2.1 e
  ·exact (O b a).2.2.1 z
 generalize hX':cxComp X scope cl (xs++fr.map (·.2)) (D + 1) s₂ M fp=X';have d7:X'.Ok:=by
  subst hX';refine ⟨f.ok.mod,hkind,f.ok.glob,f.ok.blt,(by show s₂.heap.objs.size<=D + 1;omega),λ y z c S L=>f.ok.inj y z c (U _ _ S) (U _ _ L),λ y R=>?_,(λ _ _ z=>Bool.noConfusion z),f.ok.hd,f.ok.frames,.inl rfl,λ b a=>⟨?_,λ y c e=>?_⟩,λ b o e=>f.bs b o e,?_,λ b o e a=>?_,c8,f.env0.funs,f.stkFree⟩
  ·rcases R with R|R
   ·exact b4 y (z3o hcell R (.inl rfl))
   ·exact b4 y (z3o hcell R (.inr rfl))
  ·exact T0 (E1 (a7 b a))
  ·exact (O b a).2.2.2.2.1 y c (U y c e)
  ·exact L0 f.ok.bsz f.sz
  ·rcases (O b a).2.2.2.1 with z|z
   ·exact f.ok.noex b o e z
   ·exact absurd (i1 (M0 (f.ok.bs b o e).1) z) (E3 _)
 have Y:X'.env.locals=D + 1:=by subst hX';rfl
 have a3:X'.env.cells=cl:=by subst hX';rfl
 have a6:X'.fs=frs X.stack:=by subst hX';rfl
 have b0:X'.pn=[]:=by subst hX';rfl
 have a4:X'.s₀=s₂:=by subst hX';rfl
 have d2:X'.H₀=M:=by subst hX';rfl
 have b6:X'.ex=fp:=by subst hX';rfl
 have c2:X'.N=xs++fr.map (·.2):=by subst hX';rfl
 have c5:X'.A=X.A:=by subst hX';rfl
 have E:X'.prog=X.prog/\X'.w=X.w/\X'.K=X.K/\X'.calm=true:=by subst hX';exact ⟨rfl,rfl,rfl,hcalm⟩
 have b3:X'.xe=λ _ _=>False:=by subst hX';rfl
 have c6:X'.env=compEnvC scope cl (D + 1) X.env:=by subst hX';rfl
 have f0:PF X' ifs tc:=hX' ▸ ht cl (D + 1) s₂ M fp;have e0:PE X' elt te:=hX' ▸ he cl (D + 1) s₂ M fp;have e7:PG X' tg g:=hX' ▸ hg cl (D + 1) s₂ M fp;have fresh :∀b,D<=b->M b=none:=λ b a=>f.hok.fresh (by rw [hD];exact a);have start :∀t,Inv X' [] (cStG σ fr (Q0 xs.length none)) M { s₂ with heap:=h₁,toks:=t }:=λ t=>by
  refine ⟨d7,by rw [a4],f.bare,?_,⟨_,by rw [Y];exact a2,λ i y v S L e3=>?_⟩,λ y c e=>?_,by rw [Y];exact fresh _ (L6 _),λ y c e=>?_,λ p B=>?_,?_,?_⟩
  ·rw [a6,b6,d2,a4];exact Un.kept old
  ·rw [c2] at S;by_cases a0:i < xs.length
   ·exfalso;unfold cStG at L;rw [X2 (by rw [Z2];exact a0),n4,if_pos a0] at L;cases L
   ·have a0:xs.length<=i:=K7 a0;rw [V2 a0,V0] at S;unfold cStG at L;rw [V2 (by rw [Z2];exact a0),Z2,V0] at L;generalize i - xs.length=i at S L;cases ej:fr[i]? with
    | none=>rw [ej] at S;cases S
    | some p=>
     rw [ej] at S;obtain rfl:p.2=y:=C1 S;have a9:(σ[p.1]?).join=some v:=by rw [ej] at L;exact C1 L
     have f4:σ[p.1]? = some (some v):=by
      cases q:σ[p.1]? with
      | none=>rw [q] at a9;cases a9
      | some z=>rw [q] at a9;exact congrArg some a9
     have B:=d0 ej;obtain ⟨m,hn,hl⟩:=f.loc;obtain ⟨u,r,l⟩:=hl p.1 p.2 v (hfr p B).1 f4 (by rcases (hfr p B).2 with z|z;exact .inr (.inl z);exact .inr (.inr z));refine ⟨u,r,.inr ⟨?_,?_⟩⟩
     ·rw [c6];exact (hfs p B).2
     ·rcases l with ⟨z,_⟩|⟨_,c,ec,q⟩
      ·exfalso;rcases (hfr p B).2 with z'|z'<;>(rw [z] at z';cases z')
      ·obtain ⟨c',c0⟩:=b4 p.2 (hfs p B).1;have:=U _ _ c0;rw [ec] at this;cases this;obtain ⟨o,ho,hd⟩:=q;exact ⟨c,by rw [a3];exact c0,o,old _ _ ho,hd⟩
  ·rw [a3] at e;obtain ⟨v,o,ho,hd⟩:=f.cell y c (U y c e);exact ⟨v,o,old _ _ ho,hd⟩
  ·rw [a3] at e;exact f.freeC y c (U y c e)
  ·rw [b0] at B;exact nomatch B
  ·rw [E.1,E.2.1];exact f.hok.kept old
  ·rw [c2];unfold cStG;simp
 have FP :∀{pins':List (Addr×Obj)} {H':Hp},(∀b∈fp,H' b=none)->(∀p∈pins',p.1=D)->∀b∈fp,FpOk X' pins' H' b:=λ hn B b a=>by
  refine ⟨hn b a,?_,?_,.inl (by rw [b6];exact a),λ y c e=>?_,λ p c3=>?_⟩
  ·rw [Y];exact T0 (E1 (a7 b a))
  ·rw [a6];exact c8 b a
  ·rw [a3] at e;exact (O b a).2.2.2.2.1 y c (U y c e)
  ·rw [b0] at c3;rw [B p c3];exact F2 (a7 b a)
 -- the turns
 have loop :∀s₃:A0,s₃={ s₂ with heap:=h₁,toks:=s₂.toks + ([]:List (Str×Value)).length }->
   k6 (Y0 X.prog X.w) X.A (.compLoop (.ListComp elt [⟨tg,iter,ifs,0⟩] scope pos) 0 (.ref it) (.ref D) (compEnvC scope cl (D + 1) X.env))
    (compPost (Y0 X.prog X.w) X.A X.xe use QQ (.ref D) (D + 1)) s₃:=by
  rintro s₃ rfl;rw [<-c6,<-E.1,<-E.2.1,<-c5];refine zd7 (λ k s'=>∃i ys its H',Inv X' [] (cStG σ fr (Q0 xs.length none)) H' s'/\tn i s'.heap/\(∀b∈fp,H' b=none)/\s'.heap.PlainList D its.toArray/\Vals ys its/\H' D=none/\W i k ys H') ?_ m0
   ⟨0,[],[],M,start _,T.keep _ _ _ b2 λ b a o e=>old b o e,λ b a=>(O b a).1,e4,.nil,fresh _ (C0 _),w0⟩
  rintro n s3 ⟨i,ys,its,H3,I3,st3,fr3,ac3,rv3,hD3,w3⟩;obtain ⟨na,g1⟩:=id ac3;have b9:Inv X' [(D,{ cls:=.type "list",data:=.seq its.toArray na })] (cStG σ fr (Q0 xs.length none)) H3 s3:=I3.pins_of λ p B=>by rw [c7] at B;subst B;refine ⟨g1,hD3,by rw [Y];exact T0 (A2 D),by rw [a6];exact λ z=>E3 _ (d5 D z),λ v z=>nomatch z⟩
  have hT:=T;rw [<-E.1,<-E.2.1,<-E.2.2.1] at hT;rcases f3 i n ys H3 w3 with ⟨d3,b5,qn⟩|⟨go,b5,step⟩
  ·refine thn (hT.done X' rfl rfl rfl E.2.2.2 i _ s3 _ H3 _ b9 (FP fr3 (by intro p B;rw [List.mem_singleton.mp B])) st3 d3) λ r s4 ⟨hr,I4⟩=>?_;subst hr;obtain ⟨m4,f8,_⟩:=id I4.loc;obtain ⟨h',c9⟩ :∃h',h'=s4.heap:=⟨_,rfl⟩
   have c1:S6 (D + 1) s4.heap h':=by rw [c9];exact ⟨rfl,λ _ _=>rfl⟩
   have f7:D≠D + 1:=T0 (A2 D);have d6:=(I4.pin (D,_) (U0 _ E2))
   have d4:h'.get? D=some { cls:=.type "list",data:=.seq its.toArray na }:=(c1.2 D f7).trans d6.1;have un:Un (frs X.stack) fp M H3 s₂.heap s4.heap:=by have:=I4.base;rw [a6,b6,d2,a4] at this;exact this
   have kp :∀b o,b≠D + 1->s4.heap.get? b=some o->h'.get? b=some o:=λ b o a e=>(c1.2 b a).trans e;have a5 :∀b o,s₂.heap.get? b=some o->b≠D + 1/\b≠D:=λ b o e=>by have:=M0 e;rw [hD] at this;exact ⟨T0 (E1 this),T0 this⟩
   have f6:Un (frs X.stack) fp M (upd H3 D (.lst ys)) s₂.heap h':=by
    refine ⟨λ b o e n a Z=>kp b o (a5 b o e).1 (un.keep b o e n a Z),λ b o e n a Z=>?_,λ b o e n Z=>by rw [upd_ne (a5 b o e).2];exact un.free b o e n Z,λ b o e Z=>?_,λ b xs e=>?_,λ b o u e=>?_,λ b ps e=>?_⟩
    ·obtain ⟨sl,z⟩:=un.slot b o e n a Z;exact ⟨sl,kp _ _ (a5 b o e).1 z⟩
    ·obtain ⟨o',z⟩:=un.there b o e Z;exact ⟨o',kp _ _ (a5 b o e).1 z⟩
    ·rw [upd_ne (z0f e (fresh D (C0 _)))];exact un.tups b xs e
    ·rw [upd_ne (z0f e (fresh D (C0 _)))];exact un.frzs b o u e
    ·rw [upd_ne (z0f e (fresh D (C0 _)))];exact un.tbls b ps e
   have b1:H3 (D + 1)=none:=by have:=I4.free;rw [Y] at this;exact this
   have f5:HOk X.prog X.w (upd H3 D (.lst ys)) h':=λ b u e=>by
    by_cases a:b=D
    ·subst a;rw [z01] at e;cases e;exact ⟨b5,its,na,rv3,d4⟩
    ·rw [upd_ne a] at e;have z:=I4.hok b u e;rw [E.1,E.2.1] at z;refine z.stay (λ c v hc q=>kp c v ?_ q) (λ c q=>by rw [upd_ne (z0f q hD3)];exact q) λ c xs q=>by rw [upd_ne (z0f q hD3)];exact q
     rintro rfl;rcases hc with rfl|hc
     ·rw [b1] at e;cases e
     ·rw [b1] at hc;cases hc
   subst c9;have I5:Inv X pins σ (upd H3 D (.lst ys)) s4:=f.call' (s':=s4) (ch:=fp) (by have:=I4.os;rw [a4] at this;exact this) f6 f5 I4.bare (λ b a=>⟨(O b a).2.2.2.1,(O b a).2.1,(O b a).2.2.2.2.1,(O b a).2.2.2.2.2⟩);show compPost (Y0 X'.prog X'.w) X'.A X.xe use QQ (.ref D) (D + 1) (.ok .next) s4;rw [E.1,E.2.1,c5];refine hend D s4 _ I5 ⟨m4,Y ▸ f8⟩ ?_ ?_ ?_ ?_ (qn D hD3)
   ·rw [upd_ne (F2 (A2 D))];exact b1
   ·exact F2 (E1 (by rw [<-hD];exact f.lt))
   ·exact L0 f.sz (by rw [hD];exact L6 D)
   ·refine ⟨λ z=>f.nofs (by rw [hD];exact L6 D) z,λ y c e=>?_,λ p B=>?_⟩
    ·obtain ⟨v,q⟩:=f.cell y c e;exact T0 (E1 (by rw [<-hD];exact q.lt))
    ·exact T0 (E1 (by rw [<-hD];exact M0 (f.pin p B).1))
  ·refine thn (hT.item X' rfl rfl rfl E.2.2.2 i _ s3 _ H3 _ b9 (FP fr3 (by intro p B;rw [List.mem_singleton.mp B])) st3 go) λ r s4 ⟨u,hr,h4⟩=>?_;subst hr;refine thn h4 λ _ s5 ⟨v,H5,I5,r5,y5,st5,fr5⟩=>?_;have e8:=I5.pinned (FP fr5 (by intro p B;rw [List.mem_singleton.mp B])) (T.obj _ _ st5);have g5:=e7 _ s5 (cStG σ fr (Q0 xs.length none)) H5 v u _ e8 r5 (step v H5 y5);rw [b3] at g5;refine thn g5 λ _ s6 ⟨σ6,H6,I6,us,hus,e6,q6⟩=>?_;subst e6;have t6:=f0 _ s6 _ H6 _ I6 q6;rw [b3] at t6;refine thn t6 λ ok s7 ⟨H7,I7,q7⟩=>?_;have d1 :∀{H8:Hp} {F:A0} {ys':List V} {its':List Value} {pl:List (Addr×Obj)},Inv X' (pl++pinsAt fp s5.heap) (cStG σ fr us) H8 F->F.heap.PlainList D its'.toArray->Vals ys' its'->H8 D=none->(∃m',m' < n/\W (i + 1) m' ys' H8)->
     ∃m,m < n/\∃i ys its H',Inv X' [] (cStG σ fr (Q0 xs.length none)) H' F/\tn i F.heap/\(∀b∈fp,H' b=none)/\F.heap.PlainList D its.toArray/\Vals ys its/\H' D=none/\W i m ys H':=λ {H8 F ys' its' pl} P b8 rv8 a8 ⟨m',hm,w8⟩=>by
    refine ⟨m',hm,i + 1,ys',its',H8,(P.pins_of (pins':=[]) (λ p B=>absurd B B0)).weak (by unfold cStG;simp [hus]) ?_,T.keep _ _ _ st5 λ b a o e=>(P.pin (b,o) (U0 _ (U0 _ (z0z a e)))).1,λ b a=>?_,b8,rv8,a8,w8⟩
    ·intro j z e;unfold cStG at e⊢;by_cases hj:j < xs.length
     ·rw [X2 (by rw [Z2];exact hj),n4,if_pos hj] at e;cases e
     ·have hj:xs.length<=j:=K7 hj;rw [V2 (by rw [Z2];exact hj),Z2] at e;rw [V2 (by rw [hus];exact hj),hus];exact e
    ·obtain ⟨o,e,d⟩:=T.obj _ _ st5 b a;exact (P.pin (b,o) (U0 _ (U0 _ (z0z a e)))).2.1
   have b7 :∀{H8:Hp} {F:A0} {σ8:St},Inv X' ([(D,{ cls:=.type "list",data:=.seq its.toArray na })]++pinsAt fp s5.heap) σ8 H8 F->F.heap.PlainList D its.toArray/\H8 D=none:=λ P=>
    have z:=P.pin (D,_) (U0 _ (A5 _ E2))
    ⟨⟨na,z.1⟩,z.2.1⟩
   cases ok with
   | false=>rw [if_neg N0] at q7⊢;exact d1 I7 (b7 I7).1 rv3 (b7 I7).2 q7
   | true=>
    rw [if_pos rfl] at q7⊢;have t7:=e0 _ s7 _ H7 _ I7 q7;rw [b3] at t7;refine thn t7 λ y F ⟨vy,H8,P,r8,q8⟩=>?_;obtain ⟨b8,a8⟩:=b7 P;refine wpAny_list_append_plain (hsz:=by have:=rv3.length;rw [P0,<-this];exact b5) b8 λ h9 c4 f9=>?_;have I9:Inv X' ([]++pinsAt fp s5.heap) (cStG σ fr us) H8 F:=P.pins_of λ p B=>(P.pin p (U0 _ (U0 _ B)))
    have f1:Inv X' ([]++pinsAt fp s5.heap) (cStG σ fr us) H8 { F with heap:=h9 }:=by
     refine I9.turned (t':=F.toks) (it:=D) (λ b o a e=>(f9.2 b a).trans e) a8 (by rw [Y];exact T0 (A2 D)) (.inr (by rw [a4,hD];exact C0 _)) (λ y' c e=>?_) λ p B=>?_
     ·rw [a3] at e;exact T0 (d9 y' c e)
     ·rw [b0] at B;exact T0 (a7 _ (z8k B).1)
    have e9:its.toArray.push y=(its++[y]).toArray:=by simp
    rw [e9] at c4;exact d1 f1 c4 (rv3.snoc r8) a8 q8
 exact codeAny_compStart_list (loop _ rfl) (T.self _ 0 _ _ _ (T.keep _ _ _ b2 λ b a o e=>old b o e) (loop _ rfl))
theorem z7c {xs:List Str} {tg:Expr} {g:TG} {pos:Pos} {elt iter:Expr} {ifs:List Expr} {scope:Scope} {fr:List (Nat×Str)} {wi:TI} {tc:TT} {te:TE} (hcalm:X.calm=true) (hi:PI X tg iter wi)
  (hfr :∀p∈fr,X.N[p.1]? = some p.2/\(X.env.kindOf p.2=some .cell\/X.env.kindOf p.2=some .free))
  (hfree :∀y∈scope.names,y.2=Q1->X.env.kindOf y.1=some .cell\/X.env.kindOf y.1=some .free)
  (hfs :∀p∈fr,(p.2,Q1)∈scope.names/\((M7 scope X.env).names.lookup p.2=some .cell\/(M7 scope X.env).names.lookup p.2=some .free))
  (hcell :∀y∈scope.names,y.2≠NameKind.cell) (hkind:scope.kind=.function) (hnames :∀y∈scope.names,y.2=NameKind.local->scope.names.lookup y.1=some .local)
  (hg :∀cl C s₂ H₂ fp,PG (cxComp X scope cl (xs++fr.map (·.2)) C s₂ H₂ fp) tg g)
  (ht :∀cl C s₂ H₂ fp,PF (cxComp X scope cl (xs++fr.map (·.2)) C s₂ H₂ fp) ifs tc) (he :∀cl C s₂ H₂ fp,PE (cxComp X scope cl (xs++fr.map (·.2)) C s₂ H₂ fp) elt te)
  (hs :∀x,G5 iter X.env x=N3 x:=by intro _;rfl):PE X (.ListComp elt [⟨tg,iter,ifs,0⟩] scope pos) (tCompG wi xs.length fr g tc te):=by
 intro t s σ H Q I h;rw [eval_ListComp];refine zax hcalm hi hfr hfree hfs hcell hkind hnames hg ht he hs I h λ D l j d a k i n ⟨c,hc,hp⟩ q=>?_;obtain ⟨m,a⟩:=a;exact ⟨m,a,λ r f=>⟨.ref D,j,d.turned (t':=l.toks) (it:=D + 1) (λ b o c e=>(f.2 b c).trans e) k i (.inr n) hc hp,rfl,q⟩⟩
theorem zas {xs:List Str} {tg:Expr} {g:TG} {pos:Pos} {elt iter:Expr} {ifs:List Expr} {scope:Scope} {fr:List (Nat×Str)} {wi:TI} {tc:TT} {te:TE} {i:Nat} {y:Str} {py spos:Pos} (hNy:X.N.Nodup) (hiy:X.N[i]? = some y) (hy:Loc X.env.scope y) (hcalm:X.calm=true) (hi:PI X tg iter wi)
  (hfr :∀p∈fr,X.N[p.1]? = some p.2/\(X.env.kindOf p.2=some .cell\/X.env.kindOf p.2=some .free))
  (hfree :∀y∈scope.names,y.2=Q1->X.env.kindOf y.1=some .cell\/X.env.kindOf y.1=some .free)
  (hfs :∀p∈fr,(p.2,Q1)∈scope.names/\((M7 scope X.env).names.lookup p.2=some .cell\/(M7 scope X.env).names.lookup p.2=some .free))
  (hcell :∀y∈scope.names,y.2≠NameKind.cell) (hkind:scope.kind=.function) (hnames :∀y∈scope.names,y.2=NameKind.local->scope.names.lookup y.1=some .local)
  (hg :∀cl C s₂ H₂ fp,PG (cxComp X scope cl (xs++fr.map (·.2)) C s₂ H₂ fp) tg g)
  (ht :∀cl C s₂ H₂ fp,PF (cxComp X scope cl (xs++fr.map (·.2)) C s₂ H₂ fp) ifs tc) (he :∀cl C s₂ H₂ fp,PE (cxComp X scope cl (xs++fr.map (·.2)) C s₂ H₂ fp) elt te)
  (hs :∀x,G5 iter X.env x=N3 x:=by intro _;rfl) (hw:m8 (.ListComp elt [⟨tg,iter,ifs,0⟩] scope pos) (some (.Name y py)) spos.line X.env=N3 true:=by rfl) (hf:X.fn y=true\/X.env.scope.names.lookup y=some .local:=by first|exact .inl rfl|exact .inr rfl|assumption) :
  PS X (.Assign [.Name y py] (.ListComp elt [⟨tg,iter,ifs,0⟩] scope pos) spos) (tAsg (tCompG wi xs.length fr g tc te) (gName i)):=by
 intro t s σ H D I h;rw [exec_Assign_Name_used y py _ spos hw];refine o0 (wpAny_standAt (o0 ?_));show R0 _ _ (do let _ <-comprehension (.ListComp elt [⟨tg,iter,ifs,0⟩] scope pos) scope X.env (firstIterPos [⟨tg,iter,ifs,0⟩] pos) (newList []) (firstAsync [⟨tg,iter,ifs,0⟩]) (firstIter [⟨tg,iter,ifs,0⟩] X.env) (some (assign (.Name y py) X.env));N3 ()) _ _ _;refine o0 (zax hcalm hi hfr hfree hfs hcell hkind hnames hg ht he hs I h λ A r n f c M j B ⟨d,hc,hp⟩ q=>?_);obtain ⟨m,c⟩:=c;obtain ⟨o,G,K,E,hd,L,F⟩:=c;have J:Inv X ((A + 1,o) :: t) σ n r:=f.pins_of λ p a=>by
  rcases List.mem_cons.mp a with rfl|a
  ·exact ⟨E,M,j,d,λ v z=>by rw [hd] at z;cases z⟩
  ·exact f.pin p (U0 _ a)
 refine thn (z0p (pos:=py) hNy hiy hy hf _ r σ n (.ref A) (.ref A) D.nx J rfl q) λ _ l ⟨σ5,H5,I6,q6⟩=>?_;have k:=I6.pin (A + 1,o) (U0 _ E2);have w:Inv X t σ5 H5 l:=I6.pins_of λ p a=>I6.pin p (U0 _ (W2 _ a));refine ⟨m,⟨o,G,K,k.1,hd,L,F⟩,λ O u=>?_⟩;exact F0 (F0 ⟨σ5,H5,w.turned (t':=l.toks) (it:=A + 1) (λ b o d e=>(u.2 b d).trans e) k.2.1 j (.inr B) hc hp,q6⟩)
end
end L2
set_option maxHeartbeats 400000
namespace L2
open PySem PySem.Spec PyProof.Rows
theorem z28 {t rest:TS} {D:Ends} {σ:St} {H:Hp} (R:St->Hp->Prop) (hr :∀σ1 H1,R σ1 H1->rest D σ1 H1) (h:(∀σ1 H1,R σ1 H1->rest D σ1 H1)->t { D with nx:=rest D } σ H):tSeq t rest D σ H:=h hr
theorem z0b {te:TE} {g:TG} {rest:TS} {D:Ends} {σ:St} {H:Hp} (h:te σ H λ x H1=>g x σ H1 (rest D)):tSeq (tAsg te g) rest D σ H:=h
structure Runs (J:It) (H1:Hp) (n:Nat) (Item:Nat->V->Hp->Prop):Prop where
 go :∀i,i < n->∀H,Same H1 H->J.go i H
 stop :∀H,Same H1 H->J.stop n H
 item :∀i,i < n->∀H v H',Same H1 H->J.yld i H v H'->Same H H'/\Item i v H'
theorem z17 (p:Nat->Bool) (n:Nat):(N1 (n + 1)).filter p=(N1 n).filter p++(if p n=true then [n] else []):=by rw [F9,B3,E6];cases p n<;>rfl
inductive All2 {α β:Type} (R:α->β->Prop):List α->List β->Prop
 | nil:All2 R [] []
 | cons {a:α} {b:β} {xs:List α} {ys:List β}:R a b->All2 R xs ys->All2 R (a :: xs) (b :: ys)
theorem z37 {α β:Type} {R:α->β->Prop} :∀{xs:List α} {ys:List β} {x:α} {y:β},All2 R xs ys->R x y->All2 R (xs++[x]) (ys++[y])
 | [],_,x,y,.nil,h=>.cons h .nil
 | _ :: _,_,x,y,.cons a r,h=>.cons a (z37 r h)
theorem z02 {α β:Type} {R S:α->β->Prop} (h :∀a b,R a b->S a b) :∀{xs:List α} {ys:List β},All2 R xs ys->All2 S xs ys
 | [],_,.nil=>.nil
 | _ :: _,_,.cons a r=>.cons (h _ _ a) (z02 h r)
theorem z03 {α β:Type} {R:α->β->Prop} :∀{xs:List α} {ys:List β},All2 R xs ys->ys.length=xs.length
 | [],_,.nil=>rfl
 | _ :: _,_,.cons _ r=>congrArg (· + 1) (z03 r)
theorem z1l {α β:Type} {f:α->β} :∀{xs:List α} {ys:List β},All2 (λ x y=>y=f x) xs ys->ys=xs.map f
 | [],_,.nil=>rfl
 | _ :: _,_,.cons a r=>by rw [X0,z1l r,a]
theorem z0w {α β:Type} (p:α->Bool) (f:α->β) (d:α) :∀xs:List α,((N1 xs.length).filter λ i=>p (xs[i]?.getD d)).map (λ i=>f (xs[i]?.getD d))=(xs.filter p).map f:=by
 intro xs;have h:(N1 xs.length).map (λ i=>xs[i]?.getD d)=xs:=by
  apply List.ext_getElem
  ·simp
  ·intro i b a;simp only [O4,List.getElem_range,D0 a,Option.getD_some]
 have e:(xs.filter p).map f=((((N1 xs.length).map (λ i=>xs[i]?.getD d))).filter p).map f:=by rw [h]
 rw [e,List.filter_map,Q2];rfl
theorem z43 (ns:List Int) :∀j,j<=ns.length->preSum (λ i=>ns[i]?.getD 0) j=(ns.take j).sum
 | 0,_=>by rw [List.take_zero];rfl
 | j + 1,h=>by show preSum (λ i=>ns[i]?.getD 0) j + ns[j]?.getD 0=_;rw [z43 ns j (Nat.le_of_succ_le h),List.take_succ_eq_append_getElem h,List.sum_append,D0 h];simp
structure QE (X:Cx) (e:Expr) (t:TE):Prop where
 run:PE X e t
structure QA (X:Cx) (es:List Expr) (t:TA):Prop where
 run:PA X es t
structure QPs (X:Cx) (pos:Pos) (ks:List (Option Expr)) (vs:List Expr) (t:List (TE×TE)):Prop where
 run:PPs X pos ks vs t
structure QS (X:Cx) (st:Stmt) (t:TS):Prop where
 run:PS X st t
structure QSs (X:Cx) (sts:List Stmt) (t:TS):Prop where
 run:PSs X sts t
section
variable {X:Cx} {pos:Pos}
theorem q_of {sts:List Stmt} {t:TS} {G:TS->Prop} (q:QSs X sts t) (g:G t) :∃t,PSs X sts t/\G t:=⟨t,q.run,g⟩
theorem z2n {st:Stmt} {t:TS} (h:QS X st t):QSs X [st] t:=⟨z06 h.run⟩
theorem z0e {st:Stmt} {rest:List Stmt} {t u:TS} (h:QS X st t) (r:QSs X rest u):QSs X (st :: rest) (tSeq t u):=⟨z05 h.run r.run⟩
theorem qs_set {i:Nat} {x:Str} {e:Expr} {te:TE} {pos':Pos} (hN:X.N.Nodup) (hi:X.N[i]? = some x) (hx:Loc X.env.scope x) (he:QE X e te) (hs:m8 e (some (.Name x pos')) pos.line X.env=N3 false:=by rfl) (hf:X.fn x=true\/X.env.scope.names.lookup x=some .local:=by first|exact .inl rfl|exact .inr rfl|assumption) :
  QS X (.Assign [.Name x pos'] e pos) (tAsg te (gName i)):=⟨ps_set hN hi hx he.run hs hf⟩
theorem qs_for {tg iter:Expr} {body:List Stmt} {wi:TI} {g:TG} {tb:TS} (hp:PassesOwn (Y0 X.prog X.w) X.A X.env X.xe) (hc:X.calm=true) (hi:PI X tg iter wi) (hg:PG X tg g) (hb:QSs X body tb)
  (hs :∀x,G5 iter X.env x=N3 x:=by intro _;rfl):QS X (.For tg iter body [] pos) (tFor wi g tb):=⟨ps_for hp hc hi hg hb.run hs⟩
theorem qe_lst {es:List Expr} {t:TA} (h:QA X es t):QE X (.List es pos) (tLst t):=⟨pe_lst h.run⟩
theorem qa_nil:QA X [] tNil:=⟨pa_nil⟩
theorem z2v {e:Expr} {es:List Expr} {te:TE} {t:TA} (ha:QE X e te) (hr:QA X es t) (hs:V1 (e :: es) X.env=(false,p4 e X.env) :: V1 es X.env:=by rfl):QA X (e :: es) (tCons te t):=⟨z00 ha.run hr.run hs⟩
theorem qe_op {a b:Expr} {ta tb:TE} {op:Operator} {r:R2} (ho:OpR X (M4 op) r) (ha:QE X a ta) (hb:QE X b tb):QE X (.BinOp a op b pos) (tOp r ta tb):=⟨pe_op ho ha.run hb.run⟩
theorem qe_ix {a b:Expr} {ta tb:TE} {r:R2} (hr:IxR X r) (ha:QE X a ta) (hb:QE X b tb) (hs:zey b):QE X (.Subscript a b pos) (tOp r ta tb):=⟨pe_ix hr ha.run hb.run hs⟩
end
theorem z0m {X:Cx} {K:c0} (h:X.K=K):IxR X (rIx K):=h ▸ ix_seq
theorem z08 {α β:Type} {R:α->β->Prop} :∀{xs:List α} {ys:List β} {i:Nat} {y:β},All2 R xs ys->ys[i]? = some y->∃x,xs[i]? = some x/\R x y
 | _,_,i,y,.nil,e=>by simp at e
 | _,_,0,y,.cons a _,e=>by rw [Z1] at e;cases e;exact ⟨_,Z1,a⟩
 | _,_,i + 1,y,.cons _ r,e=>by rw [J1] at e;obtain ⟨x,b,c⟩:=z08 r e;exact ⟨x,by rw [J1];exact b,c⟩
end L2
set_option maxHeartbeats 4000000
namespace L2
open PySem PySem.Spec PyProof.Rows
section
variable {prog:Program} {w:S0} {A:X1} {E:Value->A0->Prop} {s:A0}
theorem z4j (hh:A.handled=none) (it t:Addr) (ne:t≠it) (items:Array Value):Draws prog w A it [it,t] items.size (λ i v=>items[i]? = some v) (λ i h=>h.IsTupleIter it t i/\h.IsTuple t items) where
 live:=λ i h a=>a.1.elim λ o z=>⟨o,z.1⟩
 frame:=λ i h b a k=>⟨a.1.elim λ o z=>⟨o,k it (by simp) o z.1,z.2⟩,a.2.elim λ o z=>⟨o,k t (by simp) o z.1,z.2⟩⟩
 item:=λ i s Q E c a q=>tupOn a.1 a.2 (L5 c) λ b d sb=>q _ b s.toks (L5 c) ⟨d,a.2.elim λ o z=>⟨o,(sb.2 t ne).trans z.1,z.2⟩⟩ sb
 done:=λ s Q E a q=>tupOff hh a.1 a.2 (by simp) λ b e x y=>q b e x y
theorem zgv (a:Addr) (xs:Array Value):Meets (T6.«enumerate.__new__» ⟨[.type "enumerate",.ref a],[]⟩) (λ _ R s=>s.heap.IsTuple a xs/\R (.ok (.ret (.ref (s.heap.objs.size + 1))))
  { s with heap:=(s.heap.push { cls:=.type "tuple_iterator",data:=.fields #[.ref a,.int 0 0] }).push { cls:=.type "enumerate",data:=.fields #[.none,.bool false,.ref s.heap.objs.size,E5 0,.none,.none] } }):=
 .of_wp λ i w A R s h=>by
  obtain ⟨e,g,d,f,j⟩:=s;obtain ⟨k,h⟩:=h;have m:=sub_enumerate;have b:Heap.IsTuple (Shared.heap ⟨e,g,d,f,j⟩) a xs:=k
  wp_walk using X4 b
  intro Γ p l;show R0 (Y0 i w) A.in1 (N3 _) _ _ _;refine F0 ?_;generalize List.drop 1 ((Γ.code,p) :: Γ.below)=L;split
  ·rename_i c _ _ _ _;cases c == n5 "enumerate" with
   | true=>
    wp_walk using X4 b
    refine ⟨_,rfl,?_⟩;simpa [A4,S4] using h
   | false=>
    wp_walk using X4 b
    refine ⟨_,rfl,?_⟩;simpa [A4,S4] using h
  ·wp_walk using X4 b
   refine ⟨_,rfl,?_⟩;simpa [A4,S4] using h
theorem zg1 {a:Addr} {xs:Array Value} {Q:Value->A0->Prop} (ha:s.heap.IsTuple a xs)
  (q :∀h',IsEnum h' (s.heap.objs.size + 1) s.heap.objs.size 0 .none->h'.IsTupleIter s.heap.objs.size a 0->h'.objs.size=s.heap.objs.size + 2->(∀c o,s.heap.get? c=some o->h'.get? c=some o)->Q (.ref (s.heap.objs.size + 1)) { s with heap:=h' }) :
  R0 (Y0 prog w) A (call (.type "enumerate") [.ref a]) Q E s:=by
 refine callType_new F.called_enumerate (by decide) (F.typeCall_enumerate_1 _) (F.newCall_enumerate_1 _) (λ f=>F.args_object_init_2 f _) F.entry_enumerate_new (zgv a xs) ⟨ha,?_⟩;generalize hn:s.heap.objs.size=n at q⊢;generalize h0:s.heap.push { cls:=.type "tuple_iterator",data:=.fields #[.ref a,.int 0 0] }=k0;have d:k0.objs.size=n + 1:=by rw [<-h0,A4,hn]
 have g:k0.get? n=some { cls:=.type "tuple_iterator",data:=.fields #[.ref a,.int 0 0] }:=by rw [<-h0,<-hn];exact O0 _ rfl
 have b:(k0.push { cls:=.type "enumerate",data:=.fields #[.none,.bool false,.ref n,E5 0,.none,.none] }).get? (n + 1)=some { cls:=.type "enumerate",data:=.fields #[.none,.bool false,.ref n,E5 0,.none,.none] }:=by rw [<-d];exact O0 _ rfl
 exact ⟨⟨_,b,rfl⟩,q _ b ⟨_,y0 _ g,rfl,rfl⟩ (by rw [A4,d]) λ c o e=>y0 _ (by rw [<-h0];exact y0 _ e)⟩
end
noncomputable def IteL (K:c0) (a:Addr):It:=
  ⟨λ i H=>∃xs x,SqL K H a xs/\xs[i]? = some x,
   λ i H v H'=>∃p,H p=none/\v=.ref p/\∀xs,SqL K H a xs->∃x,xs[i]? = some x/\H'=upd H p (.tup [.int i,x]),
   λ i H=>∃xs,SqL K H a xs/\xs.length=i⟩
theorem w_0:(0:Nat)<=sizeLine:=by decide
theorem w_1:(1:Nat)<=sizeLine:=by decide
theorem w_2:(2:Nat)<=sizeLine:=by decide
theorem w_3:(3:Nat)<=sizeLine:=by decide
theorem w_4:(4:Nat)<=sizeLine:=by decide
theorem w_5:(5:Nat)<=sizeLine:=by decide
theorem w_7:(7:Nat)<=sizeLine:=by decide
theorem zcn {P:Program} {w:S0} {K:c0} {elts:List Expr} {x1:Nat} {pos:Pos} {e it a:Addr} (ne:e≠it) (nae:a≠e) (nai:a≠it):Turn P w K (.Tuple elts x1 pos) (IteL K a) [e,it] e (λ n h=>(∃old,IsEnum h e it (n:Nat) old)/\h.IsListIter it a n) where
 mem:=by simp
 obj:=λ n h g c f=>by
  simp only [O2,B0,or_false] at f;rcases f with rfl|rfl
  ·obtain ⟨⟨old,z⟩,_⟩:=g;exact ⟨_,z,λ v z=>by cases (show D9 _=j0g v from z)⟩
  ·obtain ⟨_,o,e,_,d⟩:=g;exact ⟨o,e,λ v z=>by rw [d] at z;cases z⟩
 keep:=λ n h S g k=>by obtain ⟨⟨old,z⟩,o,e1,V⟩:=g;exact ⟨⟨old,k e (by simp) _ z⟩,o,k it (by simp) _ e1,V⟩
 item:=by
  intro X B J G f n a6 s σ H E I p g r;subst B J G;obtain ⟨O,x,q,M⟩:=r;obtain ⟨i,F,j,_⟩:=I.list q;have j:s.heap.IsList a i.toArray:=j.isList;obtain ⟨u,R,ru⟩:=F.get M;have D:=Draws.list (prog:=X.prog) (w:=X.w) (A:=X.A.in1) (I.ok.hd f) it a nai i.toArray;have a5:n < i.toArray.size:=by have:=(List.getElem?_eq_some_iff.mp R).1;simpa using this
  obtain ⟨⟨old,T⟩,N⟩:=g;refine wpAny_pyNext_enum_itemD D T ⟨N,j⟩ a5 ne (by simp [ne,nae.symm]) λ y S t l a2 Y tT hz C=>?_;have l:i[n]? = some y:=by simpa using l
  rw [R] at l;cases l;have a3:e < s.heap.objs.size:=M0 T;have a4:it < s.heap.objs.size:=by obtain ⟨o,z,_⟩:=N;exact M0 z
  have L:s.heap.objs.size≠e:=F2 a3;have nT:s.heap.objs.size∉[e,it]:=by simp only [O2,B0,or_false,not_or];exact ⟨L,F2 a4⟩
  refine ⟨_,rfl,j14 a2 λ Q a1 sb=>?_⟩;have k2 :∀b o,b∉[e,it]->s.heap.get? b=some o->Q.get? b=some o:=λ b o m z=>by simp only [O2,B0,or_false,not_or] at m;exact (sb.2 b m.1).trans (C b o m.1 m.2 z)
  have U:=(sb.2 _ L).trans tT;have a0:=Y.1.elim λ o z=>(⟨o,(sb.2 it ne.symm).trans z.1,z.2⟩:Q.IsListIter it a (n + 1))
  have fr:H s.heap.objs.size=none:=I.hok.fresh (C0 _);refine ⟨.ref s.heap.objs.size,upd H s.heap.objs.size (.tup [.int n,x]),I.turnedLaid (t':=t + 1) k2 p (C0 _) ⟨w_2,[.int n t,u],.cons ⟨t,rfl⟩ (.cons ru .nil),⟨_,U,rfl,_,rfl⟩,_,U,rfl⟩,rfl,⟨_,fr,rfl,λ a8 a7=>⟨x,?_,rfl⟩⟩,⟨⟨_,a1⟩,a0⟩,λ c f=>?_⟩
  ·rw [I.list_inj a7 q];exact M
  ·rw [upd_ne (λ (z:c=s.heap.objs.size)=>nT (z ▸ f))];exact (p c f).1
 done:=by
  intro X B J G f n a6 s σ H E I p g r;subst B J G;obtain ⟨O,q,rfl⟩:=r;obtain ⟨i,F,j,_⟩:=I.list q;have j:s.heap.IsList a i.toArray:=j.isList;have D:=Draws.list (prog:=X.prog) (w:=X.w) (A:=X.A.in1) (I.ok.hd f) it a nai i.toArray;have W:=WalksT.enumerateD D e ne (by simp [ne,nae.symm]) (by simp);have la:i.toArray.size=O.length:=by simpa using F.length.symm
  exact W.done s _ E (by rw [la];exact ⟨g.1,g.2,j⟩) λ S Z C=>⟨rfl,I.turnedL (t':=Z) (λ c o f e=>C c o f e) p⟩
 self:=λ _ _ _ _ _ g h=>g.1.elim λ old z=>L7 z h
noncomputable def ieL (K:c0) (ta:TA):TI:=λ σ H R=>ta σ H λ vs H1=>∃a xs,vs=[.ref a]/\SqL K H1 a xs/\R (IteL K a) H1
theorem zg9 {X:Cx} {elts:List Expr} {x1:Nat} {tpos:Pos} {e:Expr} {ta:TA} {p pos:Pos} (hg:Gl X "enumerate") (hm:X.mg "enumerate" = none) (ha:PA X [e] ta) (hs:V1 [e] X.env=[(false,p4 e X.env)]:=by rfl) :
  PI X (.Tuple elts x1 tpos) (.Call (.Name "enumerate" p) [e] [] pos) (ieL X.K ta):=by
 intro t s σ H R I h;refine Call_ (ld_blt I hg hm boot_enumerate (K3 (thn (ha pos t s σ H _ I h) λ w d ⟨vs,H1,I1,r1,q1⟩=>?_) (by rw [hs];rfl) rfl));obtain ⟨a,x,m,n,q⟩:=q1;subst m;obtain ⟨u,rfl,v⟩:=vals1 r1;cases (show u=F1 a from v);obtain ⟨r,y,b,_⟩:=I1.list n;have b:d.heap.IsList a r.toArray:=b.isList;have g:a < d.heap.objs.size:=by obtain ⟨o,e,_⟩:=id b;exact M0 e
 refine call_enumerate_list b λ z i k _ l=>?_;refine L7 i ?_;refine ⟨_,_,_,_,H1,rfl,I1.kept (t':=d.toks) l,zcn (F2 (A2 _)) (T0 (E1 g)) (T0 g),⟨⟨_,i⟩,k⟩,λ c f=>?_,q⟩;have j:d.heap.objs.size<=c:=by
  simp only [O2,B0,or_false] at f;rcases f with rfl|rfl
  ·exact A9 _ _
  ·exact C0 _
 exact I1.fpOk j (I1.hok.fresh j)
noncomputable def IteT (K:c0) (a:Addr):It:=
  ⟨λ i H=>∃xs x,SqT K H a xs/\xs[i]? = some x,
   λ i H v H'=>∃p,H p=none/\v=.ref p/\∀xs,SqT K H a xs->∃x,xs[i]? = some x/\H'=upd H p (.tup [.int i,x]),
   λ i H=>∃xs,SqT K H a xs/\xs.length=i⟩
theorem zc2 {P:Program} {w:S0} {K:c0} {elts:List Expr} {x1:Nat} {pos:Pos} {e it a:Addr} (ne:e≠it) (nae:a≠e) (nai:a≠it):Turn P w K (.Tuple elts x1 pos) (IteT K a) [e,it] e (λ n h=>(∃old,IsEnum h e it (n:Nat) old)/\h.IsTupleIter it a n) where
 mem:=by simp
 obj:=λ n h g c f=>by
  simp only [O2,B0,or_false] at f;rcases f with rfl|rfl
  ·obtain ⟨⟨old,z⟩,_⟩:=g;exact ⟨_,z,λ v z=>by cases (show D9 _=j0g v from z)⟩
  ·obtain ⟨_,o,e,_,d⟩:=g;exact ⟨o,e,λ v z=>by rw [d] at z;cases z⟩
 keep:=λ n h S g k=>by obtain ⟨⟨old,z⟩,o,e1,V⟩:=g;exact ⟨⟨old,k e (by simp) _ z⟩,o,k it (by simp) _ e1,V⟩
 item:=by
  intro X B J G f n a6 s σ H E I p g r;subst B J G;obtain ⟨O,x,q,M⟩:=r;obtain ⟨i,F,j,_⟩:=I.tuple q;have j:s.heap.IsTuple a i.toArray:=j;obtain ⟨u,R,ru⟩:=F.get M;have D:=z4j (prog:=X.prog) (w:=X.w) (A:=X.A.in1) (I.ok.hd f) it a nai i.toArray;have a5:n < i.toArray.size:=by have:=(List.getElem?_eq_some_iff.mp R).1;simpa using this
  obtain ⟨⟨old,T⟩,N⟩:=g;refine wpAny_pyNext_enum_itemD D T ⟨N,j⟩ a5 ne (by simp [ne,nae.symm]) λ y S t l a2 Y tT hz C=>?_;have l:i[n]? = some y:=by simpa using l
  rw [R] at l;cases l;have a3:e < s.heap.objs.size:=M0 T;have a4:it < s.heap.objs.size:=by obtain ⟨o,z,_⟩:=N;exact M0 z
  have L:s.heap.objs.size≠e:=F2 a3;have nT:s.heap.objs.size∉[e,it]:=by simp only [O2,B0,or_false,not_or];exact ⟨L,F2 a4⟩
  refine ⟨_,rfl,j14 a2 λ Q a1 sb=>?_⟩;have k2 :∀b o,b∉[e,it]->s.heap.get? b=some o->Q.get? b=some o:=λ b o m z=>by simp only [O2,B0,or_false,not_or] at m;exact (sb.2 b m.1).trans (C b o m.1 m.2 z)
  have U:=(sb.2 _ L).trans tT;have a0:=Y.1.elim λ o z=>(⟨o,(sb.2 it ne.symm).trans z.1,z.2⟩:Q.IsTupleIter it a (n + 1))
  have fr:H s.heap.objs.size=none:=I.hok.fresh (C0 _);refine ⟨.ref s.heap.objs.size,upd H s.heap.objs.size (.tup [.int n,x]),I.turnedLaid (t':=t + 1) k2 p (C0 _) ⟨w_2,[.int n t,u],.cons ⟨t,rfl⟩ (.cons ru .nil),⟨_,U,rfl,_,rfl⟩,_,U,rfl⟩,rfl,⟨_,fr,rfl,λ a8 a7=>⟨x,?_,rfl⟩⟩,⟨⟨_,a1⟩,a0⟩,λ c f=>?_⟩
  ·rw [I.tuple_inj a7 q];exact M
  ·rw [upd_ne (λ (z:c=s.heap.objs.size)=>nT (z ▸ f))];exact (p c f).1
 done:=by
  intro X B J G f n a6 s σ H E I p g r;subst B J G;obtain ⟨O,q,rfl⟩:=r;obtain ⟨i,F,j,_⟩:=I.tuple q;have j:s.heap.IsTuple a i.toArray:=j;have D:=z4j (prog:=X.prog) (w:=X.w) (A:=X.A.in1) (I.ok.hd f) it a nai i.toArray;have W:=WalksT.enumerateD D e ne (by simp [ne,nae.symm]) (by simp);have la:i.toArray.size=O.length:=by simpa using F.length.symm
  exact W.done s _ E (by rw [la];exact ⟨g.1,g.2,j⟩) λ S Z C=>⟨rfl,I.turnedL (t':=Z) (λ c o f e=>C c o f e) p⟩
 self:=λ _ _ _ _ _ g h=>g.1.elim λ old z=>L7 z h
noncomputable def ieT (K:c0) (ta:TA):TI:=λ σ H R=>ta σ H λ vs H1=>∃a xs,vs=[.ref a]/\SqT K H1 a xs/\R (IteT K a) H1
theorem zfl {X:Cx} {elts:List Expr} {x1:Nat} {tpos:Pos} {e:Expr} {ta:TA} {p pos:Pos} (hg:Gl X "enumerate") (hm:X.mg "enumerate" = none) (ha:PA X [e] ta) (hs:V1 [e] X.env=[(false,p4 e X.env)]:=by rfl) :
  PI X (.Tuple elts x1 tpos) (.Call (.Name "enumerate" p) [e] [] pos) (ieT X.K ta):=by
 intro t s σ H R I h;refine Call_ (ld_blt I hg hm boot_enumerate (K3 (thn (ha pos t s σ H _ I h) λ w d ⟨vs,H1,I1,r1,q1⟩=>?_) (by rw [hs];rfl) rfl));obtain ⟨a,x,m,n,q⟩:=q1;subst m;obtain ⟨u,rfl,v⟩:=vals1 r1;cases (show u=F1 a from v);obtain ⟨r,y,b,_⟩:=I1.tuple n;have b:d.heap.IsTuple a r.toArray:=b;have g:a < d.heap.objs.size:=by obtain ⟨o,e,_⟩:=id b;exact M0 e
 refine zg1 b λ z i k _ l=>?_;refine L7 i ?_;refine ⟨_,_,_,_,H1,rfl,I1.kept (t':=d.toks) l,zc2 (F2 (A2 _)) (T0 (E1 g)) (T0 g),⟨⟨_,i⟩,k⟩,λ c f=>?_,q⟩;have j:d.heap.objs.size<=c:=by
  simp only [O2,B0,or_false] at f;rcases f with rfl|rfl
  ·exact A9 _ _
  ·exact C0 _
 exact I1.fpOk j (I1.hok.fresh j)
theorem zee {K:c0} {a:Addr} {xs:List V} {g:TG} {tb:TS} {D:Ends} {σ:St} {H:Hp} (Pv:Nat->St->Hp->Prop) (h0:Pv 0 σ H) (hl :∀i σ H,Pv i σ H->SqT K H a xs)
  (hs :∀i x σ H p,xs[i]? = some x->Pv i σ H->H p=none->g (.ref p) σ (upd H p (.tup [.int i,x])) λ σ2 H2=>tb { D with nx:=Pv (i + 1),ct:=Pv (i + 1),bk:=D.nx } σ2 H2) (hd :∀σ H,Pv xs.length σ H->D.nx σ H) :
  ∃W:Nat->Nat->St->Hp->Prop,(∃m,W 0 m σ H)/\∀i m σ H,W i m σ H->
   ((IteT K a).stop i H/\D.nx σ H)\/((IteT K a).go i H/\∃N:St->Hp->Prop,(∀σ' H',N σ' H'->∃m',m' < m/\W (i + 1) m' σ' H')/\∀x H',(IteT K a).yld i H x H'->g x σ H' λ σ2 H2=>tb { D with nx:=N,ct:=N,bk:=D.nx } σ2 H2):=by
 refine ⟨λ i m σ H=>m=xs.length - i/\i<=xs.length/\Pv i σ H,⟨xs.length,by simp,R1 _,h0⟩,?_⟩;rintro i m σ H ⟨rfl,hi,p⟩;have b:=hl i σ H p;by_cases hlt:i < xs.length
 ·refine .inr ⟨⟨xs,xs[i],b,by simp [hlt]⟩,Pv (i + 1),λ σ' H' d=>⟨xs.length - (i + 1),by omega,rfl,hlt,d⟩,λ v H' y=>?_⟩;obtain ⟨t,f,rfl,h⟩:=y;obtain ⟨j,c,rfl⟩:=h xs b;exact hs i j σ H t c p f
 ·have e:i=xs.length:=by omega
  subst e;exact .inl ⟨⟨xs,b,rfl⟩,hd σ H p⟩
end L2
set_option maxHeartbeats 400000
namespace L2
open PySem PySem.Spec PyProof.Rows
section
variable {X:Cx}
theorem zcz (hc:X.calm=true):CallR X (.builtin "sum") (λ xs H Q=>∃(p:Addr) (ns:List Int),xs=[.ref p]/\SqL X.K H p (ns.map V.int)/\Q (.int ns.sum) H):=by
 intro F s σ H xs E Q I r h;obtain ⟨p,ns,rfl,B,q⟩:=h;obtain ⟨u,rfl,D⟩:=vals1 r;cases D;obtain ⟨c,m,d,G⟩:=I.list B;have y:p≠s.heap.objs.size:=by obtain ⟨o,e,_⟩:=d.isList;exact T0 (M0 e)
 have l:c.length=ns.length:=by have:=m.length;rw [G0] at this;exact this.symm
 refine call_sum_walkAnyS (F6 d.isList ?_);refine ⟨s.heap.objs.size,_,_,_,_,_,_,λ i=>ns[i]?.getD 0,rfl,(Walks.list (show X.A.in1.handled=none from I.ok.hd hc) s.heap.objs.size p y c.toArray).toS,⟨⟨_,O0 _ rfl,rfl,rfl⟩,d.isList.at λ o e=>y0 _ e⟩,?_,?_,?_⟩
 ·intro b f;simp only [O2,B0,or_false] at f;rcases f with rfl|rfl
  ·rw [A4];exact A2 _
  ·obtain ⟨o,e,_⟩:=d.isList;exact M0 (y0 _ e)
 ·intro i v a;have a:c[i]? = some v:=by simpa using a
  obtain ⟨w,e⟩:=List.getElem?_eq_some_iff.mp a;have n:i < ns.length:=by rw [<-l];exact w
  obtain ⟨u,k,g⟩:=m.get (i:=i) (x:=.int ns[i]) (by simp [n]);rw [a] at k;cases k;obtain ⟨t,g⟩:=g;exact ⟨t,by show v=U5 (ns[i]?.getD 0) t;rw [D0 n];exact g⟩
 ·intro C t' j;have e:preSum (λ i=>ns[i]?.getD 0) c.toArray.size=ns.sum:=by rw [P0,l,z43 ns _ (C0 _),v4]
  rw [e,j.eq_with];refine ⟨.int _,H,I.kept (t':=C.toks) λ b o z=>j.heap b o ?_ (y0 _ z),⟨_,rfl⟩,q⟩;intro f;rw [List.mem_singleton.mp f] at z;exact absurd (M0 z) (E3 _)
end
mutual
noncomputable def IsPd (K:c0) (H:Hp):PyData->V->Prop
 | .none,v=>v=.non
 | .bool b,v=>v=.bl b
 | .int i,v=>v=.int i
 | .str z,v=>v=.str z
 | .list ds,v=>∃a xs,v=.ref a/\SqL K H a xs/\IsPds K H ds xs
 | .tuple ds,v=>∃a xs,v=.ref a/\SqT K H a xs/\IsPds K H ds xs
 | .dict _,_=>False
noncomputable def IsPds (K:c0) (H:Hp):List PyData->List V->Prop
 | [],xs=>xs=[]
 | d :: ds,xs=>∃x r,xs=x :: r/\IsPd K H d x/\IsPds K H ds r
end
section
variable {X:Cx} {pins:List (Addr×Obj)} {σ:St} {H:Hp} {s:A0}
mutual
theorem z4x (I:Inv X pins σ H s) :∀(d:PyData) (v:V) (u:Value),IsPd X.K H d v->RelV v u->∃as,Reads s.heap u d as
 | .none,v,u,h,r=>by cases (show v=.non from h);cases (show u=.none from r);exact ⟨_,.none⟩
 | .bool b,v,u,h,r=>by cases (show v=.bl b from h);cases (show u=.bool b from r);exact ⟨_,.bool b⟩
 | .int i,v,u,h,r=>by cases (show v=.int i from h);obtain ⟨t,rfl⟩:=r;exact ⟨_,.int i t⟩
 | .str z,v,u,h,r=>by cases (show v=.str z from h);obtain ⟨t,rfl⟩:=r;exact ⟨_,.str z t⟩
 | .list ds,v,u,h,r=>by obtain ⟨a,q,rfl,e,m⟩:=h;cases (show u=.ref a from r);obtain ⟨j,l,f,_⟩:=I.list e;obtain ⟨o,p,g,n,k⟩:=f.isList;obtain ⟨as,c⟩:=z5p I ds q j m l;exact ⟨_,.list p g k c⟩
 | .tuple ds,v,u,h,r=>by obtain ⟨a,q,rfl,e,m⟩:=h;cases (show u=.ref a from r);obtain ⟨j,l,f,_⟩:=I.tuple e;obtain ⟨o,p,g,n,k⟩:=f;obtain ⟨as,c⟩:=z5p I ds q j m l;exact ⟨_,.tuple p g k c⟩
 | .dict _,v,u,h,r=>h.elim
theorem z5p (I:Inv X pins σ H s) :∀(ds:List PyData) (xs:List V) (us:List Value),IsPds X.K H ds xs->Vals xs us->∃as,j1d s.heap us ds as
 | [],xs,us,h,r=>by cases (show xs=[] from h);cases r;exact ⟨_,.nil⟩
 | d :: ds,xs,us,h,r=>by
  obtain ⟨x,t,rfl,a,b⟩:=h;cases r with
  | cons r1 r2=>obtain ⟨as,c⟩:=z4x I d x _ a r1;obtain ⟨bs,e⟩:=z5p I ds t _ b r2;exact ⟨_,.cons c e⟩
end
end
mutual
noncomputable def plainP:PyData->Bool
 | .none=>true
 | .bool _=>false
 | .int _=>true
 | .str z=>(PyData.str z).canLay0
 | .list ds=>z6b ds
 | .tuple ds=>z6b ds
 | .dict _=>false
noncomputable def z6b:List PyData->Bool
 | []=>true
 | d :: ds=>plainP d && z6b ds
end
mutual
theorem z58 :∀d:PyData,plainP d=true->d.canLay0=true
 | .none,_=>rfl
 | .bool _,h=>by cases h
 | .int _,_=>rfl
 | .str _,h=>h
 | .list ds,h=>z3d ds h
 | .tuple ds,h=>z3d ds h
 | .dict _,h=>by cases h
theorem z3d :∀ds:List PyData,z6b ds=true->k7 ds=true
 | [],_=>rfl
 | d :: ds,h=>by have h:(plainP d && z6b ds)=true:=h;rw [Z3] at h;show (d.canLay0 && k7 ds)=true;rw [z58 d h.1,z3d ds h.2];rfl
end
section
variable {X:Cx}
noncomputable def rNeP (K:c0):R2:=λ x y H Q=>∃d e,IsPd K H d x/\IsPd K H e y/\plainP d=true/\plainP e=true/\d.depth<=60/\Q (.bl (!d.eqv e)) H
theorem room60 {A:X1} {k m n:Nat} (hr:Room k A) (h:m<=60):A.units + min m n < cLine:=P1 (Nat.add_le_add_left (L0 (Nat.min_le_left _ _) (L0 h (by decide:60<=64))) _) hr.units
theorem op_neP {k:Nat} (hr:Room k X.A):OpR X (U2 .NotEq) (rNeP X.K):=by intro l s σ H x y v u Q I i c h;obtain ⟨d,e,hd,a,pd,j,b,q⟩:=h;obtain ⟨m,f⟩:=z4x I d x v hd i;obtain ⟨bs,g⟩:=z4x I e y u a c;exact SeqAt.compareNe_reads f g (z58 _ pd) (z58 _ j) (room60 hr b) ⟨.bl _,H,I,rfl,q⟩
end
end L2
set_option maxHeartbeats 1000000
namespace L2
open PySem PySem.Spec PyProof.Rows
section
variable {prog:Program} {w:S0} {A:X1} {E:Value->A0->Prop} {s:A0}
theorem z8b:entryFor table "dict.update.loop" = some T6.«dict.update.loop»:=by kernel_rfl
theorem zcd {l:Addr} {items:Array Value} {n:Nat} {sl:Array (Option Value)} {Q:Option Value->A0->Prop} (h:s.heap.get? l=some { cls:=.type "tuple",data:=.seq items n,slots:=sl }) (hh:A.handled=none)
  (q :∀h' tk,(∀b o,s.heap.get? b=some o->h'.get? b=some o)->Q none { s with heap:=h',toks:=tk }):R0 (Y0 prog w) A (getAttr? (.ref l) (c4 "keys")) Q E s:=by
 unfold getAttr?;refine o0 (wpAny_mkText ?_);unfold getAttrBy? getAttrBy;have a:D8 { s with toks:=s.toks + 1 } (.ref l) "tuple":=⟨_,h,rfl⟩
 refine o0 (wpAny_attempt (T2 (o0 (N9 a ?_))));rw [show typeLookup (n5 "tuple") (c4 "__getattribute__")=N3 (some (.builtin "tuple.__getattribute__")) from rfl];refine o0 (F0 ?_);show R0 _ _ (getAttrByItsOwn (.ref l) (.str (c4 "keys") s.toks) (.type "tuple") (.builtin "tuple.__getattribute__") false false) _ _ _;unfold getAttrByItsOwn;refine o0 (show R0 _ _ (N3 none) _ _ _ from F0 ?_);refine o0 (wpAny_attempt (T2 ?_));show R0 _ _ (boundAndCalled (.builtin "tuple.__getattribute__") (.ref l) (.str (c4 "keys") s.toks)) _ _ _;unfold boundAndCalled;rw [show bindSpecial (.builtin "tuple.__getattribute__") (.ref l)=N3 (Value.builtin "tuple.__getattribute__",[F1 l]) from rfl];refine o0 (F0 ?_);show R0 _ _ (call (.builtin "tuple.__getattribute__") [.ref l,.str (c4 "keys") s.toks]) _ _ _;refine call_meets F.slot_tuple_getattribute a am_entry_tuple_getattribute (F.args_tuple_getattribute_2 _ _) (meets_getattribute_miss_tuple l items n sl (c4 "keys") s.toks rfl (by decide +kernel) (by decide +kernel)) ⟨h,hh,λ h' tk e ne=>?_⟩;obtain ⟨t,u,d⟩:=ne.there;have c:D8 { s with heap:=h',toks:=tk } (.ref e) "AttributeError":=⟨_,d,rfl⟩
 show R0 _ _ (getattributeRaised (.ref l) _ (.type "tuple") (.ref e) none false false) _ _ _;unfold getattributeRaised;refine o0 (Y9 c rfl ?_);show R0 _ _ (hookBehind (.type "tuple") none >>= _) _ _ _;rw [show hookBehind (.type "tuple") none=N3 none from rfl];refine o0 (F0 ?_);show R0 _ _ (throw (F1 e) >>= _) _ _ _;refine o0 (wpAny_throw ?_);show R0 _ _ (isInstance (.ref e) (.type "AttributeError") >>= _) _ _ _;refine o0 (Y9 c rfl ?_);exact F0 (q h' tk ne.keeps)
theorem z7z (a:Args):(R7 "dict.update.loop" a).quiet=true:=plainId_quiet (by decide +kernel) _
def PairOf (prog:Program) (w:S0) (h:Heap) (p:Key×Value) (u:Value):Prop:=∃a kv,u=.ref a/\h.IsTuple a #[kv,p.2]/\(z0g prog w).is p.1 kv=true
theorem PairOf.kept {h h':Heap} {p:Key×Value} {u:Value} {L:List Addr} (k :∀b o,b∉L->h.get? b=some o->h'.get? b=some o) (nt :∀b∈L,∀o,h.get? b=some o->o.cls≠.type "tuple") (x:PairOf prog w h p u):PairOf prog w h' p u:=by obtain ⟨a,g,e,⟨o,d,c,n,f⟩,i⟩:=x;exact ⟨a,g,e,⟨o,k a o (λ z=>nt a z o d c) d,c,n,f⟩,i⟩
theorem zbp {a:Addr} {items:Array Value} {Q:List Value->A0->Prop} (h:s.heap.IsTuple a items) (q:Q items.toList s):R0 (Y0 prog w) A (o9 (.ref a)) Q E s:=by obtain ⟨o,b,d,n,c⟩:=h;unfold o9;refine o0 (N9 (T:="tuple") ⟨o,b,d⟩ ?_);show R0 _ _ (seqItems? (.ref a) >>= _) _ _ _;exact o0 (V8 b c (F0 q))
theorem z82 {d it l:Addr} {items:Array Value} (ndi:d≠it) (ndl:d≠l) (nil':it≠l) :∀(ps:List (Key×Value)) (i:Nat) (kvs:List (Key×Value)) (A:X1) (R:Result->A0->Prop) (s:A0),A.handled=none->s.heap.IsTupleIter it l i->s.heap.IsTuple l items->
  All2 (PairOf prog w s.heap) ps (items.toList.drop i)->c6 (z0g prog w) s.heap d kvs->kvs.length + ps.length<=sizeLine->
  (∀h' tk,c6 (z0g prog w) h' d (ps.foldl (λ acc p=>stored acc p.1 p.2) kvs)->(∀b o,b≠d->b≠it->s.heap.get? b=some o->h'.get? b=some o)->R (.ok (.ret .none)) { s with heap:=h',toks:=tk })->
  k6 (Y0 prog w) A (R7 "dict.update.loop" { pos:=[.ref d,.ref it,.int (i:Nat) 0,.none],kw:=[] }) R s
 | [],i,kvs,A,R,s,hh,si,sl,al,r,hz,q=>by
  have hn:items[i]? = none:=by
   cases hd:items.toList.drop i with
   | nil=>have:=List.drop_eq_nil_iff.mp hd;rw [B1] at this;exact j6 this
   | cons u us=>rw [hd] at al;cases al
  refine J4 z8b ?_;show R0 _ _ (v9 (.ref it) >>= _) _ _ s;refine o0 (wpAny_pyNext_tuple_end (show (A.under _).handled=none from hh) si sl hn λ h' J=>?_);show R0 _ _ ((do Builtin.Dict.addKeywords d [];ret .none):Sem t8) _ _ _;refine o0 (show R0 _ _ (N3 ()) _ _ _ from F0 ?_);have D:c6 (z0g prog w) h' d kvs:=by obtain ⟨o,t,v,f,m⟩:=r;exact ⟨o,t,v,J d o ndi f,m⟩
  exact F0 (q h' s.toks D λ b o _ k e=>J b o k e)
 | p :: ps,i,kvs,A,R,s,hh,si,sl,al,r,hz,q=>by
  cases hd:items.toList.drop i with
  | nil=>rw [hd] at al;cases al
  | cons u us=>
   rw [hd] at al;cases al with
   | cons pu al=>
    have V:items.toList[i]? = some u:=by have:=congrArg (λ l=>l[0]?) hd;simpa using this
    have Z:items[i]? = some u:=by simpa using V
    have a1:items.toList.drop (i + 1)=us:=by have:=congrArg List.tail hd;simpa using this
    obtain ⟨a,F,rfl,U,T⟩:=pu;refine J4 z8b ?_;show R0 _ _ (v9 (.ref it) >>= _) _ _ s;refine o0 (wpAny_pyNext_tuple_item si sl Z λ f a2 C=>?_);have L :∀o,s.heap.get? it=some o->o.cls≠.type "tuple":=λ o e z=>by obtain ⟨o',n,c,_⟩:=si;rw [e] at n;cases n;rw [z] at c;exact absurd c (by decide)
    have a0 :∀(h:Heap) (kvs:List (Key×Value)),c6 (z0g prog w) h d kvs->∀o,h.get? d=some o->o.cls≠.type "tuple":=λ h kvs r o e z=>by obtain ⟨o',t,v,n,c,_⟩:=r;rw [e] at n;cases n;have:=c.1;rw [z] at this;exact absurd this (by decide)
    have E :∀b o,b∉[it]->s.heap.get? b=some o->f.get? b=some o:=λ b o k e=>(C.2 b (λ z=>k (by rw [z];exact List.mem_singleton.mpr rfl))).trans e;have a3:f.IsTuple a #[F,p.2]:=by obtain ⟨o,j,g,W⟩:=U;exact ⟨o,E a o (λ z=>L o (List.mem_singleton.mp z ▸ j) g) j,g,W⟩
    have M:All2 (PairOf prog w f) ps us:=z02 (λ x y z=>PairOf.kept E (λ b k o e=>L o (List.mem_singleton.mp k ▸ e)) z) al;have G:c6 (z0g prog w) f d kvs:=by obtain ⟨o,t,v,j,g⟩:=r;exact ⟨o,t,v,(C.2 d ndi).trans j,g⟩
    have Q:f.IsTuple l items:=by obtain ⟨o,j,g⟩:=sl;exact ⟨o,(C.2 l (P3 nil')).trans j,g⟩
    refine o0 (T2 (o0 (wpAny_tryCatch (zbp (s:={ s with heap:=f }) a3 ?_))));show R0 _ _ (j0i [F,p.2] (j0j d F p.2)) _ _ _;refine T2 (wpAny_dictSet_pairs T G (λ m Y B=>?_) (L0 (A9 _ _) hz));refine F0 ⟨z7z _,?_⟩;have I :∀b o,b∉[d]->f.get? b=some o->m.get? b=some o:=λ b o k e=>(B.2 b (λ z=>k (by rw [z];exact List.mem_singleton.mpr rfl))).trans e;have N:All2 (PairOf prog w m) ps us:=z02 (λ x y z=>PairOf.kept I (λ b k o e=>a0 f kvs G o (List.mem_singleton.mp k ▸ e)) z) M;have P:m.IsTupleIter it l (i + 1):=by obtain ⟨o,j,g⟩:=a2;exact ⟨o,(B.2 it (P3 ndi)).trans j,g⟩
    have X:m.IsTuple l items:=by obtain ⟨o,j,g⟩:=Q;exact ⟨o,(B.2 l (P3 ndl)).trans j,g⟩
    have O:(stored kvs p.1 p.2).length + ps.length<=sizeLine:=by
     have:(stored kvs p.1 p.2).length<=kvs.length + 1:=by
      unfold stored;split
      ·rw [G0];exact L6 _
      ·rw [J0];exact C0 _
     rw [Z0] at hz;omega
    exact z82 ndi ndl nil' ps (i + 1) (stored kvs p.1 p.2) A R { s with heap:=m,toks:=s.toks + 1 } hh P X (by rw [a1];exact N) Y O λ h' tk D S=>q h' tk D λ b o H K e=>S b o H K (I b o (λ z=>H (List.mem_singleton.mp z)) (E b o (λ z=>K (List.mem_singleton.mp z)) e))
theorem z7w {h:Heap} {D:Addr} (e:h.get? D=some { cls:=.type "dict",data:=.dict #[] }):c6 (z0g prog w) h D []:=by obtain ⟨o,b,c,a,r⟩:=j11 (knd:=z0g prog w) h;rw [O0 _ rfl] at a;cases a;exact ⟨_,b,c,e,r⟩
theorem z41 {D l:Addr} {items:Array Value} {n:Nat} {sl:Array (Option Value)} {ps:List (Key×Value)} {Q:A0->Prop} {A':X1} (hd:s.heap.get? D=some { cls:=.type "dict",data:=.dict #[] }) (hl:s.heap.get? l=some { cls:=.type "tuple",data:=.seq items n,slots:=sl }) (hh:A.handled=none) (hh':A'.handled=none)
  (al:All2 (PairOf prog w s.heap) ps items.toList) (hz:ps.length<=sizeLine)
  (q :∀h' tk,c6 (z0g prog w) h' D (merged [] ps)->(∀b o,b≠D->s.heap.get? b=some o->h'.get? b=some o)->Q { s with heap:=h',toks:=tk }) :
  R0 (Y0 prog w) A (T6.«dict.__init__» { pos:=[.ref D,.ref l] }) (λ fin s'=>match fin with
   | .done f=>wants (λ r s₂=>r=S5/\Q s₂) E (.ok f) s'
   | .again c'=>c'.quiet=true/\k6 (Y0 prog w) A' c' (wants (λ r s₂=>r=S5/\Q s₂) E) s') (λ e s'=>wants (λ r s₂=>r=S5/\Q s₂) E (.error e) s') s:=by
 have k:D≠l:=λ z=>by rw [z,hl] at hd;exact absurd (show n5 "tuple" = n5 "dict" from congrArg Obj.cls (C1 hd)) (by decide)
 unfold T6.«dict.__init__» Builtin.Dict.selfAndRest;refine o0 (o0 (wpAny_notOrdered_dict ⟨_,hd,rfl⟩ ?_));refine o0 (show R0 _ _ (N3 D) _ _ _ from F0 (F0 ?_));show R0 _ _ (i9 "dict.__init__" D (.ref l) [] .none) _ _ _;unfold i9;refine o0 (N9 (T:="tuple") ⟨_,hl,rfl⟩ ?_);show R0 _ _ (getAttr? (.ref l) (c4 "keys") >>= _) _ _ _;refine o0 (zcd hl hh λ h tk a=>?_);show R0 _ _ (rule _ >>= _) _ _ _;refine o0 (t9 (o0 (X4 (items:=items) ⟨_,a _ _ hl,rfl,_,rfl⟩ ?_)));refine F0 ⟨z7z _,?_⟩;have i:=M0 (a _ _ hd);have t:=M0 (a _ _ hl);have c :∀b o,s.heap.get? b=some o->(h.push { cls:=.type "tuple_iterator",data:=.fields #[.ref l,.int 0 0] }).get? b=some o:=λ b o e=>y0 _ (a b o e);refine z82 (d:=D) (it:=h.objs.size) (l:=l) (items:=items) (T0 i) k (F2 t) ps 0 [] A' _ _ hh' ⟨_,O0 _ rfl,rfl,rfl⟩ ⟨_,c _ _ hl,rfl,_,rfl⟩ ?_ ?_ (by simpa using hz) λ h' m p j=>⟨rfl,q h' m p λ b o g e=>j b o g (λ z=>?_) (c b o e)⟩
 ·rw [C5];exact z02 (λ x y z=>PairOf.kept (L:=[]) (λ b o _ e=>c b o e) (λ b g=>absurd g B0) z) al
 ·exact z7w (c _ _ hd)
 ·rw [z] at e;exact absurd (M0 (a _ _ e)) (E3 _)
end
section
variable {X:Cx}
theorem zbv {pins:List (Addr×Obj)} {σ:St} {H:Hp} {s:A0} (I:Inv X pins σ H s) :∀{kvs:List (Key×V)} {ys:List V} {its:List Value},All2 (λ (p:Key×V) y=>∃b,y=.ref b/\SqT X.K H b [kV p.1,p.2]) kvs ys->Vals ys its->
  ∃ps,KV kvs ps/\All2 (PairOf X.prog X.w s.heap) ps its
 | [],_,_,.nil,r=>by cases r;exact ⟨[],.nil,.nil⟩
 | p :: kvs,_,_,.cons ⟨b,e,sb⟩ al,r=>by
  cases r with
  | cons r1 r2=>
   subst e;obtain ⟨ps,c,d⟩:=zbv I al r2;obtain ⟨its,a,tb,_⟩:=I.tuple sb;cases a with
   | cons ra a=>
    cases a with
    | cons rb a=>cases a;rename_i u1 u2;exact ⟨(p.1,u2) :: ps,.cons ⟨rfl,rb⟩ c,.cons ⟨b,u1,r1,tb,kV_is ra⟩ d⟩
theorem z6q (kvs:List (Key×V)) :∀more:List (Key×V),(mergeK kvs more).length<=kvs.length + more.length
 | []=>C0 _
 | p :: more=>by have a:=z6q (putK kvs p.1 p.2) more;have b:=z1m kvs p.1 p.2;show (mergeK (putK kvs p.1 p.2) more).length<=_;rw [Z0];omega
end
end L2
set_option maxHeartbeats 400000
namespace L2
open PySem PySem.Spec PyProof.Rows
structure RunsR (S:Hp->Hp->Prop) (J:It) (H1:Hp) (n:Nat) (Item:Nat->V->Hp->Prop):Prop where
 go :∀i,i < n->∀H,S H1 H->J.go i H
 stop :∀H,S H1 H->J.stop n H
 item :∀i,i < n->∀H v H',S H1 H->J.yld i H v H'->S H H'/\Item i v H'
theorem z2b {S:Hp->Hp->Prop} {J:It} {H1:Hp} {n m:Nat} {Item:Nat->V->Hp->Prop} {fr:List (Nat×Str)} {g:TG} {tc:TT} {te:TE} {σ:St} {Q:VK} (s0:S H1 H1) (st :∀a b c,S a b->S b c->S a c) (p:Nat->Bool) (R:Nat->V->Hp->Prop) (hR :∀i y H H',S H H'->R i y H->R i y H') (r:RunsR S J H1 n Item) (hn:n<=sizeLine)
  (body :∀i,i < n->∀v H,S H1 H->Item i v H->∀(KT:VK) (KF:Hp->Prop),(p i=true->∀y H',S H H'->R i y H'->KT y H')->(p i=false->∀H',S H H'->KF H')->
   g v (cStG σ fr (Q0 m none)) H λ σ6 H6=>∃us,us.length=m/\σ6=cStG σ fr us/\tc (cStG σ fr us) H6 λ b H2=>if b=true then te (cStG σ fr us) H2 KT else KF H2)
  (hQ :∀l H' ys,S H1 H'->H' l=none->All2 (λ i y=>R i y H') ((N1 n).filter p) ys->Q (.ref l) (upd H' l (.lst ys))) :
  ∃W:Nat->Nat->List V->Hp->Prop,(∃m,W 0 m [] H1)/\∀i k ys H,W i k ys H->
   (J.stop i H/\ys.length<=sizeLine/\∀p,H p=none->Q (.ref p) (upd H p (.lst ys)))\/
   (J.go i H/\ys.length<=sizeLine/\∀v H',J.yld i H v H'->g v (cStG σ fr (Q0 m none)) H' λ σ6 H6=>∃us,us.length=m/\σ6=cStG σ fr us/\tc (cStG σ fr us) H6 λ b H2=>if b=true then te (cStG σ fr us) H2 λ y H3=>∃m',m' < k/\W (i + 1) m' (ys++[y]) H3 else∃m',m' < k/\W (i + 1) m' ys H2):=by
 refine ⟨λ i k ys H'=>k=n - i/\i<=n/\S H1 H'/\All2 (λ i y=>R i y H') ((N1 i).filter p) ys,⟨n,by simp,R1 _,s0,.nil⟩,?_⟩;rintro i k ys H' ⟨rfl,hi,sm,fa⟩;have j:ys.length<=sizeLine:=by rw [z03 fa];have:=O1 p (N1 i);rw [Y4] at this;omega
 by_cases hlt:i < n
 ·refine .inr ⟨r.go i hlt H' sm,j,λ v H2 y=>?_⟩;obtain ⟨f,q⟩:=r.item i hlt H' v H2 sm y;refine body i hlt v H2 (st _ _ _ sm f) q _ _ (λ h y H3 d s=>⟨n - (i + 1),by omega,rfl,hlt,st _ _ _ (st _ _ _ sm f) d,?_⟩) (λ h H3 d=>⟨n - (i + 1),by omega,rfl,hlt,st _ _ _ (st _ _ _ sm f) d,?_⟩)
  ·rw [z17,if_pos h];exact z37 (z02 (λ a b z=>hR a b _ _ (st _ _ _ f d) z) fa) s
  ·rw [z17,if_neg (by rw [h];decide),D3];exact z02 (λ a b z=>hR a b _ _ (st _ _ _ f d) z) fa
 ·have e:i=n:=by omega
  subst e;exact .inl ⟨r.stop H' sm,j,λ l o=>hQ l H' ys sm o fa⟩
theorem zbf {S:Hp->Hp->Prop} {K:c0} {a:Addr} {xs:List V} {H1:Hp} (hs :∀H,S H1 H->S H H) (hq :∀H,S H1 H->SqL K H a xs):RunsR S (Itl K a) H1 xs.length (λ i v _=>xs[i]? = some v):=
 ⟨λ i b H s=>⟨xs,xs[i],hq H s,by simp [b]⟩,λ H s=>⟨xs,hq H s,C0 _⟩,λ i b H v c s y=>by obtain ⟨e,y⟩:=y;subst e;exact ⟨hs _ s,y xs (hq _ s)⟩⟩
theorem zd4 {S:Hp->Hp->Prop} {K:c0} {a:Addr} {xs:List V} {H1:Hp} (hs :∀H,S H1 H->S H H) (hq :∀H,S H1 H->SqT K H a xs):RunsR S (Itt K a) H1 xs.length (λ i v _=>xs[i]? = some v):=
 ⟨λ i b H s=>⟨xs,xs[i],hq H s,by simp [b]⟩,λ H s=>⟨xs,hq H s,C0 _⟩,λ i b H v c s y=>by obtain ⟨e,y⟩:=y;subst e;exact ⟨hs _ s,y xs (hq _ s)⟩⟩
theorem zea {S:Hp->Hp->Prop} {n:Nat} {H1:Hp} (hs :∀H,S H1 H->S H H):RunsR S (Itr 0 n) H1 n (λ i v _=>v=.int (i:Nat)):=
 ⟨λ i a H s=>a,λ H s=>C0 _,λ i a H v b s y=>by obtain ⟨e,y⟩:=y;subst e;exact ⟨hs _ s,by rw [y,Int.zero_add]⟩⟩
def Ris (xs:Array Nat):Prop:=xs.toList.Pairwise (· < ·)
theorem Ris.lt {xs:Array Nat} (r:Ris xs) {i k:Nat} (h:i < k) (hk:k < xs.size):xs[i]'(A6 h hk) < xs[k]:=by have:=(List.pairwise_iff_getElem.mp r) i k (by simpa using A6 h hk) (by simpa using hk) h;simpa using this
theorem zh8 {xs:Array Nat} {i d:Nat} (h:i < xs.size):xs.getD i d=xs[i]:=by simp [Array.getD,h]
theorem z7k {xs:Array Nat} {j:Nat} (r:Ris xs) :∀(f lo hi:Nat),lo<=hi->hi<=xs.size->hi - lo<=f->(∀i (h:i < xs.size),i < lo->xs[i] < j)->(∀i (h:i < xs.size),hi<=i->j<=xs[i])->
  J6 xs j f lo hi<=xs.size/\(∀i (h:i < xs.size),i < J6 xs j f lo hi->xs[i] < j)/\(∀i (h:i < xs.size),J6 xs j f lo hi<=i->j<=xs[i])
 | 0,lo,hi,h1,h2,h3,ha,hb=>by
  have:lo=hi:=by omega
  subst this;exact ⟨h2,ha,hb⟩
 | f + 1,lo,hi,h1,h2,h3,ha,hb=>by
  unfold J6;by_cases z:lo < hi
  ·rw [if_pos z];have a:(lo + hi) / 2 < xs.size:=by omega
   dsimp only;rw [zh8 a];by_cases y:xs[(lo + hi) / 2] < j
   ·rw [if_pos y];refine z7k r f _ _ (by omega) h2 (by omega) (λ i h b=>?_) hb;by_cases e:i=(lo + hi) / 2
    ·subst e;exact y
    ·exact A6 (r.lt (by omega) a) y
   ·rw [if_neg y];refine z7k r f _ _ (by omega) (by omega) (by omega) ha λ i h b=>?_;by_cases e:i=(lo + hi) / 2
    ·subst e;omega
    ·exact L0 (Nat.not_lt.mp y) (X6 (r.lt (by omega) h))
  ·rw [if_neg z];have:lo=hi:=by omega
   subst this;exact ⟨h2,ha,hb⟩
theorem zbj {xs:Array Nat} (r:Ris xs) (j:Nat):P2 xs j<=xs.size/\(∀i (h:i < xs.size),i < P2 xs j->xs[i] < j)/\(∀i (h:i < xs.size),P2 xs j<=i->j<=xs[i]):=
 z7k r _ _ _ (R1 _) (C0 _) (C0 _) (λ i h z=>absurd z (W5 _)) (λ i h z=>absurd h (Nat.not_lt.mpr z))
theorem z3z {α:Type} (xs:Array α) (p:Nat) (x:α) (hp:p<=xs.size):(M8 xs p x).toList=xs.toList.take p++x :: xs.toList.drop p:=by unfold M8;simp [N7]
theorem Ris.insert {xs:Array Nat} (r:Ris xs) {j:Nat} (h:¬ xs[P2 xs j]? = some j):Ris (M8 xs (P2 xs j) j):=by
 obtain ⟨m,q,g⟩:=zbj r j;unfold Ris;rw [z3z _ _ _ m];refine List.pairwise_append.mpr ⟨r.sublist (List.take_sublist _ _),List.pairwise_cons.mpr ⟨λ y p=>?_,r.sublist (List.drop_sublist _ _)⟩,λ a o b f=>?_⟩
 ·obtain ⟨i,d,e⟩:=List.mem_drop_iff_getElem.mp p;have l:P2 xs j + i < xs.size:=by simpa [Nat.add_comm] using d
  have c:xs[P2 xs j + i]=y:=by simpa using e
  have le:=g _ l (by omega);rw [c] at le;rcases T4 le with z|z
  ·exact z
  ·exfalso;have f:P2 xs j < xs.size:=by omega
   have x:=g _ f (C0 _);have:xs[P2 xs j]=j:=by
    by_cases i0:i=0
    ·subst i0;exact c.trans z.symm
    ·have:=r.lt (show P2 xs j < P2 xs j + i by omega) l;rw [c] at this;omega
   exact h (by rw [L5 f,this])
 ·obtain ⟨i,d,e⟩:=List.mem_take_iff_getElem.mp o;have t:i < xs.size:=by have:=d;simp at this;omega
  have u:i < P2 xs j:=by have:=d;simp at this;omega
  have lt:=q i t u;have c:xs[i]=a:=by simpa using e
  rw [c] at lt;rcases List.mem_cons.mp f with z|z
  ·rw [z];exact lt
  ·obtain ⟨k,w,n⟩:=List.mem_drop_iff_getElem.mp z;have s:P2 xs j + k < xs.size:=by simpa [Nat.add_comm] using w
   have v:xs[P2 xs j + k]=b:=by simpa using n
   have:=g _ s (by omega);rw [v] at this;omega
theorem zdq (n:Nat):Ris (Array.range n):=by unfold Ris;rw [Array.toList_range];exact O7
def z5y (t:C7) (j:Nat):Prop:=¬ t.place[P2 t.place j]? = some j
theorem z67 {t:C7} {j:Nat} (h :∀i,t.slot j≠.live i):z5y t j:=λ e=>by refine h (P2 t.place j) ?_;unfold SetTable.slot;dsimp only;rw [if_pos (by rw [e];exact beq_self_eq_true _)]
theorem z35 {t:C7} {hs:Nat->Int} {h:Int} :∀(f:Nat) (p:SetTable.Probe) (j:Nat) (d:Option Nat),(∀k,p.dummy=some k->z5y t k)->R9 t hs h f p=some (.empty j d)->z5y t j/\∀k,d=some k->z5y t k
 | 0,p,j,d,hd,e=>by cases e
 | f + 1,p,j,d,hd,e=>by
  unfold R9 at e;cases q:t.slot p.j with
  | empty=>rw [q] at e;cases e;exact ⟨z67 (λ i z=>by rw [q] at z;cases z),hd⟩
  | dummy=>rw [q] at e;refine z35 f _ j d (λ k z=>?_) e;unfold j1h at z;dsimp only at z;split at z<;>(cases z;exact z67 λ i z=>by rw [q] at z;cases z)
  | live i=>
   rw [q] at e;dsimp only at e;split at e
   ·cases e
   ·refine z35 f _ j d (λ k z=>?_) e;unfold j1h at z;dsimp only at z;split at z<;>exact hd k z
theorem z9x {t:C7} {h:Int} {s:Nat} {b:Bool} (e:t.freeSlot h=some (s,b)):z5y t s:=by
 unfold SetTable.freeSlot at e;cases q:t.probe (λ _=>h + 1) h (t.probeStart h) with
 | none=>rw [q] at e;cases e
 | some m=>
  rw [q] at e;cases m with
  | candidate a b c=>cases e
  | empty j d=>
   have:=z35 _ _ j d (λ k z=>by cases z) q;cases e;cases d with
   | none=>exact this.1
   | some k=>exact this.2 k rfl
def Tidy (l:Bool) (t:C7):Prop:=t.led=l/\Ris t.place
theorem Tidy.standIn {l:Bool} {t:C7} (h:Tidy l t) (n:Nat):Tidy l (t.standIn n):=⟨h.1,zdq n⟩
theorem Tidy.layNew {l:Bool} {t:C7} (h:Tidy l t) (es:Array (Int×Value)) (k:Int) (x:Value):Tidy l (layNew t es k x).2.1:=by
 unfold PySem.layNew;cases q:t.freeSlot k with
 | none=>exact h.standIn _
 | some s=>
  obtain ⟨s,b⟩:=s;dsimp only;have a:Tidy l (t.put s).1:=⟨h.1,Ris.insert h.2 (z9x q)⟩
  unfold SetTable.orStandIn;split
  ·exact a
  ·exact a.standIn _
theorem Tidy.relayAll {l:Bool} {t:C7} (h:Tidy l t) (es:Array (Int×Value)) (n:Nat):Tidy l (j16 t es n).2.1:=by
 unfold PySem.relayAll;cases q:t.relaid (es.map (·.1)) n with
 | none=>exact h.standIn _
 | some p=>
  obtain ⟨m,o⟩:=p;dsimp only;split
  ·unfold SetTable.relaid SetTable.laid at q;cases q2:SetTable.layClean (SetTable.sizeAbove n - 1) (es.map (·.1)) with
   | none=>rw [q2] at q;cases q
   | some ow=>rw [q2] at q;cases q;refine ⟨h.1,?_⟩;show (List.map _ _).Pairwise _;rw [m6];refine List.Pairwise.filterMap _ (λ a b e c g d hd=>?_) (O7);obtain ⟨j,_,i⟩:=Option.map_eq_some_iff.mp g;obtain ⟨k,_,f⟩:=Option.map_eq_some_iff.mp hd;rw [<-i,<-f];exact e
  ·exact h.standIn _
end L2
set_option maxHeartbeats 1000000
namespace L2
open PySem PySem.Spec PyProof.Rows
noncomputable def intOf:Value->Int
 | .int i _=>i
 | _=>0
theorem z53 {vs:List Value} {ns:List Int} (h:S3 vs ns):ns=vs.map intOf/\∀v∈vs,∃i t,v=.int i t:=by
 induction h with
 | nil=>exact ⟨rfl,λ v a=>by cases a⟩
 | cons n t r ih=>
  refine ⟨by rw [ih.1];rfl,λ v a=>?_⟩;rcases List.mem_cons.mp a with e|a
  ·exact ⟨n,t,e⟩
  ·exact ih.2 v a
theorem zb4 :∀vs:List Value,(∀v∈vs,∃i t,v=.int i t)->S3 vs (vs.map intOf)
 | [],_=>.nil
 | v :: vs,h=>by obtain ⟨i,t,e⟩:=h v (.head _);subst e;exact .cons i t (zb4 vs λ v a=>h v (.tail _ a))
theorem z83 {vs vs':List Value} {ns:List Int} (h:S3 vs ns) (p:vs'.Perm vs) :∃ns',S3 vs' ns'/\ns'.Perm ns:=by obtain ⟨e,k⟩:=z53 h;refine ⟨vs'.map intOf,zb4 vs' λ v a=>k v (p.mem_iff.mp a),?_⟩;rw [e];exact p.map _
theorem zaw {vs:List Value} {ns:List Int} (h:S3 vs ns):ns.length=vs.length:=by rw [(z53 h).1,G0]
theorem zd6 {vs:List Value} {ns:List Int} (h:S3 vs ns) (n:Int) (t:Tok):S3 (vs++[.int n t]) (ns++[n]):=by
 induction h with
 | nil=>exact .cons n t .nil
 | cons m u r ih=>exact .cons m u ih
section
variable {prog:Program} {w:S0} {A:X1} {E:Value->A0->Prop} {s:A0}
def SetAt (prog:Program) (w:S0) (l:Bool) (h:Heap) (a:Addr) (ns:List Int):Prop:=
 ∃es ep t,h.get? a=some { cls:=.type "set",dict:=none,data:=.set es ep t,slots:=#[] }/\ElemsOf (F5 prog w) es.toList/\S3 (es.toList.map (·.2)) ns/\ns.Nodup/\es.size < scanBound/\t.fits es.size=true/\Tidy l t
theorem z8x {l:Bool} {h:Heap} {a:Addr} {es0 es:Array (Int×Value)} {ep:Nat} {t0 t:C7} {ns:List Int} (ho:h.get? a=some { cls:=.type "set",dict:=none,data:=.set es0 ep t0,slots:=#[] })
  (hel:ElemsOf (F5 prog w) es.toList) (hi:S3 (es.toList.map (·.2)) ns) (nd:ns.Nodup) (hb:es.size < scanBound) (hf:t.fits es.size=true) (ht:Tidy l t) :
  (h.update a (Y8 es t)).get? a=some { cls:=.type "set",dict:=none,data:=.set es (ep + 1) t,slots:=#[] }/\SetAt prog w l (h.update a (Y8 es t)) a ns:=by
 have g:(h.update a (Y8 es t)).get? a=some { cls:=.type "set",dict:=none,data:=.set es (ep + 1) t,slots:=#[] }:=i8 (Y8 es t) ho rfl;exact ⟨g,es,ep + 1,t,g,hel,hi,nd,hb,hf,ht⟩
theorem zfk {es:List (Int×Value)} {ns:List Int} {v:Int} (hi:S3 (es.map (·.2)) ns) (h:es.findIdx? (λ e=>(F5 prog w).is v e.2)=none):¬ v∈ns:=λ a=>by
 obtain ⟨e,k⟩:=z53 hi;rw [e] at a;obtain ⟨y,c,d⟩:=List.mem_map.mp a;obtain ⟨p,f,j⟩:=List.mem_map.mp c;obtain ⟨i,t,b⟩:=k y c;have:=List.findIdx?_eq_none_iff.mp h p f;have g:v=i:=by rw [<-d,b];rfl
 have:(F5 prog w).is v p.2=false:=by simpa using this
 rw [j,b,g,intKind_is] at this;cases this
theorem zh0 {es:List (Int×Value)} {ns:List Int} {v:Int} {j:Nat} (hi:S3 (es.map (·.2)) ns) (h:es.findIdx? (λ e=>(F5 prog w).is v e.2)=some j):v∈ns:=by obtain ⟨a,b,_⟩:=List.findIdx?_eq_some_iff_getElem.mp h;obtain ⟨t,e⟩:=Value.isInt_shape (show j1b v es[j].2=true from b);rw [(z53 hi).1];exact List.mem_map.mpr ⟨es[j].2,List.mem_map.mpr ⟨es[j],K5 a,rfl⟩,by rw [e];rfl⟩
theorem zan {ns:List Int} {v:Int} (h:ns.Nodup) (n:¬ v∈ns):(ns++[v]).Nodup:=by refine List.nodup_append.mpr ⟨h,by simp,λ a d b c e=>?_⟩;rw [List.mem_singleton.mp c] at e;exact n (e ▸ d)
noncomputable def addI (ns:List Int) (v:Int):List Int:=if v∈ns then ns else ns++[v]
theorem zgo {l:Bool} {a:Addr} {v:Int} {tk:Tok} {ns:List Int} {Q:Bool->A0->Prop} (hS:SetAt prog w l s.heap a ns) (hroom:ns.length + 1 < scanBound)
  (h :∀b h' ns',S6 a s.heap h'->SetAt prog w l h' a ns'->ns'.Perm (addI ns v)->Q b { s with heap:=h' }):R0 (Y0 prog w) A (setAddHashed a (.int v tk) ((F5 prog w).hash v)) Q E s:=by
 obtain ⟨f,ep,t,m,y,i,nd,S,F,J⟩:=hS;have a0:f.size=ns.length:=by rw [zaw i,G0,B1]
 have V:(F5 prog w).is v (.int v tk)=true:=intKind_is prog w v tk;unfold setAddHashed setAddHashedIn;refine T2 (o0 (wpAny_setState_of m rfl F ?_));dsimp only;rw [byScan_of rfl S y];simp only [↓reduceIte];unfold setAddByScan;refine o0 (o0 (t9 (o0 (wpAny_setScan_of V m rfl F y ?_))));cases hr:List.findIdx? (λ e=>(F5 prog w).is v e.2) f.toList with
 | some j=>refine F0 (F0 ?_);have:=h false s.heap ns (Heap.SameBut.refl a s.heap) ⟨f,ep,t,m,y,i,nd,S,F,J⟩ (by unfold addI;rw [if_pos (zh0 i hr)]);exact this
 | none=>
  dsimp only;have g:=layNew_perm t f ((F5 prog w).hash v) (.int v tk);have B:=layNew_fits t f ((F5 prog w).hash v) (.int v tk);have u:=J.layNew f ((F5 prog w).hash v) (.int v tk);generalize layNew t f ((F5 prog w).hash v) (.int v tk)=L at g B u⊢;obtain ⟨c,d,wd,Z⟩:=L;dsimp only at g B u⊢;rw [Array.toList_push] at g;have U:ElemsOf (F5 prog w) c.toList:=(y.push V rfl).perm g;have p :∃k,S3 (c.toList.map (·.2)) k/\k.Perm (ns++[v]):=z83 (zd6 i v tk) (by have:=g.map (λ e:Int×Value=>e.2);rwa [C2] at this);obtain ⟨k,p,I⟩:=p;have M:=zfk i hr;have N:k.Nodup:=I.nodup_iff.mpr (zan nd M);have O:addI ns v=ns++[v]:=if_neg M;have C:c.size < scanBound:=by rw [<-B1,g.length_eq,J0,B1,a0];exact hroom
  have K :∀(b:Bool) {G:A0} {Q':Unit->A0->Prop},Q' () G->R0 (Y0 prog w) A (match b with|true=>rule "set.scan.the-table-gave-way" | false=>N3 ()) Q' E G:=λ b G Q' q=>by cases b with|false=>exact F0 q|true=>exact t9 q
  have X:R0 (Y0 prog w) A (do
    storeSet a c d
    if (!wd && d.tooFull)=true then do
      (match (j16 d c (W4 c.size)).2.2 with|true=>rule "set.scan.the-table-gave-way" | false=>N3 ())
      storeSet a (j16 d c (W4 c.size)).1 (j16 d c (W4 c.size)).2.1
      N3 (some true)
     else N3 (some true)) (λ r o=>∃b,r=some b/\Q b o) E s:=by
   obtain ⟨R,W⟩:=z8x (prog:=prog) (w:=w) m U p N C B u;have sb:=C3 s.heap a (Y8 c d);refine o0 (wpAny_storeSet_of m rfl ?_ (fits_of_scanBound C));split
   ·have n:=relayAll_perm d c (W4 c.size);have H:=relayAll_fits d c (W4 c.size);have D:=u.relayAll c (W4 c.size);generalize j16 d c (W4 c.size)=L2 at n H D⊢;obtain ⟨a1,t2,Y⟩:=L2;dsimp only at n H D⊢;obtain ⟨a3,a2,P⟩:=z83 p (n.map (λ e:Int×Value=>e.2));have T:a1.size < scanBound:=by rw [<-B1,n.length_eq,B1];exact C
    refine o0 (K Y (o0 (wpAny_storeSet_of R rfl ?_ (fits_of_scanBound T))));obtain ⟨_,S2⟩:=z8x (prog:=prog) (w:=w) R (U.perm n) a2 (P.nodup_iff.mpr N) T H D;exact F0 ⟨true,rfl,h true _ a3 (sb.trans (C3 _ a _)) S2 (by rw [O];exact P.trans I)⟩
   ·exact F0 ⟨true,rfl,h true _ k sb W (by rw [O];exact I)⟩
  refine o0 (K Z ?_);have fin:=Q3 X (Q':=λ r o=>R0 (Y0 prog w) A (match r with|some added=>N3 added|none=>setAddHashedIn a (.int v tk) ((F5 prog w).hash v) 99999) Q E o) (E':=E) (λ r o x=>by obtain ⟨b,e,q⟩:=x;subst e;exact F0 q) (λ e o x=>x);by_cases z:d.plain=true
  ·rw [if_pos z];exact o0 (j03 (show hashByValue 8 (U5 v tk)=N3 true from rfl) fin)
  ·rw [if_neg z];exact o0 (F0 fin)
end
theorem ze8 {ns ms:List Int} (p:ns.Perm ms) (v:Int):(addI ns v).Perm (addI ms v):=by
 unfold addI;by_cases z:v∈ns
 ·rw [if_pos z,if_pos (p.mem_iff.mp z)];exact p
 ·rw [if_neg z,if_neg (λ y=>z (p.mem_iff.mpr y))];exact p.append_right [v]
theorem z21 :∀(vs:List Int) {ns ms:List Int},ns.Perm ms->(vs.foldl addI ns).Perm (vs.foldl addI ms)
 | [],_,_,p=>p
 | v :: vs,_,_,p=>z21 vs (ze8 p v)
theorem zaq (ns:List Int) (v:Int):(addI ns v).length<=ns.length + 1:=by
 unfold addI;split
 ·exact L6 _
 ·rw [J0];exact C0 _
section
variable {prog:Program} {w:S0} {A:X1} {E:Value->A0->Prop} {s:A0}
theorem SetAt.at' {l:Bool} {h h':Heap} {a:Addr} {ns:List Int} (k :∀o,h.get? a=some o->h'.get? a=some o) (x:SetAt prog w l h a ns):SetAt prog w l h' a ns:=by obtain ⟨b,c,t,e,r⟩:=x;exact ⟨b,c,t,k _ e,r⟩
theorem z93 (a:Args):(R7 "set.update.loop" a).quiet=true:=plainId_quiet (by decide +kernel) _
noncomputable def set0 (w:S0):Obj:={ cls:=.type "set",dict:=none,data:=.set #[] 0 (.fresh 0 0 (!w.params.followText "set-order")) }
theorem zf4 (a:Value) {Q₁:Value->A0->Prop} (h:Q₁ (.ref s.heap.objs.size) { s with heap:=s.heap.push (set0 w) }):k6 (Y0 prog w) A (.call (.builtin "set.__new__") ⟨[.type "set",a],[]⟩) (wants Q₁ E) s:=by refine X8 F.plain_set_new F.entry_set_new (j03 (F.newCall_set_1 a) ?_);show R0 _ _ (Builtin.Frozenset.newClass "set" ⟨[.type "set",a],[]⟩ >>= _) _ _ _;refine o0 (o0 (show R0 _ _ (N3 true) _ _ _ from F0 ?_));show R0 _ _ (isSubtype (.type "set") (.type "set") >>= _) _ _ _;refine o0 (j03 sub_set_self ?_);refine F0 ?_;show R0 _ _ (newSet (.type "set") >>= _) _ _ _;unfold newSet setsByText;refine o0 (o0 (o0 (wpAny_askSetting (F0 ?_))));exact o0 (wpAny_alloc (F0 (F0 h)))
theorem zh6 {h:Heap} {a:Addr} (e:h.get? a=some (set0 w)):SetAt prog w (!w.params.followText "set-order") h a []:=
 ⟨#[],0,_,e,λ x b=>by simp at b,.nil,W9,by decide,by rfl,rfl,b8⟩
end
section
variable {X:Cx}
theorem z2q :∀(vs ns:List Int),(vs.foldl addI ns).length<=ns.length + vs.length
 | [],ns=>C0 _
 | v :: vs,ns=>by have a:=z2q vs (addI ns v);have b:=zaq ns v;show (vs.foldl addI (addI ns v)).length<=_;rw [Z0];omega
end
end L2
set_option maxHeartbeats 400000
namespace HT
open PySem PySem.Spec PyProof.Rows L2
variable {prog:Program} {w:S0} {A:X1} {E:Value->A0->Prop} {s:A0}
end HT
namespace L2
open PySem PySem.Spec PyProof.Rows
theorem zev {names:List (Str×Q5)} {ns:List Str} {Q:Str×Q5->Prop} (h:(names.all λ y=>y.2 != Q1 || ns.contains y.1)=true) (q :∀n,n∈ns->∀k,Q (n,k)) :∀y∈names,y.2=Q1->Q y:=λ y c e=>by
 have z:=List.all_eq_true.mp h y c;rw [e] at z;have z:ns.contains y.1=true:=by simpa using z
 obtain ⟨a,b⟩:=y;exact q a (by simpa using z) b
theorem z6g {S:Hp->Hp->Prop} {ta:TA} {te:TE} {tc:TT} {g:TG} {m n:Nat} {fr:List (Nat×Str)} {σ:St} {H H1:Hp} {Q:VK} (p:Nat->Bool) (R:Nat->V->Hp->Prop) (s0:S H1 H1) (st :∀a b c,S a b->S b c->S a c) (hs :∀H,S H1 H->S H H) (hR :∀i y H H',S H H'->R i y H->R i y H')
  (hta :∀T:List V->Hp->Prop,T [.int (n:Nat)] H1->ta σ H T) (hn:n<=sizeLine)
  (body :∀i,i < n->∀H,S H1 H->∀(KT:VK) (KF:Hp->Prop),(p i=true->∀y H',S H H'->R i y H'->KT y H')->(p i=false->∀H',S H H'->KF H')->
   g (.int (i:Nat)) (cStG σ fr (Q0 m none)) H λ σ6 H6=>∃us,us.length=m/\σ6=cStG σ fr us/\tc (cStG σ fr us) H6 λ b H2=>if b=true then te (cStG σ fr us) H2 KT else KF H2)
  (hQ :∀l H' ys,S H1 H'->H' l=none->All2 (λ i y=>R i y H') ((N1 n).filter p) ys->Q (.ref l) (upd H' l (.lst ys))):tCompG (iRng1 ta) m fr g tc te σ H Q:=by
 have b:(n:Int) < 2 ^ 62:=Int.lt_of_le_of_lt (Int.ofNat_le.mpr hn) (by decide);refine hta _ ⟨n,rfl,by omega,b,?_⟩;exact z2b s0 st p R hR (zea hs) hn (λ i h v H s f KT KF e d=>by subst f;exact body i h H s KT KF e d) hQ
theorem zg4 {f:List V->Hp->VK->Prop} {te:TE} {ta:TA} {σ:St} {H:Hp} {Q:List V->Hp->Prop} (h:te σ H λ x H1=>f [x] H1 λ y H2=>ta σ H2 λ ys H3=>Q (y :: ys) H3):tCons (tCB f (tCons te tNil)) ta σ H Q:=h
noncomputable def rCatA (K:c0):R2:=λ x y H Q=>∃a b xs ys,x=.ref a/\y=.ref b/\SqT K H a xs/\SqT K H b ys/\xs.length + ys.length<=sizeLine/\∀p H',Same H H'->SqT K H' p (xs++ys)->Q (.ref p) H'
theorem zew {X:Cx}:OpR X (M4 .Add) (rCatA X.K):=by
 intro i s σ H x y v u Q I g f h;obtain ⟨a,b,d,j,rfl,rfl,c,e,k,q⟩:=h;by_cases hy:j=[]
 ·subst hy;cases d with
  | nil=>exact zav i s σ H _ _ v u Q I g f ⟨a,b,[],rfl,rfl,c,e,q b H (Same.refl H) e⟩
  | cons x d=>exact zbn i s σ H _ _ v u Q I g f ⟨a,b,x :: d,[],rfl,rfl,c,e,by simp,k,λ _=>q a H (Same.refl H) (by rw [D3];exact c),λ z=>absurd rfl z⟩
 ·exact zhj i s σ H _ _ v u Q I g f ⟨a,b,d,j,rfl,rfl,c,e,hy,k,q⟩
theorem qs_if {X:Cx} {pos:Pos} {c:Expr} {a b:List Stmt} {t:TT} {ta tb:TS} (hc:PT X c t) (ha:QSs X a ta) (hb:QSs X b tb):QS X (.If c a b pos) (tIfS t ta tb):=⟨ps_if hc ha.run hb.run⟩
theorem zfq {f:List V->Hp->VK->Prop} {te tb:TE} {r:R2} {σ:St} {H:Hp} {Q:Bool->Hp->Prop} (h:te σ H λ x H1=>f [x] H1 λ y H2=>tb σ H2 λ z H3=>r y z H3 λ b H4=>∃k,b=.bl k/\Q k H4):tTest (tOp r (tCB f (tCons te tNil)) tb) σ H Q:=h
theorem z12 {c:TT} {a b:TS} {D:Ends} {σ:St} {H:Hp} (h:c σ H λ k H1=>if k=true then a D σ H1 else b D σ H1):tIfS c a b D σ H:=h
theorem za2 {K:c0} {a:Addr} {xs:List V} {H1:Hp} (hq:SqL K H1 a xs):RunsR Same (IteL K a) H1 xs.length (λ i v H=>∃x p,xs[i]? = some x/\v=.ref p/\H p=some (.tup [.int (i:Nat),x])):=by refine ⟨λ i b H s=>⟨xs,xs[i],s.seq hq,by simp [b]⟩,λ H s=>⟨xs,s.seq hq,rfl⟩,λ i b H v e s y=>?_⟩;obtain ⟨p,c,rfl,f⟩:=y;obtain ⟨x,d,rfl⟩:=f xs (s.seq hq);exact ⟨Same.upd c,x,p,d,rfl,z01⟩
end L2
set_option maxHeartbeats 1000000
namespace L2
open PySem PySem.Spec PyProof.Rows
section
variable {prog:Program} {w:S0} {A:X1} {E:Value->A0->Prop} {s:A0}
theorem za6 {b:Bool} {S it l:Addr} {items:Array Value} (nsi:S≠it) (nsl:S≠l) (nil':it≠l) :∀(ms:List Int) (i:Nat) (ns:List Int) (A:X1) (R:Result->A0->Prop) (s:A0),A.handled=none->s.heap.IsListIter it l i->s.heap.IsList l items->
  S3 (items.toList.drop i) ms->SetAt prog w b s.heap S ns->ns.length + ms.length < scanBound->
  (∀h' tk ns',SetAt prog w b h' S ns'->ns'.Perm (ms.foldl addI ns)->(∀c o,c≠S->c≠it->s.heap.get? c=some o->h'.get? c=some o)->R (.ok (.ret .none)) { s with heap:=h',toks:=tk })->
  k6 (Y0 prog w) A (R7 "set.update.loop" { pos:=[.ref S,.ref it],kw:=[] }) R s
 | [],i,ns,A,R,s,hh,si,sl,al,dd,hz,q=>by
  have J:items[i]? = none:=by
   cases hd:items.toList.drop i with
   | nil=>have:=List.drop_eq_nil_iff.mp hd;rw [B1] at this;exact j6 this
   | cons u us=>rw [hd] at al;cases al
  refine J4 o6 ?_;show R0 _ _ (v9 (.ref it) >>= _) _ _ s;refine o0 (O8 (show (A.under _).handled=none from hh) si sl J λ h' t=>?_);exact F0 (q h' s.toks ns (dd.at' λ o e=>t S o nsi e) (List.Perm.refl _) λ c o _ y e=>t c o y e)
 | m :: ms,i,ns,A,R,s,hh,si,sl,al,dd,hz,q=>by
  cases hd:items.toList.drop i with
  | nil=>rw [hd] at al;cases al
  | cons u us=>
   rw [hd] at al;cases al with
   | cons _ tk al=>
    have D:items.toList[i]? = some (.int m tk):=by have:=congrArg (λ l=>l[0]?) hd;simpa using this
    have I:items[i]? = some (.int m tk):=by simpa using D
    have K:items.toList.drop (i + 1)=us:=by have:=congrArg List.tail hd;simpa using this
    refine J4 o6 ?_;show R0 _ _ (v9 (.ref it) >>= _) _ _ s;refine o0 (A8 si sl I λ f L h=>?_);have B:f.IsList l items:=by obtain ⟨o,d,a⟩:=sl;exact ⟨o,(h.2 l (P3 nil')).trans d,a⟩
    have x:SetAt prog w b f S ns:=dd.at' λ o e=>(h.2 S nsi).trans e;rw [Z0] at hz;refine o0 (T2 (show R0 _ _ (setAdd S (.int m tk)) _ _ _ from ?_));unfold setAdd;refine T2 (o0 ((F5 prog w).pyHash (k:=m) (intKind_is prog w m tk) ?_));refine zgo (s:={ s with heap:=f,toks:=s.toks + 1 }) x (P1 (by omega) hz) λ c j v g F p=>?_;refine F0 ⟨z93 _,?_⟩;have z:j.IsListIter it l (i + 1):=by obtain ⟨o,d,a⟩:=L;exact ⟨o,(g.2 it (P3 nsi)).trans d,a⟩
    have E:j.IsList l items:=by obtain ⟨o,d,a⟩:=B;exact ⟨o,(g.2 l (P3 nsl)).trans d,a⟩
    have N:v.length<=ns.length + 1:=by rw [p.length_eq];exact zaq ns m
    refine za6 nsi nsl nil' ms (i + 1) v A R { s with heap:=j,toks:=s.toks + 1 } hh z E (by rw [K];exact al) F (by omega) λ h' G ns' H M C=>q h' G ns' H (M.trans (z21 ms p)) λ c o n r e=>C c o n r ((g.2 c n).trans ((h.2 c r).trans e))
theorem z5t:isSubtype (.type "list") (.type "set")=N3 false:=by rw [isSubtype_type];kernel_rfl
theorem z4b:isSubtype (.type "list") (.type "frozenset")=N3 false:=by rw [isSubtype_type];kernel_rfl
theorem z7r {l:Addr} {items:Array Value} {ns:List Int} {Q:Value->A0->Prop} (hh:A.handled=none) (ht:s.heap.IsList l items) (hi:S3 items.toList ns) (hb:ns.length < scanBound)
  (h :∀h' tk ns',SetAt prog w (!w.params.followText "set-order") h' s.heap.objs.size ns'->ns'.Perm (ns.foldl addI [])->(∀b o,s.heap.get? b=some o->h'.get? b=some o)->Q (.ref s.heap.objs.size) { s with heap:=h',toks:=tk }) :
  R0 (Y0 prog w) A (call (.type "set") [.ref l]) Q E s:=by
 obtain ⟨c,O,P⟩:=F.called_set.mro;have Y:=F.called_set.made;have M:=F.called_set.sub;refine j15 (codeAny_of_tree (show R0 _ _ (callAny (.type "set") _) _ _ _ from F0 ⟨Code.quiet_builtin _ (by decide +kernel),J4 F.entry_type_call ?_⟩));rw [j26 (weight_type_call_type "set" [.ref l] []) rfl];have J:=F.called_set.notType;have R:=F.called_set.canCreate;have K:=F.typeCall_set_1 (.ref l)
 (repeat (any_goals (first|assumption|wp_step)));refine R5 (zf4 (.ref l) (E:=E) (Q₁:=λ m t=>m=.ref s.heap.objs.size/\t={ s with heap:=s.heap.push (set0 w) }) ⟨rfl,rfl⟩) λ r t d=>?_
 cases r with
 | error e=>exact d
 | ok fl=>
  cases fl with
  | next=>exact d.elim
  | brk=>exact d.elim
  | cont=>exact d.elim
  | ret m=>
   obtain ⟨rfl,rfl⟩:=d;have f:(s.heap.push (set0 w)).get? s.heap.objs.size=some (set0 w):=O0 _ rfl;have v:D8 { s with heap:=s.heap.push (set0 w) } (.ref s.heap.objs.size) "set":=⟨_,f,rfl⟩
   have W:=F.called_set.init.lookup;have V:=F.called_set.init.bind (.ref s.heap.objs.size)
   (repeat (any_goals (first|assumption|wp_step)))
   have B:k6 (Y0 prog w) A.in1 (.call (.builtin "set.__init__") ⟨[.ref s.heap.objs.size,.ref l],[]⟩) (wants (λ r p=>r=.none/\Q (.ref s.heap.objs.size) p) E) { s with heap:=s.heap.push (set0 w) }:=by
    refine X8 F.called_set.init.plain F.entry_set_init (check_set_init_1 v ?_);obtain ⟨o,g,k,n,hd⟩:=ht;obtain ⟨U,C,T,x⟩:=o;dsimp only at k hd;subst k hd;have G:(s.heap.push (set0 w)).get? l=some { cls:=.type "list",dict:=C,data:=.seq items n,slots:=x }:=y0 _ g;have Z:=z5t;have L:=z4b;have X:(n5 "list" == n5 "dict")=false:=by decide
    have N:(s.heap.push (set0 w)).get? s.heap.objs.size=some { cls:=.type "set",dict:=none,data:=.set #[] 0 (.fresh 0 0 (!w.params.followText "set-order")),slots:=#[] }:=f;have u:(s.heap.push (set0 w)).IsList l items:=⟨_,G,rfl,n,rfl⟩
    have j:l < s.heap.objs.size:=M0 g;unfold T6.«set.__init__» noKeywords c8;generalize hPI:pyIter=PI
    wp_walk
    subst hPI;refine F6 u (o0 (wpAny_runValue ?_));have q :∀b o,s.heap.get? b=some o->((s.heap.push (set0 w)).push { cls:=.type "list_iterator",data:=.fields #[.ref l,.int 0 0] }).get? b=some o:=λ b o e=>y0 _ (y0 _ e);have i:(s.heap.push (set0 w)).objs.size=s.heap.objs.size + 1:=A4 _ _;refine za6 (S:=s.heap.objs.size) (it:=(s.heap.push (set0 w)).objs.size) (l:=l) (items:=items) (by rw [i];exact T0 (A2 _)) (F2 j) (by rw [i];exact F2 (E1 j)) ns 0 [] _ _ _ (by simp [hh]) ⟨_,O0 _ rfl,rfl,rfl⟩ ⟨_,q _ _ g,rfl,n,rfl⟩ (by rw [C5];exact hi) (zh6 (y0 _ f)) (by simpa using hb) λ h' tk ns' y I z=>?_;refine F0 (F0 ⟨rfl,h h' tk ns' y I λ b o e=>z b o (T0 (M0 e)) (by rw [i];exact T0 (E1 (M0 e))) (q b o e)⟩)
   refine R5 B λ H p a=>?_;cases H with
   | error e=>exact a
   | ok f2=>
    cases f2 with
    | next=>exact a.elim
    | brk=>exact a.elim
    | cont=>exact a.elim
    | ret r=>obtain ⟨rfl,D⟩:=a;exact F0 (F0 D)
end
section
variable {X:Cx}
noncomputable def tLSet (K:c0) (te:TE):TE:=λ σ H Q=>te σ H λ x H1=>∃(a:Addr) (ns:List Int),x=.ref a/\SqL K H1 a (ns.map V.int)/\ns.length < 100/\Q (.int ((ns.foldl addI []).length:Nat)) H1
theorem zdf {e:Expr} {te:TE} {p1 p2 c1 c2:Pos} (hcalm:X.calm=true) (g1:Gl X "len") (m1:X.mg "len" = none) (g2:Gl X "set") (m2:X.mg "set" = none) (b1:L4 "len" = some (.builtin "len")) (b2:L4 "set" = some (.type "set")) (ha:PE X e te)
  (he:V1 [e] X.env=[(false,p4 e X.env)]:=by rfl):PE X (.Call (.Name "len" p1) [.Call (.Name "set" p2) [e] [] c2] [] c1) (tLSet X.K te):=by
 intro v s σ H Q I h;have d:X.A.handled=none:=I.ok.hd hcalm;refine i4 (ld_blt I g1 m1 b1 ?_ (by decide) (by decide));refine V5 ?_ rfl rfl;refine (show R0 _ _ (j0h ((false,p4 (.Call (.Name "set" p2) [e] [] c2) X.env) :: [])) _ _ s from W3 ?_);refine i4 (ld_blt I g2 m2 b2 ?_ (by decide) (by decide));refine K3 ?_ he rfl;rw [he];refine (show R0 _ _ (j0h ((false,p4 e X.env) :: [])) _ _ s from W3 (thn (ha v s σ H _ I h) λ u j ⟨x,H1,I1,r1,a,ns,ex,sq,hl,q⟩=>?_));subst ex;cases r1;refine D4 ?_;obtain ⟨w,i,g,D⟩:=I1.list sq;refine z7r d g.isList (by simpa using z3j i) (A6 hl (by decide)) λ l b C r k n=>D4 ?_;obtain ⟨o,B,t,m,_,c,nd,z,p,_⟩:=r;have f:o.size=(ns.foldl addI []).length:=by rw [<-k.length_eq,zaw c,G0,B1]
 have y:(ns.foldl addI []).length < 100:=by have:=z2q ns [];rw [U4,y6] at this;omega
 refine call_len_set (s:={ j with heap:=l,toks:=b }) m ⟨rfl,rfl,rfl⟩ rfl p (by omega) ?_;rw [f];exact ⟨.int ((ns.foldl addI []).length:Nat),H1,(I1.kept (t':=b + 1 + 1) n),⟨_,rfl⟩,q⟩
end
theorem z0s {K:c0} {a:Addr} {xs:List V} {tl te:TE} {tc:TT} {g:TG} {m:Nat} {fr:List (Nat×Str)} {σ:L2.St} {H H1:Hp} {Q:VK} (p:Nat->Bool) (R:Nat->V->Hp->Prop) (hR :∀i y H H',Same H H'->R i y H->R i y H') (htl :∀R:VK,R (.ref a) H1->tl σ H R) (hq:SqL K H1 a xs) (hn:xs.length<=sizeLine)
  (body :∀i,i < xs.length->∀v H,Same H1 H->xs[i]? = some v->∀(KT:VK) (KF:Hp->Prop),(p i=true->∀y H',Same H H'->R i y H'->KT y H')->(p i=false->∀H',Same H H'->KF H')->
   g v (cStG σ fr (Q0 m none)) H λ σ6 H6=>∃us,us.length=m/\σ6=cStG σ fr us/\tc (cStG σ fr us) H6 λ b H2=>if b=true then te (cStG σ fr us) H2 KT else KF H2)
  (hQ :∀l H' ys,Same H1 H'->H' l=none->All2 (λ i y=>R i y H') ((N1 xs.length).filter p) ys->Q (.ref l) (upd H' l (.lst ys))):tCompG (iList K tl) m fr g tc te σ H Q:=
 htl _ ⟨a,rfl,⟨xs,hq⟩,z2b (Same.refl _) (λ _ _ _ a b=>a.trans b) p R hR (zbf (S:=Same) (λ _ _=>Same.refl _) λ H s=>s.seq hq) hn body hQ⟩
theorem ze5 {K:c0} {a:Addr} {xs:List V} {ta:TA} {te:TE} {tc:TT} {g:TG} {m:Nat} {fr:List (Nat×Str)} {σ:L2.St} {H H1:Hp} {Q:VK} (p:Nat->Bool) (R:Nat->V->Hp->Prop) (hR :∀i y H H',Same H H'->R i y H->R i y H') (hta :∀T:List V->Hp->Prop,T [.ref a] H1->ta σ H T) (hq:SqL K H1 a xs) (hn:xs.length<=sizeLine)
  (body :∀i,i < xs.length->∀v H,Same H1 H->(∃x p,xs[i]? = some x/\v=.ref p/\H p=some (.tup [.int (i:Nat),x]))->∀(KT:VK) (KF:Hp->Prop),(p i=true->∀y H',Same H H'->R i y H'->KT y H')->(p i=false->∀H',Same H H'->KF H')->
   g v (cStG σ fr (Q0 m none)) H λ σ6 H6=>∃us,us.length=m/\σ6=cStG σ fr us/\tc (cStG σ fr us) H6 λ b H2=>if b=true then te (cStG σ fr us) H2 KT else KF H2)
  (hQ :∀l H' ys,Same H1 H'->H' l=none->All2 (λ i y=>R i y H') ((N1 xs.length).filter p) ys->Q (.ref l) (upd H' l (.lst ys))):tCompG (ieL K ta) m fr g tc te σ H Q:=
 hta _ ⟨a,xs,rfl,hq,z2b (Same.refl _) (λ _ _ _ a b=>a.trans b) p R hR (za2 hq) hn body hQ⟩
theorem z8j {K:c0} {a:Addr} {xs:List V} {tl te:TE} {tc:TT} {g:TG} {m:Nat} {fr:List (Nat×Str)} {σ:L2.St} {H H1:Hp} {Q:VK} (p:Nat->Bool) (R:Nat->V->Hp->Prop) (hR :∀i y H H',Same H H'->R i y H->R i y H') (htl :∀R:VK,R (.ref a) H1->tl σ H R) (hq:SqT K H1 a xs) (hn:xs.length<=sizeLine)
  (body :∀i,i < xs.length->∀v H,Same H1 H->xs[i]? = some v->∀(KT:VK) (KF:Hp->Prop),(p i=true->∀y H',Same H H'->R i y H'->KT y H')->(p i=false->∀H',Same H H'->KF H')->
   g v (cStG σ fr (Q0 m none)) H λ σ6 H6=>∃us,us.length=m/\σ6=cStG σ fr us/\tc (cStG σ fr us) H6 λ b H2=>if b=true then te (cStG σ fr us) H2 KT else KF H2)
  (hQ :∀l H' ys,Same H1 H'->H' l=none->All2 (λ i y=>R i y H') ((N1 xs.length).filter p) ys->Q (.ref l) (upd H' l (.lst ys))):tCompG (iTup K tl) m fr g tc te σ H Q:=
 htl _ ⟨a,rfl,⟨xs,hq⟩,z2b (Same.refl _) (λ _ _ _ a b=>a.trans b) p R hR (zd4 (S:=Same) (λ _ _=>Same.refl _) λ H s=>s.seqT hq) hn body hQ⟩
theorem e_cb1 {f:List V->Hp->VK->Prop} {te:TE} {σ:L2.St} {H:Hp} {Q:VK} (h:te σ H λ x H1=>f [x] H1 Q):tCB f (tCons te tNil) σ H Q:=h
theorem t_test {r:R2} {ta tb:TE} {σ:L2.St} {H:Hp} {Q:Bool->Hp->Prop} (h:ta σ H λ x H1=>tb σ H1 λ y H2=>r x y H2 λ x H3=>∃c,x=.bl c/\Q c H3):tTest (tOp r ta tb) σ H Q:=h
theorem t_or {t u:TT} {σ:L2.St} {H:Hp} {Q:Bool->Hp->Prop} (h:t σ H λ c H1=>if c=true then Q true H1 else u σ H1 Q):tOr t u σ H Q:=h
theorem sq_if {c:TT} {a b rest:TS} {D:Ends} {σ:L2.St} {H:Hp} (h:c σ H λ k H1=>if k=true then a { D with nx:=rest D } σ H1 else b { D with nx:=rest D } σ H1):tSeq (tIfS c a b) rest D σ H:=h
theorem sq_ret {te:TE} {D:Ends} {σ:L2.St} {H:Hp} (h:te σ H D.rt):tRet te D σ H:=h
section
variable {X:Cx} {pins:List (Addr×Obj)} {σ:St} {H:Hp} {s:A0} {a:Addr} {u v:HO}
theorem Inv.retold (I:Inv X pins σ H s) (e:H a=some u) (nt :∀xs,u≠.tup xs) (nb :∀ps,u≠.tbl ps) (no :∀c,u≠.own c) (nf :∀o w,X.H₀ a≠some (.frz o w)) (ok:ObjOk X.prog X.w (upd H a v) s.heap a v):Inv X pins σ (upd H a v) s:=by
 have ne :∀{b:Addr},H b=none->b≠a:=λ n z=>by rw [z,e] at n;cases n
 refine ⟨I.ok,I.os,I.bare,⟨I.base.keep,I.base.slot,λ b o q n i=>?_,I.base.there,λ b xs q=>?_,λ b o w q=>?_,λ b ps q=>?_⟩,I.loc,I.cell,?_,λ x c q=>?_,λ p h=>?_,λ b o q=>?_,I.len⟩
 ·have z:=I.base.free b o q n i;rw [upd_ne (ne z)];exact z
 ·have z:=I.base.tups b xs q;rw [upd_ne (λ y=>by rw [y,e] at z;exact nt xs (C1 z))];exact z
 ·have z:=I.base.frzs b o w q;rw [upd_ne (λ y=>by rw [y] at q;exact nf o w q)];exact z
 ·obtain ⟨j,z⟩:=I.base.tbls b ps q;exact ⟨j,by rw [upd_ne (λ y=>by rw [y,e] at z;exact nb _ (C1 z))];exact z⟩
 ·rw [upd_ne (ne I.free)];exact I.free
 ·rw [upd_ne (ne (I.freeC x c q))];exact I.freeC x c q
 ·obtain ⟨g,d,f⟩:=I.pin p h;exact ⟨g,by rw [upd_ne (ne d)];exact d,f⟩
 ·by_cases z:b=a
  ·subst z;rw [z01] at q;cases q;exact ok
  ·rw [upd_ne z] at q;refine (I.hok b o q).stay (λ _ _ _ y=>y) (λ c y=>?_) λ c xs y=>?_
   ·rw [upd_ne (λ x=>by rw [x,e] at y;exact no b (C1 y))];exact y
   ·rw [upd_ne (λ x=>by rw [x,e] at y;exact nt xs (C1 y))];exact y
theorem Inv.noFrz {kvs:List (Key×V)} (I:Inv X pins σ H s) (e:H a=some (.dK kvs)) :∀o w,X.H₀ a≠some (.frz o w):=λ o w q=>by have z:=I.base.frzs a o w q;rw [e] at z;cases z
theorem Inv.freeze {kvs:List (Key×V)} {ob:Obj} (I:Inv X pins σ H s) (e:H a=some (.dK kvs)) (ho:s.heap.get? a=some ob):Inv X pins σ (upd H a (.frz ob (.dK kvs))) s:=
 I.retold e (λ _ z=>by cases z) (λ _ z=>by cases z) (λ _ z=>by cases z) (I.noFrz e) ⟨ho,(show ObjOk X.prog X.w H s.heap a (.dK kvs) from I.hok a _ e)⟩
end
theorem z8a {α β:Type} {F:α->β->Prop} :∀{l:List α} {m:List β} {i:Nat} {x:α},X7 F l m->l[i]? = some x->∃y,m[i]? = some y/\F x y
 | _,_,i,x,.nil,e=>by simp at e
 | _,_,0,x,.cons a _,e=>by rw [Z1] at e;cases e;exact ⟨_,Z1,a⟩
 | _,_,i + 1,x,.cons _ r,e=>by rw [J1] at e;obtain ⟨y,b,c⟩:=z8a r e;exact ⟨y,by rw [J1];exact b,c⟩
theorem frz_at {X:Cx} {pins:List (Addr×Obj)} {σ:St} {H:Hp} {s:A0} {a:Addr} {ob:Obj} {kvs:List (Key×V)} {es:Array DictEntry} {ep:Nat} (I:Inv X pins σ H s) (hob:ob.data=.dict es ep) (e:H a=some (.frz ob (.dK kvs))) :
  ∃vs,KV kvs vs/\vs.length=kvs.length/\s.heap.DictAt (z0g X.prog X.w) a vs ep:=by
 obtain ⟨g,_,_,vs,d,h⟩:=(show ObjOk X.prog X.w H s.heap a (.frz ob (.dK kvs)) from I.hok a _ e)
 obtain ⟨k,f⟩:=h.dictAt;refine ⟨vs,d,d.length.symm,?_⟩;obtain ⟨o,l,c,i,b,j⟩:=id f;rw [g] at c;cases c;rw [hob] at b;cases b;exact f
noncomputable def addT (ns:List Str) (v:Str):List Str:=if v∈ns then ns else ns++[v]
theorem z7f (ns:List Str) (v:Str):(addT ns v).length=if v∈ns then ns.length else ns.length + 1:=by
 unfold addT;by_cases z:v∈ns
 ·rw [if_pos z,if_pos z]
 ·rw [if_neg z,if_neg z,J0];rfl
theorem zfp (ns:List Str) (v k:Str):(decide (k∈ns) || decide (k=v))=decide (k∈addT ns v):=by
 unfold addT;by_cases z:v∈ns
 ·rw [if_pos z];by_cases y:k=v
  ·rw [y,decide_eq_true z];rfl
  ·rw [decide_eq_false y,T8]
 ·rw [if_neg z];by_cases y:k=v
  ·rw [decide_eq_true y,Bool.or_true,decide_eq_true (by rw [y];exact List.mem_append.mpr (.inr (List.mem_singleton.mpr rfl)))]
  ·rw [decide_eq_false y,T8];by_cases x:k∈ns
   ·rw [decide_eq_true x,decide_eq_true (List.mem_append.mpr (.inl x))]
   ·rw [decide_eq_false x,decide_eq_false (λ w=>(List.mem_append.mp w).elim x λ u=>y (List.mem_singleton.mp u))]
section
variable {prog:Program} {w:S0} {A:X1} {E:Value->A0->Prop} {s:A0}
theorem z64 {h h':Heap} {a:Addr} {M:Str->Bool} {n:Nat} (k :∀o,h.get? a=some o->h'.get? a=some o) (x:f7 (E4 prog w) h a M n):f7 (E4 prog w) h' a M n:=by obtain ⟨o,b,c,t,e,r⟩:=x;exact ⟨o,b,c,t,k _ e,r⟩
theorem zg7 {h:Heap} {a:Addr} (e:h.get? a=some (set0 w)):f7 (E4 prog w) h a (λ k=>decide (k∈([]:List Str))) ([]:List Str).length:=
 ⟨_,#[],0,_,e,⟨rfl,rfl,rfl⟩,rfl,λ x b=>by simp at b,λ k=>⟨λ z=>absurd (of_decide_eq_true z) B0,λ ⟨e,he,_⟩=>by simp at he⟩,by decide,by rfl,rfl⟩
theorem zaa {S it l:Addr} {items:Array Value} (nsi:S≠it) (nsl:S≠l) (nil':it≠l) :∀(ms:List Str) (i:Nat) (ns:List Str) (A:X1) (R:Result->A0->Prop) (s:A0),A.handled=none->s.heap.IsListIter it l i->s.heap.IsList l items->
  StrsAre (items.toList.drop i) ms->f7 (E4 prog w) s.heap S (λ k=>decide (k∈ns)) ns.length->ns.length + ms.length < scanBound->
  (∀h' tk ns',f7 (E4 prog w) h' S (λ k=>decide (k∈ns')) ns'.length->ns'=ms.foldl addT ns->(∀c o,c≠S->c≠it->s.heap.get? c=some o->h'.get? c=some o)->R (.ok (.ret .none)) { s with heap:=h',toks:=tk })->
  k6 (Y0 prog w) A (R7 "set.update.loop" { pos:=[.ref S,.ref it],kw:=[] }) R s
 | [],i,ns,A,R,s,hh,si,sl,al,dd,hz,q=>by
  have K:items[i]? = none:=by
   cases hd:items.toList.drop i with
   | nil=>have:=List.drop_eq_nil_iff.mp hd;rw [B1] at this;exact j6 this
   | cons u us=>rw [hd] at al;cases al
  refine J4 o6 ?_;show R0 _ _ (v9 (.ref it) >>= _) _ _ s;refine o0 (O8 (show (A.under _).handled=none from hh) si sl K λ h' t=>?_);exact F0 (q h' s.toks ns (z64 (λ o e=>t S o nsi e) dd) rfl λ c o _ y e=>t c o y e)
 | m :: ms,i,ns,A,R,s,hh,si,sl,al,dd,hz,q=>by
  cases hd:items.toList.drop i with
  | nil=>rw [hd] at al;cases al
  | cons u us=>
   rw [hd] at al;cases al with
   | cons _ tk al=>
    have F:items.toList[i]? = some (.str m tk):=by have:=congrArg (λ l=>l[0]?) hd;simpa using this
    have J:items[i]? = some (.str m tk):=by simpa using F
    have L:items.toList.drop (i + 1)=us:=by have:=congrArg List.tail hd;simpa using this
    refine J4 o6 ?_;show R0 _ _ (v9 (.ref it) >>= _) _ _ s;refine o0 (A8 si sl J λ j M h=>?_);have D:j.IsList l items:=by obtain ⟨o,a,b⟩:=sl;exact ⟨o,(h.2 l (P3 nil')).trans a,b⟩
    have x:=z64 (prog:=prog) (w:=w) (λ o e=>(h.2 S nsi).trans e) dd;rw [Z0] at hz;refine o0 (T2 (show R0 _ _ (setAdd S (.str m tk)) _ _ _ from ?_));unfold setAdd;have v:(E4 prog w).is m (.str m tk)=true:=PySem.strKind_is prog w m tk;refine T2 (o0 ((E4 prog w).pyHash (k:=m) v ?_));refine wpAny_setAddHashed_of (s:={ s with heap:=j,toks:=s.toks + 1 }) v rfl x (P1 (by omega) hz) λ f g d=>?_;refine F0 ⟨z93 _,?_⟩;have B:f7 (E4 prog w) f S (λ k=>decide (k∈addT ns m)) (addT ns m).length:=by
     rw [z7f];have a:(λ r=>decide (r∈ns) || decide (r=m))=λ k=>decide (k∈addT ns m):=funext λ k=>zfp ns m k;rw [a] at d;by_cases z:m∈ns
     ·rw [if_pos z];rw [if_pos (decide_eq_true z)] at d;exact d
     ·rw [if_neg z];rw [if_neg (by rw [decide_eq_false z];decide)] at d;exact d
    have C:f.IsListIter it l (i + 1):=by obtain ⟨o,a,b⟩:=M;exact ⟨o,(g.2 it (P3 nsi)).trans a,b⟩
    have G:f.IsList l items:=by obtain ⟨o,a,b⟩:=D;exact ⟨o,(g.2 l (P3 nsl)).trans a,b⟩
    have O:(addT ns m).length<=ns.length + 1:=by rw [z7f];split<;>omega
    refine zaa nsi nsl nil' ms (i + 1) (addT ns m) A R { s with heap:=f,toks:=s.toks + 1 } hh C G (by rw [L];exact al) B (by omega) λ h' H ns' I N E=>q h' H ns' I N λ c o n p e=>E c o n p ((g.2 c n).trans ((h.2 c p).trans e))
theorem z6j {l:Addr} {items:Array Value} {ns:List Str} {Q:Value->A0->Prop} (hh:A.handled=none) (ht:s.heap.IsList l items) (hi:StrsAre items.toList ns) (hb:ns.length < scanBound)
  (h :∀h' tk ns',f7 (E4 prog w) h' s.heap.objs.size (λ k=>decide (k∈ns')) ns'.length->ns'=ns.foldl addT []->(∀b o,s.heap.get? b=some o->h'.get? b=some o)->Q (.ref s.heap.objs.size) { s with heap:=h',toks:=tk }) :
  R0 (Y0 prog w) A (call (.type "set") [.ref l]) Q E s:=by
 obtain ⟨c,P,R⟩:=F.called_set.mro;have Z:=F.called_set.made;have N:=F.called_set.sub;refine j15 (codeAny_of_tree (show R0 _ _ (callAny (.type "set") _) _ _ _ from F0 ⟨Code.quiet_builtin _ (by decide +kernel),J4 F.entry_type_call ?_⟩));rw [j26 (weight_type_call_type "set" [.ref l] []) rfl];have K:=F.called_set.notType;have T:=F.called_set.canCreate;have L:=F.typeCall_set_1 (.ref l)
 (repeat (any_goals (first|assumption|wp_step)));refine R5 (zf4 (.ref l) (E:=E) (Q₁:=λ p u=>p=.ref s.heap.objs.size/\u={ s with heap:=s.heap.push (set0 w) }) ⟨rfl,rfl⟩) λ r u d=>?_
 cases r with
 | error e=>exact d
 | ok fl=>
  cases fl with
  | next=>exact d.elim
  | brk=>exact d.elim
  | cont=>exact d.elim
  | ret p=>
   obtain ⟨rfl,rfl⟩:=d;have f:(s.heap.push (set0 w)).get? s.heap.objs.size=some (set0 w):=O0 _ rfl;have x:D8 { s with heap:=s.heap.push (set0 w) } (.ref s.heap.objs.size) "set":=⟨_,f,rfl⟩
   have X:=F.called_set.init.lookup;have W:=F.called_set.init.bind (.ref s.heap.objs.size)
   (repeat (any_goals (first|assumption|wp_step)))
   have C:k6 (Y0 prog w) A.in1 (.call (.builtin "set.__init__") ⟨[.ref s.heap.objs.size,.ref l],[]⟩) (wants (λ r q=>r=.none/\Q (.ref s.heap.objs.size) q) E) { s with heap:=s.heap.push (set0 w) }:=by
    refine X8 F.called_set.init.plain F.entry_set_init (check_set_init_1 x ?_);obtain ⟨o,g,m,n,hd⟩:=ht;obtain ⟨V,D,U,y⟩:=o;dsimp only at m hd;subst m hd;have H:(s.heap.push (set0 w)).get? l=some { cls:=.type "list",dict:=D,data:=.seq items n,slots:=y }:=y0 _ g;have a0:=z5t;have M:=z4b;have Y:(n5 "list" == n5 "dict")=false:=by decide
    have O:(s.heap.push (set0 w)).get? s.heap.objs.size=some { cls:=.type "set",dict:=none,data:=.set #[] 0 (.fresh 0 0 (!w.params.followText "set-order")),slots:=#[] }:=f;have v:(s.heap.push (set0 w)).IsList l items:=⟨_,H,rfl,n,rfl⟩
    have j:l < s.heap.objs.size:=M0 g;unfold T6.«set.__init__» noKeywords c8;generalize hPI:pyIter=PI
    wp_walk
    subst hPI;refine F6 v (o0 (wpAny_runValue ?_));have t :∀b o,s.heap.get? b=some o->((s.heap.push (set0 w)).push { cls:=.type "list_iterator",data:=.fields #[.ref l,.int 0 0] }).get? b=some o:=λ b o e=>y0 _ (y0 _ e);have i:(s.heap.push (set0 w)).objs.size=s.heap.objs.size + 1:=A4 _ _;refine zaa (S:=s.heap.objs.size) (it:=(s.heap.push (set0 w)).objs.size) (l:=l) (items:=items) (by rw [i];exact T0 (A2 _)) (F2 j) (by rw [i];exact F2 (E1 j)) ns 0 [] _ _ _ (by simp [hh]) ⟨_,O0 _ rfl,rfl,rfl⟩ ⟨_,t _ _ g,rfl,n,rfl⟩ (by rw [C5];exact hi) (zg7 (y0 _ f)) (by simpa using hb) λ h' tk ns' z J B=>?_;refine F0 (F0 ⟨rfl,h h' tk ns' z J λ b o e=>B b o (T0 (M0 e)) (by rw [i];exact T0 (E1 (M0 e))) (t b o e)⟩)
   refine R5 C λ I q a=>?_;cases I with
   | error e=>exact a
   | ok f2=>
    cases f2 with
    | next=>exact a.elim
    | brk=>exact a.elim
    | cont=>exact a.elim
    | ret r=>obtain ⟨rfl,G⟩:=a;exact F0 (F0 G)
end
section
variable {X:Cx}
noncomputable def tLSetS (K:c0) (te:TE):TE:=λ σ H Q=>te σ H λ x H1=>∃(a:Addr) (ns:List Str),x=.ref a/\SqL K H1 a (ns.map V.str)/\ns.length < 100/\Q (.int ((ns.foldl addT []).length:Nat)) H1
theorem z2s :∀(vs ns:List Str),(vs.foldl addT ns).length<=ns.length + vs.length
 | [],ns=>C0 _
 | v :: vs,ns=>by
  have a:=z2s vs (addT ns v);have b:(addT ns v).length<=ns.length + 1:=by rw [z7f];split<;>omega
  show (vs.foldl addT (addT ns v)).length<=_;rw [Z0];omega
theorem z6r :∀{ns:List Str} {us:List Value},Vals (ns.map V.str) us->StrsAre us ns
 | [],_,.nil=>.nil
 | n :: ns,_,.cons a r=>by obtain ⟨t,rfl⟩:=a;exact .cons n t (z6r r)
theorem zbi {e:Expr} {te:TE} {p1 p2 c1 c2:Pos} (hcalm:X.calm=true) (g1:Gl X "len") (m1:X.mg "len" = none) (g2:Gl X "set") (m2:X.mg "set" = none) (b1:L4 "len" = some (.builtin "len")) (b2:L4 "set" = some (.type "set")) (ha:PE X e te)
  (he:V1 [e] X.env=[(false,p4 e X.env)]:=by rfl):PE X (.Call (.Name "len" p1) [.Call (.Name "set" p2) [e] [] c2] [] c1) (tLSetS X.K te):=by
 intro v s σ H Q I h;have c:X.A.handled=none:=I.ok.hd hcalm;refine i4 (ld_blt I g1 m1 b1 ?_ (by decide) (by decide));refine V5 ?_ rfl rfl;refine (show R0 _ _ (j0h ((false,p4 (.Call (.Name "set" p2) [e] [] c2) X.env) :: [])) _ _ s from W3 ?_);refine i4 (ld_blt I g2 m2 b2 ?_ (by decide) (by decide));refine K3 ?_ he rfl;rw [he];refine (show R0 _ _ (j0h ((false,p4 e X.env) :: [])) _ _ s from W3 (thn (ha v s σ H _ I h) λ u g ⟨x,H1,I1,r1,a,ns,ex,sq,hl,q⟩=>?_));subst ex;cases r1;refine D4 ?_;obtain ⟨w,f,d,E⟩:=I1.list sq;refine z6j c d.isList (by simpa using z6r f) (A6 hl (by decide)) λ k b D r i m=>D4 ?_;subst i;obtain ⟨o,z,C,t,l,j,hd,_,_,B,p,n⟩:=r;have y:(ns.foldl addT []).length < 100:=by have:=z2s ns [];rw [U4,y6] at this;omega
 refine call_len_set (s:={ g with heap:=k,toks:=b }) l j hd p (by omega) ?_;rw [n];exact ⟨.int ((ns.foldl addT []).length:Nat),H1,(I1.kept (t':=b + 1 + 1) m),⟨_,rfl⟩,q⟩
end
noncomputable def Itc (x:Str):It:=⟨λ i _=>i < x.cps.size,λ i H v H'=>H'=H/\∃c,x.cps[i]? = some c/\v=.str ⟨#[c]⟩,λ i _=>x.cps.size<=i⟩
theorem zfb {P:Program} {w:S0} {K:c0} {tg:Expr} {x:Str} {it:Addr} {t:Tok}:Turn P w K tg (Itc x) [it] it (λ i h=>h.IsStrIter it "str_ascii_iterator" x t i) where
 mem:=by simp
 obj:=λ i h a b f=>by
  obtain rfl:b=it:=by simpa using f
  obtain ⟨o,e,c,d⟩:=a;exact ⟨o,e,λ v z=>by rw [d] at z;cases z⟩
 keep:=λ i h j a k=>by obtain ⟨o,e,r⟩:=a;exact ⟨o,k it (by simp) o e,r⟩
 item:=by intro X n p u C i G s σ H E I g a m;subst n p u;obtain ⟨q,y,J,l,A,B⟩:=g it (by simp);have D:x.cps[i]? = some x.cps[i]:=L5 m;refine wpAny_pyNext_ascii_item a D λ j F sb=>?_;have M:Inv X G σ H { s with heap:=j,toks:=s.toks + 1 }:=I.turned (t':=s.toks + 1) (λ b o f e=>(sb.2 b f).trans e) q y l A B;obtain ⟨o,e,c,d⟩:=id F;exact ⟨_,rfl,go_of (s:={ s with heap:=j,toks:=s.toks + 1 }) e c d (by decide) ⟨.str ⟨#[x.cps[i]]⟩,H,M,⟨_,rfl⟩,⟨rfl,_,D,rfl⟩,F,λ b f=>(g b f).1⟩⟩
 done:=by intro X n p u C i G s σ H E I g a m;subst n p u;obtain ⟨q,y,J,l,A,B⟩:=g it (by simp);exact wpAny_pyNext_ascii_end (I.ok.hd C) a (j6 m) λ j L=>⟨rfl,I.turned (t':=s.toks) (λ b o f e=>L b o f e) q y l A B⟩
 self:=λ _ _ _ _ _ a h=>wpAny_pyIter_striter_ascii a h
noncomputable def iStr (tl:TE):TI:=λ σ H R=>tl σ H λ v H1=>∃x:Str,v=.str x/\x.cps.all (· < 128)=true/\R (Itc x) H1
theorem pi_str {X:Cx} {tg l:Expr} {tl:TE} (hl:PE X l tl):PI X tg l (iStr tl):=by
 intro c s σ H R I h;refine thn (hl c s σ H _ I h) λ v a ⟨y,H1,I1,r1,x,e,ha,q⟩=>?_;subst e;obtain ⟨t,rfl⟩:=r1;refine wpAny_pyIter_ascii ha ?_;refine ⟨a.heap.objs.size,[a.heap.objs.size],_,_,H1,rfl,I1.kept (t':=a.toks) λ b o e=>y0 _ e,zfb,⟨_,O0 _ rfl,rfl,rfl⟩,λ b d=>?_,q⟩;obtain rfl:b=a.heap.objs.size:=by simpa using d
 exact I1.fpOk (C0 _) (I1.hok.fresh (C0 _))
theorem zdv {x:Str} {H1:Hp}:RunsR Same (Itc x) H1 x.cps.size (λ i v _=>∃c,x.cps[i]? = some c/\v=.str ⟨#[c]⟩):=
 ⟨λ i a H s=>a,λ H s=>C0 _,λ i a H v b s y=>by obtain ⟨e,y⟩:=y;subst e;exact ⟨Same.refl _,y⟩⟩
theorem tcompS {x:Str} {tl te:TE} {tc:TT} {g:TG} {m:Nat} {fr:List (Nat×Str)} {σ:L2.St} {H H1:Hp} {Q:VK} (p:Nat->Bool) (R:Nat->V->Hp->Prop) (hR :∀i y H H',Same H H'->R i y H->R i y H') (htl :∀R:VK,R (.str x) H1->tl σ H R) (ha:x.cps.all (· < 128)=true) (hn:x.cps.size<=sizeLine)
  (body :∀i,i < x.cps.size->∀v H,Same H1 H->(∃c,x.cps[i]? = some c/\v=.str ⟨#[c]⟩)->∀(KT:VK) (KF:Hp->Prop),(p i=true->∀y H',Same H H'->R i y H'->KT y H')->(p i=false->∀H',Same H H'->KF H')->
   g v (cStG σ fr (Q0 m none)) H λ σ6 H6=>∃us,us.length=m/\σ6=cStG σ fr us/\tc (cStG σ fr us) H6 λ b H2=>if b=true then te (cStG σ fr us) H2 KT else KF H2)
  (hQ :∀l H' ys,Same H1 H'->H' l=none->All2 (λ i y=>R i y H') ((N1 x.cps.size).filter p) ys->Q (.ref l) (upd H' l (.lst ys))):tCompG (iStr tl) m fr g tc te σ H Q:=
 htl _ ⟨x,rfl,ha,z2b (Same.refl _) (λ _ _ _ a b=>a.trans b) p R hR zdv hn body hQ⟩
theorem zgy {K:c0} {te:TE} {σ:L2.St} {H:Hp} {Q:VK} (h:te σ H λ x H1=>∃(a:Addr) (ns:List Str),x=.ref a/\SqL K H1 a (ns.map V.str)/\ns.length < 100/\Q (.int ((ns.foldl addT []).length:Nat)) H1):tLSetS K te σ H Q:=h
theorem tB_not {te:TE} {σ:L2.St} {H:Hp} {Q:Bool->Hp->Prop} (h:te σ H λ x H1=>∃c,x=.bl c/\Q (!c) H1):tNot (tB te) σ H Q:=h
end L2
set_option maxHeartbeats 400000
namespace L2
open PySem PySem.Spec PyProof.Rows
end L2
set_option maxHeartbeats 1000000
namespace L2
open PySem PySem.Spec PyProof.Rows
section
variable {X:Cx}
noncomputable def rNeL0 (K:c0):R2:=λ x y H Q=>∃a b xs,x=.ref a/\y=.ref b/\SqL K H a xs/\SqL K H b []/\Q (.bl (decide (xs≠[]))) H
theorem z8i {k:Nat} (hr:Room k X.A):OpR X (U2 .NotEq) (rNeL0 X.K):=by
 intro D s σ H x y v u Q I r m h;obtain ⟨a,b,n,rfl,rfl,l,p,q⟩:=h;cases r;cases m;obtain ⟨C,d,c,_⟩:=I.list l;obtain ⟨B,o,g,_⟩:=I.list p;cases o;have f:X.A.units < cLine:=Nat.lt_of_succ_lt (hu_of hr);have t:=d.length;cases n with
 | nil=>cases d;exact SeqAt.RcNeAt.lists (e:=λ _=>true) c.isList g.isList rfl f (λ j i _=>absurd i (W5 _)) X.prog X.w _ _ ⟨.bl _,H,I,rfl,q⟩
 | cons z zs=>refine SeqAt.RcNeAt.lists_lengths c.isList g.isList ?_ f X.prog X.w _ _ ⟨.bl _,H,I,rfl,q⟩;rw [P0,<-t];rfl
end
structure ZLAt (h:Heap) (z T U i j a b:Addr) (n:Nat) (f:Value):Prop where
 z:IsZip h z T U f
 t:IsPair h T (.ref i) (.ref j)
 u :∃p q,IsPair h U p q
 i:h.IsListIter i a n
 j:h.IsListIter j b n
noncomputable def jl (c:Nat):List (List Nat)->List Nat
 | []=>[]
 | [a]=>a
 | a :: b :: r=>a++c :: jl c (b :: r)
end L2
namespace L2
open PySem PySem.Spec PyProof.Rows PySem.NumText
end L2
namespace L2
open PySem PySem.Spec PyProof.Rows
end L2
open PySem PySem.W PyProof.Rows
set_option maxHeartbeats 4000000
namespace TJ
section
variable (p:Program) (w:S0) (n₀:Nat) (ann:Option Value) (code:Code) (q:Pos)
theorem zda {n m:Nat} :∀{s s' s'':A0} {t t' t'':j1c},segGo O3 p w n₀ ann 1 n s t=some (s',t')->segGo O3 p w n₀ ann 1 m s' t'=some (s'',t'')->
  segGo O3 p w n₀ ann 1 (n + m) s t=some (s'',t''):=by
 induction n with
 | zero=>
  intro s s' s'' t t' t'' h k;obtain ⟨rfl,rfl⟩:s=s'/\t=t':=by simpa [segGo] using h
  rw [y6];exact k
 | succ n ih=>
  intro s s' s'' t t' t'' h k;rw [show n + 1 + m=n + m + 1 by omega];unfold segGo at h⊢;cases he:endAt 1 t with
  | some f=>rw [he] at h;cases h
  | none=>
   rw [he] at h;cases hk:stepOk n₀ ann t with
   | false=>rw [hk] at h;cases h
   | true=>
    rw [hk] at h;cases hs:step (denote O3) p w s t with
    | halt o s₂=>rw [hs] at h;cases h
    | go s₂ t₂=>rw [hs] at h;exact ih h k
def Steps (c:Nat) (s:A0) (t:j1c) (s':A0) (t':j1c):Prop:=∃n,n<=c/\segGo O3 p w n₀ ann 1 n s t=some (s',t')
def Goes {α:Type} (c:Nat) (x:Sem α) (s:A0) (pos:Pos) (a:α) (s':A0) (pos':Pos):Prop:=
 ∀(K:α->Sem Fin) (H:Value->Sem Fin) (gd:Bool->Bool) (lv:List Value->List Value),
  Steps p w n₀ ann c s ⟨x.wrap K H gd lv,code,pos,[topFrame q]⟩ s' ⟨K a,code,pos',[topFrame q]⟩
end
section
variable {p:Program} {w:S0} {n₀:Nat} {ann:Option Value} {code:Code} {q:Pos}
theorem Steps.trans {c d:Nat} {s s' s'':A0} {t t' t'':j1c} (h:Steps p w n₀ ann c s t s' t') (k:Steps p w n₀ ann d s' t' s'' t''):Steps p w n₀ ann (c + d) s t s'' t'':=by obtain ⟨n,b,h⟩:=h;obtain ⟨m,a,k⟩:=k;exact ⟨n + m,by omega,zda p w n₀ ann h k⟩
theorem Steps.refl {s:A0} {t:j1c}:Steps p w n₀ ann 0 s t s t:=⟨0,C0 _,rfl⟩
theorem Steps.le {c d:Nat} {s s':A0} {t t':j1c} (h:Steps p w n₀ ann c s t s' t') (l:c<=d):Steps p w n₀ ann d s t s' t':=let ⟨n,a,b⟩:=h;⟨n,L0 a l,b⟩
theorem Steps.one {s s':A0} {t t':j1c} (he:endAt 1 t=none) (hk:stepOk n₀ ann t=true) (hs:step (denote O3) p w s t=.go s' t'):Steps p w n₀ ann 1 s t s' t':=by refine ⟨1,C0 _,?_⟩;unfold segGo;rw [he,hk,hs];rfl
variable {α β:Type} {s s' s'':A0} {pos pos' pos'':Pos} {a:α} {b:β} {c d:Nat}
theorem Goes.pure:Goes p w n₀ ann code q 0 (j0d a:Sem α) s pos a s pos:=λ _ _ _ _=>.refl
theorem Goes.le {x:Sem α} (h:Goes p w n₀ ann code q c x s pos a s' pos') (l:c<=d):Goes p w n₀ ann code q d x s pos a s' pos':=λ K H e b=>(h K H e b).le l
theorem Goes.bind {x:Sem α} {f:α->Sem β} (h:Goes p w n₀ ann code q c x s pos a s' pos') (k:Goes p w n₀ ann code q d (f a) s' pos' b s'' pos''):Goes p w n₀ ann code q (c + d) (x >>= f) s pos b s'' pos'':=by
 intro K H g i;have e:(x >>= f).wrap K H g i=x.wrap (λ a=>(f a).wrap K H g i) H g i:=by rw [Sem.bind_eq_wrap',Sem.wrap_wrap];rfl
 rw [e];exact (h _ H g i).trans (k K H g i)
theorem Goes.keep {x:Sem α} {vs:List Value} (h:Goes p w n₀ ann code q c x s pos a s' pos'):Goes p w n₀ ann code q c (x.keep vs) s pos a s' pos':=by intro K H d b;rw [Sem.keep_eq_wrap,Sem.wrap_wrap];exact h K H _ _
theorem Goes.holding {x:Sem α} {vs:List Value} (h:Goes p w n₀ ann code q c x s pos a s' pos'):Goes p w n₀ ann code q c (j0i vs x) s pos a s' pos':=by rw [holding_eq_keep];exact h.keep
theorem Goes.rule {tag:String}:Goes p w n₀ ann code q 1 (PySem.rule tag) s pos () s pos:=λ _ _ _ _=>.one rfl rfl rfl
theorem Goes.at' {pos₁:Pos}:Goes p w n₀ ann code q 1 (standAt pos₁) s pos () s pos₁:=λ _ _ _ _=>.one rfl rfl rfl
theorem Goes.loadPart {A:Addr} {o:Obj} {part:Option Value} (ho:s.heap.get? A=some o):Goes p w n₀ ann code q 1 (loadPart A part) s pos o s pos:=λ K H d e=>.one rfl rfl (by obtain ⟨heap,a,b,c,f⟩:=s;show (match heap.get? A with|some o=>Step.go _ _|none=>_)=_;have ho:heap.get? A=some o:=ho;rw [ho];rfl)
theorem Goes.updatePart {A:Addr} {o:Obj} {f:Obj->Obj} {part:Option Value} (ho:s.heap.get? A=some o) (hn:Nat.ble n₀ A=true):Goes p w n₀ ann code q 1 (updatePart A part f) s pos () { s with heap:=s.heap.update A f } pos:=λ K H d e=>
 .one rfl (by
  show (_ && (Nat.ble n₀ A || _ || _ || _))=true;rw [hn];rfl) (by
  obtain ⟨heap,a,b,c,g⟩:=s;have ho:heap.get? A=some o:=ho;show (if (heap.get? A).isSome=true then Step.go _ _ else _)=_;rw [ho];rfl)
theorem Goes.leaf {x:Sem α} {sT sT':SharedT} (n:Nat) (h :∀K H gd lv,segGoT O3 p w n₀ ann 1 n sT ⟨x.wrap K H gd lv,code,pos,[topFrame q]⟩=some (sT',⟨K a,code,pos',[topFrame q]⟩)) :
  Goes p w n₀ ann code q n x sT.abs pos a sT'.abs pos':=λ K H gd lv=>⟨n,C0 _,segGo_of (h K H gd lv)⟩
end
end TJ
open PySem PySem.W PyProof.Rows
namespace TJ
section
variable {p:Program} {w:S0} {n₀:Nat} {ann:Option Value} {code:Code} {q:Pos} {s:A0} {pos:Pos}
theorem Goes.forIn {γ β:Type} {c:Nat} {f:γ->β->Sem (ForInStep β)} {b:β} :∀{l:List γ},(∀x∈l,Goes p w n₀ ann code q c (f x b) s pos (.yield b) s pos)->Goes p w n₀ ann code q (l.length * c) (ForIn.forIn l b f) s pos b s pos
 | [],_=>by rw [d7];exact Goes.pure.le (R1 _)
 | x :: l,h=>by rw [T5];have k:=Goes.forIn (l:=l) λ y a=>h y (W2 _ a);have e:=Goes.bind (f:=λ r=>match r with | .done b=>(j0d b:Sem β) | .yield b=>ForIn.forIn l b f) (h x E2) k;exact e.le (by rw [Z0,Nat.add_mul];omega)
theorem Goes.entries {d:Addr} {o:Obj} {es:Array DictEntry} {ep:Nat} {part:Option Value} (ho:s.heap.get? d=some o) (hd:o.data=.dict es ep):Goes p w n₀ ann code q 1 (dictEntries d part) s pos es s pos:=by unfold dictEntries;refine (Goes.bind (d:=0) (Goes.loadPart ho) ?_);rw [hd];exact Goes.pure
theorem Goes.epoch {d:Addr} {o:Obj} {es:Array DictEntry} {ep:Nat} {part:Option Value} (ho:s.heap.get? d=some o) (hd:o.data=.dict es ep):Goes p w n₀ ann code q 1 (dictEpoch d part) s pos ep s pos:=by unfold dictEpoch;refine (Goes.bind (d:=0) (Goes.loadPart ho) ?_);rw [hd];exact Goes.pure
theorem Goes.mayTell {a:Addr} {stored:List Value} {cq:Nat} (hq:Goes p w n₀ ann code q cq (G4 8 (.ref a)) s pos true s pos) (hs :∀v∈stored,Goes p w n₀ ann code q cq (G4 8 v) s pos true s pos) :
  Goes p w n₀ ann code q (cq + stored.length * cq) (tableMayTell (.ref a) stored) s pos false s pos:=by
 unfold tableMayTell;split
 ·exact Goes.pure.le (R1 _)
 ·refine Goes.bind hq ?_;simp only [j0c,Y5,if_false];refine (Goes.bind (a:=(none,())) (d:=0) (Goes.forIn λ v b=>?_) ?_).le (C0 _)
  ·refine (Goes.bind (d:=0) (hs v b) ?_).le (C0 _);simp only [j0c,Y5,if_false];exact Goes.pure
  ·exact Goes.pure
theorem Goes.find_none {d a:Addr} {o:Obj} {es:Array DictEntry} {ep:Nat} {h:Int} {cq ce:Nat} (ho:s.heap.get? d=some o) (hd:o.data=.dict es ep)
  (hq:Goes p w n₀ ann code q cq (G4 8 (.ref a)) s pos true s pos)
  (hk :∀e∈es.toList,∃b,e.key=.ref b/\b≠a/\Goes p w n₀ ann code q cq (G4 8 (.ref b)) s pos true s pos/\Goes p w n₀ ann code q ce (eqBool (.ref b) (.ref a)) s pos false s pos) :
  Goes p w n₀ ann code q (2 + cq + es.size * (cq + ce + 10)) (dictFind d (.ref a) h) s pos none s pos:=by
 have m :∀(i:Nat) (e:DictEntry),es[i]? = some e->e∈es.toList:=λ i e A=>Array.mem_toList_iff.mpr (j12 A);have r:¬ (es.any λ e=>e.key == F1 a && e.hash != h)=true:=by rw [<-Array.any_toList,List.any_eq_true];rintro ⟨e,hin,hc⟩;obtain ⟨b,f,g,_⟩:=hk e hin;simp only [f,Z3,beq_iff_eq,Value.ref.injEq] at hc;exact g hc.1
 have l :∀v∈(G6 es.size (λ i=>es[i]?.map (·.hash)) h).filterMap (λ i=>es[i]?.map (·.key)),∃b,v=.ref b/\b≠a/\Goes p w n₀ ann code q cq (G4 8 v) s pos true s pos:=by
  intro v k;obtain ⟨i,_,j⟩:=List.mem_filterMap.mp k;cases hei:es[i]? with
  | none=>rw [hei] at j;cases j
  | some e=>
   rw [hei] at j;obtain rfl:e.key=v:=by simpa using j
   obtain ⟨b,f,g,u,_⟩:=hk e (m i e hei);exact ⟨b,f,g,f ▸ u⟩
 have n:(G6 es.size (λ i=>es[i]?.map (·.hash)) h).length<=es.size:=by unfold G6;exact L0 (O1 _ _) (by rw [Y4];exact C0 _)
 have y:((G6 es.size (λ i=>es[i]?.map (·.hash)) h).filterMap (λ i=>es[i]?.map (·.key))).length<=es.size:=L0 (List.length_filterMap_le _ _) n;unfold dictFind;refine Goes.holding ?_;refine (Goes.bind (d:=1 + cq + es.size * (cq + ce + 10)) (Goes.entries ho hd) ?_).le (by omega);dsimp only;rw [if_neg (show ¬ ((F1 a :: (G6 es.size (λ i=>es[i]?.map (·.hash)) h).filterMap (λ i=>es[i]?.map (·.key))).all carriedByValue)=true by simp [carriedByValue])];rw [if_neg r];have t:¬ (((G6 es.size (λ i=>es[i]?.map (·.hash)) h).filterMap (λ i=>es[i]?.map (·.key))) == [F1 a])=true:=by intro e;have e:=eq_of_beq e;obtain ⟨b,f,g,_⟩:=l (.ref a) (by rw [e];exact List.mem_singleton.mpr rfl);exact g (by injection f with f;exact f.symm)
 rw [if_neg t];refine (Goes.bind (d:=1 + es.size * (ce + 10)) (Goes.mayTell hq λ v k=>(let ⟨_,_,_,z⟩:=l v k;z)) ?_).le ?_
 ·rw [if_neg (by simp)];refine (Goes.bind (a:=(none,none)) (d:=0) (Goes.forIn (c:=ce + 10) λ i j=>?_) ?_).le ?_
  ·cases hei:es[i]? with
   | none=>exact Goes.pure.le (R1 _)
   | some e=>
    dsimp only;split
    ·obtain ⟨b,f,g,_,B⟩:=hk e (m i e hei);rw [f];refine (Goes.bind (d:=ce + 2) (Goes.epoch ho hd) (Goes.bind (d:=2) B (Goes.bind (d:=1) (Goes.epoch ho hd) ?_))).le (by omega);rw [if_neg (by simp)];rw [if_neg (by simp)];refine Goes.bind (d:=0) Goes.rule ?_;rw [if_neg (by simp)];exact Goes.pure
    ·exact Goes.pure.le (R1 _)
  ·exact Goes.pure
  ·have:=F8 (ce + 10) n;omega
 ·have:=F8 cq y;have x:es.size * (cq + ce + 10)=es.size * cq + es.size * (ce + 10):=by rw [<-Nat.mul_add,j0e]
  rw [x];omega
end
end TJ
open PySem PySem.W PyProof.Rows
namespace TJ
noncomputable abbrev dObj (es:Array DictEntry) (ep:Nat):Obj:={ cls:=.type "dict",data:=.dict es ep }
noncomputable abbrev KV3:=Addr×Value×Int
noncomputable def ent (x:KV3):DictEntry:=⟨x.2.2,.ref x.1,x.2.1⟩
noncomputable def unh (a:Addr):Sem Value:=do rule "hash.unhashable";raiseError "TypeError" s!"unhashable type: '{← typeNameOf (.ref a)}'"
noncomputable def z8v (d:Addr) (vs:List (Value×Value)):Sem PUnit:=O9 vs Q8 λ (x:Value×Value) (_:PUnit)=>(do j0j d x.1 x.2;N3 (A3 Q8):Sem (ForInStep PUnit))
section
variable {p:Program} {w:S0} {n₀:Nat} {ann:Option Value} {code:Code} {q:Pos} {pos:Pos} {F:Obj->Nat->SharedT} {d:Addr}
structure Fam (n₀:Nat) (d:Addr) (F:Obj->Nat->SharedT):Prop where
 le:Nat.ble n₀ d=true
 get :∀es ep tk,(F (dObj es ep) tk).abs.heap.get? d=some (dObj es ep)
 upd :∀es ep tk (e:DictEntry),({ (F (dObj es ep) tk).abs with heap:=(F (dObj es ep) tk).abs.heap.update d (d8 (·.push e)) }:A0)=(F (dObj (es.push e) (ep + 1)) tk).abs
theorem Goes.updKeys (Z:Fam n₀ d F) {es:Array DictEntry} {ep tk:Nat} {e:DictEntry} {part:Option Value} (hsz:es.size < sizeLine) :
  Goes p w n₀ ann code q 3 (updateDictKeys d (·.push e) part) (F (dObj es ep) tk).abs pos () (F (dObj (es.push e) (ep + 1)) tk).abs pos:=by
 unfold updateDictKeys;refine (Goes.bind (d:=2) (Goes.loadPart (Z.get es ep tk)) ?_);dsimp only;have u:=Goes.updatePart (p:=p) (w:=w) (ann:=ann) (code:=code) (q:=q) (pos:=pos) (part:=part) (f:=d8 (·.push e)) (Z.get es ep tk) Z.le;rw [Z.upd es ep tk e] at u;refine Goes.bind (d:=1) u ?_;unfold lookBehind;refine Goes.bind (d:=0) (Goes.loadPart (Z.get _ _ tk)) ?_;have a:(dObj (es.push e) (ep + 1)).data.pastItsLine=none:=by unfold Data.pastItsLine;dsimp only;rw [if_neg (by rw [Array.size_push];omega)]
 rw [a];exact Goes.pure
theorem Goes.set (Z:Fam n₀ d F) {a:Addr} {v:Value} {es:Array DictEntry} {ep tk k cp cq ce:Nat} {hsh:Int} (hsz:es.size < sizeLine)
  (hpy:Goes p w n₀ ann code q cp (pyHash (.ref a)) (F (dObj es ep) tk).abs pos hsh (F (dObj es ep) (tk + k)).abs pos)
  (hq:Goes p w n₀ ann code q cq (G4 8 (.ref a)) (F (dObj es ep) (tk + k)).abs pos true (F (dObj es ep) (tk + k)).abs pos)
  (hk :∀e∈es.toList,∃b,e.key=.ref b/\b≠a/\Goes p w n₀ ann code q cq (G4 8 (.ref b)) (F (dObj es ep) (tk + k)).abs pos true (F (dObj es ep) (tk + k)).abs pos/\
   Goes p w n₀ ann code q ce (eqBool (.ref b) (.ref a)) (F (dObj es ep) (tk + k)).abs pos false (F (dObj es ep) (tk + k)).abs pos) :
  Goes p w n₀ ann code q (cp + (2 + cq + es.size * (cq + ce + 10)) + 4) (j0j d (.ref a) v) (F (dObj es ep) tk).abs pos () (F (dObj (es.push ⟨hsh,.ref a,v⟩) (ep + 1)) (tk + k)).abs pos:=by
 unfold j0j;refine Goes.holding ?_;refine (Goes.bind (d:=(2 + cq + es.size * (cq + ce + 10)) + 4) hpy ?_).le (by omega);unfold dictSetHashed;refine Goes.holding ?_;refine Goes.bind (d:=4) (Goes.find_none (h:=hsh) (Z.get es ep (tk + k)) rfl hq hk) ?_;exact Goes.bind (d:=3) Goes.rule (Goes.updKeys Z hsz)
theorem zgn {γ β:Type} {f:γ->β->Sem (ForInStep β)} {x:γ} {xs:List γ} {b b' b'':β} {c c':Nat} {s s' s'':A0} (h:Goes p w n₀ ann code q c (f x b) s pos (.yield b') s' pos) (k:Goes p w n₀ ann code q c' (O9 xs b' f) s' pos b'' s'' pos) :
  Goes p w n₀ ann code q (c + c') (O9 (x :: xs) b f) s pos b'' s'' pos:=by
 rw [T5];exact Goes.bind (f:=λ r=>match r with | .done b=>(j0d b:Sem β) | .yield b=>O9 xs b f) h k
theorem Goes.loop (Z:Fam n₀ d F) {cp cq ce N:Nat} (all:List KV3) (hN:all.length<=N) (hN':N < sizeLine) (hnd:(all.map (·.1)).Nodup)
  (hQ :∀x∈all,∀oD tk,Goes p w n₀ ann code q cq (G4 8 (.ref x.1)) (F oD tk).abs pos true (F oD tk).abs pos)
  (hE:all.Pairwise λ x y=>∀oD tk,Goes p w n₀ ann code q ce (eqBool (.ref x.1) (.ref y.1)) (F oD tk).abs pos false (F oD tk).abs pos)
  (hH :∀x∈all,∀oD tk,Goes p w n₀ ann code q cp (pyHash (.ref x.1)) (F oD tk).abs pos x.2.2 (F oD (tk + 3)).abs pos) :
  ∀(todo done:List KV3) (tk:Nat),all=done++todo->
   Goes p w n₀ ann code q (todo.length * (cp + (2 + cq + N * (cq + ce + 10)) + 4)) (z8v d (todo.map λ x=>(F1 x.1,x.2.1)))
    (F (dObj (done.map ent).toArray done.length) tk).abs pos () (F (dObj (all.map ent).toArray all.length) (tk + 3 * todo.length)).abs pos:=by
 intro todo;induction todo with
 | nil=>intro done tk e;rw [D3] at e;subst e;unfold z8v;rw [P7,d7];exact Goes.pure.le (R1 _)
 | cons x todo ih=>
  intro done tk e;have f:x∈all:=by rw [e];exact U0 _ E2
  have c:=ih (done++[x]) (tk + 3) (by rw [e,List.append_assoc];rfl);unfold z8v at c⊢;rw [X0];have h:(done.map ent).toArray.size<=N:=by rw [P0,G0];rw [e,J0] at hN;omega
  have g:=Goes.set (p:=p) (w:=w) (ann:=ann) (code:=code) (q:=q) (pos:=pos) (v:=x.2.1) (ep:=done.length) Z (P1 h hN') (hH x f _ tk) (hQ x f _ _) (es:=(done.map ent).toArray) (ce:=ce) (by
   intro s k;obtain ⟨y,a,rfl⟩:=List.mem_map.mp k;have o:y∈all:=by rw [e];exact A5 _ a
   have m:y.1≠x.1:=by rw [e,C2,X0] at hnd;intro q;exact (List.nodup_append.mp hnd).2.2 y.1 (List.mem_map.mpr ⟨y,a,rfl⟩) x.1 E2 q
   rw [e] at hE;exact ⟨y.1,rfl,m,hQ y o _ _,(List.pairwise_append.mp hE).2.2 y a x E2 _ _⟩)
  have j:((done.map ent).toArray.push ⟨x.2.2,.ref x.1,x.2.1⟩)=((done++[x]).map ent).toArray:=by rw [List.push_toArray,C2];rfl
  have r:done.length + 1=(done++[x]).length:=by rw [J0];rfl
  rw [j,r] at g;have i:tk + 3 * (x :: todo).length=(tk + 3) + 3 * todo.length:=by rw [Z0];omega
  rw [i];have n:Goes p w n₀ ann code q (_ + 0) (do j0j d (F1 x.1,x.2.1).1 (F1 x.1,x.2.1).2;j0d (A3 Q8):Sem (ForInStep PUnit)) _ pos (A3 Q8) _ pos:=Goes.bind g Goes.pure;have l:=zgn (b:=Q8) (xs:=todo.map λ x=>(F1 x.1,x.2.1)) n c;refine l.le ?_;rw [Z0,Nat.add_mul];have:=F8 (cq + ce + 10) h;omega
noncomputable def z7v (acc:Nat):Int:=if acc == 2 ^ 64 - 1 then 1546275796 else if acc < 2 ^ 63 then acc else (acc:Int) - (2 ^ 64:Nat)
theorem z5b (acc:Nat) (h:acc < 2 ^ 64):-(2:Int) ^ 63<=z7v acc/\z7v acc < 2 ^ 63:=by
 unfold z7v;split
 ·constructor<;>decide
 ·split
  ·constructor<;>omega
  ·constructor<;>omega
theorem z42 (hs:List Int):-(2:Int) ^ 63<=v0 hs/\v0 hs < 2 ^ 63:=
 z5b _ (Nat.mod_lt _ (by decide))
theorem Goes.pyHashT {a:Addr} {s s':A0} {hs:List Int} {tok:Tok} (h1:Goes p w n₀ ann code q 1 (cRoomFor "hash" [.ref a]) s pos () s pos)
  (h2:Goes p w n₀ ann code q 1 (specialOf (.ref a) "__hash__") s pos (some (.builtin "tuple.__hash__")) s pos)
  (h3:Goes p w n₀ ann code q 22 (W6 (.ref a) "__hash__" (unh a)) s pos (some (.int (v0 hs) tok)) s' pos) :
  Goes p w n₀ ann code q 25 (pyHash (.ref a)) s pos (A1 (v0 hs)) s' pos:=by
 have e:pyHash (.ref a)=pyHashByItsType (.ref a):=rfl;rw [e];unfold pyHashByItsType;refine Goes.bind (d:=24) h1 ?_;refine Goes.bind (d:=23) h2 ?_;rw [if_neg (by rw [beq_builtin_none];exact N0)];refine Goes.bind (d:=22) h2 ?_;show Goes p w n₀ ann code q 22 (W6 (.ref a) "__hash__" (unh a) >>= _) s pos _ s' pos;refine Goes.bind (d:=0) h3 ?_;have r:(decide (-(2:Int) ^ 63<=v0 hs) && decide (v0 hs < 2 ^ 63))=true:=by have r:=z42 hs;rw [decide_eq_true r.1,decide_eq_true r.2];rfl
 show Goes p w n₀ ann code q 0 (if (decide (-(2:Int) ^ 63<=v0 hs) && decide (v0 hs < 2 ^ 63))=true then _ else _) s' pos _ s' pos;have b:A1 (v0 hs)=(if (v0 hs == -1)=true then -2 else v0 hs):=by unfold A1;rw [if_pos r]
 rw [if_pos r,b];exact Goes.pure
theorem Goes.subDict {pairs:List (Sem Value×Sem Value)} {s s₁ s':A0} {vs:List (Value×Value)} {c c':Nat} {d:Addr} (hlen:pairs.length<=15) (hd:s.heap.objs.size=d)
  (h1:Goes p w n₀ ann code q c (evalPairs pairs) { s with heap:=s.heap.push { cls:=.type "dict",data:=.dict #[] } } pos vs s₁ pos)
  (h2:Goes p w n₀ ann code q c' (z8v d vs) s₁ pos () s' pos):Goes p w n₀ ann code q (1 + (c + c')) (subDict pairs) s pos d s' pos:=by
 subst hd;unfold PySem.subDict;refine Goes.bind (a:=s.heap.objs.size) (λ _ _ _ _=>.one rfl rfl rfl) ?_;refine (Goes.bind (d:=0) (a:=()) (Goes.holding ?_) Goes.pure);rw [if_pos hlen];refine Goes.bind h1 ?_;exact Goes.holding (Goes.bind (d:=0) h2 Goes.pure)
theorem Goes.execs1 {st:Stmt} {env:Env} {s s':A0} {pos':Pos} {c:Nat} (h:Goes p w n₀ ann code q c (exec st env) s pos .next s' pos'):Goes p w n₀ ann code q c (execs [st] env) s pos .next s' pos':=by rw [execs_cons];exact Goes.bind (d:=0) h Goes.pure
theorem Goes.seg {l:List Stmt} {env:Env} {s s':A0} {pos':Pos} {c:Nat} (h:Goes p w n₀ ann code q c (execs l env) s pos .next s' pos') :∃n,n<=c + 1/\segRun O3 p w n₀ ann 1 n s (piecesOf l env code pos [topFrame q])=some (.next,s',code,pos'):=by obtain ⟨n,a,h⟩:=h doneF deadEnd id id;exact ⟨n + 1,by omega,seg_go h rfl⟩
end
theorem zg0 {p q:Program} {loose:List Str} {Xt:A0->Bool} {α:Type} {Yf:A0->α} {Ya:S0->α} {N:Nat} {H₀:W0->Heap} {gs₀:Array GenState} {d₀:Drawn} {k₀ m₀:Nat} {ann:Option Value} {S:S0->c3->A0}
  (opens :∀w:S0,(fencedOpening O3 p w N).map (λ s=>(s.heap,s.gens,s.drawn,s.toks))=some (H₀ w.params,gs₀,d₀,k₀))
  (sizes :∀w:S0,(((H₀ w.params).isNs Y1 && gs₀.size == 0),(H₀ w.params).objs.size,(H₀ w.params).nsMap Y1 "__annotations__")=(true,m₀,ann))
  (runs :∀(w:S0) (os:c3),∃M,M<=N/\topRun O3 p w m₀ ann M ⟨H₀ w.params,gs₀,d₀,k₀,os⟩ (topStub p)=some (S w os))
  (looks1 :∀(w:S0) (os:c3),(staticsOk (g7 p.main.body) (H₀ w.params) (S w os).heap && namesBound p (S w os).heap && gensDone (S w os) && laidKept (H₀ w.params) (S w os).heap)=true)
  (looks2 :∀(w:S0) (os:c3),openSeen q loose (g7 p.main.body) Xt true (S w os)=openGood q loose) (looks3 :∀(w:S0) (os:c3),Yf (S w os)=Ya w):LeftO p q loose Xt Yf Ya N:=by
 intro w;obtain ⟨⟨h,g,c,k,os⟩,e,a⟩:=Option.map_eq_some_iff.mp (opens w);simp only [Prod.mk.injEq] at a;obtain ⟨rfl,rfl,rfl,rfl⟩:=a;have z:=sizes w;simp only [Prod.mk.injEq] at z;obtain ⟨i,d,f⟩:=z;obtain ⟨M,b,r⟩:=runs w os;have r:=topRun_mono (N - M) _ _ _ _ r;rw [Nat.add_sub_cancel' b] at r;have t:topFrom O3 p w N ⟨H₀ w.params,g,c,k,os⟩=some (S w os):=by unfold topFrom;dsimp only;rw [i,d,f,r];show (match (staticsOk (g7 p.main.body) (H₀ w.params) (S w os).heap && namesBound p (S w os).heap && gensDone (S w os) && laidKept (H₀ w.params) (S w os).heap) with|true=>some (S w os)|false=>none)=_;rw [looks1 w os]
 unfold openEnds;rw [e];show (topFrom O3 p w N _).map _=_;rw [t];show some (_,_)=some (_,_);rw [looks2 w os,looks3 w os]
theorem zay {p:Program} {w:S0} {n₀:Nat} {ann:Option Value} {env:Env} {q:Pos} {c N:Nat} {s s' r:A0} {l rest:List Stmt} {b:Code} {pos pos':Pos} (h:Goes p w n₀ ann b q c (execs l env) s pos .next s' pos')
  (k:topRun O3 p w n₀ ann N s' (restOf rest env b pos' [topFrame q])=some r) :∃M,M<=c + 1 + N/\topRun O3 p w n₀ ann M s (restOf (l++rest) env b pos [topFrame q])=some r:=by
 obtain ⟨n,a,g⟩:=Goes.seg h;exact ⟨n + N,by omega,piece_app g k⟩
end TJ
open PySem PySem.Spec PyProof.Rows
namespace L2
noncomputable abbrev fnX (x q:Str) (s:Stmt) (m:Str) (k c:Nat):FuncData:=a6 x q (z6t s) (z3q s) (z07 s) .none .none .none (.str m k) none (.ref c) .none
noncomputable abbrev fY (x q:Str) (s:Stmt):=fnX x q s "law_talejudge_k16_whole_zones_judge" 658
noncomputable abbrev fO (x q:Str) (s:Stmt) (m:Str) (k c:Nat):Obj:=⟨.type "function",none,.func (fnX x q s m k c),#[]⟩
noncomputable abbrev fL (x q:Str) (s:Stmt):=fO x q s "law_talejudge_k16_whole_zones_judge" 658
noncomputable abbrev cO (x q:Str) (i l n a j:Nat):Obj:=
 ⟨.type "code",none,.fields #[.str x i,.str q (i + 1),.str "/claim/cut.py" (i + 2),.int l 0,.int n 0,.int 0 0,.int 0 0,.int 3 0,.ref a,.bool true,.int 181 0,.ref (a + 1),.none,.ref (a + 2),.ref (a + 3),.ref (a + 4),.int j 0,.int l 0,.str "/claim/cut.py" (j + 1)],#[]⟩
noncomputable abbrev cP (x q:Str) (i l n a j:Nat):Obj:=
 ⟨.type "code",none,.fields #[.str x i,.str q (i + 1),.str "/claim/cut.py" (i + 2),.int l 0,.int n 0,.int 0 0,.int 0 0,.int 3 0,.ref a,.bool true,.int 181 0,.ref (a + 1),.none,.none,.none,.ref (a + 2),.int j 0,.int l 0,.str "/claim/cut.py" (j + 1)],#[]⟩
noncomputable abbrev kR (P:W0) (x:Str) (i a:Nat):DictEntry:=⟨b0 P x,.str x i,.ref a⟩
section
variable {P:Program} {w:S0} {K:c0} {mg:Str->Option Value} {base:Heap} {x q:Str} {st:Stmt} {f:Addr} {fd:FuncData} {k:Nat} {ps:List Str} {sp:Sp}
theorem z0c {m:Str} {i c:Nat} (l:K.lookup f=some (fO x q st m i c):=by kernel_rfl) (hc:V7 K (.ref c) q=true:=by kernel_rfl) (hk:F4 K (.ref f)=true:=by kernel_rfl):Fun K x q st f (fnX x q st m i c):=fun_mk l hc hk
theorem cal_mk (T:TX K mg) (F:Fun K x q st f fd) (g:V3 K Y1 x=some (some (.ref f))) (b:Binds K fd ps []) (G:FnOk P w K mg base CX0 k f fd ps sp):Cal P w K mg base x ps k sp:=⟨⟨f,fd,G,T.of g,F.kp,b⟩⟩
end
section
variable {p:List Value->Prop}
theorem us1 (h :∀a,p [a]) :∀us:List Value,us.length=1->p us | [a],_=>h a
theorem us2 (h :∀a b,p [a,b]) :∀us:List Value,us.length=2->p us | [a,b],_=>h a b
theorem us3 (h :∀a b c,p [a,b,c]) :∀us:List Value,us.length=3->p us | [a,b,c],_=>h a b c
theorem us5 (h :∀a b c d e,p [a,b,c,d,e]) :∀us:List Value,us.length=5->p us | [a,b,c,d,e],_=>h a b c d e
end
end L2
set_option maxHeartbeats 1000000
namespace L2
open PySem PySem.Spec PyProof.Rows
section
variable {X:Cx}
noncomputable def rEqL0 (K:c0):R2:=λ x y H Q=>∃a b xs,x=.ref a/\y=.ref b/\SqL K H a xs/\SqL K H b []/\Q (.bl (decide (xs=[]))) H
theorem zhd {k:Nat} (hr:Room k X.A):OpR X (U2 .Eq) (rEqL0 X.K):=by
 intro D s σ H x y v u Q I r m h;obtain ⟨a,b,n,rfl,rfl,l,p,q⟩:=h;cases r;cases m;obtain ⟨C,d,c,_⟩:=I.list l;obtain ⟨B,o,g,_⟩:=I.list p;cases o;have f:X.A.units < cLine:=Nat.lt_of_succ_lt (hu_of hr);have t:=d.length;cases n with
 | nil=>cases d;exact SeqAt.RcAt.lists (e:=λ _=>true) c.isList g.isList rfl f (λ j i _=>absurd i (W5 _)) X.prog X.w _ _ ⟨.bl _,H,I,rfl,q⟩
 | cons z zs=>refine SeqAt.RcAt.lists_lengths c.isList g.isList ?_ f X.prog X.w _ _ ⟨.bl _,H,I,rfl,q⟩;rw [P0,<-t];rfl
end
section
variable {prog:Program} {w:S0} {A:X1} {E:Value->A0->Prop} {s:A0}
theorem sort1 {a:Addr} {v:Value} {n0:Nat} {P:t8->A0->Prop} (ho:s.heap.get? a=some (Y2 "list" #[v] n0))
  (h :∀(h':Heap) (e:Nat),(∀b o,b≠a->s.heap.get? b=some o->h'.get? b=some o)->h'.get? a=some (Y2 "list" #[v] e)->P (.done (.ret .none)) { s with heap:=h' }) :
  R0 (Y0 prog w) A (T6.«list.sort» ⟨[.ref a],[]⟩) P E s:=by
 obtain ⟨f,i⟩ :∃f,(s.heap.update a (U1 λ _=>(#[]:Array Value))).get? a=some (Y2 "list" #[] f):=⟨_,i7 ho λ _=>#[]⟩
 rw [list_sort_plain];refine o0 (listItems_at ho rfl (o0 (R6 ho rfl (o0 (j05 i rfl (o0 (wpAny_newTuple (o0 (j9 (T2 ?_) (R1 _))) (show 1<=sizeLine by decide))))) (show 1<=_ by decide) (R1 _))));dsimp only;generalize hh3:((s.heap.update a (U1 λ _=>(#[]:Array Value))).push (Y2 "tuple" #[v] 0)).push (Y2 "list" #[] 0)=h3;have k:=C3 s.heap a (U1 λ _=>(#[]:Array Value));have j :∀b o,b≠a->s.heap.get? b=some o->h3.get? b=some o:=λ b o n e=>by rw [<-hh3];exact y0 _ (y0 _ ((k.2 b n).trans e))
 have d:h3.get? a=some (Y2 "list" #[] f):=by rw [<-hh3];exact y0 _ (y0 _ i)
 rw [if_pos (show (#[v]:Array Value).size < 2 by simp)];refine o0 (F0 ?_);rw [if_pos (show (#[v]:Array Value).size < 2 by simp)];refine (show R0 _ _ (N3 ((),E9 general' ((#[v]:Array Value).zip #[v]) #[] 7 none) >>= _) _ _ _ from o0 (F0 ?_));dsimp only;have g:Array.map (λ x=>x.snd) (m9 (E9 general' ((#[v]:Array Value).zip #[v]) #[] 7 none)) = #[v]:=by show Array.map (λ x=>x.snd) ((#[v]:Array Value).zip #[v]) = #[v];simp
 refine o0 (j05 d rfl (o0 (R6 d rfl ?_ (R1 _) ?_)))
 ·simp only [bne_self_eq_false,Y5,if_false];rw [g];obtain ⟨c,l⟩ :∃c,(h3.update a (U1 λ _=>(#[v]:Array Value))).get? a=some (Y2 "list" #[v] c):=⟨_,i7 d λ _=>#[v]⟩
  exact F0 (h _ c (λ b o n e=>(Q7 _ _ (P3 n)).trans (j b o n e)) l)
 ·rw [g];exact (show 1<=_ by decide)
end
section
variable {X:Cx}
theorem z7a:CallR X (.builtin "sorted") (λ xs H Q=>∃(a:Addr) (y:V),xs=[.ref a]/\SqL X.K H a [y]/\∀l,H l=none->Q (.ref l) (upd H l (.lst [y]))):=by intro D s σ H xs F Q I r h;obtain ⟨a,y,rfl,i,q⟩:=h;obtain ⟨u,rfl,B⟩:=vals1 r;cases B;obtain ⟨E,f,k,J⟩:=I.list i;obtain ⟨v,rfl,G⟩:=vals1 f;refine Calls.call_function_entry kind_sorted plain_sorted entry_sorted (args_sorted1 _) ?_;unfold T6.«sorted»;obtain ⟨o,w,j,n,hd⟩:=k.isList;refine o0 (m:=checkCount "sorted" 1 1 _) (F0 (o0 (wpAny_collect_seq a (.inl rfl) w j hd (λ c A=>?_) (show 1<=_ by decide))));have d:(c.push (Y2 "list" #[v] 0)).get? c.objs.size=some (Y2 "list" #[v] 0):=O0 _ rfl;have g:Inv X D σ H { s with heap:=c }:=I.kept (t':=s.toks) A;refine o0 (j9 (o0 (T2 (j8 slot_list_sort ⟨_,d,rfl⟩ entry_list_sort (sort1 (s:={ s with heap:=c.push (Y2 "list" #[v] 0) }) d λ C e t p=>⟨_,rfl,?_⟩) (args_list_sort _)))) (show 1<=_ by decide));have x :∀b o,c.get? b=some o->C.get? b=some o:=λ b o z=>t b o (T0 (M0 z)) (y0 _ z);exact F0 ⟨_,rfl,.ref c.objs.size,_,g.laid (t':=s.toks) (o:=.lst [y]) x (C0 _) ⟨(show 1<=sizeLine by decide),_,e,f,p⟩,rfl,q _ (g.hok.fresh (C0 _))⟩
end
variable {X:Cx}
def rDictT (K:c0):List V->Hp->VK->Prop:=λ xs H Q=>∃a ys kvs,xs=[.ref a]/\H a=some (.tup ys)/\All2 (λ (p:Key×V) y=>∃b,y=.ref b/\SqT K H b [kV p.1,p.2]) kvs ys/\∀p,H p=none->Q (.ref p) (upd H p (.dK (mergeK [] kvs)))
theorem zcb (hc:X.calm=true):CallR X (.type "dict") (rDictT X.K):=by
 intro P s σ H Z V Q I r h;obtain ⟨a,R,c,rfl,J,v,q⟩:=h;obtain ⟨u,rfl,T⟩:=vals1 r;cases (show u=F1 a from T);have k:X.A.handled=none:=I.ok.hd hc;have M:H s.heap.objs.size=none:=I.hok.fresh (C0 _);have big:=I.big;have fin :∀(f:List (Key×Value)) (h':Heap) (d:Nat),KV c f->c.length<=sizeLine->c6 (z0g X.prog X.w) h' s.heap.objs.size (merged [] f)->(∀b o,b≠s.heap.objs.size->(s.heap.push { cls:=.type "dict",data:=.dict #[] }).get? b=some o->h'.get? b=some o)->
   EP X P σ Q (.ref s.heap.objs.size) { s with heap:=h',toks:=d }:=λ f h' d g S i j=>by
  refine ⟨.ref s.heap.objs.size,_,I.laid (a:=s.heap.objs.size) (o:=.dK (mergeK [] c)) (h':=h') (t':=d) (λ b o e=>j b o (T0 (M0 e)) (y0 _ e)) (C0 _) ?_,rfl,q _ M⟩;exact dk_new (L0 (z6q [] c) (by simpa using S)) (beq_eq_false_iff_ne.mpr (P3 (T0 big))) (KV.merge g .nil) i
 have C:R.length=c.length:=z03 v;obtain ⟨z,U,N,⟨o,m,l,n,B⟩,Y,t,E⟩:=I.hok a _ J;rw [m] at t;cases t;obtain ⟨f,g,G⟩:=zbv I v N;obtain ⟨oc,od,a0,W⟩:=o;dsimp only at l B E;subst l B E;refine callType_codes F.kt_called_dict (F.kt_typeCall_dict_1 _) F.entry_dict_init (kt_code_dict_new _ (Q₁:=λ p D=>p=.ref s.heap.objs.size/\D={ s with heap:=s.heap.push { cls:=.type "dict",data:=.dict #[] } }) ⟨rfl,rfl⟩) ?_;rintro p D ⟨rfl,rfl⟩;refine ⟨⟨_,O0 _ rfl,rfl⟩,F.args_dict_init_2 _ _,?_⟩;refine z41 (s:={ s with heap:=s.heap.push { cls:=.type "dict",data:=.dict #[] } }) (O0 _ rfl) (y0 _ m) k k (by simpa using z02 (λ x y z=>PairOf.kept (L:=[]) (λ b o _ e=>y0 _ e) (λ b O=>absurd O B0) z) G) (by rw [<-E8 g,<-C];exact z) λ h' d i j=>fin f h' d g (by rw [<-C];exact z) i j
variable {X:Cx}
theorem ze3 (hc:X.calm=true):CallR X (.builtin "max") (λ xs H Q=>∃(p:Addr) (ns:List Int),xs=[.ref p]/\SqL X.K H p (ns.map V.int)/\ns≠[]/\∀M,M∈ns->(∀a∈ns,a<=M)->Q (.int M) H):=by
 intro E s σ H xs C Q I r h;obtain ⟨p,ns,rfl,x,ne,q⟩:=h;obtain ⟨u,rfl,y⟩:=vals1 r;cases y;obtain ⟨l,n,m,F⟩:=I.list x;have g:S3 l ns:=z3j n;obtain ⟨xs,e⟩:=g.allInts.items;have b:ns=xs.toList.map (·.1):=by rw [<-g.numsOf,<-nums_intItems,<-e]
 have o:0 < xs.size:=by have c:=List.length_pos_iff.mpr ne;rw [b,G0,B1] at c;exact c
 have f:=m.isList;rw [e] at f;refine max_intList (I.ok.hd hc) f o λ v D B i z=>?_;obtain ⟨t,rfl⟩:=intItems_at i;obtain ⟨A,w⟩:=argBest_gt (numAt xs) (xs.size - 1);refine ⟨.int _,H,I.kept z,⟨_,rfl⟩,q _ ?_ λ a d=>?_⟩
 ·rw [b,numAt_eq];exact getD_mem (by rw [G0,B1];omega)
 ·rw [b] at d;obtain ⟨j,k,rfl⟩:=mem_getD d;rw [G0,B1] at k;rw [<-numAt_eq];exact w j (by omega)
theorem zed (hc:X.calm=true):CallR X (.builtin "min") (λ xs H Q=>∃(p:Addr) (ns:List Int),xs=[.ref p]/\SqL X.K H p (ns.map V.int)/\ns≠[]/\∀M,M∈ns->(∀a∈ns,M<=a)->Q (.int M) H):=by
 intro E s σ H xs C Q I r h;obtain ⟨p,ns,rfl,x,ne,q⟩:=h;obtain ⟨u,rfl,y⟩:=vals1 r;cases y;obtain ⟨l,n,m,F⟩:=I.list x;have g:S3 l ns:=z3j n;obtain ⟨xs,e⟩:=g.allInts.items;have b:ns=xs.toList.map (·.1):=by rw [<-g.numsOf,<-nums_intItems,<-e]
 have o:0 < xs.size:=by have c:=List.length_pos_iff.mpr ne;rw [b,G0,B1] at c;exact c
 have f:=m.isList;rw [e] at f;refine min_intList (I.ok.hd hc) f o λ v D B i z=>?_;obtain ⟨t,rfl⟩:=intItems_at i;obtain ⟨A,w⟩:=argBest_lt (numAt xs) (xs.size - 1);refine ⟨.int _,H,I.kept z,⟨_,rfl⟩,q _ ?_ λ a d=>?_⟩
 ·rw [b,numAt_eq];exact getD_mem (by rw [G0,B1];omega)
 ·rw [b] at d;obtain ⟨j,k,rfl⟩:=mem_getD d;rw [G0,B1] at k;rw [<-numAt_eq];exact w j (by omega)
end L2
set_option maxHeartbeats 4000000
namespace L2
open PySem PySem.Spec PyProof.Rows
noncomputable def Itms (a:Addr) (ob:Obj) (kvs:List (Key×V)):It:=
 ⟨λ i H=>H a=some (.frz ob (.dK kvs))/\i < kvs.length,λ i H x H'=>∃p k v,H p=none/\x=.ref p/\kvs[i]? = some (k,v)/\H'=upd H p (.tup [kV k,v]),λ i H=>H a=some (.frz ob (.dK kvs))/\kvs.length<=i⟩
theorem za7 {P:Program} {w:S0} {K:c0} {elts:List Expr} {x1:Nat} {pos:Pos} {a it:Addr} {ob:Obj} {kvs:List (Key×V)} {es:Array DictEntry} {ep:Nat} (hob:ob.data=.dict es ep):Turn P w K (.Tuple elts x1 pos) (Itms a ob kvs) [it] it (λ i h=>∃ok ov,IsItemIter h it a i kvs.length ep ok ov) where
 mem:=by simp
 obj:=λ i h d b f=>by
  obtain rfl:b=it:=by simpa using f
  obtain ⟨ok,ov,e⟩:=d;exact ⟨_,e,λ v z=>by cases (show D9 _=j0g v from z)⟩
 keep:=λ i h L d k=>by obtain ⟨ok,ov,e⟩:=d;exact ⟨ok,ov,k it (by simp) _ e⟩
 item:=by
  intro X q y A g i a3 s σ H E I l d p;subst q y A;obtain ⟨r,J⟩:=p;obtain ⟨R,G,j,C⟩:=frz_at I hob r;have M:kvs[i]? = some kvs[i]:=D0 J;obtain ⟨⟨k',u⟩,hu,B,Q⟩:=z8a G M;obtain ⟨ok,ov,d⟩:=d;rw [<-j] at d;have a2:it < s.heap.objs.size:=M0 d;have F:s.heap.objs.size≠it:=F2 a2;refine wpAny_pyNext_items_item d C hu λ key L a1 a0 T hz Y=>?_;refine ⟨_,rfl,wpAny_letOwnedTupleGo_items a0 λ h2 D sb=>?_⟩;have S:RelV (kV kvs[i].1) key:=by
   have B:kvs[i].1=k':=B;rw [B];rcases z0k a1 with ⟨i,t,n,m⟩|⟨x,t,n,m⟩
   ·rw [n,m];exact ⟨t,rfl⟩
   ·rw [n,m];exact ⟨t,rfl⟩
  have k2 :∀b o,b∉[it]->s.heap.get? b=some o->h2.get? b=some o:=λ b o f z=>by have f:b≠it:=λ z=>f (List.mem_singleton.mpr z);exact (sb.2 b f).trans (Y b o f z)
  have N:=(sb.2 _ F).trans T;have U:H s.heap.objs.size=none:=I.hok.fresh (C0 _);rw [j] at D;refine ⟨.ref s.heap.objs.size,upd H s.heap.objs.size (.tup [kV kvs[i].1,kvs[i].2]),I.turnedLaid (t':=s.toks) k2 l (C0 _) ⟨w_2,[key,u],.cons S (.cons Q .nil),⟨_,N,rfl,_,rfl⟩,_,N,rfl⟩,rfl,⟨_,_,_,U,rfl,M,rfl⟩,⟨_,_,D⟩,λ c g=>?_⟩;rw [upd_ne (λ (z:c=s.heap.objs.size)=>F (z ▸ List.mem_singleton.mp g))];exact (l c g).1
 done:=by intro X q y A g i a3 s σ H E I l d p;subst q y A;obtain ⟨r,J⟩:=p;obtain ⟨R,G,j,C⟩:=frz_at I hob r;obtain ⟨Z,f1,f2,O,f4,f5⟩:=l it (by simp);obtain ⟨ok,ov,d⟩:=d;rw [<-j] at d;exact wpAny_pyNext_items_end (I.ok.hd g) d C (by rw [B4];omega) λ L eb=>⟨rfl,I.turned (t':=s.toks) (λ b o f e=>eb b o f e) Z f1 O f4 f5⟩
 self:=λ _ _ _ _ _ d h=>by obtain ⟨ok,ov,d⟩:=d;exact PySem.W.kcp_self d h
noncomputable def iItems (td:TE):TI:=λ σ H R=>td σ H λ x H1=>∃a kvs,x=.ref a/\H1 a=some (.dK kvs)/\∀ob,R (Itms a ob kvs) (upd H1 a (.frz ob (.dK kvs)))
section
variable {X:Cx}
theorem zfz {elts:List Expr} {x1:Nat} {tpos:Pos} {o:Expr} {to:TE} {apos cpos:Pos} (ho:PE X o to) (hbase:i6 o "items" X.env (p4 o X.env)=p4 o X.env:=by rfl) (hline:(apos.endLine == cpos.line)=true:=by rfl):PI X (.Tuple elts x1 tpos) (.Call (.Attribute o "items" apos) [] [] cpos) (iItems to):=by
 intro m s σ H R I h;refine wpAny_Call_method0_late hbase hline (thn (ho m s σ H _ I h) λ v c ⟨x,H1,I1,r1,a,kvs,ex,ea,q⟩=>?_);subst ex;cases r1;obtain ⟨l,z,hd⟩:=isD_at I1 (.inl ⟨_,.inl ea⟩);obtain ⟨_,_,f,y,i⟩:=dk_of I1.hok ea;obtain ⟨C,p⟩:=i.dictAt;obtain ⟨g,j,ho,D,u,_⟩:=id p;refine ⟨"dict","dict.items",v7,T9,PySem.F.type_dict_items,l,z,Q4 rfl (j1i ?_)⟩;refine Q9 T9 l PySem.F.entry_dict_items (PySem.F.args_dict_items_1 _) (meets_dict_items (z0g X.prog X.w) a hd) ⟨⟨_,i⟩,?_⟩;have k :∀b o,c.heap.get? b=some o->(c.heap.push { cls:=.type "dict_items",data:=.fields #[.ref a] }).get? b=some o:=λ b o e=>y0 _ e;have d:Inv X m σ (upd H1 a (.frz g (.dK kvs))) { c with heap:=c.heap.push { cls:=.type "dict_items",data:=.fields #[.ref a] } }:=(I1.freeze ea ho).kept (t':=c.toks) k;have n:(c.heap.push { cls:=.type "dict_items",data:=.fields #[.ref a] }).DictAt (z0g X.prog X.w) a f C:=by obtain ⟨o,j,t,r⟩:=p;exact ⟨o,j,k _ _ t,r⟩
 refine wpAny_pyIter_items (s:={ c with heap:=c.heap.push { cls:=.type "dict_items",data:=.fields #[.ref a] } }) ⟨_,O0 _ rfl,rfl,rfl⟩ n ?_;have A:f.length=kvs.length:=y.length.symm;generalize hh2:c.heap.push { cls:=.type "dict_items",data:=.fields #[.ref a] }=h2 at d n;refine ⟨h2.objs.size,[h2.objs.size],_,_,_,rfl,d.kept (t':=c.toks) λ b o e=>y0 _ e,za7 u,⟨_,_,by rw [<-A];exact O0 _ rfl⟩,λ b B=>?_,q g⟩;obtain rfl:b=h2.objs.size:=by simpa using B
 exact d.fpOk (C0 _) (d.hok.fresh (C0 _))
end
theorem zd3 {a:Addr} {ob:Obj} {kvs:List (Key×V)} {g:TG} {tb:TS} {D:Ends} {σ:St} {H:Hp} (Pv:Nat->St->Hp->Prop) (h0:Pv 0 σ H) (fr :∀i σ H,Pv i σ H->H a=some (.frz ob (.dK kvs)))
  (hs :∀i k v σ H p,kvs[i]? = some (k,v)->Pv i σ H->H p=none->g (.ref p) σ (upd H p (.tup [kV k,v])) λ σ2 H2=>tb { D with nx:=Pv (i + 1),ct:=Pv (i + 1),bk:=D.nx } σ2 H2) (hd :∀σ H,Pv kvs.length σ H->D.nx σ H) :
  ∃W:Nat->Nat->St->Hp->Prop,(∃m,W 0 m σ H)/\∀i m σ H,W i m σ H->
   ((Itms a ob kvs).stop i H/\D.nx σ H)\/((Itms a ob kvs).go i H/\∃N:St->Hp->Prop,(∀σ' H',N σ' H'->∃m',m' < m/\W (i + 1) m' σ' H')/\∀x H',(Itms a ob kvs).yld i H x H'->g x σ H' λ σ2 H2=>tb { D with nx:=N,ct:=N,bk:=D.nx } σ2 H2):=by
 refine ⟨λ i m σ H=>m=kvs.length - i/\i<=kvs.length/\Pv i σ H,⟨kvs.length,by simp,R1 _,h0⟩,?_⟩;rintro i m σ H ⟨rfl,hi,p⟩;by_cases hlt:i < kvs.length
 ·refine .inr ⟨⟨fr _ _ _ p,hlt⟩,Pv (i + 1),λ σ' H' q=>⟨kvs.length - (i + 1),by omega,rfl,hlt,q⟩,λ x H' y=>?_⟩;obtain ⟨b,k,v,d,rfl,c,rfl⟩:=y;exact hs i k v σ H b c p d
 ·obtain rfl:i=kvs.length:=by omega
  exact .inl ⟨⟨fr _ _ _ p,C0 _⟩,hd σ H p⟩
end L2
set_option maxHeartbeats 1000000
namespace L2
open PySem PySem.Spec PyProof.Rows
theorem z89 {α β:Type} {g:α->β} {l m:List β} (h:l.Perm m) :∀zs:List α,m=zs.map g->∃zs':List α,zs'.Perm zs/\l=zs'.map g:=by
 induction h with
 | nil=>intro zs e;exact ⟨zs,.refl _,e⟩
 | cons x _ ih=>
  intro zs e;cases zs with
  | nil=>cases e
  | cons z zs=>injection e with e1 e2;obtain ⟨zs',a,b⟩:=ih zs e2;exact ⟨z :: zs',a.cons z,by rw [X0,<-e1,<-b]⟩
 | swap x y l=>
  intro zs e;cases zs with
  | nil=>cases e
  | cons z zs=>
   cases zs with
   | nil=>injection e with _ e;cases e
   | cons z' zs=>injection e with e1 e2;injection e2 with e2 e3;exact ⟨z' :: z :: zs,.swap _ _ _,by rw [X0,X0,<-e1,<-e2,<-e3]⟩
 | trans _ _ ih1 ih2=>intro zs e;obtain ⟨d,a,b⟩:=ih2 zs e;obtain ⟨i,c,f⟩:=ih1 d b;exact ⟨i,c.trans a,f⟩
def KeyOut (kz:List Int) (ys out:List V):Prop:=∃ps:List (Int×V),ps.Perm (kz.zip ys)/\out=ps.map Prod.snd/\ps.Pairwise λ p q=>p.1<=q.1
theorem zhk {kz:List Int} {ys:List V} {vs out:List Value} (hv:Vals ys vs) (hl:kz.length=ys.length) (h:KskOut false kz vs out) :∃zs,Vals zs out/\KeyOut kz ys zs/\zs.length=ys.length:=by
 obtain ⟨m,a,rfl,b⟩:=h;have g:=hv.length;have e:kz.zip vs=(kz.zip (ys.zip vs)).map λ p=>(p.1,p.2.2):=by
  clear a b hl;induction hv generalizing kz with
  | nil=>rw [a7,List.zip_nil_left,a7];rfl
  | cons r t ih=>
   cases kz with
   | nil=>rfl
   | cons k kz=>have:=ih (kz:=kz) (by have:=g;simpa using this);show (k,_) :: kz.zip _=_ :: _;rw [this];rfl
 obtain ⟨zs,d,f⟩:=z89 a _ e;have i :∀p∈kz.zip (ys.zip vs),RelV p.2.1 p.2.2:=λ p a=>by
  have:=(M6 a).2;have key :∀{ys:List V} {vs:List Value},Vals ys vs->∀q∈ys.zip vs,RelV q.1 q.2:=by
   intro ys vs h;induction h with
   | nil=>exact λ q c=>absurd c B0
   | cons r t ih=>
    intro q c;rcases List.mem_cons.mp c with rfl|c
    ·exact r
    ·exact ih q c
  exact key hv _ this
 have l :∀zs:List (Int×V×Value),(∀p∈zs,RelV p.2.1 p.2.2)->Vals (zs.map λ p=>p.2.1) (zs.map λ p=>p.2.2):=by
  intro zs;induction zs with
  | nil=>exact λ _=>.nil
  | cons z zs ih=>exact λ h=>.cons (h z (.head _)) (ih λ p a=>h p (.tail _ a))
 have j:kz.zip ys=(kz.zip (ys.zip vs)).map λ p=>(p.1,p.2.1):=by
  clear a b hl d f i e;induction hv generalizing kz with
  | nil=>rw [a7,List.zip_nil_left,a7];rfl
  | cons r t ih=>
   cases kz with
   | nil=>rfl
   | cons k kz=>have:=ih (kz:=kz) (by have:=g;simpa using this);show (k,_) :: kz.zip _=_ :: _;rw [this];rfl
 refine ⟨zs.map λ p=>p.2.1,?_,⟨zs.map λ p=>(p.1,p.2.1),?_,?_,?_⟩,?_⟩
 ·rw [f,Q2];exact l zs λ p a=>i p (d.mem_iff.mp a)
 ·rw [j];exact d.map _
 ·rw [Q2];rfl
 ·rw [f] at b;rw [m6] at b⊢;exact b.imp λ h=>h
 ·rw [G0,d.length_eq,List.length_zip,List.length_zip,hl,<-g,j1e,j1e]
section
variable {X:Cx} {pins:List (Addr×Obj)} {σ:St} {H:Hp} {s:A0}
theorem Inv.track {a:Addr} {o:HO} (I:Inv X pins σ H s) (hf:FpOk X pins H a) (new:ObjOk X.prog X.w (upd H a o) s.heap a o):Inv X pins σ (upd H a o) s:=by
 have g:=hf.1;have old :∀b u,H b=some u->upd H a o b=some u:=λ b u e=>by rw [upd_ne (z0f e g)];exact e
 refine I.step (h':=s.heap) (t':=s.toks) (g':=s.gens) (d':=s.drawn) (ch:=[a]) (λ b d=>?_) (λ b o _ _ _ e _=>e) (λ b o _ _ _ e _=>⟨o.slots,e⟩) (λ b u d e n=>?_) (λ b o _ e=>⟨o,e⟩) (λ _ _ e=>old _ _ e) (λ _ _ _ e=>old _ _ e) (λ b h e=>⟨#[],by rw [old _ _ e];simp⟩) (λ m f=>f) (λ b u e=>?_) I.bare
 ·cases List.mem_singleton.mp d;exact ⟨hf.2.2.2.1,hf.2.1,hf.2.2.2.2.1,hf.2.2.2.2.2⟩
 ·rw [upd_ne λ z=>d (List.mem_singleton.mpr z)];exact n
 ·by_cases d:b=a
  ·subst d;rw [z01] at e;cases e;exact new
  ·rw [upd_ne d] at e;exact (I.hok b u e).stay (λ c v _ q=>q) (λ c q=>old _ _ q) λ c i q=>old _ _ q
theorem zhc {A:X1} {E:Value->A0->Prop} {P:t8->A0->Prop} {a kS:Addr} {vs:List Value} {kz:List Int} {keys:Array Value} {e e1:Nat}
  (I:Inv X pins σ H s) (fa:FpOk X pins H a) (fk:FpOk X pins H kS) (hka:kS≠a) (ek:s.heap.get? kS=some (Y2 "list" keys e)) (ea:s.heap.get? a=some (Y2 "list" #[] e1))
  (hk:S3 keys.toList kz) (hlen:kz.length=vs.length) (h64:vs.length < 64)
  (h :∀h' tk out c,Inv X pins σ H { s with heap:=h',toks:=tk }->h'.get? a=some (Y2 "list" out c)->KskOut false kz vs out.toList->P (.done (.ret .none)) { s with heap:=h',toks:=tk }) :
  R0 (Y0 X.prog X.w) A (ksk_end a false vs.toArray e1 (.ref kS) keys) P E s:=by
 have p:keys.size=vs.length:=by have u:=hk.length;rw [B1] at u;omega
 have k:(keys.zip vs.toArray).size=vs.length:=by rw [Array.size_zip,p,P0,j1e]
 have t :∀st:SortSt,(m9 st).Perm (keys.zip vs.toArray)->SortedTo (m9 st) (m9 st).size->failedOf st=none->R0 (Y0 X.prog X.w) A (ksk_tail a false e1 (.ref kS) st) P E s:=by
  intro st g n F;have G:(m9 st).size=vs.length:=by rw [g.size_eq,k]
  have r:=C3 s.heap kS (U1 λ _=>(#[]:Array Value));have m:(s.heap.update kS (U1 λ _=>(#[]:Array Value))).get? a=some (Y2 "list" #[] e1):=(r.2 a hka.symm).trans ea;have D:=C3 (s.heap.update kS (U1 λ _=>(#[]:Array Value))) a (U1 λ _=>(m9 st).map (·.2));obtain ⟨l,C⟩ :∃l,((s.heap.update kS (U1 λ _=>(#[]:Array Value))).update a (U1 λ _=>(m9 st).map (·.2))).get? a=some (Y2 "list" ((m9 st).map (·.2)) l):=
   ⟨_,i7 m λ _=>(m9 st).map (·.2)⟩
  unfold ksk_tail
  try dsimp only
  refine o0 (R6 ek rfl ?_ (by rw [p,C6];omega) (R1 _));refine o0 (wpAny_letGo ?_);refine o0 (j05 m rfl ?_);refine o0 (R6 m rfl ?_ (R1 _) (L0 (Y7 ((Array.size_map ..).trans G)) (by rw [C6];omega)));rw [F];simp only [bne_self_eq_false,Y5,if_false];have J:=I.turnedL (fp:=[kS,a]) (h':=(s.heap.update kS (U1 λ _=>(#[]:Array Value))).update a (U1 λ _=>(m9 st).map (·.2))) (t':=s.toks) (λ b o f q=>(D.2 b λ z=>f (z ▸ .tail _ (.head _))).trans ((r.2 b λ z=>f (z ▸ .head _)).trans q)) (λ b f=>by
   rcases List.mem_cons.mp f with rfl|f
   ·exact fk
   ·rw [List.mem_singleton.mp f];exact fa)
  exact F0 (h _ _ _ l J C (ksk_out (b:=false) hk g n))
 unfold ksk_end
 try dsimp only
 rw [if_neg N0];by_cases h2:vs.toArray.size < 2
 ·rw [if_pos h2,if_pos h2];refine o0 (F0 ?_);rw [StateT.run_pure];refine o0 (F0 ?_)
  try dsimp only
  refine t (E9 general' (if false=true then (keys.zip vs.toArray).reverse else keys.zip vs.toArray) #[] 7 none) (j1g _) ?_ rfl;intro i j L v;have y:j < (keys.zip vs.toArray).size:=v;rw [k] at y;rw [P0] at h2;have:i=j:=by omega
  subst this;exact L9 _
 ·rw [if_neg h2,if_neg h2];rw [P0] at h2;rw [ksk_kind hk (by rw [p];omega)];refine o0 (F0 ?_);refine o0 (Q3 (wpS_sortRuns (a₀:=keys.zip vs.toArray) (st:=E9 oneType' (if false=true then (keys.zip vs.toArray).reverse else keys.zip vs.toArray) #[] 7 none)
   (Q:=λ _ d=>(m9 d).Perm (keys.zip vs.toArray)/\failedOf d=none/\SortedTo (m9 d) (keys.zip vs.toArray).size)
   (ksk_intKeys hk) ⟨j1g _,rfl,rfl,rfl⟩ (by rw [k];omega) (by rw [k];exact h64) λ d K B x=>⟨K,B,x⟩) ?_ λ _ _ e=>e)
  rintro ⟨⟨⟩,d⟩ M ⟨rfl,g,hf,n⟩
  try dsimp only
  exact t d g (by rw [g.size_eq];exact n) hf
theorem zg5 {A:X1} {E:Value->A0->Prop} {P:t8->A0->Prop} {a:Addr} {vs:List Value} {kz:List Int} {f:Value} {n:Nat}
  (I:Inv X pins σ H s) (fa:FpOk X pins H a) (ea:s.heap.get? a=some (Y2 "list" vs.toArray n)) (hlen:kz.length=vs.length) (h64:vs.length < 64)
  (turn :∀(i:Nat) (v:Value) (k:Int),vs[i]? = some v->kz[i]? = some k->∀(pins':List (Addr×Obj)) (s1:A0),Inv X (pins++pins') σ H s1->R0 (Y0 X.prog X.w) A (call f [v]) (λ u s2=>∃t,u=.int k t/\Inv X (pins++pins') σ H s2) (λ _ _=>False) s1)
  (h :∀s' out c,Inv X pins σ H s'->s'.heap.get? a=some (Y2 "list" out c)->KskOut false kz vs out.toList->P (.done (.ret .none)) s') :
  R0 (Y0 X.prog X.w) A (ksk_tree a f false) P E s:=by
 have V:a < s.heap.objs.size:=M0 ea;have s1:=C3 s.heap a (U1 λ _=>(#[]:Array Value));obtain ⟨l,M⟩ :∃l,(s.heap.update a (U1 λ _=>(#[]:Array Value))).get? a=some (Y2 "list" #[] l):=⟨_,i7 ea λ _=>#[]⟩
 have p:((s.heap.update a (U1 λ _=>(#[]:Array Value))).push (Y2 "tuple" vs.toArray 0)).objs.size=s.heap.objs.size + 1:=by rw [size_push',Heap.size_update]
 unfold ksk_tree;refine o0 (listItems_at ea rfl ?_);refine o0 (R6 ea rfl ?_ (by rw [P0,C6];omega) (R1 _));refine o0 (j05 M rfl ?_);refine o0 (wpAny_newTuple ?_ (by show vs.length<=_;rw [C6];omega));refine o0 (j9 ?_ (R1 _));refine T2 ?_;have D:(((s.heap.update a (U1 λ _=>(#[]:Array Value))).push (Y2 "tuple" vs.toArray 0)).push (Y2 "list" #[] 0)).get? ((s.heap.update a (U1 λ _=>(#[]:Array Value))).push (Y2 "tuple" vs.toArray 0)).objs.size=some (Y2 "list" #[] 0):=O0 _ rfl;have L:(((s.heap.update a (U1 λ _=>(#[]:Array Value))).push (Y2 "tuple" vs.toArray 0)).push (Y2 "list" #[] 0)).get? a=some (Y2 "list" #[] l):=y0 _ (y0 _ M);have J:Inv X pins σ H { s with heap:=((s.heap.update a (U1 λ _=>(#[]:Array Value))).push (Y2 "tuple" vs.toArray 0)).push (Y2 "list" #[] 0),toks:=s.toks }:=I.turnedL (fp:=[a]) (λ b o d q=>y0 _ (y0 _ ((s1.2 b λ z=>d (z ▸ .head _)).trans q))) (λ b d=>by rw [List.mem_singleton.mp d];exact fa);have m:FpOk X pins H ((s.heap.update a (U1 λ _=>(#[]:Array Value))).push (Y2 "tuple" vs.toArray 0)).objs.size:=I.fpOk (by rw [p];omega) (I.hok.fresh (by rw [p];omega));have B:((s.heap.update a (U1 λ _=>(#[]:Array Value))).push (Y2 "tuple" vs.toArray 0)).objs.size≠a:=by rw [p];exact F2 (E1 V)
 generalize ((s.heap.update a (U1 λ _=>(#[]:Array Value))).push (Y2 "tuple" vs.toArray 0)).objs.size=kS at D m B⊢;generalize ((s.heap.update a (U1 λ _=>(#[]:Array Value))).push (Y2 "tuple" vs.toArray 0)).push (Y2 "list" #[] 0)=h3 at D L J⊢;unfold ksk_rest;refine o0 (t9 ?_);first
  | rw [List.forIn_toArray]
  | (rw [<-Z6];simp only [List.toList_toArray])
  | rw [<-Z6]
 refine o0 (ksk_fold (λ i s'=>∃kA e,Inv X pins σ H s'/\s'.heap.get? kS=some (Y2 "list" kA e)/\s'.heap.get? a=some (Y2 "list" #[] l)/\S3 kA.toList (kz.take i)) vs 0 _
  ⟨#[],0,J,D,L,by simpa using IntsAre.nil⟩ ?step ?done)
 case step=>
  rintro j x s' F ⟨kA,e,J',ek,ea',hk⟩;simp only [y6] at hk⊢;have hj:j < vs.length:=(List.getElem?_eq_some_iff.mp F).1;obtain ⟨k,K⟩ :∃k,kz[j]? = some k:=⟨_,D0 (by omega)⟩
  have hz:kA.size<=vs.length:=by have N:=hk.length;rw [B1,F3] at N;omega
  have Jp:=J'.pinned (fp:=[kS,a]) (λ b d=>by
   rcases List.mem_cons.mp d with rfl|d
   ·exact m
   ·rw [List.mem_singleton.mp d];exact fa) (λ b d=>by
   rcases List.mem_cons.mp d with rfl|d
   ·exact ⟨_,ek,λ v z=>by cases z⟩
   ·rw [List.mem_singleton.mp d];exact ⟨_,ea',λ v z=>by cases z⟩)
  refine o0 (wpAny_attempt (Q3 (turn j x k F K _ s' Jp) (λ v C S=>?_) λ _ _ O=>O.elim));obtain ⟨g,rfl,y⟩:=S
  try dsimp only
  have G:=y.pin (kS,Y2 "list" kA e) (U0 _ (U0 _ (z0z (.head _) ek)));have T:=y.pin (a,Y2 "list" #[] l) (U0 _ (U0 _ (z0z (.tail _ (.head _)) ea')));have Z:=y.unpinned;have s1:=C3 C.heap kS (U1 (·.push (.int k g)));obtain ⟨r,U⟩ :∃r,(C.heap.update kS (U1 (·.push (.int k g)))).get? kS=some (Y2 "list" (kA.push (.int k g)) r):=⟨_,i7 G.1 (·.push (.int k g))⟩
  have W:kz.take (j + 1)=kz.take j++[k]:=by rw [List.take_add_one,K];simp
  have R:(kA.push (U5 k g)).toList=kA.toList++[U5 k g]:=by simp
  refine o0 (R6 G.1 rfl ?_ (by rw [C6];omega) (L0 (Y7 (Array.size_push ..)) (by rw [C6];omega)));refine F0 ⟨rfl,kA.push (.int k g),r,Z.turnedL (fp:=[kS]) (t':=C.toks) (λ b o d q=>(s1.2 b λ z=>d (z ▸ .head _)).trans q) (λ b d=>by rw [List.mem_singleton.mp d];exact m),U,(s1.2 a B.symm).trans T.1,by rw [R,W];exact ksk_snoc hk⟩
 case done=>
  rintro s' ⟨kA,e,J',ek,ea',hk⟩;have a0:S3 kA.toList kz:=by have Y:kz.take (0 + vs.length)=kz:=N7 (by omega);rw [Y] at hk;exact hk
  try dsimp only
  refine o0 (listItems_at ek rfl ?_);exact zhc J' fa m B ek ea' a0 hlen h64 λ h' tk out c K0 Q K2=>h _ out c K0 Q K2
theorem zb8 {l q:Addr} {ys:List V} {kz:List Int} {Q:Value->A0->Prop} {E:Value->A0->Prop} (I:Inv X pins σ H s) (sq:SqL X.K H l ys) (hlen:kz.length=ys.length) (h64:ys.length < 64)
  (turn :∀(i:Nat) (y:V) (u:Value) (k:Int),ys[i]? = some y->kz[i]? = some k->RelV y u->∀(pins':List (Addr×Obj)) (s1:A0),Inv X (pins++pins') σ H s1->R0 (Y0 X.prog X.w) X.A.in1.in1 (call (.ref q) [u]) (λ v s2=>∃t,v=.int k t/\Inv X (pins++pins') σ H s2) (λ _ _=>False) s1)
  (h :∀(D:Addr) (out:List V) (s':A0),H D=none->KeyOut kz ys out->Inv X pins σ (upd H D (.lst out)) s'->Q (.ref D) s') :
  R0 (Y0 X.prog X.w) X.A (call (.builtin "sorted") [.ref l] [(c4 "key",.ref q)]) Q E s:=by
 obtain ⟨d,g,G,C⟩:=I.list sq;have B:d.length=ys.length:=g.length.symm;refine call_function_entry_kw kind_sorted plain_sorted entry_sorted (ksk_s1 _ _) ?_;unfold T6.«sorted»;obtain ⟨o,N,F,n,hd⟩:=G.isList;refine o0 (m:=checkCount "sorted" 1 1 _) (F0 (o0 (wpAny_collect_seq l (.inl rfl) N F hd (λ a P=>?_) (by rw [P0,B];exact C))));have r:(a.push (Y2 "list" d.toArray 0)).get? a.objs.size=some (Y2 "list" d.toArray 0):=O0 _ rfl;have j:Inv X pins σ H { s with heap:=a }:=I.kept (t':=s.toks) P;have M:Inv X pins σ H { s with heap:=a.push (Y2 "list" d.toArray 0) }:=j.kept (t':=s.toks) λ b o e=>y0 _ e;have f:FpOk X pins H a.objs.size:=j.fpOk (C0 _) (j.hok.fresh (C0 _));refine o0 (j9 (o0 (T2 (wpAny_call_entry_kw slot_list_sort ⟨_,r,rfl⟩ entry_list_sort ?body (ksk_l1 _ _)))) (by show d.length<=_;rw [B];exact C))
 case body=>
  show R0 (Y0 X.prog X.w) X.A.in1.in1 (T6.«list.sort» ⟨[.ref a.objs.size],[(c4 "key",.ref q)]⟩) _ _ _;rw [ksk_t1];refine zg5 (kz:=kz) M f r (by omega) (by omega) (λ i v k p T pins' s1 J=>?_) λ s' out c J e R=>⟨_,rfl,?_⟩
  ·have x:i < ys.length:=by have:=(List.getElem?_eq_some_iff.mp p).1;omega
   obtain ⟨u,z,U⟩:=g.get (D0 x);rw [p] at z;cases z;exact turn i _ v k (D0 x) T U pins' s1 J
  obtain ⟨O,S,L,lz⟩:=zhk g hlen R;exact F0 ⟨_,rfl,h _ O s' f.1 L (J.track f ⟨by omega,out.toList,c,S,by simpa using e⟩)⟩
end
theorem zgu {P:Program} {w:S0} {K:c0} {mg:Str->Option Value} {base:Heap} {k:Nat} {f c':Addr} {name qual:Str} {params:Arguments} {body:Expr} {scope:Scope} {pm ctv:Value} {N ps:List Str} {A:X1} {outer:List Env} {s:A0} {H:Hp} {us:List Value} {vs:List V} {Q:VK} {t:TE}
  (hr:Room (k + 1) A) (e0:Env0 P w K mg base A outer s H) (ho:s.heap.get? f=some (O5 name qual params body scope [] pm c' ctv)) (hcd:s.heap.CodeRec (.ref c') qual) (S:FnScope N ps scope)
  (hb:bindArgs (PySem.W.kla_fn name qual params body scope [] pm (.ref c') ctv) ⟨us,[]⟩=N3 (ps.zip us)) (hl:vs.length=ps.length) (r:Vals vs us)
  (ht:PE (cxOf CX0 P w K mg base N qual scope f (.ref c') A outer s H E0).nox body t) (hq:t (start N vs) H Q) :
  k6 (Y0 P w) A (.call (.ref f) ⟨us,[]⟩) (λ r s'=>∃u,r=.ok (.ret u)/\CE outer P w H s Q u s') s:=by
 have d:s.heap.NoLimit:=e0.mod.nolimit.keeps λ b o e=>(e0.bs b o e).1;have g :∀y∈ps.zip us,scope.names.lookup y.1=some .local\/(scope.names.lookup y.1=some .cell/\((cellsFrom (s.heap.objs.size + 1) scope.names []).lookup y.1).isSome=true):=λ ⟨n,v⟩ hy=>by
  rcases S.par n (M6 hy).1 with q|q
  ·exact .inl q
  ·exact .inr ⟨q,D7 _ _ _ (.inl q)⟩
 refine PySem.W.kla_callFunE hr.depth ho rfl S.co S.gen rfl hcd ?_;rw [hb];refine F0 (j13 S.kind g λ l i c x=>?_);subst i;refine ⟨d.keeps x.toInCall.keep,PySem.W.kla_codeExpr ?_⟩;have I:Inv (cxOf CX0 P w K mg base N qual scope f (.ref c') A outer s H E0) [] (start N vs) H c:=z85 S hr.hd e0 hl r x;refine Q3 (ht [] c (start N vs) H _ (I.wish _) hq) (λ u s' a=>?_) λ e s' a=>a.elim;obtain ⟨v,h,J,j,q⟩:=a;exact ⟨u,rfl,v,h,J.os,J.bare,J.base,J.hok,j,q⟩
def CodeK (K:c0) (c T:Addr):Prop:=
 ∃o vs file tf flags tg inF text tt,K.lookup c=some o/\o.cls=.type "code"/\o.data=.fields vs/\vs[11]? = some (.ref T)/\vs.getD 11 .none=.ref T/\vs.getD 18 .none=.str file tf/\
  vs.getD 7 .none=.int flags tg/\vs.getD 9 .none=.bool inF/\vs.getD 10 .none=.int text tt/\c≠T
theorem CodeK.hd {K:c0} {c T:Addr} {h:Heap} (x:CodeK K c T) (k:K.In h):W7 h c T:=
 let ⟨o,vs,file,tf,flags,tg,inF,text,tt,e,r⟩:=x;⟨o,vs,file,tf,flags,tg,inF,text,tt,k _ _ e,r⟩
noncomputable def CodeO (c:Addr) (qual:Str):HO:=.ext λ h=>h.CodeRec (.ref c) qual
def LamT (T:Addr) (pos:Pos) (qual:Str) (H:Hp):Prop:=H T=some (.tbl #[])\/∃c',H T=some (.tbl #[E5 pos.line,E5 pos.col,.ref c'])/\H c'=some (CodeO c' qual)
def SameB (T:Addr) (H H':Hp):Prop:=∀b o,b≠T->H b=some o->H' b=some o
def BtMain (h:Heap) (mg:Str->Option Value):Prop:=∃bm o,mg "__builtins__" = some (.ref bm)/\bm≠w9/\bm≠Y1/\h.get? bm=some o/\o.cls=.type "module"/\o.dict=some w9/\o.data=.plain
section
variable {X:Cx} {pins:List (Addr×Obj)} {σ:St} {H:Hp} {s:A0} {T:Addr} {lpos:Pos} {params:Arguments} {body:Expr} {scope:Scope}
theorem zfa {P:Program} {w:S0} {H:Hp} {h:Heap} {c:Addr} {qual:Str} (x:h.CodeRec (.ref c) qual):ObjOk P w H h c (CodeO c qual):=by
 refine ⟨x,?_,λ g i y k=>?_⟩
 ·obtain ⟨f,b,d,t,e,a,_⟩:=x;cases e;exact ⟨_,a⟩
 ·obtain ⟨f,b,d,t,e,a,r⟩:=y;cases e;exact ⟨c,b,d,t,rfl,k _ a,r⟩
theorem zff {c:Addr} {Q:Value->A0->Prop} {E:Value->A0->Prop} (I:Inv X pins σ H s) (B:BtMain X.base X.mg) (hcode:X.env.code=.ref c) (C:W7 X.base c T) (hT:LamT T lpos (X.env.qual++"<lambda>") H)
  (hcl:j17 scope X.env=N3 []) (hdef:defaultsOf params X.env=([],[]))
  (h :∀f c' ctv pm H' s',SameB T H H'->LamT T lpos (X.env.qual++"<lambda>") H'->Inv X pins σ H' s'->FpOk X pins H' f->s'.heap.get? f=some (O5 "<lambda>" (X.env.qual++"<lambda>") params body scope [] pm c' ctv)->H' c'=some (CodeO c' (X.env.qual++"<lambda>"))->Q (.ref f) s') :
  R0 (Y0 X.prog X.w) X.A (p4 (.Lambda params body scope lpos) X.env) Q E s:=by
 have N:s.heap.Ns Y1 X.mg:=by obtain ⟨o,G,L,e,r⟩:=I.ok.mod.glob;exact ⟨o,G,L,I.bk _ _ e,r⟩
 have O:W7 s.heap c T:=C.keeps I.bk;have m :∀{a:Array Value},H T=some (.tbl a)->s.heap.get? T=some (U7 a):=λ e=>I.hok T _ e;have y :∀{b:Addr} {o:Obj} {a:Array Value},X.base.get? b=some o->H T=some (.tbl a)->b≠T:=λ {b o a} e z q=>by have:=(I.bs b o e).2;rw [q,z] at this;cases this
 have D :∀{a:Array Value},H T=some (.tbl a)->s.heap.BuiltinsAt X.mg T:=λ z=>by obtain ⟨Y,o,b1,b2,b3,p,b5⟩:=B;exact ⟨Y,o,b1,b2,b3,y p z,I.bk _ _ p,b5⟩
 have V :∀{a:Array Value},H T=some (.tbl a)->Y1≠T:=λ z=>by obtain ⟨o,G,L,e,r⟩:=I.ok.mod.glob;exact y e z
 refine PySem.W.kla_eval hdef ?_;rcases hT with z|⟨c',z,zc⟩
 ·refine PySem.W.kla_makeFunction hcl I.ok.glob N hcode O (m z) trivial rfl (V z) (D z) λ c' ctv h' j hx i F S a0=>?_;have cn:H c'=none:=I.hok.fresh i;have x:T < s.heap.objs.size:=M0 (m z);have cT:c'≠T:=λ q=>E3 _ (i1 (q ▸ x) i);have k :∀b o,b≠T->s.heap.get? b=some o->(h'.push (O5 "<lambda>" (X.env.qual++"<lambda>") params body scope [] ((X.mg "__name__").getD .none) c' ctv)).get? b=some o:=λ b o n e=>y0 _ (hx b o n e);have K:upd (upd H T (.tbl #[E5 lpos.line,E5 lpos.col,.ref c'])) c' (CodeO c' (X.env.qual++"<lambda>")) T=some (.tbl #[E5 lpos.line,E5 lpos.col,.ref c']):=by rw [upd_ne cT.symm];exact z01
  have old :∀b u,b≠T->H b=some u->upd (upd H T (.tbl #[E5 lpos.line,E5 lpos.col,.ref c'])) c' (CodeO c' (X.env.qual++"<lambda>")) b=some u:=λ b u n e=>by rw [upd_ne (z0f e cn),upd_ne n];exact e
  have l :∀{b:Addr},H b=none->b≠T:=λ e q=>by rw [q,z] at e;cases e
  have g :∀{b:Addr} {u:HO},H b=some u->(∀a,u≠.tbl a)->b≠T:=λ e n q=>by rw [q,z] at e;exact n _ (C1 e).symm
  have M:(h'.push (O5 "<lambda>" (X.env.qual++"<lambda>") params body scope [] ((X.mg "__name__").getD .none) c' ctv)).get? T=some { cls:=.none,data:=.fields #[E5 lpos.line,E5 lpos.col,.ref c'] }:=y0 _ a0;have d:s.heap.objs.size<=h'.objs.size:=L0 i (X6 F);have J:=I.un (h':=h'.push (O5 "<lambda>" (X.env.qual++"<lambda>") params body scope [] ((X.mg "__name__").getD .none) c' ctv)) (t':=j) (H':=upd (upd H T (.tbl #[E5 lpos.line,E5 lpos.col,.ref c'])) c' (CodeO c' (X.env.qual++"<lambda>"))) ⟨λ b o e n _ _=>k b o (l n) e,λ b o e n _ _=>⟨o.slots,k b o (l n) e⟩,λ b o e n _=>by
    rw [upd_ne (show b≠c' from T0 (i1 (M0 e) i)),upd_ne (l n)];exact n,λ b o e _=>by
    by_cases q:b=T
    ·exact ⟨_,q ▸ M⟩
    ·exact ⟨_,k b o q e⟩,λ b xs e=>old _ _ (g e λ _ q=>by cases q) e,λ b o u e=>old _ _ (g e λ _ q=>by cases q) e,λ b a e=>by
    by_cases q:b=T
    ·subst q;rw [z] at e;cases e;exact ⟨#[E5 lpos.line,E5 lpos.col,.ref c'],by rw [K];simp⟩
    ·exact ⟨#[],by rw [old _ _ q e];simp⟩⟩ λ b u e=>by
    by_cases q1:b=c'
    ·subst q1;rw [z01] at e;cases e;refine zfa ?_;obtain ⟨P,oc,U,t,R,ho,r⟩:=S;exact ⟨P,oc,U,t,R,y0 _ ho,r⟩
    ·rw [upd_ne q1] at e;by_cases q2:b=T
     ·subst q2;rw [z01] at e;cases e;exact M
     ·rw [upd_ne q2] at e;exact (I.hok b u e).stay (λ c v Z q=>k c v (Z.elim (λ w=>w ▸ q2) λ w=>g w λ _ q=>by cases q) q) (λ c q=>old _ _ (g q λ _ q=>by cases q) q) λ c xs q=>old _ _ (g q λ _ q=>by cases q) q
  refine h h'.objs.size c' ctv _ _ _ (λ b o n e=>old b o n e) (.inr ⟨c',K,z01⟩) J (I.fpOk d ?_) (O0 _ rfl) z01;rw [upd_ne (F2 F),upd_ne (F2 (i1 x d))];exact I.hok.fresh d
 ·refine PySem.W.kla_makeFunctionHit (cv:=.ref c') hcl I.ok.glob N hcode O (m z) trivial (by simp [codeAmong,E5]) (D z) λ ctv h' j hk d=>?_;have J:=I.kept (h':=h'.push (O5 "<lambda>" (X.env.qual++"<lambda>") params body scope [] ((X.mg "__name__").getD .none) c' ctv)) (t':=j) λ b o e=>y0 _ (hk b o e);exact h h'.objs.size c' ctv _ _ _ (λ b o n e=>e) (.inr ⟨c',z,zc⟩) J (I.fpOk d (I.hok.fresh d)) (O0 _ rfl) zc
noncomputable def tSortL (K:c0) (T:Addr) (lpos:Pos) (qual:Str) (N:List Str) (tb:TE) (ta:TA):TE:=λ σ H Q=>ta σ H λ vs H1=>∃(l:Addr) (ys:List V) (kz:List Int),vs=[.ref l]/\SqL K H1 l ys/\kz.length=ys.length/\ys.length < 64/\LamT T lpos qual H1/\
 ∀H2,SameB T H1 H2->LamT T lpos qual H2->(∀(i:Nat) (y:V) (k:Int),ys[i]? = some y->kz[i]? = some k->tb (start N [y]) H2 λ v H3=>v=.int k/\H3=H2)/\∀D out,H2 D=none->KeyOut kz ys out->Q (.ref D) (upd H2 D (.lst out))
theorem SameB.seqL {K:c0} {H H':Hp} {a:Addr} {xs:List V} (s:SameB T H H') (hT :∃ps,H T=some (.tbl ps)) (h:SqL K H a xs):SqL K H' a xs:=by
 obtain ⟨ps,z⟩:=hT;rcases h with e|e
 ·refine .inl ?_;rcases e with e|⟨o,e⟩
  ·exact .inl (s _ _ (λ q=>by rw [q,z] at e;cases e) e)
  ·exact .inr ⟨o,s _ _ (λ q=>by rw [q,z] at e;cases e) e⟩
 ·exact .inr e
theorem LamT.tb {qual:Str} (h:LamT T lpos qual H) :∃ps,H T=some (.tbl ps):=by
 rcases h with z|⟨_,z,_⟩
 ·exact ⟨_,z⟩
 ·exact ⟨_,z⟩
theorem zcj {e:Expr} {ta:TA} {p pos kp:Pos} {c:Addr} {k:Nat} {N:List Str} {px:Str} {tb:TE} (B:BtMain X.base X.mg) (hcode:X.env.code=.ref c) (C:CodeK X.K c T) (hr:Room (k + 3) X.A) (hg:Gl X "sorted") (hm:X.mg "sorted" = none) (ha:PA X [e] ta)
  (S:FnScope N [px] scope)
  (hbind :∀(pm ctv:Value) (c':Addr) (u:Value),bindArgs (PySem.W.kla_fn "<lambda>" (X.env.qual++"<lambda>") params body scope [] pm (.ref c') ctv) ⟨[u],[]⟩=N3 [(px,u)])
  (hbody :∀(f c':Addr) (s:A0) (H:Hp),PE (cxOf CX0 X.prog X.w X.K X.mg X.base N (X.env.qual++"<lambda>") scope f (.ref c') X.A.in1.in1 X.stack s H E0).nox body tb)
  (hcl:j17 scope X.env=N3 []:=by rfl) (hdef:defaultsOf params X.env=([],[]):=by rfl)
  (he:Z5 pos (V1 [e] X.env)=(false,p4 e X.env) :: Z5 pos (V1 [] X.env):=by rfl) (hpl:(Z5 pos (V1 [e] X.env)).any (·.1)=false:=by rfl) :
  PE X (.Call (.Name "sorted" p) [e] [⟨some "key",.Lambda params body scope lpos,kp⟩] pos) (tSortL X.K T lpos (X.env.qual++"<lambda>") N tb ta):=by
 intro a0 s σ H Q I h;refine i4 (ld_blt I hg hm boot_sorted (callWith_kw (thn (ha pos a0 s σ H _ I h) λ us s1 ⟨vs,H1,I1,r,q⟩=>?_) he hpl));obtain ⟨l,ys,kz,rfl,E,a1,o,j,q⟩:=q;obtain ⟨u,rfl,rx⟩:=vals1 r;cases rx;refine kws_cons (zff I1 B hcode (C.hd I1.ok.mod.kin) j hcl hdef λ f c' ctv pm m s2 sb F Y M n U=>kws_nil ?_);obtain ⟨qb,qd⟩:=q m sb F;have L:=sb.seqL j.tb E;have G:=Y.pinned (fp:=[f]) (λ b d=>by rw [List.mem_singleton.mp d];exact M) (λ b d=>by rw [List.mem_singleton.mp d];exact ⟨_,n,λ v z=>by cases z⟩);refine zb8 G L a1 o (λ i y u k R hk ru a2 g J=>?_) λ D V s' x ko J=>⟨.ref D,_,J.unpinned,rfl,qd D V x ko⟩
 have pf:=J.pin (f,_) (U0 _ (A5 _ (U0 _ (z0z (.head _) n))));have Z:g.heap.CodeRec (.ref c') (X.env.qual++"<lambda>"):=(J.hok c' _ U).1;refine j15 (R5 (zgu hr.in1.in1 J.env0.in1.in1 pf.1 Z S (by exact hbind pm ctv c' u) rfl (.cons ru .nil) (hbody f c' g m) (qb i y k R hk)) λ r s' a=>?_);obtain ⟨u',rfl,a⟩:=a;obtain ⟨v,H',O,P,rfl,rfl⟩:=J.after a;obtain ⟨t,rfl⟩:=P;exact ⟨t,rfl,O⟩
end
theorem zde {P:Program} {w:S0} {K:c0} {mg mb:Str->Option Value} {CX:CXT} {k:Nat} {fa a:Addr} {fd:FuncData} {x:Str} {sp:Sp} {s₁:A0} {vs:List Value} {ns:List Int} {T c:Addr}
  (KX:K.In s₁.heap) (hns:s₁.heap.Ns Y1 mg) (hb:s₁.heap.Ns w9 mb) (hbb :∀x:Str,x≠"__name__"->mb x=L4 x) (hlim:s₁.heap.NoLimit) (hg:s₁.gens = #[])
  (ha:s₁.heap.get? a=some { cls:=.type "list",data:=.seq vs.toArray }) (hi:S3 vs ns) (hl:ns.length<=sizeLine) (hr:Room k P9) (hT:s₁.heap.get? T=some (U7 #[])) (hKT:K.lookup T=none) (C:W7 s₁.heap c T) (hbm:BtMain s₁.heap mg)
  (F :∀base:Heap,K.In base->base.Ns Y1 mg->BtMain base mg->FnOk P w K mg base CX k fa fd [x] sp) (hbind :∀(s:A0) (u:Value),BindsTo s fd ⟨[u],[]⟩ [(x,u)])
  (hsp :∀H:Hp,H T=some (.tbl #[])->SqL K H a (ns.map V.int)->sp [.ref a] H (λ v _=>v=.bl true) λ _ _ _=>False)
  (hCX :∀H e s',CX [] H s₁ (λ _ _ _=>False) e s'->False) :
  k6 (Y0 P w) P9 (.call (.ref fa) ⟨[.ref a],[]⟩) (λ r s'=>r=.ok (.ret (.bool true))/\OldK s₁.heap s'.heap/\s'.os=s₁.os/\S7 s'.gens) s₁:=by
 have J:=z8n hi;have a1:=hi.length;have aT:a≠T:=λ q=>by rw [q,hT] at ha;cases ha
 have M :∀H:Hp,H T=some (.tbl #[])->SqL K H a (ns.map V.int)->HOk P w H s₁.heap->(∀b u,H b=some u->(b=a/\K.lookup a=none/\∃o g,u=.frz o (.lst g))\/(b=T/\u=.tbl #[]))->
   k6 (Y0 P w) P9 (.call (.ref fa) ⟨[.ref a],[]⟩) (λ r s'=>r=.ok (.ret (.bool true))/\OldK s₁.heap s'.heap/\s'.os=s₁.os/\S7 s'.gens) s₁:=by
  intro H Q X E y;have l :∀{b:Addr} {o:Obj},s₁.heap.get? b=some o->H b=none->(hidT s₁.heap H).get? b=some o:=λ e n=>zfi e n;have L :∀{b:Addr} {o:Obj},s₁.heap.get? b=some o->(∀g n,o.data≠.seq g n)->(∀vs,o.data≠.fields vs)->H b=none:=λ {b o} e d1 d2=>by
   cases q:H b with
   | none=>rfl
   | some u=>
    rcases y b u q with ⟨z,_⟩|⟨z,_⟩
    ·subst z;rw [ha] at e;cases e;exact absurd rfl (d1 _ _)
    ·subst z;rw [hT] at e;cases e;exact absurd rfl (d2 _)
  have i :∀{b:Addr} {m:Str->Option Value},s₁.heap.Ns b m->(hidT s₁.heap H).Ns b m:=λ {b m} ⟨o,es,ep,e,d,r⟩=>⟨o,es,ep,l e (L e (λ _ _ z=>by rw [d] at z;cases z) λ _ z=>by rw [d] at z;cases z),d,r⟩
  have B:K.In (hidT s₁.heap H):=λ b o e=>l (KX b o e) (by
   cases q:H b with
   | none=>rfl
   | some u=>
    rcases y b u q with ⟨z,hK,_⟩|⟨z,_⟩
    ·rw [z,hK] at e;cases e
    ·rw [z,hKT] at e;cases e)
  have a0:BtMain (hidT s₁.heap H) mg:=by obtain ⟨N,o,b1,b2,Z,A,b5,b6,p⟩:=hbm;exact ⟨N,o,b1,b2,Z,l A (L A (λ _ _ z=>by rw [p] at z;cases z) λ _ z=>by rw [p] at z;cases z),b5,b6,p⟩
  have Y:Mod K mg (hidT s₁.heap H):=⟨B,i hns,⟨mb,i hb,hbb⟩,let ⟨mc,h1,h2⟩:=hlim;⟨mc,i h1,h2⟩⟩
  have O:Env0 P w K mg (hidT s₁.heap H) P9 [] s₁ H:=⟨rfl,Y,λ b o e=>zh7 e,Y7 (zei _ _),trivial,λ b hb=>absurd (show b∈([]:List Addr) from hb) (by simp),E,.of_eq hg⟩
  refine R5 ((F _ B (i hns) a0).run P9 [] s₁ H ⟨[.ref a],[]⟩ [.ref a] [.ref a] _ _ hr O (hbind s₁ (.ref a)) (.cons rfl .nil) (hsp H Q X)) λ r s' h=>?_;cases r with
  | error e=>exact (hCX H e s' h).elim
  | ok fl=>
   cases fl with
   | next=>exact o5 h
   | brk=>exact o5 h
   | cont=>exact o5 h
   | ret u=>
    obtain ⟨v,H',os,W,un,I,S,q⟩:=h;have U:v=.bl true:=q;subst U;obtain rfl:u=U3 true:=S;refine ⟨rfl,⟨λ b o e=>?_,λ b o e=>un.there b o e (by simp)⟩,os,W⟩;cases q:H b with
    | none=>exact .inl (un.keep b o e q (by intro z;exact absurd (show b∈([]:List Addr) from z) (by simp)) (by simp))
    | some u=>
     rcases y b u q with ⟨_,_,R,g,rfl⟩|⟨rfl,rfl⟩
     ·have t:=un.frzs b R _ q;obtain ⟨G,_⟩:=E b _ q;obtain ⟨j,_⟩:=I b _ t;rw [e] at G;cases G;exact .inl j
     ·obtain ⟨D,t⟩:=un.tbls b _ q;have j:s'.heap.get? b=some { cls:=.none,data:=.fields (#[]++D) }:=I b _ t;rw [hT] at e;cases e;exact .inr (.inl ⟨(C.tab hT).isCodeTable,rfl,#[],D,rfl,j⟩)
 cases hk:K.lookup a with
 | some o=>
  have e:=KX a o hk;rw [ha] at e;cases e;refine M (λ b=>if b=T then some (.tbl #[]) else none) (if_pos rfl) (.inr ⟨_,vs.toArray,_,hk,rfl,rfl,rfl,by rw [P0,a1];exact hl,by simpa using J⟩) (λ b u z=>?_) (λ b u z=>?_)
  ·by_cases hb:b=T
   ·have f:=(if_pos hb).symm.trans z;cases f;subst hb;exact hT
   ·have f:=(if_neg hb).symm.trans z;cases f
  ·by_cases hb:b=T
   ·have f:=(if_pos hb).symm.trans z;cases f;exact .inr ⟨hb,rfl⟩
   ·have f:=(if_neg hb).symm.trans z;cases f
 | none=>
  refine M (λ b=>if b=T then some (.tbl #[]) else if b=a then some (.frz { cls:=.type "list",data:=.seq vs.toArray } (.lst (ns.map V.int))) else none) (if_pos rfl) (.inl (.inr ⟨{ cls:=.type "list",data:=.seq vs.toArray },(if_neg aT).trans (if_pos rfl)⟩)) (λ b u z=>?_) (λ b u z=>?_)
  ·by_cases hb:b=T
   ·have f:=(if_pos hb).symm.trans z;cases f;subst hb;exact hT
   ·by_cases hc:b=a
    ·have f:=((if_neg hb).trans (if_pos hc)).symm.trans z;cases f;subst hc;exact ⟨ha,by rw [G0];exact hl,vs,_,J,ha⟩
    ·have f:=((if_neg hb).trans (if_neg hc)).symm.trans z;cases f
  ·by_cases hb:b=T
   ·have f:=(if_pos hb).symm.trans z;cases f;exact .inr ⟨hb,rfl⟩
   ·by_cases hc:b=a
    ·have f:=((if_neg hb).trans (if_pos hc)).symm.trans z;cases f;exact .inl ⟨hc,hk,_,_,rfl⟩
    ·have f:=((if_neg hb).trans (if_neg hc)).symm.trans z;cases f
theorem walk_ofT {l:PySem.W.OpenLaw} {n k:Nat} {q:Program} {loose:List Str} {XP:(Str->Option Value)->Heap->Prop} {YP:S0->Heap->Prop} {d:DefRec} {K:W0->c0} {CX:S0->CXT} {sp:S0->Sp} {x:Str} {T c:Addr}
  (hn:l.most=some n) (hn2:n<=sizeLine) (hdf:d.params.defaults=[]) (hr:Room k P9)
  (hY :∀(w:S0) (h:Heap),YP w h->(K w.params).In h/\h.get? T=some (U7 #[])) (hKT :∀P,(K P).lookup T=none) (hC :∀P,CodeK (K P) c T)
  (F :∀(w:S0) (mg:Str->Option Value) (fa:Addr) (h:Heap),(K w.params).In h->h.Ns Y1 mg->mg d.name=some (.ref fa)->
   ∃fd:FuncData,(∀(s:A0) (u:Value),BindsTo s fd ⟨[u],[]⟩ [(x,u)])/\
    ∀base:Heap,(K w.params).In base->base.Ns Y1 mg->BtMain base mg->FnOk l.prog w (K w.params) mg base (CX w) k fa fd [x] (sp w))
  (hsp :∀(w:S0) (H:Hp) (a:Addr) (ns:List Int),ns.length<=n->H T=some (.tbl #[])->SqL (K w.params) H a (ns.map V.int)->sp w [.ref a] H (λ v _=>v=.bl true) λ _ _ _=>False)
  (hCX :∀(w:S0) (H:Hp) (s:A0) (e:Value) (s':A0),CX w [] H s (λ _ _ _=>False) e s'->False) :
  PySem.W.WalkO q loose XP YP l.row.toRowW d [] (λ f vs=>PySem.call f vs):=by
 refine Att.attach_call hn hdf λ w s₀ p mg S fa o X U R a vs ns G Y Z hd a0 B Q C r I=>?_;obtain ⟨KX,y⟩:=hY w _ Y;obtain ⟨fd,L,A⟩:=F w mg fa _ KX G.T.g B;have i:BtMain p.heap mg:=by obtain ⟨i,E,N,O,j,t,M,m⟩:=G.T.bmain;refine ⟨i,E,N,O,λ z=>?_,j,t,M,m⟩;obtain ⟨o,es,ep,e,hd,_⟩:=G.T.g;rw [z,e] at j;cases j;rw [hd] at m;cases m
 exact zde KX G.T.g G.T.b G.T.builtins G.T.nolimit I Q C (L0 r hn2) hr y (hKT _) ((hC _).hd KX) i A L (λ H D J=>hsp w H a ns r D J) λ H e s'=>hCX w H p e s'
theorem Fun.okC {P:Program} {w:S0} {K:c0} {mg:Str->Option Value} {base:Heap} {x qual:Str} {st:Stmt} {f c:Addr} {fd:FuncData} {N ps:List Str} {k:Nat} {sp:Sp} (F:Fun K x qual st f fd) (hc:fd.code=.ref c) (S:FnScope N ps (z07 st)) (len :∀vs H Q E,sp vs H Q E->vs.length=ps.length)
  (hbody :∀(A:X1) (outer:List Env) (s:A0) (H:Hp) (vs:List V) (Q:VK) (E:XK),Room k (A.deeper (W8 qual (z07 st) s.heap.objs.size f (.ref c)))->sp vs H Q E->
   ∃t,PSs (cxOf CX0 P w K mg base N qual (z07 st) f (.ref c) A outer s H E).nox (z3q st) t/\t { nx:=λ _ H'=>Q .non H',rt:=Q } (start N vs) H):FnOk P w K mg base CX0 (k + 1) f fd ps sp:=by
 obtain ⟨j,n,kV,p,o,l,g,m,i,rfl,a,b⟩:=F.ex;obtain rfl:g=.ref c:=hc;refine fn_of a b S len λ A outer s H vs Q E e d=>?_;obtain ⟨t,h,q⟩:=hbody A outer s H vs Q E e d;exact ⟨t,h.nox,q⟩
end L2
set_option maxHeartbeats 4000000
namespace L2
open PySem PySem.Spec PyProof.Rows
end L2
set_option maxHeartbeats 1000000
namespace L2
open PySem PySem.Spec PyProof.Rows
mutual
noncomputable def keyD:PyData->Bool
 | .int _=>true
 | .str _=>false
 | .tuple xs=>keyDs xs
 | .none=>false
 | .bool _=>true
 | .list _=>false
 | .dict _=>false
noncomputable def keyDs:List PyData->Bool
 | []=>true
 | x :: xs=>keyD x && keyDs xs
end
mutual
noncomputable def hashD:PyData->Int
 | .int i=>hashInt i
 | .str _=>0
 | .tuple xs=>A1 (v0 (hashDs xs))
 | .none=>0
 | .bool b=>hashInt (if b=true then 1 else 0)
 | .list _=>0
 | .dict _=>0
noncomputable def hashDs:List PyData->List Int
 | []=>[]
 | x :: xs=>hashD x :: hashDs xs
end
mutual
noncomputable def drawD:PyData->Nat
 | .tuple xs=>drawDs xs + 1
 | .int _=>1
 | .str _=>1
 | .none=>1
 | .bool _=>1
 | .list _=>1
 | .dict _=>1
noncomputable def drawDs:List PyData->Nat
 | []=>0
 | x :: xs=>drawD x + drawDs xs
end
mutual
theorem zb6 {h h':Heap} (k :∀b o vs n,h.get? b=some o->o.cls=.type "tuple"->o.data=.seq vs n->h'.get? b=some o) :∀(d:PyData) (v:Value) (as:List Addr),keyD d=true->Reads h v d as->Reads h' v d as
 | .int i,v,as,_,r=>by cases r;exact .int _ _
 | .str _,_,_,hk,_=>by cases hk
 | .tuple xs,v,as,hk,r=>by
  cases r with
  | tuple e c d r=>exact .tuple (k _ _ _ _ e c d) c d (z8h k xs _ _ hk r)
 | .none,_,_,hk,_=>by cases hk
 | .bool _,_,_,_,r=>by cases r;exact .bool _
 | .list _,_,_,hk,_=>by cases hk
 | .dict _,_,_,hk,_=>by cases hk
theorem z8h {h h':Heap} (k :∀b o vs n,h.get? b=some o->o.cls=.type "tuple"->o.data=.seq vs n->h'.get? b=some o) :∀(ds:List PyData) (vs:List Value) (as:List Addr),keyDs ds=true->j1d h vs ds as->j1d h' vs ds as
 | [],_,_,_,r=>by cases r;exact .nil
 | d :: ds,_,_,c,r=>by
  have c:=Bool.and_eq_true_iff.mp (show (keyD d && keyDs ds)=true from c);cases r with
  | cons a r=>exact .cons (zb6 k d _ _ c.1 a) (z8h k ds _ _ c.2 r)
end
mutual
theorem z8r :∀d:PyData,keyD d=true->d.canLay0=true
 | .int _,_=>rfl
 | .str _,hk=>by cases hk
 | .tuple xs,h=>zab xs h
 | .none,hk=>by cases hk
 | .bool _,_=>rfl
 | .list _,hk=>by cases hk
 | .dict _,hk=>by cases hk
theorem zab :∀ds:List PyData,keyDs ds=true->k7 ds=true
 | [],_=>rfl
 | d :: ds,a=>by have a:=Bool.and_eq_true_iff.mp (show (keyD d && keyDs ds)=true from a);show (d.canLay0 && k7 ds)=true;rw [z8r d a.1,zab ds a.2];rfl
end
section
variable {prog:Program} {w:S0} {E:Value->A0->Prop}
theorem z9t (s:A0) (b:Bool):s.TypeIs (.bool b) "bool":=rfl
theorem ze9 {A:X1} {s:A0} {b:Bool} {Q:Int->A0->Prop} (q:Q (hashInt (if b=true then 1 else 0)) { s with toks:=s.toks + 1 }):R0 (Y0 prog w) A (T6.«int.__hash__» { pos:=[U3 b] }) (λ fin s'=>∃n t,fin=PySem.Fin.done (Flow.ret (U5 n t))/\Q (A1 n) s') E s:=by
 have c:slotArgs "__hash__" 0 { pos:=[U3 b] }=N3 (U3 b,[]):=rfl;have a:Builtin.Int.intOfSelf (U3 b)=N3 (if b=true then 1 else 0):=by cases b<;>rfl
 unfold T6.«int.__hash__» Builtin.Int.intSlot0;refine o0 (o0 ?_);rw [c];refine F0 (o0 ?_);dsimp only;rw [a];refine F0 (F0 ?_);dsimp only;unfold retInt;refine o0 (wpAny_mkInt (F0 ⟨_,_,rfl,?_⟩));cases b
 ·exact q
 ·exact q
mutual
theorem zbc :∀(d:PyData) (v:Value) (as:List Addr) (A:X1) (s:A0) (Q:Int->A0->Prop),keyD d=true->Reads s.heap v d as->A.units + d.depth < cLine->Q (hashD d) { s with toks:=s.toks + drawD d }->R0 (Y0 prog w) A (pyHash v) Q E s
 | .int i,v,as,A,s,Q,_,r,_,q=>by cases r;exact wpAny_pyHash_int q
 | .str _,_,_,_,_,_,hk,_,_,_=>by cases hk
 | .tuple xs,v,as,A,s,Q,hk,r,f,q=>by
  cases r with
  | @tuple a o vs n _ _ e c d r=>
   have f:A.units + (L3 xs + 1) < cLine:=f;have ty:s.TypeIs (.ref a) "tuple":=⟨o,e,c⟩
   refine W.pyHash_slot (v:=.ref a) ty F.slot_tuple_hash F.entry_tuple_hash (F.args_tuple_hash_1 _) rfl (.inr (by omega)) ?_;refine o0 (F0 ?_);refine o0 (wpAny_tupleItemsOf e d ?_);refine o0 ?_;rw [<-Z6];refine z6m xs vs.toList _ #[] A.in1 s _ hk r (show A.units + 1 + L3 xs < cLine by omega) ?_;refine o0 (wpAny_mkInt (F0 ⟨_,_,rfl,?_⟩));simpa [hashD,drawD,j0e] using q
 | .none,_,_,_,_,_,hk,_,_,_=>by cases hk
 | .bool b,v,as,A,s,Q,_,r,f,q=>by cases r;exact W.pyHash_slot (v:=.bool b) (T:="bool") (z9t _ _) F.slot_bool_hash F.entry_int_hash (F.args_int_hash_1 _) rfl (.inl rfl) (ze9 q)
 | .list _,_,_,_,_,_,hk,_,_,_=>by cases hk
 | .dict _,_,_,_,_,_,hk,_,_,_=>by cases hk
theorem z6m :∀(ds:List PyData) (vs:List Value) (as:List Addr) (hs:Array Int) (A:X1) (s:A0) (Q:Array Int->A0->Prop),keyDs ds=true->j1d s.heap vs ds as->A.units + L3 ds < cLine->Q (hs++(hashDs ds).toArray) { s with toks:=s.toks + drawDs ds }->
  R0 (Y0 prog w) A (O9 vs hs λ x hs=>do let h <-pyHash x;N3 (A3 (hs.push h))) Q E s
 | [],_,_,hs,A,s,Q,_,r,_,q=>by cases r;rw [d7];exact F0 (by simpa [hashDs,drawDs] using q)
 | d :: ds,_,_,hs,A,s,Q,b,r,c,q=>by
  have b:=Bool.and_eq_true_iff.mp (show (keyD d && keyDs ds)=true from b);have c:A.units + max d.depth (L3 ds) < cLine:=c;cases r with
  | @cons v vs _ _ as bs a r=>rw [T5];refine o0 (o0 (zbc d v as A s _ b.1 a (by omega) (F0 ?_)));refine z6m ds vs bs (hs.push (hashD d)) A { s with toks:=s.toks + drawD d } Q b.2 r (by omega) ?_;simpa [hashDs,drawDs,j0e] using q
end
theorem zc9 {a:Addr} {n:Nat} {o:Obj} {vs:Array Value} {m:Nat} {A:X1} {s:A0} {Q:Bool->A0->Prop} (e:s.heap.get? a=some o) (c:o.cls=.type "tuple") (d:o.data=.seq vs m)
  (h:R0 (Y0 prog w) A (O9 vs.toList ((none:Option Bool),()) λ y _=>do
    let b <-G4 n y
    if (!b)=true then N3 (ForInStep.done (some false,())) else N3 (A3 (none,())))
   (λ r s'=>r.1=none/\Q true s') E s):R0 (Y0 prog w) A (G4 (n + 1) (.ref a)) Q E s:=by
 rw [eqIsQuiet.eq_2];have ty:s.TypeIs (.ref a) "tuple":=⟨o,e,c⟩
 refine o0 (wpAny_specialOf (r:=some (.builtin "tuple.__eq__")) ty (by rfl) ?_);refine o0 (Y9 (T:="tuple") ty isSubtype_tuple_tuple ?_);simp only [j0c,Y5,if_false];refine o0 (V8 e d (o0 ?_));show R0 _ _ (O9 vs _ _) _ _ _;rw [<-Z6];refine Q3 h (λ r s' h=>?_) (λ _ _ h=>h);obtain ⟨f,j⟩:=r;obtain ⟨g,i⟩:=h;cases (show f=none from g);exact F0 i
mutual
theorem z86 :∀(d:PyData) (v:Value) (as:List Addr) (n:Nat) (A:X1) (s:A0) (Q:Bool->A0->Prop),keyD d=true->Reads s.heap v d as->d.depth<=n->Q true s->R0 (Y0 prog w) A (G4 n v) Q E s
 | .int i,v,as,n,A,s,Q,_,r,_,q=>by cases r;rw [eqIsQuiet.eq_3];exact F0 q;intro a h;cases h
 | .str _,_,_,_,_,_,_,hk,_,_,_=>by cases hk
 | .tuple xs,v,as,n,A,s,Q,hk,r,b,q=>by
  cases r with
  | @tuple a o vs m _ _ e c d r=>
   have b:L3 xs + 1<=n:=b;obtain ⟨n,rfl⟩ :∃k,n=k + 1:=⟨n - 1,by omega⟩
   exact zc9 e c d (z5v xs vs.toList _ n A s _ hk r (by omega) ⟨rfl,q⟩)
 | .none,_,_,_,_,_,_,hk,_,_,_=>by cases hk
 | .bool _,v,as,n,A,s,Q,_,r,_,q=>by cases r;rw [eqIsQuiet.eq_3];exact F0 q;intro a h;cases h
 | .list _,_,_,_,_,_,_,hk,_,_,_=>by cases hk
 | .dict _,_,_,_,_,_,_,hk,_,_,_=>by cases hk
theorem z5v :∀(ds:List PyData) (vs:List Value) (as:List Addr) (n:Nat) (A:X1) (s:A0) (Q:Option Bool×Unit->A0->Prop),keyDs ds=true->j1d s.heap vs ds as->L3 ds<=n->Q (none,()) s->
  R0 (Y0 prog w) A (O9 vs ((none:Option Bool),()) λ y _=>do
    let b <-G4 n y
    if (!b)=true then N3 (ForInStep.done (some false,())) else N3 (A3 (none,()))) Q E s
 | [],_,_,n,A,s,Q,_,r,_,q=>by cases r;rw [d7];exact F0 q
 | d :: ds,_,_,n,A,s,Q,c,r,e,q=>by
  have c:=Bool.and_eq_true_iff.mp (show (keyD d && keyDs ds)=true from c);have e:max d.depth (L3 ds)<=n:=e;cases r with
  | @cons v vs _ _ as bs a r=>rw [T5];refine o0 (o0 (z86 d v as n A s _ c.1 a (by omega) ?_));exact F0 (z5v ds vs bs n A s Q c.2 r (by omega) q)
end
end
open Classical in
noncomputable instance:DecidableEq PyData:=λ a b=>P5 (a=b)
def plD (d:PyData):Prop:=∃(bs:List Bool) (n:Int),d=.tuple [.tuple (bs.map .bool),.int n]
theorem z81 :∀bs:List Bool,keyDs (bs.map .bool)=true
 | []=>rfl
 | _ :: bs=>z81 bs
theorem plD.key {d:PyData} (h:plD d):keyD d=true:=by obtain ⟨bs,n,rfl⟩:=h;show (keyDs (bs.map .bool) && (true && true))=true;rw [z81];rfl
theorem z94 :∀bs cs:List Bool,D6 (bs.map .bool) (cs.map .bool)=decide (bs=cs)
 | [],[]=>by simp [D6]
 | [],_ :: _=>by simp [D6]
 | _ :: _,[]=>by simp [D6]
 | b :: bs,c :: cs=>by have h:=z94 bs cs;simp only [X0,D6,j22,h];cases b<;>cases c<;>simp
theorem z8c {bs cs:List Bool} (h:bs.map PyData.bool=cs.map PyData.bool):bs=cs:=by
 induction bs generalizing cs with
 | nil=>cases cs with
  | nil=>rfl
  | cons=>cases h
 | cons b bs ih=>cases cs with
  | nil=>cases h
  | cons c cs=>rw [X0,X0] at h;injection h with h1 h2;injection h1 with h1;rw [h1,ih h2]
theorem plD.eqv {d e:PyData} (hd:plD d) (he:plD e) {p:Prop} [Decidable p] (hp:d=e↔p):d.eqv e=decide p:=by
 obtain ⟨bs,n,rfl⟩:=hd;obtain ⟨a,m,rfl⟩:=he;have h:=z94 bs a;rw [Bool.eq_iff_iff,decide_eq_true_iff,<-hp];simp only [j22,D6,h,Bool.and_true,Z3,decide_eq_true_eq,beq_iff_eq];constructor
 ·rintro ⟨h1,h2⟩;rw [h1,h2]
 ·intro z;injection z with z;injection z with z1 z2;injection z1 with z1;injection z2 with z2 _;injection z2 with z2;exact ⟨z8c z1,z2⟩
noncomputable def z3b (prog:Program) (w:S0):HeapKind prog w PyData where
 is h d a:=plD d/\d.depth<=7/\∃as,Reads h (.ref a) d as
 hash:=hashD
 draws:=drawD
 room A:=A.units + 8 < cLine
 inj:=λ {h a x y} hx hy=>by obtain ⟨kx,_,as,rx⟩:=hx;obtain ⟨_,_,bs,ry⟩:=hy;exact SeqAt.Reads.unique x y _ as bs (z8r x kx.key) rx ry
 keeps:=λ {h h' k a d o es ep} hk e hd sb=>by
  obtain ⟨k1,k2,as,r⟩:=hk;refine ⟨k1,k2,as,zb6 (λ b o' vs n eb _ eo=>?_) k _ as k1.key r⟩;have nb:b≠d:=λ z=>by rw [z,e] at eb;cases eb;rw [hd] at eo;cases eo
  rw [sb.2 b nb];exact eb
 pyHash:=λ {A E s k a Q} hr hk q=>by obtain ⟨k1,k2,as,r⟩:=hk;exact zbc k _ as A s Q k1.key r (by omega) q
 eqBool:=λ {A E s x y a b Q} hr hx hy q=>by obtain ⟨x1,x2,as,rx⟩:=hx;obtain ⟨y1,y2,bs,ry⟩:=hy;refine SeqAt.eqAt_reads x y A s _ _ as bs rx ry (z8r x x1.key) (z8r y y1.key) (by have:=Nat.min_le_left x.depth y.depth;omega) prog w E Q ?_;rw [plD.eqv (p:=x=y) x1 y1 Iff.rfl];exact q
 quiet:=λ {A E s k a Q} hk q=>by obtain ⟨k1,k2,as,r⟩:=hk;exact z86 k _ as 8 A s Q k1.key r (by omega) q
def DcAt (h:Heap) (d:Addr) (es:Array DictEntry) (ep:Nat):Prop:=∃o,h.get? d=some o/\o.ExactDict/\o.data=.dict es ep
noncomputable def nsE (k:PyData×Addr):DictEntry:={ hash:=hashD k.1,key:=.ref k.2,val:=.bool true }
noncomputable def NsO (a:Addr) (ks:List (PyData×Addr)):HO:=.ext λ h=>(a == j4)=false/\ks.length<=sizeLine/\(ks.map (·.1)).Nodup/\∃ep,DcAt h a (ks.map nsE).toArray ep
def NsAt (K:c0) (H:Hp) (a:Addr) (ks:List (PyData×Addr)):Prop:=Rd H a (NsO a ks)/\∀k∈ks,plD k.1/\k.1.depth<=7/\IsPd K H k.1 (.ref k.2)
noncomputable def putN (ks:List (PyData×Addr)) (d:PyData) (b:Addr):List (PyData×Addr):=if d∈ks.map (·.1) then ks else ks++[(d,b)]
section
variable {X:Cx} {pins:List (Addr×Obj)} {σ:St} {H:Hp} {s:A0} {a b:Addr} {ks:List (PyData×Addr)} {d:PyData} {A:X1} {E:Value->A0->Prop}
theorem ns_is (I:Inv X pins σ H s) (hk:plD d) (hd:d.depth<=7) (h:IsPd X.K H d (.ref b)):(z3b X.prog X.w).is s.heap d b:=by obtain ⟨a,r⟩:=z4x I d (.ref b) (.ref b) h rfl;exact ⟨hk,hd,a,r⟩
theorem za5 (I:Inv X pins σ H s) (h:NsAt X.K H a ks):(a == j4)=false/\ks.length<=sizeLine/\(ks.map (·.1)).Nodup/\(∃ep,DcAt s.heap a (ks.map nsE).toArray ep)/\s.heap.DictOfH (z3b X.prog X.w) a (ks.map λ k=>(k.1,k.2,U3 true)):=by
 obtain ⟨f,e⟩:=h;obtain ⟨⟨i,n,b,ep,c⟩,_⟩:=(show ObjOk X.prog X.w H s.heap a (NsO a ks) from f.ok I.hok)
 refine ⟨i,n,b,⟨ep,c⟩,?_⟩;obtain ⟨o,r,j,m⟩:=c;refine ⟨o,_,ep,r,j,m,?_,λ x l=>?_,?_⟩
 ·rw [Q2];rfl
 ·obtain ⟨k,p,rfl⟩:=List.mem_map.mp l;obtain ⟨d,q,g⟩:=e k p;exact ns_is I d q g
 ·rw [Q2];exact b
theorem at_ns:(L8 (ks.map λ k=>(k.1,k.2,U3 true)) d).isSome=decide (d∈ks.map (·.1)):=by
 unfold L8;rw [g6,Bool.eq_iff_iff,List.find?_isSome,decide_eq_true_iff];constructor
 ·rintro ⟨x,hx,e⟩;obtain ⟨k,a,rfl⟩:=List.mem_map.mp hx;exact List.mem_map.mpr ⟨k,a,of_decide_eq_true e⟩
 ·intro h;obtain ⟨k,a,e⟩:=List.mem_map.mp h;exact ⟨_,List.mem_map.mpr ⟨k,a,rfl⟩,decide_eq_true e⟩
theorem z95:storedH (ks.map λ k=>(k.1,k.2,U3 true)) d b (.bool true)=(putN ks d b).map λ k=>(k.1,k.2,U3 true):=by
 unfold storedH putN;rw [at_ns];by_cases z:d∈ks.map (·.1)
 ·rw [if_pos (decide_eq_true z),if_pos z,Q2];refine P6 λ k a=>?_;show putAt d (.bool true) (k.1,k.2,U3 true)=_;unfold putAt;split<;>rfl
 ·rw [if_neg (by rw [decide_eq_false z];decide),if_neg z,C2];rfl
theorem zaz:(putN ks d b).length<=ks.length + 1:=by
 unfold putN;split
 ·omega
 ·rw [J0];exact C0 _
theorem ns_put {Q:Unit->A0->Prop} (hu:A.units + 9 < cLine) (I:Inv X pins σ H s) (ha:H a=some (NsO a ks)) (h:NsAt X.K H a ks) (hl:ks.length < sizeLine) (hk:plD d) (hd:d.depth<=7) (hb:IsPd X.K H d (.ref b)) (q :∀s',Inv X pins σ (upd H a (NsO a (putN ks d b))) s'->Q () s'):R0 (Y0 X.prog X.w) A (setItem (.ref a) (.ref b) (.bool true)) Q E s:=by
 obtain ⟨x,m,L,_,D⟩:=za5 I h;refine wpAny_setItem_heap (knd:=z3b X.prog X.w) (hsz:=by rw [G0];exact m) (show A.units + 1 + 8 < cLine by omega) (ns_is I hk hd hb) D λ M e n=>q _ ?_;rw [z95] at e;obtain ⟨o,B,C,c,j,v,r,_,f⟩:=e;have F:B=((putN ks d b).map nsE).toArray:=by apply Array.ext';rw [r,Q2];rfl
 subst F;refine z4d I (by rw [ha];exact True.intro) n ⟨o,c⟩ ⟨⟨x,by have:=zaz (ks:=ks) (d:=d) (b:=b);omega,?_,C,o,c,j,v⟩,⟨o,c⟩,λ G J p k=>?_⟩
 ·rw [Q2] at f;exact f
 ·obtain ⟨u,l,y,z,g,i,t⟩:=p;exact ⟨u,l,y,z,g,k g i,t⟩
end
noncomputable def rInN (K:c0) (neg:Bool):R2:=λ y x H Q=>∃a b ks d,x=.ref a/\y=.ref b/\NsAt K H a ks/\plD d/\d.depth<=7/\IsPd K H d (.ref b)/\Q (.bl (xor neg (decide (d∈ks.map (·.1))))) H
noncomputable def sNPut (K:c0) (td ty tv:TE):TS:=λ D σ H=>tv σ H λ v H1=>td σ H1 λ x H2=>ty σ H2 λ y H3=>∃a b ks d,v=.bl true/\x=.ref a/\y=.ref b/\H3 a=some (NsO a ks)/\NsAt K H3 a ks/\ks.length < sizeLine/\plD d/\d.depth<=7/\IsPd K H3 d (.ref b)/\D.nx σ (upd H3 a (NsO a (putN ks d b)))
section
variable {X:Cx}
theorem zfo {P:Program} {w:S0} {H:Hp} (h:Heap) (hb:j4 < h.objs.size):ObjOk P w H (h.push { cls:=.type "dict",data:=.dict #[] }) h.objs.size (NsO h.objs.size []):=by refine ⟨⟨beq_eq_false_iff_ne.mpr (P3 (T0 hb)),R1 _,W9,0,_,O0 _ rfl,⟨rfl,rfl,rfl⟩,rfl⟩,⟨_,O0 _ rfl⟩,λ i j p k=>?_⟩;obtain ⟨g,c,d,e,a,b,f⟩:=p;exact ⟨g,c,d,e,a,k a b,f⟩
theorem zdx {k:Nat} (hr:Room k X.A):OpR X (U2 .NotIn) (rInN X.K true):=by intro r s σ H y x u v Q I g m h;obtain ⟨a,b,t,d,rfl,rfl,e,i,c,f,q⟩:=h;cases g;cases m;have o:=hr.units;obtain ⟨j,n,p,_,l⟩:=za5 I e;refine X9 (knd:=z3b X.prog X.w) (show X.A.units + 1 + 8 < cLine by omega) (ns_is I i c f) j l ?_;rw [at_ns];rw [Bool.true_xor] at q;exact ⟨.bl _,H,I.tok _,rfl,q⟩
theorem zgf {o i value:Expr} {pos pos':Pos} {td ty tv:TE} {k:Nat} (hr:Room k X.A) (ho:PE X o td) (hi:PE X i ty) (hv:PE X value tv) (hs:m8 value (some (.Subscript o i pos')) pos.line X.env=N3 false) :
  PS X (.Assign [.Subscript o i pos'] value pos) (sNPut X.K td ty tv):=by
 intro c s σ H D I h;refine wpAny_Assign_Subscript (thn (hv c s σ H _ I h) λ r f ⟨v,H1,I1,rv,q1⟩=>thn (ho c f σ H1 _ I1 q1) λ u j ⟨x,H2,I2,rx,q2⟩=>thn (hi c j σ H2 _ I2 q2) λ g l ⟨y,H3,I3,ry,a,b,ks,d,ev,ex,ey,h0,h1,h2,h3,h4,h5,q3⟩=>?_) hs;subst ev ex ey;obtain rfl:u=F1 a:=rx;obtain rfl:g=F1 b:=ry;obtain rfl:r=U3 true:=rv;have n:=hr.units;exact ns_put (by omega) I3 h0 h1 h2 h3 h4 h5 λ m e=>⟨σ,_,e,q3⟩
end
section
variable {X:Cx} {pins:List (Addr×Obj)} {σ:St} {H:Hp} {s:A0} {a b:Addr} {ks:List (PyData×Addr)} {d:PyData} {A:X1} {E:Value->A0->Prop}
theorem ns_set {Q:Unit->A0->Prop} (hu:A.units + 8 < cLine) (I:Inv X pins σ H s) (ha:H a=some (NsO a ks)) (h:NsAt X.K H a ks) (hl:ks.length < sizeLine) (hk:plD d) (hd:d.depth<=7) (hb:IsPd X.K H d (.ref b)) (q :∀s',Inv X pins σ (upd H a (NsO a (putN ks d b))) s'->Q () s'):R0 (Y0 X.prog X.w) A (j0j a (.ref b) (.bool true)) Q E s:=by
 obtain ⟨x,m,L,_,D⟩:=za5 I h;refine wpAny_dictSet_heap (knd:=z3b X.prog X.w) (hsz:=by rw [G0];exact m) hu (ns_is I hk hd hb) D λ M e n=>q _ ?_;rw [z95] at e;obtain ⟨o,B,C,c,j,v,r,_,f⟩:=e;have F:B=((putN ks d b).map nsE).toArray:=by apply Array.ext';rw [r,Q2];rfl
 subst F;refine z4d I (by rw [ha];exact True.intro) n ⟨o,c⟩ ⟨⟨x,by have:=zaz (ks:=ks) (d:=d) (b:=b);omega,?_,C,o,c,j,v⟩,⟨o,c⟩,λ G J p k=>?_⟩
 ·rw [Q2] at f;exact f
 ·obtain ⟨u,l,y,z,g,i,t⟩:=p;exact ⟨u,l,y,z,g,k g i,t⟩
end
noncomputable def zgm (K:c0) (tk tv:TE):TE:=λ σ H Q=>∀p,H p=none->tk σ (upd H p (NsO p [])) λ x H1=>tv σ H1 λ v H2=>∃b d,v=.bl true/\x=.ref b/\H2 p=some (NsO p [])/\plD d/\d.depth<=7/\IsPd K H2 d (.ref b)/\Q (.ref p) (upd H2 p (NsO p [(d,b)]))
theorem ze1 {X:Cx} {k v:Expr} {pos:Pos} {tk tv:TE} {n:Nat} (hr:Room n X.A) (hk:PE X k tk) (hv:PE X v tv):PE X (.Dict [some k] [v] pos) (zgm X.K tk tv):=by intro c s σ H Q I h;have l:=hr.units;have e:=I.laid (a:=s.heap.objs.size) (o:=NsO s.heap.objs.size []) (t':=s.toks) (λ _ _ q=>y0 _ q) (C0 _) (zfo s.heap I.big);refine wpAny_Dict_any rfl rfl (by simp) (show 1<=15 by decide) (pairTrees_cons_walk (thn (hk c _ σ _ _ e (h _ (I.hok.fresh (C0 _)))) λ u i ⟨x,H1,I1,rx,q1⟩=>thn (hv c i σ H1 _ I1 q1) λ g m ⟨y,H2,I2,ry,b,d,ev,ex,h0,h1,h2,h3,q2⟩=>pairTrees_nil_walk ?_));subst ev ex;obtain rfl:u=F1 b:=rx;obtain rfl:g=U3 true:=ry;unfold storeAll;rw [T5];refine o0 (o0 (ns_set (by omega) I2 h0 ⟨.inl h0,λ k hk=>absurd hk B0⟩ (show 0 < sizeLine by decide) h1 h2 h3 λ j f=>?_));refine F0 ?_;exact F0 ⟨.ref s.heap.objs.size,_,f,rfl,q2⟩
theorem zfm {ks:List (PyData×Addr)} {d:PyData} {b:Addr} (h:d∉ks.map (·.1)):putN ks d b=ks++[(d,b)]:=by unfold putN;rw [if_neg h]
end L2
set_option maxHeartbeats 400000
namespace L2
open PySem PySem.Spec PyProof.Rows
section
variable {X:Cx}
theorem zhh {o:Expr} {to:TE} {apos cpos:Pos} (ho:PE X o to) (hbase:i6 o "pop" X.env (p4 o X.env)=p4 o X.env:=by rfl) (hline:(apos.endLine == cpos.line)=true:=by rfl):PE X (.Call (.Attribute o "pop" apos) [] [] cpos) (tBM0 X.K "list" rPop to):=
 pe_bm0 U9 PySem.F.slot_list_pop PySem.F.type_list_pop mt_pop ho hbase hline
end
end L2
set_option maxHeartbeats 0
namespace K16
open PySem PySem.W PyProof.Rows TJ L2
noncomputable abbrev PX:Program:=PySem.Challenge.pw_talejudge_k16_whole_zones_judge
noncomputable abbrev annX:Option Value:=some (.ref 6)
noncomputable def tp (a b:Str) (t:Nat):Obj:={ cls:=.type "tuple",data:=.seq #[.str a t,.str b (t + 1)] 0 }
noncomputable def tups:List Obj:=[tp "register" "read" 394,tp "register" "write" 396,tp "counter" "read" 398,tp "counter" "add" 400,tp "queue" "put" 402,tp "queue" "take" 404,tp "set" "put" 406,tp "set" "cut" 408,tp "set" "has" 410,tp "cell" "read" 412,tp "cell" "write" 414,tp "cell" "swap" 416]
noncomputable def insAll:List Obj->Nat->BT->BT
 | [],_,t=>t
 | x :: r,n,t=>insAll r (n + 1) (t.ins n x)
noncomputable def treeD (P:W0) (oD:Obj):BT:=insAll tups 151 ((K16.pre.tree_167 P).ins 150 oD)
noncomputable def FX (w:S0) (os:c3) (oD:Obj) (tk:Nat):SharedT:=⟨treeD w.params oD,163,{},⟨[]⟩,{},tk,os⟩
noncomputable abbrev cdX:Code:=.body (behindTheImports PX) K16.pre.env_1
noncomputable abbrev qX:Pos:=⟨0,0,0,0⟩
noncomputable abbrev BX:List Frame:=[topFrame qX]
noncomputable abbrev GX {α:Type} (w:S0) (c:Nat) (x:Sem α) (s:A0) (pos:Pos) (a:α) (s':A0) (pos':Pos):Prop:=Goes PX w 11 annX cdX qX c x s pos a s' pos'
def LX (n:Nat) {α:Type} (x:Sem α) (w:S0) (pos:Pos) (s:c3->Obj->Nat->SharedT) (a:Nat->α) (s':c3->Obj->Nat->SharedT) (pos':Pos):Prop:=
 ∀(os:c3) (oD:Obj) (tk:Nat) (K:α->Sem t8) (H:Value->Sem t8) (gd:Bool->Bool) (lv:List Value->List Value),
  PySem.W.Fast.tw10295753902157049106 F7 PX w 11 annX 1 n (s os oD tk) ⟨x.wrap K H gd lv,cdX,pos,BX⟩=some (s' os oD tk,⟨K (a tk),cdX,pos',BX⟩)
theorem LX.goes {n:Nat} {α:Type} {x:Sem α} {w:S0} {pos pos':Pos} {s s':c3->Obj->Nat->SharedT} {a:Nat->α} (h:LX n x w pos s a s' pos') (os:c3) (oD:Obj) (tk:Nat):GX w n x (s os oD tk).abs pos (a tk) (s' os oD tk).abs pos':=by refine Goes.leaf n λ K H b c=>?_;have e:=h os oD tk K H b c;rw [<-PySem.W.Fast.te10295753902157049106,<-j5] at e;exact e
noncomputable abbrev stay (w:S0):c3->Obj->Nat->SharedT:=FX w
noncomputable abbrev plus3 (w:S0):c3->Obj->Nat->SharedT:=λ os oD tk=>FX w os oD (tk + 3)
theorem qtH (a:Addr) (h :∀(w:S0) (pos:Pos),LX 3 (PySem.W.Fast.tw13066428366354244818 8 (.ref a)) w pos (stay w) (λ _=>true) (stay w) pos:=by intro w pos os oD tk K H gd lv;kernel_rfl) (w:S0) (pos:Pos):LX 3 (G4 8 (.ref a)) w pos (stay w) (λ _=>true) (stay w) pos:=by rw [PySem.W.Fast.te13066428366354244818];exact h w pos
noncomputable def qt0:=qtH 151
noncomputable def qt1:=qtH 152
noncomputable def qt2:=qtH 153
noncomputable def qt3:=qtH 154
noncomputable def qt4:=qtH 155
noncomputable def qt5:=qtH 156
noncomputable def qt6:=qtH 157
noncomputable def qt7:=qtH 158
noncomputable def qt8:=qtH 159
noncomputable def qt9:=qtH 160
noncomputable def qt10:=qtH 161
noncomputable def qt11:=qtH 162
theorem eqH (n:Nat) (a b:Addr) (hf :∀(w:S0) (pos:Pos),LX n (d5 (.ref a) (.ref b)) (w.withFollow "special-get-raises" false) pos (stay (w.withFollow "special-get-raises" false)) (λ _=>false) (stay (w.withFollow "special-get-raises" false)) pos:=by intro w pos os oD tk K H gd lv;kernel_rfl) (ht :∀(w:S0) (pos:Pos),LX n (d5 (.ref a) (.ref b)) (w.withFollow "special-get-raises" true) pos (stay (w.withFollow "special-get-raises" true)) (λ _=>false) (stay (w.withFollow "special-get-raises" true)) pos:=by intro w pos os oD tk K H gd lv;kernel_rfl) (w:S0) (pos:Pos):LX n (eqBool (.ref a) (.ref b)) w pos (stay w) (λ _=>false) (stay w) pos:=by rw [PySem.W.Fast.te13926502685295537346];exact byRow2 "special-get-raises" (P:=λ w=>LX n (d5 (.ref a) (.ref b)) w pos (stay w) (λ _=>false) (stay w) pos) (λ w=>hf w pos) (λ w=>ht w pos) w
noncomputable def eq0_1:=eqH 20 151 152
noncomputable def eq0_2:=eqH 16 151 153
noncomputable def eq0_3:=eqH 16 151 154
noncomputable def eq0_4:=eqH 16 151 155
noncomputable def eq0_5:=eqH 16 151 156
noncomputable def eq0_6:=eqH 16 151 157
noncomputable def eq0_7:=eqH 16 151 158
noncomputable def eq0_8:=eqH 16 151 159
noncomputable def eq0_9:=eqH 16 151 160
noncomputable def eq0_10:=eqH 16 151 161
noncomputable def eq0_11:=eqH 16 151 162
noncomputable def eq1_2:=eqH 16 152 153
noncomputable def eq1_3:=eqH 16 152 154
noncomputable def eq1_4:=eqH 16 152 155
noncomputable def eq1_5:=eqH 16 152 156
noncomputable def eq1_6:=eqH 16 152 157
noncomputable def eq1_7:=eqH 16 152 158
noncomputable def eq1_8:=eqH 16 152 159
noncomputable def eq1_9:=eqH 16 152 160
noncomputable def eq1_10:=eqH 16 152 161
noncomputable def eq1_11:=eqH 16 152 162
noncomputable def eq2_3:=eqH 20 153 154
noncomputable def eq2_4:=eqH 16 153 155
noncomputable def eq2_5:=eqH 16 153 156
noncomputable def eq2_6:=eqH 16 153 157
noncomputable def eq2_7:=eqH 16 153 158
noncomputable def eq2_8:=eqH 16 153 159
noncomputable def eq2_9:=eqH 16 153 160
noncomputable def eq2_10:=eqH 16 153 161
noncomputable def eq2_11:=eqH 16 153 162
noncomputable def eq3_4:=eqH 16 154 155
noncomputable def eq3_5:=eqH 16 154 156
noncomputable def eq3_6:=eqH 16 154 157
noncomputable def eq3_7:=eqH 16 154 158
noncomputable def eq3_8:=eqH 16 154 159
noncomputable def eq3_9:=eqH 16 154 160
noncomputable def eq3_10:=eqH 16 154 161
noncomputable def eq3_11:=eqH 16 154 162
noncomputable def eq4_5:=eqH 20 155 156
noncomputable def eq4_6:=eqH 16 155 157
noncomputable def eq4_7:=eqH 16 155 158
noncomputable def eq4_8:=eqH 16 155 159
noncomputable def eq4_9:=eqH 16 155 160
noncomputable def eq4_10:=eqH 16 155 161
noncomputable def eq4_11:=eqH 16 155 162
noncomputable def eq5_6:=eqH 16 156 157
noncomputable def eq5_7:=eqH 16 156 158
noncomputable def eq5_8:=eqH 16 156 159
noncomputable def eq5_9:=eqH 16 156 160
noncomputable def eq5_10:=eqH 16 156 161
noncomputable def eq5_11:=eqH 16 156 162
noncomputable def eq6_7:=eqH 20 157 158
noncomputable def eq6_8:=eqH 20 157 159
noncomputable def eq6_9:=eqH 16 157 160
noncomputable def eq6_10:=eqH 16 157 161
noncomputable def eq6_11:=eqH 16 157 162
noncomputable def eq7_8:=eqH 20 158 159
noncomputable def eq7_9:=eqH 16 158 160
noncomputable def eq7_10:=eqH 16 158 161
noncomputable def eq7_11:=eqH 16 158 162
noncomputable def eq8_9:=eqH 16 159 160
noncomputable def eq8_10:=eqH 16 159 161
noncomputable def eq8_11:=eqH 16 159 162
noncomputable def eq9_10:=eqH 20 160 161
noncomputable def eq9_11:=eqH 20 160 162
noncomputable def zhg:=eqH 20 161 162
theorem crH (a:Addr) (hf :∀(w:S0) (pos:Pos),LX 1 (i5 "hash" [.ref a]) (w.withFollow "special-get-raises" false) pos (stay (w.withFollow "special-get-raises" false)) (λ _=>()) (stay (w.withFollow "special-get-raises" false)) pos:=by intro w pos os oD tk K H gd lv;kernel_rfl) (ht :∀(w:S0) (pos:Pos),LX 1 (i5 "hash" [.ref a]) (w.withFollow "special-get-raises" true) pos (stay (w.withFollow "special-get-raises" true)) (λ _=>()) (stay (w.withFollow "special-get-raises" true)) pos:=by intro w pos os oD tk K H gd lv;kernel_rfl) (w:S0) (pos:Pos):LX 1 (cRoomFor "hash" [.ref a]) w pos (stay w) (λ _=>()) (stay w) pos:=by rw [PySem.W.Fast.te13383273872528276517];exact byRow2 "special-get-raises" (P:=λ w=>LX 1 (i5 "hash" [.ref a]) w pos (stay w) (λ _=>()) (stay w) pos) (λ w=>hf w pos) (λ w=>ht w pos) w
theorem soH (a:Addr) (hf :∀(w:S0) (pos:Pos),LX 1 (w5 (.ref a) "__hash__") (w.withFollow "special-get-raises" false) pos (stay (w.withFollow "special-get-raises" false)) (λ _=>some (.builtin "tuple.__hash__")) (stay (w.withFollow "special-get-raises" false)) pos:=by intro w pos os oD tk K H gd lv;kernel_rfl) (ht :∀(w:S0) (pos:Pos),LX 1 (w5 (.ref a) "__hash__") (w.withFollow "special-get-raises" true) pos (stay (w.withFollow "special-get-raises" true)) (λ _=>some (.builtin "tuple.__hash__")) (stay (w.withFollow "special-get-raises" true)) pos:=by intro w pos os oD tk K H gd lv;kernel_rfl) (w:S0) (pos:Pos):LX 1 (specialOf (.ref a) "__hash__") w pos (stay w) (λ _=>some (.builtin "tuple.__hash__")) (stay w) pos:=by rw [PySem.W.Fast.te4214721358667687652];exact byRow2 "special-get-raises" (P:=λ w=>LX 1 (w5 (.ref a) "__hash__") w pos (stay w) (λ _=>some (.builtin "tuple.__hash__")) (stay w) pos) (λ w=>hf w pos) (λ w=>ht w pos) w
theorem csH (a:Addr) (k l:Str) (hf :∀(w:S0) (pos:Pos),LX 22 (c5 (.ref a) "__hash__" (unh a)) (w.withFollow "special-get-raises" false) pos (stay (w.withFollow "special-get-raises" false)) (λ tk=>some (.int (v0 [b0 (w.withFollow "special-get-raises" false).params k,b0 (w.withFollow "special-get-raises" false).params l]) (tk + 2))) (plus3 (w.withFollow "special-get-raises" false)) pos:=by intro w pos os oD tk K H gd lv;kernel_rfl) (ht :∀(w:S0) (pos:Pos),LX 22 (c5 (.ref a) "__hash__" (unh a)) (w.withFollow "special-get-raises" true) pos (stay (w.withFollow "special-get-raises" true)) (λ tk=>some (.int (v0 [b0 (w.withFollow "special-get-raises" true).params k,b0 (w.withFollow "special-get-raises" true).params l]) (tk + 2))) (plus3 (w.withFollow "special-get-raises" true)) pos:=by intro w pos os oD tk K H gd lv;kernel_rfl) (w:S0) (pos:Pos):LX 22 (W6 (.ref a) "__hash__" (unh a)) w pos (stay w) (λ tk=>some (.int (v0 [b0 w.params k,b0 w.params l]) (tk + 2))) (plus3 w) pos:=by rw [PySem.W.Fast.te16697807410369149715];exact byRow2 "special-get-raises" (P:=λ w=>LX 22 (c5 (.ref a) "__hash__" (unh a)) w pos (stay w) (λ tk=>some (.int (v0 [b0 w.params k,b0 w.params l]) (tk + 2))) (plus3 w) pos) (λ w=>hf w pos) (λ w=>ht w pos) w
noncomputable def cr0:=crH 151
noncomputable def so0:=soH 151
noncomputable def cs0:=csH 151 "register" "read"
noncomputable def cr1:=crH 152
noncomputable def so1:=soH 152
noncomputable def cs1:=csH 152 "register" "write"
noncomputable def cr2:=crH 153
noncomputable def so2:=soH 153
noncomputable def cs2:=csH 153 "counter" "read"
noncomputable def cr3:=crH 154
noncomputable def so3:=soH 154
noncomputable def cs3:=csH 154 "counter" "add"
noncomputable def cr4:=crH 155
noncomputable def so4:=soH 155
noncomputable def cs4:=csH 155 "queue" "put"
noncomputable def cr5:=crH 156
noncomputable def so5:=soH 156
noncomputable def cs5:=csH 156 "queue" "take"
noncomputable def cr6:=crH 157
noncomputable def so6:=soH 157
noncomputable def cs6:=csH 157 "set" "put"
noncomputable def cr7:=crH 158
noncomputable def so7:=soH 158
noncomputable def cs7:=csH 158 "set" "cut"
noncomputable def cr8:=crH 159
noncomputable def so8:=soH 159
noncomputable def cs8:=csH 159 "set" "has"
noncomputable def cr9:=crH 160
noncomputable def so9:=soH 160
noncomputable def cs9:=csH 160 "cell" "read"
noncomputable def cr10:=crH 161
noncomputable def so10:=soH 161
noncomputable def cs10:=csH 161 "cell" "write"
noncomputable def cr11:=crH 162
noncomputable def so11:=soH 162
noncomputable def cs11:=csH 162 "cell" "swap"
noncomputable def allX (P:W0):List KV3:=[(151,(.ref 95),(A1 (v0 [b0 P "register",b0 P "read"]))),(152,(.ref 102),(A1 (v0 [b0 P "register",b0 P "write"]))),(153,(.ref 95),(A1 (v0 [b0 P "counter",b0 P "read"]))),(154,(.ref 109),(A1 (v0 [b0 P "counter",b0 P "add"]))),(155,(.ref 116),(A1 (v0 [b0 P "queue",b0 P "put"]))),(156,(.ref 123),(A1 (v0 [b0 P "queue",b0 P "take"]))),(157,(.ref 130),(A1 (v0 [b0 P "set",b0 P "put"]))),(158,(.ref 135),(A1 (v0 [b0 P "set",b0 P "cut"]))),(159,(.ref 142),(A1 (v0 [b0 P "set",b0 P "has"]))),(160,(.ref 95),(A1 (v0 [b0 P "cell",b0 P "read"]))),(161,(.ref 102),(A1 (v0 [b0 P "cell",b0 P "write"]))),(162,(.ref 149),(A1 (v0 [b0 P "cell",b0 P "swap"])))]
theorem zgg (w:S0) (os:c3) (pos:Pos):(allX w.params).Pairwise λ x y=>∀oD tk,GX w 20 (eqBool (.ref x.1) (.ref y.1)) (FX w os oD tk).abs pos false (FX w os oD tk).abs pos:=by
 unfold allX;refine
 .cons (λ y a oD tk=>(by
  revert y;simp only [W1,B0,false_implies,implies_true,and_true];exact ⟨(eq0_1 w pos).goes os oD tk |>.le (by decide),(eq0_2 w pos).goes os oD tk |>.le (by decide),(eq0_3 w pos).goes os oD tk |>.le (by decide),(eq0_4 w pos).goes os oD tk |>.le (by decide),(eq0_5 w pos).goes os oD tk |>.le (by decide),(eq0_6 w pos).goes os oD tk |>.le (by decide),(eq0_7 w pos).goes os oD tk |>.le (by decide),(eq0_8 w pos).goes os oD tk |>.le (by decide),(eq0_9 w pos).goes os oD tk |>.le (by decide),(eq0_10 w pos).goes os oD tk |>.le (by decide),(eq0_11 w pos).goes os oD tk |>.le (by decide)⟩))
  (.cons (λ y a oD tk=>(by
  revert y;simp only [W1,B0,false_implies,implies_true,and_true];exact ⟨(eq1_2 w pos).goes os oD tk |>.le (by decide),(eq1_3 w pos).goes os oD tk |>.le (by decide),(eq1_4 w pos).goes os oD tk |>.le (by decide),(eq1_5 w pos).goes os oD tk |>.le (by decide),(eq1_6 w pos).goes os oD tk |>.le (by decide),(eq1_7 w pos).goes os oD tk |>.le (by decide),(eq1_8 w pos).goes os oD tk |>.le (by decide),(eq1_9 w pos).goes os oD tk |>.le (by decide),(eq1_10 w pos).goes os oD tk |>.le (by decide),(eq1_11 w pos).goes os oD tk |>.le (by decide)⟩))
  (.cons (λ y a oD tk=>(by
  revert y;simp only [W1,B0,false_implies,implies_true,and_true];exact ⟨(eq2_3 w pos).goes os oD tk |>.le (by decide),(eq2_4 w pos).goes os oD tk |>.le (by decide),(eq2_5 w pos).goes os oD tk |>.le (by decide),(eq2_6 w pos).goes os oD tk |>.le (by decide),(eq2_7 w pos).goes os oD tk |>.le (by decide),(eq2_8 w pos).goes os oD tk |>.le (by decide),(eq2_9 w pos).goes os oD tk |>.le (by decide),(eq2_10 w pos).goes os oD tk |>.le (by decide),(eq2_11 w pos).goes os oD tk |>.le (by decide)⟩))
  (.cons (λ y a oD tk=>(by
  revert y;simp only [W1,B0,false_implies,implies_true,and_true];exact ⟨(eq3_4 w pos).goes os oD tk |>.le (by decide),(eq3_5 w pos).goes os oD tk |>.le (by decide),(eq3_6 w pos).goes os oD tk |>.le (by decide),(eq3_7 w pos).goes os oD tk |>.le (by decide),(eq3_8 w pos).goes os oD tk |>.le (by decide),(eq3_9 w pos).goes os oD tk |>.le (by decide),(eq3_10 w pos).goes os oD tk |>.le (by decide),(eq3_11 w pos).goes os oD tk |>.le (by decide)⟩))
  (.cons (λ y a oD tk=>(by
  revert y;simp only [W1,B0,false_implies,implies_true,and_true];exact ⟨(eq4_5 w pos).goes os oD tk |>.le (by decide),(eq4_6 w pos).goes os oD tk |>.le (by decide),(eq4_7 w pos).goes os oD tk |>.le (by decide),(eq4_8 w pos).goes os oD tk |>.le (by decide),(eq4_9 w pos).goes os oD tk |>.le (by decide),(eq4_10 w pos).goes os oD tk |>.le (by decide),(eq4_11 w pos).goes os oD tk |>.le (by decide)⟩))
  (.cons (λ y a oD tk=>(by
  revert y;simp only [W1,B0,false_implies,implies_true,and_true];exact ⟨(eq5_6 w pos).goes os oD tk |>.le (by decide),(eq5_7 w pos).goes os oD tk |>.le (by decide),(eq5_8 w pos).goes os oD tk |>.le (by decide),(eq5_9 w pos).goes os oD tk |>.le (by decide),(eq5_10 w pos).goes os oD tk |>.le (by decide),(eq5_11 w pos).goes os oD tk |>.le (by decide)⟩))
  (.cons (λ y a oD tk=>(by
  revert y;simp only [W1,B0,false_implies,implies_true,and_true];exact ⟨(eq6_7 w pos).goes os oD tk |>.le (by decide),(eq6_8 w pos).goes os oD tk |>.le (by decide),(eq6_9 w pos).goes os oD tk |>.le (by decide),(eq6_10 w pos).goes os oD tk |>.le (by decide),(eq6_11 w pos).goes os oD tk |>.le (by decide)⟩))
  (.cons (λ y a oD tk=>(by
  revert y;simp only [W1,B0,false_implies,implies_true,and_true];exact ⟨(eq7_8 w pos).goes os oD tk |>.le (by decide),(eq7_9 w pos).goes os oD tk |>.le (by decide),(eq7_10 w pos).goes os oD tk |>.le (by decide),(eq7_11 w pos).goes os oD tk |>.le (by decide)⟩))
  (.cons (λ y a oD tk=>(by
  revert y;simp only [W1,B0,false_implies,implies_true,and_true];exact ⟨(eq8_9 w pos).goes os oD tk |>.le (by decide),(eq8_10 w pos).goes os oD tk |>.le (by decide),(eq8_11 w pos).goes os oD tk |>.le (by decide)⟩))
  (.cons (λ y a oD tk=>(by
  revert y;simp only [W1,B0,false_implies,implies_true,and_true];exact ⟨(eq9_10 w pos).goes os oD tk |>.le (by decide),(eq9_11 w pos).goes os oD tk |>.le (by decide)⟩))
  (.cons (λ y a oD tk=>(by
  revert y;simp only [W1,B0,false_implies,implies_true,and_true];exact (zhg w pos).goes os oD tk |>.le (by decide)))
  (.cons (λ y a=>nomatch a)
  (b8))))))))))))
theorem allX_q (w:S0) (os:c3) (pos:Pos) :∀x∈allX w.params,∀oD tk,GX w 3 (G4 8 (.ref x.1)) (FX w os oD tk).abs pos true (FX w os oD tk).abs pos:=by unfold allX;simp only [W1,B0,false_implies,implies_true,and_true];exact ⟨λ oD tk=>(qt0 w pos).goes os oD tk,λ oD tk=>(qt1 w pos).goes os oD tk,λ oD tk=>(qt2 w pos).goes os oD tk,λ oD tk=>(qt3 w pos).goes os oD tk,λ oD tk=>(qt4 w pos).goes os oD tk,λ oD tk=>(qt5 w pos).goes os oD tk,λ oD tk=>(qt6 w pos).goes os oD tk,λ oD tk=>(qt7 w pos).goes os oD tk,λ oD tk=>(qt8 w pos).goes os oD tk,λ oD tk=>(qt9 w pos).goes os oD tk,λ oD tk=>(qt10 w pos).goes os oD tk,λ oD tk=>(qt11 w pos).goes os oD tk⟩
theorem allX_h (w:S0) (os:c3) (pos:Pos) :∀x∈allX w.params,∀oD tk,GX w 25 (pyHash (.ref x.1)) (FX w os oD tk).abs pos x.2.2 (FX w os oD (tk + 3)).abs pos:=by unfold allX;simp only [W1,B0,false_implies,implies_true,and_true];exact ⟨λ oD tk=>Goes.pyHashT ((cr0 w pos).goes os oD tk) ((so0 w pos).goes os oD tk) ((cs0 w pos).goes os oD tk),λ oD tk=>Goes.pyHashT ((cr1 w pos).goes os oD tk) ((so1 w pos).goes os oD tk) ((cs1 w pos).goes os oD tk),λ oD tk=>Goes.pyHashT ((cr2 w pos).goes os oD tk) ((so2 w pos).goes os oD tk) ((cs2 w pos).goes os oD tk),λ oD tk=>Goes.pyHashT ((cr3 w pos).goes os oD tk) ((so3 w pos).goes os oD tk) ((cs3 w pos).goes os oD tk),λ oD tk=>Goes.pyHashT ((cr4 w pos).goes os oD tk) ((so4 w pos).goes os oD tk) ((cs4 w pos).goes os oD tk),λ oD tk=>Goes.pyHashT ((cr5 w pos).goes os oD tk) ((so5 w pos).goes os oD tk) ((cs5 w pos).goes os oD tk),λ oD tk=>Goes.pyHashT ((cr6 w pos).goes os oD tk) ((so6 w pos).goes os oD tk) ((cs6 w pos).goes os oD tk),λ oD tk=>Goes.pyHashT ((cr7 w pos).goes os oD tk) ((so7 w pos).goes os oD tk) ((cs7 w pos).goes os oD tk),λ oD tk=>Goes.pyHashT ((cr8 w pos).goes os oD tk) ((so8 w pos).goes os oD tk) ((cs8 w pos).goes os oD tk),λ oD tk=>Goes.pyHashT ((cr9 w pos).goes os oD tk) ((so9 w pos).goes os oD tk) ((cs9 w pos).goes os oD tk),λ oD tk=>Goes.pyHashT ((cr10 w pos).goes os oD tk) ((so10 w pos).goes os oD tk) ((cs10 w pos).goes os oD tk),λ oD tk=>Goes.pyHashT ((cr11 w pos).goes os oD tk) ((so11 w pos).goes os oD tk) ((cs11 w pos).goes os oD tk)⟩
theorem famX (w:S0) (os:c3):Fam 11 150 (FX w os):=by
 have g :∀c,(treeD w.params c).get 150=some c:=λ c=>by kernel_rfl
 refine ⟨by decide,λ a b d=>abs_get (show 150 < 163 by decide) (g _),λ a b d e=>?_⟩;have u:(absHeap (treeD w.params (dObj a b)) 163 {}).update 150 (d8 (·.push e))=absHeap (treeD w.params (dObj (a.push e) (b + 1))) 163 {}:=by
  rw [<-absHeap_set (g _)];have v:(treeD w.params (dObj a b)).set 150 (d8 (·.push e))=treeD w.params (dObj (a.push e) (b + 1)):=by kernel_rfl
  rw [v]
 exact congrArg (λ h=>(⟨h,⟨[]⟩,{},d,os⟩:A0)) u
noncomputable def stD:Stmt:=(behindTheImports PX).getD 25 (.Pass ⟨0,0,0,0⟩)
noncomputable def sufX:List Stmt:=(behindTheImports PX).drop 26
theorem bodyX:behindTheImports PX=K16.pre.sts_7++(K16.pre.sts_59++(K16.pre.sts_78++(K16.pre.sts_102++([stD]++sufX)))):=by kernel_rfl
noncomputable def dKeys:Stmt->List (Option Expr)
 | .Assign _ (.Dict ks _ _) _=>ks
 | _=>[]
noncomputable def dVals:Stmt->List Expr
 | .Assign _ (.Dict _ vs _) _=>vs
 | _=>[]
noncomputable def dPos:Stmt->Pos
 | .Assign _ (.Dict _ _ p) _=>p
 | _=>⟨0,0,0,0⟩
noncomputable def sPos:Stmt->Pos
 | .Assign _ _ p=>p
 | _=>⟨0,0,0,0⟩
noncomputable abbrev p1X:Pos:=sPos stD
noncomputable abbrev p2X:Pos:=dPos stD
noncomputable abbrev p3X:Pos:=⟨53,0,53,5⟩
noncomputable def runX:List (Sem Value×Sem Value):=(((evalEachOpt (dKeys stD) K16.pre.env_1).zip ((evalEach (dVals stD) K16.pre.env_1).map λ v=>do let x <-v;standAt p2X;N3 x))).filterMap λ x=>x.1.map (·,x.2)
theorem stD_eq:stD=.Assign [.Name "DOERS" p3X] (.Dict (dKeys stD) (dVals stD) p2X) p1X:=by kernel_rfl
theorem evD:p4 (.Dict (dKeys stD) (dVals stD) p2X) K16.pre.env_1=(do standAt p2X;let r <-(do let x <-subDict runX;N3 (some x));match r with|some x=>N3 (F1 x)|none=>newDict):=by kernel_rfl
theorem swD:m8 (.Dict (dKeys stD) (dVals stD) p2X) (some (.Name "DOERS" p3X)) p1X.line K16.pre.env_1=N3 false:=by kernel_rfl
noncomputable def F0X (w:S0) (os:c3):SharedT:=⟨K16.pre.tree_167 w.params,150,{},⟨[]⟩,{},394,os⟩
noncomputable def F1X (w:S0) (os:c3):SharedT:=⟨(K16.pre.tree_167 w.params).ins 150 (dObj #[] 0),151,{},⟨[]⟩,{},394,os⟩
noncomputable def vsX:List (Value×Value):=[(.ref 151,(.ref 95)),(.ref 152,(.ref 102)),(.ref 153,(.ref 95)),(.ref 154,(.ref 109)),(.ref 155,(.ref 116)),(.ref 156,(.ref 123)),(.ref 157,(.ref 130)),(.ref 158,(.ref 135)),(.ref 159,(.ref 142)),(.ref 160,(.ref 95)),(.ref 161,(.ref 102)),(.ref 162,(.ref 149))]
theorem zch (w:S0):LX 84 (evalPairs runX) w p2X (λ os _ _=>F1X w os) (λ _=>vsX) (λ os _ _=>FX w os (dObj #[] 0) 418) p2X:=by rw [PySem.W.Fast.te1788576489739465902];exact λ os b c K H a d=>by kernel_rfl
noncomputable def F2X (w:S0) (os:c3) (oD:Obj) (tk:Nat):SharedT:=⟨(treeD w.params oD).set 3 (Obj.putName "DOERS" (b0 w.params "DOERS") (.str "DOERS" tk) (.ref 150)),163,{},⟨[]⟩,{},tk + 1,os⟩
theorem zdp (w:S0) (pos:Pos):LX 6 (bindName K16.pre.env_1 "DOERS" (.ref 150)) w pos (stay w) (λ _=>()) (λ os oD tk=>F2X w os oD tk) pos:=by
 rw [PySem.W.Fast.te7536695828754713326];exact byRow2 "special-get-raises" (P:=λ w=>LX 6 (PySem.W.Fast.tw7536695828754713326 K16.pre.env_1 "DOERS" (.ref 150)) w pos (stay w) (λ _=>()) (λ os oD tk=>F2X w os oD tk) pos)
  (λ w os oD tk K H b a=>by kernel_rfl) (λ w os oD tk K H b a=>by kernel_rfl) w
noncomputable abbrev oDX (P:W0):Obj:=dObj ((allX P).map ent).toArray 12
noncomputable abbrev S2X (w:S0) (os:c3):SharedT:=F2X w os (oDX w.params) 454
theorem stD_go (w:S0) (os:c3) (pos:Pos):GX w 100000 (exec stD K16.pre.env_1) (F0X w os).abs pos .next (S2X w os).abs p3X:=by
 rw [stD_eq,exec_Assign_Name _ _ _ _ _ swD];have l:=Goes.loop (p:=PX) (w:=w) (ann:=annX) (code:=cdX) (q:=qX) (pos:=p2X) (famX w os) (N:=12) (allX w.params) (show 12<=12 by decide) (by decide) (show ([151,152,153,154,155,156,157,158,159,160,161,162]:List Nat).Nodup by decide) (allX_q w os p2X) (zgg w os p2X) (allX_h w os p2X) (allX w.params) [] 418 rfl;have d:=(zch w).goes os (dObj #[] 0) 0;have b:GX w _ (subDict runX) (F0X w os).abs p2X 150 (FX w os (oDX w.params) 454).abs p2X:=
  Goes.subDict (by decide +kernel) (absHeap_size _ _ _) (show GX w _ (evalPairs runX) _ p2X vsX _ p2X from by
   have e:({ (F0X w os).abs with heap:=(F0X w os).abs.heap.push { cls:=.type "dict",data:=.dict #[] } }:A0)=(F1X w os).abs:=by have i:=absHeap_ins (t:=K16.pre.tree_167 w.params) (n:=150) (life:={}) (o:=dObj #[] 0) (by kernel_rfl);exact congrArg (λ h=>(⟨h,⟨[]⟩,{},394,os⟩:A0)) i.symm
   rw [e];exact d) l
 refine (Goes.bind Goes.at' (Goes.bind (a:=F1 150) (pos':=p2X) ?_ (Goes.bind Goes.at' (Goes.bind (f:=λ _=>N3 Flow.next) ((zdp w p3X).goes os (oDX w.params) 454) Goes.pure)))).le (c:=1 + (((1 + ((1 + (84 + 12 * (25 + (2 + 3 + 12 * (3 + 20 + 10)) + 4))) + 0 + 0)) + (1 + (6 + 0))))) (by decide);rw [evD];exact Goes.bind Goes.at' (Goes.bind (Goes.bind b Goes.pure) Goes.pure)
noncomputable abbrev pLX:Pos:=⟨268,0,270,57⟩
noncomputable def R3X (w:S0) (os:c3):Option (Flow×SharedT×Code×Pos):=PySem.W.Fast.tw10110043849684766642 F7 PX w 11 annX 1 1077 (S2X w os) ⟨(PySem.W.Fast.tw12563942051412417395 sufX K16.pre.env_1).wrap doneF deadEnd id id,cdX,p3X,BX⟩
noncomputable def S3X (w:S0) (os:c3):SharedT:=match R3X w os with|some r=>r.2.1|none=>S2X w os
theorem R3X_eq (w:S0) (os:c3):R3X w os=some (.next,S3X w os,cdX,pLX):=by kernel_rfl
theorem zhi (w:S0) (os:c3):segRun O3 PX w 11 annX 1 1077 (S2X w os).abs (piecesOf sufX K16.pre.env_1 cdX p3X BX)=some (.next,(S3X w os).abs,cdX,pLX):=by have e:=R3X_eq w os;unfold R3X at e;rw [<-PySem.W.Fast.te10110043849684766642,<-j5,<-PySem.W.Fast.te12563942051412417395] at e;exact segRun_of e
noncomputable def S0X (w:S0) (os:c3):SharedT:=⟨K16.pre.tree_6 w.params,15,{},⟨[]⟩,{},187,os⟩
theorem pre_go (w:S0) (os:c3):topGo O3 PX w 11 annX 12 ⟨boot_heap w.params,Array.mk [],boot_drawn,boot_toks,os⟩ (topStub PX)=some ((S0X w os).abs,⟨denote O3 cdX,cdX,qX,BX⟩):=by rw [PySem.W.Fast.te15667345088766844465,j5,PySem.W.Fast.te11892475500146522536];kernel_rfl
theorem zf6 (w:S0) (os:c3) :∃M,M<=200000/\topRun O3 PX w 11 annX M ⟨boot_heap w.params,Array.mk [],boot_drawn,boot_toks,os⟩ (topStub PX)=some (S3X w os).abs:=by have d:topRun O3 PX w 11 annX 2 (S3X w os).abs (restOf [] K16.pre.env_1 cdX pLX BX)=some (S3X w os).abs:=rfl;have a:=piece_app (zhi w os) d;rw [D3] at a;obtain ⟨M,h,c⟩:=zay (Goes.execs1 (stD_go w os ⟨49,0,52,21⟩)) a;have b:=K16.pre.chain PX (behindTheImports PX) w os _ M _ c;rw [<-bodyX] at b;have e:segRun O3 PX w 11 annX 1 1 (S0X w os).abs (blockOf (behindTheImports PX) K16.pre.env_1 cdX qX BX)=some (.next,(S0X w os).abs,cdX,qX):=rfl;have g:=piece_block e b;have f:=go_top (pre_go w os) g;refine ⟨_,?_,f⟩;simp only [Nat.add_eq];omega
noncomputable def looseX:List Str:=[("GREATEST_WORTH" : Str),("LONGEST_NAME" : Str),("SMALL_LETTERS" : Str),("is_whole" : Str),("is_within" : Str),("is_worth" : Str),("is_name" : Str),("is_tuple_of" : Str),("TaleError" : Str),("NoTale" : Str),("NotPlain" : Str),("FIRST_STATES" : Str),("WORTHS_OF_VERBS" : Str),("read_state" : Str),("write_state" : Str),("add_to_number" : Str),("put_behind" : Str),("take_first" : Str),("put_into_set" : Str),("cut_from_set" : Str),("has_in_set" : Str),("swap_state" : Str),("DOERS" : Str),("is_kind" : Str),("is_deed" : Str),("MOST_THINGS" : Str),("MOST_BEGINS" : Str),("LAST_HAND" : Str),("GREATEST_ANSWER" : Str),("ANSWER_WORDS" : Str),("make_tale" : Str),("make_things" : Str),("is_thing" : Str),("make_events" : Str),("is_begin" : Str),("is_end" : Str),("is_event" : Str),("is_hand" : Str),("is_answer" : Str),("go_by_turns" : Str),("deeds" : Str),("FIRST_WRITE" : Str),("plain_deeds" : Str),("are_plain" : Str),("is_answered" : Str),("writers" : Str),("ended_reads" : Str),("zones" : Str),("zone_of" : Str),("collision" : Str),("first_pair" : Str),("of_kind" : Str),("collide" : Str),("_law_cell_at" : Str),("_law_row" : Str),("_law_take" : Str),("_law_answer" : Str),("_law_exchanged" : Str),("_law_made" : Str),("_law_nexts" : Str),("_law_strict" : Str)]
noncomputable def viewX:Program:={ PX with main:={ PX.main with body:=(PX.main.body[67]?).toList } }
noncomputable def top (i:Nat):Stmt:=PX.main.body.getD i (.Pass ⟨0,0,0,0⟩)
noncomputable def asX:List Addr:=[3,11,13,15,17,18,20,21,22,24,25,27,28,29,31,32,34,35,36,39,40,41,43,44,46,47,48,50,51,53,55,56,57,61,63,64,66,68,69,70,73,75,76,78,80,81,82,85,86,87,88,89,91,92,94,95,96,98,99,101,102,103,105,106,108,109,110,112,113,115,116,117,119,120,122,123,124,126,127,129,130,131,134,135,136,138,139,141,142,143,145,146,148,149,150,151,152,153,154,155,156,157,158,159,160,161,162,163,165,166,168,169,170,173,174,175,176,178,179,181,182,183,186,187,188,190,191,193,194,195,198,199,200,202,203,205,206,207,209,210,212,213,214,216,217,219,220,221,223,224,226,227,228,230,231,233,234,235,237,238,240,241,242,244,245,247,248,249,250,253,254,255,258,259,260,262,263,265,266,267,269,270,272,273,274,277,278,279,282,283,284,287,288,289,291,292,294,295,296,298,299,301,302,303,306,307,308,310,311,313,314,315,317,318,320,321,322,324,325,327,328,329,331,332,334,335,336,339,340,341,344,345,346,348,349,351,352,353,356,357,358,361,362,363,365,366,368,369]
noncomputable def KX (P:W0):Frag:=[
 (3,⟨(.type "dict"),none,(.dict #[⟨(b0 P "__name__"),(.str "__name__" 165),(.str "law_talejudge_k16_whole_zones_judge" 658)⟩,⟨(b0 P "__doc__"),(.str "__doc__" 166),.none⟩,⟨(b0 P "__package__"),(.str "__package__" 167),.none⟩,⟨(b0 P "__loader__"),(.str "__loader__" 168),(.builtin "__main__.__loader__#opaque")⟩,⟨(b0 P "__spec__"),(.str "__spec__" 169),.none⟩,kR P "__annotations__" 170 6,kR P "__builtins__" 171 4,⟨(b0 P "__file__"),(.str "__file__" 173),(.str "/claim/cut.py" 172)⟩,⟨(b0 P "__cached__"),(.str "__cached__" 174),.none⟩,⟨(b0 P "GREATEST_WORTH"),(.str "GREATEST_WORTH" 190),(.int (1000000000) 189)⟩,⟨(b0 P "LONGEST_NAME"),(.str "LONGEST_NAME" 192),(.int (8) 191)⟩,⟨(b0 P "SMALL_LETTERS"),(.str "SMALL_LETTERS" 194),(.str "abcdefghijklmnopqrstuvwxyz" 193)⟩,kR P "is_whole" 201 21,kR P "is_within" 209 28,kR P "is_worth" 216 35,kR P "is_name" 222 40,kR P "is_tuple_of" 230 47,kR P "TaleError" 250 57,kR P "NoTale" 266 70,kR P "NotPlain" 282 82,kR P "FIRST_STATES" 298 85,kR P "WORTHS_OF_VERBS" 323 88,kR P "read_state" 331 95,kR P "write_state" 339 102,kR P "add_to_number" 347 109,kR P "put_behind" 355 116,kR P "take_first" 363 123,kR P "put_into_set" 371 130,kR P "cut_from_set" 377 135,kR P "has_in_set" 385 142,kR P "swap_state" 393 149,kR P "DOERS" 454 150,kR P "is_kind" 461 169,kR P "is_deed" 467 174,⟨(b0 P "MOST_THINGS"),(.str "MOST_THINGS" 471),(.int (6) 470)⟩,⟨(b0 P "MOST_BEGINS"),(.str "MOST_BEGINS" 473),(.int (24) 472)⟩,⟨(b0 P "LAST_HAND"),(.str "LAST_HAND" 475),(.int (5) 474)⟩,⟨(b0 P "GREATEST_ANSWER"),(.str "GREATEST_ANSWER" 477),(.int (1000000000000) 476)⟩,kR P "ANSWER_WORDS" 480 175,kR P "make_tale" 489 182,kR P "make_things" 495 187,kR P "is_thing" 502 194,kR P "make_events" 508 199,kR P "is_begin" 516 206,kR P "is_end" 523 213,kR P "is_event" 532 220,kR P "is_hand" 539 227,kR P "is_answer" 546 234,kR P "go_by_turns" 556 241,kR P "deeds" 569 248,kR P "FIRST_WRITE" 576 249,kR P "plain_deeds" 582 254,kR P "are_plain" 588 259,kR P "is_answered" 595 266,kR P "writers" 604 273,kR P "ended_reads" 610 278,kR P "zones" 616 283,kR P "zone_of" 622 288,kR P "collision" 633 295,kR P "first_pair" 643 302,kR P "of_kind" 649 307,kR P "collide" 657 314,kR P "_law_cell_at" 667 321,kR P "_law_row" 674 328,kR P "_law_take" 683 335,kR P "_law_answer" 689 340,kR P "_law_exchanged" 695 345,kR P "_law_made" 715 352,kR P "_law_nexts" 721 357,kR P "_law_strict" 727 362,kR P "law" 736 369] 71),#[]⟩),
 (11,⟨(.type "tuple"),none,(.seq #[] 0),#[]⟩),
 (13,⟨(.type "code"),none,(.fields #[(.str "<module>" 182),(.str "<module>" 183),(.str "/claim/cut.py" 184),(.int (1) 0),(.int (0) 0),(.int (0) 0),(.int (0) 0),(.int (0) 0),(.ref 11),(.bool false),(.int (181) 0),(.ref 12),.none,.none,.none,.none,(.int (185) 0),(.int (1) 0),(.str "/claim/cut.py" 186)]),#[]⟩),
 (15,⟨(.type "tuple"),none,(.seq #[] 0),#[]⟩),
 (17,⟨(.type "tuple"),none,(.seq #[(.str "value" 198)] 0),#[]⟩),
 (18,⟨(.type "tuple"),none,(.seq #[] 0),#[]⟩),
 (20,cO "is_whole" "is_whole" 195 5 1 15 199),
 (21,fO "is_whole" "is_whole" (top 4) "talejudge.basics" 187 20),
 (22,⟨(.type "tuple"),none,(.seq #[] 0),#[]⟩),
 (24,⟨(.type "tuple"),none,(.seq #[(.str "value" 205),(.str "greatest" 206)] 0),#[]⟩),
 (25,⟨(.type "tuple"),none,(.seq #[] 0),#[]⟩),
 (27,cO "is_within" "is_within" 202 7 2 22 207),
 (28,fO "is_within" "is_within" (top 5) "talejudge.basics" 187 27),
 (29,⟨(.type "tuple"),none,(.seq #[] 0),#[]⟩),
 (31,⟨(.type "tuple"),none,(.seq #[(.str "value" 213)] 0),#[]⟩),
 (32,⟨(.type "tuple"),none,(.seq #[] 0),#[]⟩),
 (34,cO "is_worth" "is_worth" 210 9 1 29 214),
 (35,fO "is_worth" "is_worth" (top 6) "talejudge.basics" 187 34),
 (36,⟨(.type "tuple"),none,(.seq #[] 0),#[]⟩),
 (39,cP "is_name" "is_name" 217 11 1 36 220),
 (40,fO "is_name" "is_name" (top 7) "talejudge.basics" 187 39),
 (41,⟨(.type "tuple"),none,(.seq #[] 0),#[]⟩),
 (43,⟨(.type "tuple"),none,(.seq #[(.str "value" 226),(.str "many" 227)] 0),#[]⟩),
 (44,⟨(.type "tuple"),none,(.seq #[] 0),#[]⟩),
 (46,cO "is_tuple_of" "is_tuple_of" 223 15 2 41 228),
 (47,fO "is_tuple_of" "is_tuple_of" (top 8) "talejudge.basics" 187 46),
 (48,⟨(.type "tuple"),none,(.seq #[(.type "ValueError")] 0),#[]⟩),
 (50,⟨(.type "dict"),none,(.dict #[⟨(b0 P "__module__"),(.str "__module__" 240),(.str "talejudge.errors" 231)⟩,⟨(b0 P "__qualname__"),(.str "__qualname__" 242),(.str "TaleError" 241)⟩,⟨(b0 P "__firstlineno__"),(.str "__firstlineno__" 244),(.int (18) 243)⟩,kR P "__static_attributes__" 245 55] 4),#[]⟩),
 (51,⟨(.type "tuple"),none,(.seq #[] 0),#[]⟩),
 (53,⟨(.type "code"),none,(.fields #[(.str "TaleError" 235),(.str "TaleError" 236),(.str "/claim/cut.py" 237),(.int (18) 0),(.int (0) 0),(.int (0) 0),(.int (0) 0),(.int (0) 0),(.ref 51),(.bool false),(.int (181) 0),(.ref 52),.none,.none,.none,.none,(.int (238) 0),(.int (18) 0),(.str "/claim/cut.py" 239)]),#[]⟩),
 (55,⟨(.type "tuple"),none,(.seq #[] 0),#[]⟩),
 (56,⟨(.type "dict"),none,(.dict #[⟨(b0 P "__module__"),(.str "__module__" 240),(.str "talejudge.errors" 231)⟩,⟨(b0 P "__firstlineno__"),(.str "__firstlineno__" 244),(.int (18) 243)⟩,kR P "__static_attributes__" 245 55,kR P "__weakref__" 247 58,⟨(b0 P "__doc__"),(.str "__doc__" 248),.none⟩] 3),#[]⟩),
 (57,⟨(.type "type"),none,(.cls ⟨"TaleError",[(.type "ValueError")],[(.ref 57),(.type "ValueError"),(.type "Exception"),(.type "BaseException"),(.type "object")],56,"TaleError",true,[],[(.ref 70),(.ref 82)],false,none,false⟩),#[some (.ref 48),none,some (.str "TaleError" 233),some (.str "TaleError" 241),some (.builtin "ValueError.__new__"),some (.bool true)]⟩),
 (61,⟨(.type "tuple"),none,(.seq #[(.ref 57)] 0),#[]⟩),
 (63,⟨(.type "dict"),none,(.dict #[⟨(b0 P "__module__"),(.str "__module__" 258),(.str "talejudge.errors" 231)⟩,⟨(b0 P "__qualname__"),(.str "__qualname__" 260),(.str "NoTale" 259)⟩,⟨(b0 P "__firstlineno__"),(.str "__firstlineno__" 262),(.int (20) 261)⟩,kR P "__static_attributes__" 263 68] 4),#[]⟩),
 (64,⟨(.type "tuple"),none,(.seq #[] 0),#[]⟩),
 (66,⟨(.type "code"),none,(.fields #[(.str "NoTale" 253),(.str "NoTale" 254),(.str "/claim/cut.py" 255),(.int (20) 0),(.int (0) 0),(.int (0) 0),(.int (0) 0),(.int (0) 0),(.ref 64),(.bool false),(.int (181) 0),(.ref 65),.none,.none,.none,.none,(.int (256) 0),(.int (20) 0),(.str "/claim/cut.py" 257)]),#[]⟩),
 (68,⟨(.type "tuple"),none,(.seq #[] 0),#[]⟩),
 (69,⟨(.type "dict"),none,(.dict #[⟨(b0 P "__module__"),(.str "__module__" 258),(.str "talejudge.errors" 231)⟩,⟨(b0 P "__firstlineno__"),(.str "__firstlineno__" 262),(.int (20) 261)⟩,kR P "__static_attributes__" 263 68,⟨(b0 P "__doc__"),(.str "__doc__" 264),.none⟩] 2),#[]⟩),
 (70,⟨(.type "type"),none,(.cls ⟨"NoTale",[(.ref 57)],[(.ref 70),(.ref 57),(.type "ValueError"),(.type "Exception"),(.type "BaseException"),(.type "object")],69,"NoTale",true,[],[],false,none,false⟩),#[some (.ref 61),none,some (.str "NoTale" 251),some (.str "NoTale" 259),some (.builtin "ValueError.__new__"),some (.bool true)]⟩),
 (73,⟨(.type "tuple"),none,(.seq #[(.ref 57)] 0),#[]⟩),
 (75,⟨(.type "dict"),none,(.dict #[⟨(b0 P "__module__"),(.str "__module__" 274),(.str "talejudge.errors" 231)⟩,⟨(b0 P "__qualname__"),(.str "__qualname__" 276),(.str "NotPlain" 275)⟩,⟨(b0 P "__firstlineno__"),(.str "__firstlineno__" 278),(.int (22) 277)⟩,kR P "__static_attributes__" 279 80] 4),#[]⟩),
 (76,⟨(.type "tuple"),none,(.seq #[] 0),#[]⟩),
 (78,⟨(.type "code"),none,(.fields #[(.str "NotPlain" 269),(.str "NotPlain" 270),(.str "/claim/cut.py" 271),(.int (22) 0),(.int (0) 0),(.int (0) 0),(.int (0) 0),(.int (0) 0),(.ref 76),(.bool false),(.int (181) 0),(.ref 77),.none,.none,.none,.none,(.int (272) 0),(.int (22) 0),(.str "/claim/cut.py" 273)]),#[]⟩),
 (80,⟨(.type "tuple"),none,(.seq #[] 0),#[]⟩),
 (81,⟨(.type "dict"),none,(.dict #[⟨(b0 P "__module__"),(.str "__module__" 274),(.str "talejudge.errors" 231)⟩,⟨(b0 P "__firstlineno__"),(.str "__firstlineno__" 278),(.int (22) 277)⟩,kR P "__static_attributes__" 279 80,⟨(b0 P "__doc__"),(.str "__doc__" 280),.none⟩] 2),#[]⟩),
 (82,⟨(.type "type"),none,(.cls ⟨"NotPlain",[(.ref 57)],[(.ref 82),(.ref 57),(.type "ValueError"),(.type "Exception"),(.type "BaseException"),(.type "object")],81,"NotPlain",true,[],[],false,none,false⟩),#[some (.ref 73),none,some (.str "NotPlain" 267),some (.str "NotPlain" 275),some (.builtin "ValueError.__new__"),some (.bool true)]⟩),
 (85,⟨(.type "dict"),none,(.dict #[⟨(b0 P "register"),(.str "register" 285),(.int (0) 286)⟩,⟨(b0 P "counter"),(.str "counter" 287),(.int (0) 288)⟩,kR P "queue" 289 86,kR P "set" 290 87,⟨(b0 P "cell"),(.str "cell" 291),(.int (0) 292)⟩] 5),#[]⟩),
 (86,⟨(.type "tuple"),none,(.seq #[] 0),#[]⟩),
 (87,⟨(.type "tuple"),none,(.seq #[] 0),#[]⟩),
 (88,⟨(.type "dict"),none,(.dict #[⟨(b0 P "read"),(.str "read" 299),(.int (0) 300)⟩,⟨(b0 P "take"),(.str "take" 301),(.int (0) 302)⟩,⟨(b0 P "write"),(.str "write" 303),(.int (1) 304)⟩,⟨(b0 P "add"),(.str "add" 305),(.int (1) 306)⟩,⟨(b0 P "put"),(.str "put" 307),(.int (1) 308)⟩,⟨(b0 P "cut"),(.str "cut" 309),(.int (1) 310)⟩,⟨(b0 P "has"),(.str "has" 311),(.int (1) 312)⟩,⟨(b0 P "swap"),(.str "swap" 313),(.int (2) 314)⟩] 8),#[]⟩),
 (89,⟨(.type "tuple"),none,(.seq #[] 0),#[]⟩),
 (91,⟨(.type "tuple"),none,(.seq #[(.str "state" 327),(.str "worth" 328)] 0),#[]⟩),
 (92,⟨(.type "tuple"),none,(.seq #[] 0),#[]⟩),
 (94,cO "read_state" "read_state" 324 27 2 89 329),
 (95,fO "read_state" "read_state" (top 16) "talejudge.store" 283 94),
 (96,⟨(.type "tuple"),none,(.seq #[] 0),#[]⟩),
 (98,⟨(.type "tuple"),none,(.seq #[(.str "state" 335),(.str "worth" 336)] 0),#[]⟩),
 (99,⟨(.type "tuple"),none,(.seq #[] 0),#[]⟩),
 (101,cO "write_state" "write_state" 332 29 2 96 337),
 (102,fO "write_state" "write_state" (top 17) "talejudge.store" 283 101),
 (103,⟨(.type "tuple"),none,(.seq #[] 0),#[]⟩),
 (105,⟨(.type "tuple"),none,(.seq #[(.str "state" 343),(.str "worth" 344)] 0),#[]⟩),
 (106,⟨(.type "tuple"),none,(.seq #[] 0),#[]⟩),
 (108,cO "add_to_number" "add_to_number" 340 31 2 103 345),
 (109,fO "add_to_number" "add_to_number" (top 18) "talejudge.store" 283 108),
 (110,⟨(.type "tuple"),none,(.seq #[] 0),#[]⟩),
 (112,⟨(.type "tuple"),none,(.seq #[(.str "state" 351),(.str "worth" 352)] 0),#[]⟩),
 (113,⟨(.type "tuple"),none,(.seq #[] 0),#[]⟩),
 (115,cO "put_behind" "put_behind" 348 33 2 110 353),
 (116,fO "put_behind" "put_behind" (top 19) "talejudge.store" 283 115),
 (117,⟨(.type "tuple"),none,(.seq #[] 0),#[]⟩),
 (119,⟨(.type "tuple"),none,(.seq #[(.str "state" 359),(.str "worth" 360)] 0),#[]⟩),
 (120,⟨(.type "tuple"),none,(.seq #[] 0),#[]⟩),
 (122,cO "take_first" "take_first" 356 35 2 117 361),
 (123,fO "take_first" "take_first" (top 20) "talejudge.store" 283 122),
 (124,⟨(.type "tuple"),none,(.seq #[] 0),#[]⟩),
 (126,⟨(.type "tuple"),none,(.seq #[(.str "state" 367),(.str "worth" 368)] 0),#[]⟩),
 (127,⟨(.type "tuple"),none,(.seq #[] 0),#[]⟩),
 (129,cO "put_into_set" "put_into_set" 364 39 2 124 369),
 (130,fO "put_into_set" "put_into_set" (top 21) "talejudge.store" 283 129),
 (131,⟨(.type "tuple"),none,(.seq #[] 0),#[]⟩),
 (134,cP "cut_from_set" "cut_from_set" 372 43 2 131 375),
 (135,fO "cut_from_set" "cut_from_set" (top 22) "talejudge.store" 283 134),
 (136,⟨(.type "tuple"),none,(.seq #[] 0),#[]⟩),
 (138,⟨(.type "tuple"),none,(.seq #[(.str "state" 381),(.str "worth" 382)] 0),#[]⟩),
 (139,⟨(.type "tuple"),none,(.seq #[] 0),#[]⟩),
 (141,cO "has_in_set" "has_in_set" 378 47 2 136 383),
 (142,fO "has_in_set" "has_in_set" (top 23) "talejudge.store" 283 141),
 (143,⟨(.type "tuple"),none,(.seq #[] 0),#[]⟩),
 (145,⟨(.type "tuple"),none,(.seq #[(.str "state" 389),(.str "worth" 390)] 0),#[]⟩),
 (146,⟨(.type "tuple"),none,(.seq #[] 0),#[]⟩),
 (148,cO "swap_state" "swap_state" 386 49 2 143 391),
 (149,fO "swap_state" "swap_state" (top 24) "talejudge.store" 283 148),
 (150,⟨(.type "dict"),none,(.dict #[⟨(A1 (v0 [b0 P "register",b0 P "read"])),(.ref 151),(.ref 95)⟩,⟨(A1 (v0 [b0 P "register",b0 P "write"])),(.ref 152),(.ref 102)⟩,⟨(A1 (v0 [b0 P "counter",b0 P "read"])),(.ref 153),(.ref 95)⟩,⟨(A1 (v0 [b0 P "counter",b0 P "add"])),(.ref 154),(.ref 109)⟩,⟨(A1 (v0 [b0 P "queue",b0 P "put"])),(.ref 155),(.ref 116)⟩,⟨(A1 (v0 [b0 P "queue",b0 P "take"])),(.ref 156),(.ref 123)⟩,⟨(A1 (v0 [b0 P "set",b0 P "put"])),(.ref 157),(.ref 130)⟩,⟨(A1 (v0 [b0 P "set",b0 P "cut"])),(.ref 158),(.ref 135)⟩,⟨(A1 (v0 [b0 P "set",b0 P "has"])),(.ref 159),(.ref 142)⟩,⟨(A1 (v0 [b0 P "cell",b0 P "read"])),(.ref 160),(.ref 95)⟩,⟨(A1 (v0 [b0 P "cell",b0 P "write"])),(.ref 161),(.ref 102)⟩,⟨(A1 (v0 [b0 P "cell",b0 P "swap"])),(.ref 162),(.ref 149)⟩] 12),#[]⟩),
 (151,⟨(.type "tuple"),none,(.seq #[(.str "register" 394),(.str "read" 395)] 0),#[]⟩),
 (152,⟨(.type "tuple"),none,(.seq #[(.str "register" 396),(.str "write" 397)] 0),#[]⟩),
 (153,⟨(.type "tuple"),none,(.seq #[(.str "counter" 398),(.str "read" 399)] 0),#[]⟩),
 (154,⟨(.type "tuple"),none,(.seq #[(.str "counter" 400),(.str "add" 401)] 0),#[]⟩),
 (155,⟨(.type "tuple"),none,(.seq #[(.str "queue" 402),(.str "put" 403)] 0),#[]⟩),
 (156,⟨(.type "tuple"),none,(.seq #[(.str "queue" 404),(.str "take" 405)] 0),#[]⟩),
 (157,⟨(.type "tuple"),none,(.seq #[(.str "set" 406),(.str "put" 407)] 0),#[]⟩),
 (158,⟨(.type "tuple"),none,(.seq #[(.str "set" 408),(.str "cut" 409)] 0),#[]⟩),
 (159,⟨(.type "tuple"),none,(.seq #[(.str "set" 410),(.str "has" 411)] 0),#[]⟩),
 (160,⟨(.type "tuple"),none,(.seq #[(.str "cell" 412),(.str "read" 413)] 0),#[]⟩),
 (161,⟨(.type "tuple"),none,(.seq #[(.str "cell" 414),(.str "write" 415)] 0),#[]⟩),
 (162,⟨(.type "tuple"),none,(.seq #[(.str "cell" 416),(.str "swap" 417)] 0),#[]⟩),
 (163,⟨(.type "tuple"),none,(.seq #[] 0),#[]⟩),
 (165,⟨(.type "tuple"),none,(.seq #[(.str "kind" 458)] 0),#[]⟩),
 (166,⟨(.type "tuple"),none,(.seq #[] 0),#[]⟩),
 (168,cO "is_kind" "is_kind" 455 54 1 163 459),
 (169,fO "is_kind" "is_kind" (top 26) "talejudge.store" 283 168),
 (170,⟨(.type "tuple"),none,(.seq #[] 0),#[]⟩),
 (173,cP "is_deed" "is_deed" 462 56 3 170 465),
 (174,fO "is_deed" "is_deed" (top 27) "talejudge.store" 283 173),
 (175,⟨(.type "tuple"),none,(.seq #[(.str "ok" 478),(.str "none" 479)] 0),#[]⟩),
 (176,⟨(.type "tuple"),none,(.seq #[] 0),#[]⟩),
 (178,⟨(.type "tuple"),none,(.seq #[(.str "things" 484),(.str "events" 485),(.str "own_things" 486)] 0),#[]⟩),
 (179,⟨(.type "tuple"),none,(.seq #[] 0),#[]⟩),
 (181,cO "make_tale" "make_tale" 481 71 2 176 487),
 (182,fO "make_tale" "make_tale" (top 34) "talejudge.tales" 468 181),
 (183,⟨(.type "tuple"),none,(.seq #[] 0),#[]⟩),
 (186,cP "make_things" "make_things" 490 74 1 183 493),
 (187,fO "make_things" "make_things" (top 35) "talejudge.tales" 468 186),
 (188,⟨(.type "tuple"),none,(.seq #[] 0),#[]⟩),
 (190,⟨(.type "tuple"),none,(.seq #[(.str "thing" 499)] 0),#[]⟩),
 (191,⟨(.type "tuple"),none,(.seq #[] 0),#[]⟩),
 (193,cO "is_thing" "is_thing" 496 82 1 188 500),
 (194,fO "is_thing" "is_thing" (top 36) "talejudge.tales" 468 193),
 (195,⟨(.type "tuple"),none,(.seq #[] 0),#[]⟩),
 (198,cP "make_events" "make_events" 503 84 2 195 506),
 (199,fO "make_events" "make_events" (top 37) "talejudge.tales" 468 198),
 (200,⟨(.type "tuple"),none,(.seq #[] 0),#[]⟩),
 (202,⟨(.type "tuple"),none,(.seq #[(.str "event" 512),(.str "kinds" 513)] 0),#[]⟩),
 (203,⟨(.type "tuple"),none,(.seq #[] 0),#[]⟩),
 (205,cO "is_begin" "is_begin" 509 92 2 200 514),
 (206,fO "is_begin" "is_begin" (top 38) "talejudge.tales" 468 205),
 (207,⟨(.type "tuple"),none,(.seq #[] 0),#[]⟩),
 (209,⟨(.type "tuple"),none,(.seq #[(.str "event" 520)] 0),#[]⟩),
 (210,⟨(.type "tuple"),none,(.seq #[] 0),#[]⟩),
 (212,cO "is_end" "is_end" 517 96 1 207 521),
 (213,fO "is_end" "is_end" (top 39) "talejudge.tales" 468 212),
 (214,⟨(.type "tuple"),none,(.seq #[] 0),#[]⟩),
 (216,⟨(.type "tuple"),none,(.seq #[(.str "event" 527),(.str "word" 528),(.str "many" 529)] 0),#[]⟩),
 (217,⟨(.type "tuple"),none,(.seq #[] 0),#[]⟩),
 (219,cO "is_event" "is_event" 524 98 3 214 530),
 (220,fO "is_event" "is_event" (top 40) "talejudge.tales" 468 219),
 (221,⟨(.type "tuple"),none,(.seq #[] 0),#[]⟩),
 (223,⟨(.type "tuple"),none,(.seq #[(.str "hand" 536)] 0),#[]⟩),
 (224,⟨(.type "tuple"),none,(.seq #[] 0),#[]⟩),
 (226,cO "is_hand" "is_hand" 533 100 1 221 537),
 (227,fO "is_hand" "is_hand" (top 41) "talejudge.tales" 468 226),
 (228,⟨(.type "tuple"),none,(.seq #[] 0),#[]⟩),
 (230,⟨(.type "tuple"),none,(.seq #[(.str "answer" 543)] 0),#[]⟩),
 (231,⟨(.type "tuple"),none,(.seq #[] 0),#[]⟩),
 (233,cO "is_answer" "is_answer" 540 102 1 228 544),
 (234,fO "is_answer" "is_answer" (top 42) "talejudge.tales" 468 233),
 (235,⟨(.type "tuple"),none,(.seq #[] 0),#[]⟩),
 (237,⟨(.type "tuple"),none,(.seq #[(.str "events" 550),(.str "busy" 551),(.str "event" 552),(.str "begins" 553)] 0),#[]⟩),
 (238,⟨(.type "tuple"),none,(.seq #[] 0),#[]⟩),
 (240,cO "go_by_turns" "go_by_turns" 547 106 1 235 554),
 (241,fO "go_by_turns" "go_by_turns" (top 43) "talejudge.tales" 468 240),
 (242,⟨(.type "tuple"),none,(.seq #[] 0),#[]⟩),
 (244,⟨(.type "tuple"),none,(.seq #[(.str "tale" 560),(.str "told" 561),(.str "numbers" 562),(.str "place" 563),(.str "event" 564),(.str "number" 565),(.str "begun" 566)] 0),#[]⟩),
 (245,⟨(.type "tuple"),none,(.seq #[] 0),#[]⟩),
 (247,cO "deeds" "deeds" 557 114 1 242 567),
 (248,fO "deeds" "deeds" (top 44) "talejudge.tales" 468 247),
 (249,⟨(.type "tuple"),none,(.seq #[(.int (-2) 573),(.int (-1) 575)] 0),#[]⟩),
 (250,⟨(.type "tuple"),none,(.seq #[] 0),#[]⟩),
 (253,cP "plain_deeds" "plain_deeds" 577 128 1 250 580),
 (254,fO "plain_deeds" "plain_deeds" (top 47) "talejudge.zones" 570 253),
 (255,⟨(.type "tuple"),none,(.seq #[] 0),#[]⟩),
 (258,cP "are_plain" "are_plain" 583 133 1 255 586),
 (259,fO "are_plain" "are_plain" (top 48) "talejudge.zones" 570 258),
 (260,⟨(.type "tuple"),none,(.seq #[] 0),#[]⟩),
 (262,⟨(.type "tuple"),none,(.seq #[(.str "deed" 592)] 0),#[]⟩),
 (263,⟨(.type "tuple"),none,(.seq #[] 0),#[]⟩),
 (265,cO "is_answered" "is_answered" 589 138 1 260 593),
 (266,fO "is_answered" "is_answered" (top 49) "talejudge.zones" 570 265),
 (267,⟨(.type "tuple"),none,(.seq #[] 0),#[]⟩),
 (269,⟨(.type "tuple"),none,(.seq #[(.str "told" 599),(.str "found" 600),(.str "deed" 601)] 0),#[]⟩),
 (270,⟨(.type "tuple"),none,(.seq #[] 0),#[]⟩),
 (272,cO "writers" "writers" 596 142 1 267 602),
 (273,fO "writers" "writers" (top 50) "talejudge.zones" 570 272),
 (274,⟨(.type "tuple"),none,(.seq #[] 0),#[]⟩),
 (277,cP "ended_reads" "ended_reads" 605 148 1 274 608),
 (278,fO "ended_reads" "ended_reads" (top 51) "talejudge.zones" 570 277),
 (279,⟨(.type "tuple"),none,(.seq #[] 0),#[]⟩),
 (282,cP "zones" "zones" 611 150 1 279 614),
 (283,fO "zones" "zones" (top 52) "talejudge.zones" 570 282),
 (284,⟨(.type "tuple"),none,(.seq #[] 0),#[]⟩),
 (287,cP "zone_of" "zone_of" 617 158 2 284 620),
 (288,fO "zone_of" "zone_of" (top 53) "talejudge.zones" 570 287),
 (289,⟨(.type "tuple"),none,(.seq #[] 0),#[]⟩),
 (291,⟨(.type "tuple"),none,(.seq #[(.str "tale" 626),(.str "told" 627),(.str "written" 628),(.str "number" 629),(.str "read" 630)] 0),#[]⟩),
 (292,⟨(.type "tuple"),none,(.seq #[] 0),#[]⟩),
 (294,cO "collision" "collision" 623 164 1 289 631),
 (295,fO "collision" "collision" (top 54) "talejudge.zones" 570 294),
 (296,⟨(.type "tuple"),none,(.seq #[] 0),#[]⟩),
 (298,⟨(.type "tuple"),none,(.seq #[(.str "found" 637),(.str "kind" 638),(.str "zone" 639),(.str "other" 640)] 0),#[]⟩),
 (299,⟨(.type "tuple"),none,(.seq #[] 0),#[]⟩),
 (301,cO "first_pair" "first_pair" 634 171 1 296 641),
 (302,fO "first_pair" "first_pair" (top 55) "talejudge.zones" 570 301),
 (303,⟨(.type "tuple"),none,(.seq #[] 0),#[]⟩),
 (306,cP "of_kind" "of_kind" 644 178 2 303 647),
 (307,fO "of_kind" "of_kind" (top 56) "talejudge.zones" 570 306),
 (308,⟨(.type "tuple"),none,(.seq #[] 0),#[]⟩),
 (310,⟨(.type "tuple"),none,(.seq #[(.str "zone" 653),(.str "other" 654)] 0),#[]⟩),
 (311,⟨(.type "tuple"),none,(.seq #[] 0),#[]⟩),
 (313,cO "collide" "collide" 650 180 2 308 655),
 (314,fO "collide" "collide" (top 57) "talejudge.zones" 570 313),
 (315,⟨(.type "tuple"),none,(.seq #[] 0),#[]⟩),
 (317,⟨(.type "tuple"),none,(.seq #[(.str "script" 663),(.str "k" 664)] 0),#[]⟩),
 (318,⟨(.type "tuple"),none,(.seq #[] 0),#[]⟩),
 (320,cO "_law_cell_at" "_law_cell_at" 660 185 2 315 665),
 (321,fL "_law_cell_at" "_law_cell_at" (top 59) 320),
 (322,⟨(.type "tuple"),none,(.seq #[] 0),#[]⟩),
 (324,⟨(.type "tuple"),none,(.seq #[(.str "cell" 671)] 0),#[]⟩),
 (325,⟨(.type "tuple"),none,(.seq #[] 0),#[]⟩),
 (327,cO "_law_row" "_law_row" 668 189 1 322 672),
 (328,fL "_law_row" "_law_row" (top 60) 327),
 (329,⟨(.type "tuple"),none,(.seq #[] 0),#[]⟩),
 (331,⟨(.type "tuple"),none,(.seq #[(.str "row" 678),(.str "many" 679),(.str "told" 680)] 0),#[]⟩),
 (332,⟨(.type "tuple"),none,(.seq #[] 0),#[]⟩),
 (334,cO "_law_take" "_law_take" 675 191 2 329 681),
 (335,fL "_law_take" "_law_take" (top 61) 334),
 (336,⟨(.type "tuple"),none,(.seq #[] 0),#[]⟩),
 (339,cP "_law_answer" "_law_answer" 684 198 5 336 687),
 (340,fL "_law_answer" "_law_answer" (top 62) 339),
 (341,⟨(.type "tuple"),none,(.seq #[] 0),#[]⟩),
 (344,cP "_law_exchanged" "_law_exchanged" 690 205 3 341 693),
 (345,fL "_law_exchanged" "_law_exchanged" (top 63) 344),
 (346,⟨(.type "tuple"),none,(.seq #[] 0),#[]⟩),
 (348,⟨(.type "tuple"),none,(.seq #[(.str "cells" 699),(.str "most" 700),(.str "spoilt" 701),(.str "rows" 702),(.str "events" 703),(.str "held" 704),(.str "now" 705),(.str "cell" 706),(.str "row" 707),(.str "hand" 708),(.str "deed" 709),(.str "verb" 710),(.str "worth" 711),(.str "late" 712)] 0),#[]⟩),
 (349,⟨(.type "tuple"),none,(.seq #[] 0),#[]⟩),
 (351,cO "_law_made" "_law_made" 696 212 3 346 713),
 (352,fL "_law_made" "_law_made" (top 64) 351),
 (353,⟨(.type "tuple"),none,(.seq #[] 0),#[]⟩),
 (356,cP "_law_nexts" "_law_nexts" 716 242 3 353 719),
 (357,fL "_law_nexts" "_law_nexts" (top 65) 356),
 (358,⟨(.type "tuple"),none,(.seq #[] 0),#[]⟩),
 (361,cP "_law_strict" "_law_strict" 722 255 1 358 725),
 (362,fL "_law_strict" "_law_strict" (top 66) 361),
 (363,⟨(.type "tuple"),none,(.seq #[] 0),#[]⟩),
 (365,⟨(.type "tuple"),none,(.seq #[(.str "script" 731),(.str "tale" 732),(.str "rows" 733)] 0),#[]⟩),
 (366,⟨(.type "tuple"),none,(.seq #[] 0),#[]⟩),
 (368,cO "law" "law" 728 268 1 363 734),
 (369,fL "law" "law" (top 67) 368)]
noncomputable def asY:List Addr:=280 :: asX
noncomputable def KY (P:W0):Frag:=(280,⟨.none,none,.fields #[],#[]⟩) :: KX P
noncomputable abbrev cdT:Addr:=282
noncomputable abbrev tbT:Addr:=280
noncomputable def HX:Hook:=kHook KY asY (λ _=>by kernel_rfl)
noncomputable abbrev XtX:A0->Bool:=λ s=>xlAt viewX [] s && recOk (RowW.records (OpenRow.toRowW PySem.Challenge.rw_talejudge_k16_whole_zones_judge.row)) s
theorem look1 (w:S0) (os:c3):(staticsOk (g7 PX.main.body) (boot_heap w.params) (S3X w os).abs.heap && namesBound PX (S3X w os).abs.heap && gensDone (S3X w os).abs && laidKept (boot_heap w.params) (S3X w os).abs.heap)=true:=by kernel_rfl
theorem look2 (w:S0) (os:c3):openSeen viewX looseX (g7 PX.main.body) XtX true (S3X w os).abs=openGood viewX looseX:=by rw [PySem.W.Fast.te4187177175401517315];kernel_rfl
theorem look3 (w:S0) (os:c3):Hook.obs HX (S3X w os).abs=Hook.val HX w:=by kernel_rfl
theorem leftX:LeftO PX viewX looseX XtX (Hook.obs HX) (Hook.val HX) 200000:=
 zg0 (H₀:=boot_heap) (gs₀:=Array.mk []) (boot_open (by kernel_rfl) (by decide) (λ s=>rfl)) (λ w=>by kernel_rfl) zf6 look1 look2 look3
end K16
set_option maxHeartbeats 4000000
namespace L2
open PySem PySem.Spec PyProof.Rows
theorem FnScope.k {N P:List Str} {sc:Scope} (a:sc.kind=.function:=by exact rfl) (b:sc.isCoroutine=false:=by exact rfl) (c:sc.isGenerator=false:=by exact rfl) (d:N.Nodup:=by decide +kernel) (e:N.take P.length=P:=by exact rfl) (f :∀x∈P,sc.names.lookup x=some .local\/sc.names.lookup x=some .cell:=by decide +kernel) (g :∀y∈sc.names,y.2≠.free:=by decide +kernel):FnScope N P sc:=⟨a,b,c,d,e,f,g⟩
theorem newA {H:Hp} {p:Addr} (o:HO) (h:H p=none) :∃H',H'=upd H p o/\Same H H'/\H' p=some o:=⟨_,rfl,Same.upd h,z01⟩
theorem iteK {c A B:Prop} [Decidable c] (h:B) (hc:¬ c:=by decide +kernel):if c then A else B:=iteN hc h
theorem pg_cn {X:Cx} {scope:Scope} {cl:List (Str×Addr)} {N:List Str} {C:Addr} {s₂:A0} {H₂:Hp} {fp:List Addr} {x:Str} {px:Pos} (i:Nat) (hN:N.Nodup:=by decide +kernel) (hi:N[i]? = some x:=by exact rfl) (hx:scope.names.lookup x=some .local:=by exact rfl):PG (cxComp X scope cl N C s₂ H₂ fp) (.Name x px) (gName i):=zfs i hN hi hx
theorem pe_cg {X:Cx} {xs:List Str} {tg:Expr} {g:TG} {pos:Pos} {elt iter:Expr} {ifs:List Expr} {scope:Scope} {fr:List (Nat×Str)} {wi:TI} {tc:TT} {te:TE} (hi:PI X tg iter wi)
  (hg :∀cl C s₂ H₂ fp,PG (cxComp X scope cl (xs++fr.map (·.2)) C s₂ H₂ fp) tg g)
  (ht :∀cl C s₂ H₂ fp,PF (cxComp X scope cl (xs++fr.map (·.2)) C s₂ H₂ fp) ifs tc) (he :∀cl C s₂ H₂ fp,PE (cxComp X scope cl (xs++fr.map (·.2)) C s₂ H₂ fp) elt te) (hcalm:X.calm=true:=by exact rfl)
  (hfr :∀p∈fr,X.N[p.1]? = some p.2/\(X.env.kindOf p.2=some .cell\/X.env.kindOf p.2=some .free):=by first|exact λ _ z=>absurd z B0|(intro p hp;obtain rfl:=List.mem_singleton.mp hp;first|exact ⟨rfl,.inl rfl⟩|exact ⟨rfl,.inr rfl⟩))
  (hin:(scope.names.all λ y=>y.2 != Q1 || fr.any λ p=>p.2 == y.1)=true:=by decide +kernel)
  (hfs :∀p∈fr,(p.2,Q1)∈scope.names/\((M7 scope X.env).names.lookup p.2=some .cell\/(M7 scope X.env).names.lookup p.2=some .free):=by first|exact λ _ z=>absurd z B0|(intro p hp;obtain rfl:=List.mem_singleton.mp hp;exact ⟨by decide +kernel,by first|exact .inl rfl|exact .inr rfl⟩))
  (hcell :∀y∈scope.names,y.2≠NameKind.cell:=by decide +kernel) (hkind:scope.kind=.function:=by exact rfl) (hnames :∀y∈scope.names,y.2=NameKind.local->scope.names.lookup y.1=some .local:=by decide +kernel)
  (hs :∀x,G5 iter X.env x=N3 x:=by intro _;rfl):PE X (.ListComp elt [⟨tg,iter,ifs,0⟩] scope pos) (tCompG wi xs.length fr g tc te):=
 z7c hcalm hi hfr (λ y a e=>by
  have h:=List.all_eq_true.mp hin y a;rw [e] at h;obtain ⟨p,hp,z⟩:=List.any_eq_true.mp (show fr.any (λ p=>p.2 == y.1)=true from h);have:=(hfr p hp).2
  rwa [eq_of_beq z] at this) hfs hcell hkind hnames hg ht he hs
end L2
namespace K16
open PySem PySem.Spec PyProof.Rows TJ L2
abbrev Gg (n:Str) (a:Addr):Prop:=∀P,V3 (KX P) Y1 n=some (some (.ref a))
abbrev Gn (n:Str):Prop:=∀P,V3 (KX P) Y1 n=some none
noncomputable abbrev kx (w:S0):=KX w.params
noncomputable abbrev Ca (P:Program) (w:S0) (mg:Str->Option Value) (base:Heap):=Cal P w (KX w.params) mg base
noncomputable abbrev CaE (P:Program) (w:S0) (mg:Str->Option Value) (base:Heap):=CalE P w (KX w.params) mg base
noncomputable abbrev Fo (P:Program) (w:S0) (mg:Str->Option Value) (base:Heap):=FnOk P w (KX w.params) mg base
theorem z0h:Gn "isinstance":=λ _=>by kernel_rfl
theorem n_len:Gn "len":=λ _=>by kernel_rfl
theorem n_all:Gn "all":=λ _=>by kernel_rfl
theorem n_max:Gn "max":=λ _=>by kernel_rfl
theorem n_min:Gn "min":=λ _=>by kernel_rfl
theorem n_int:Gn "int":=λ _=>by kernel_rfl
theorem n_str:Gn "str":=λ _=>by kernel_rfl
theorem n_bool:Gn "bool":=λ _=>by kernel_rfl
theorem z8o:Gn "tuple":=λ _=>by kernel_rfl
theorem n_list:Gn "list":=λ _=>by kernel_rfl
theorem zby:Gn "range":=λ _=>by kernel_rfl
theorem zcs:Gn "sorted":=λ _=>by kernel_rfl
theorem n_sum:Gn "sum":=λ _=>by kernel_rfl
theorem n_dict:Gn "dict":=λ _=>by kernel_rfl
theorem n_set:Gn "set":=λ _=>by kernel_rfl
theorem z4f:Gn "enumerate":=λ _=>by kernel_rfl
theorem z3t (P:W0):V3 (KX P) Y1 "GREATEST_WORTH" = some (some (.int (1000000000) 189)):=by kernel_rfl
theorem z4u (P:W0):V3 (KX P) Y1 "LONGEST_NAME" = some (some (.int (8) 191)):=by kernel_rfl
theorem z3v (P:W0):V3 (KX P) Y1 "SMALL_LETTERS" = some (some (.str "abcdefghijklmnopqrstuvwxyz" 193)):=by kernel_rfl
theorem zaj:Gg "is_whole" 21:=λ _=>by kernel_rfl
theorem z9n:Gg "is_within" 28:=λ _=>by kernel_rfl
theorem zcl:Gg "is_worth" 35:=λ _=>by kernel_rfl
theorem zem:Gg "is_name" 40:=λ _=>by kernel_rfl
theorem z6a:Gg "is_tuple_of" 47:=λ _=>by kernel_rfl
theorem z5a:Gg "FIRST_STATES" 85:=λ _=>by kernel_rfl
theorem z2x:Gg "WORTHS_OF_VERBS" 88:=λ _=>by kernel_rfl
theorem zgs:Gg "DOERS" 150:=λ _=>by kernel_rfl
theorem zdr:Gg "is_kind" 169:=λ _=>by kernel_rfl
theorem zd5:Gg "is_deed" 174:=λ _=>by kernel_rfl
theorem z60 (P:W0):V3 (KX P) Y1 "MOST_THINGS" = some (some (.int (6) 470)):=by kernel_rfl
theorem z6e (P:W0):V3 (KX P) Y1 "MOST_BEGINS" = some (some (.int (24) 472)):=by kernel_rfl
theorem z9o (P:W0):V3 (KX P) Y1 "LAST_HAND" = some (some (.int (5) 474)):=by kernel_rfl
theorem z2z (P:W0):V3 (KX P) Y1 "GREATEST_ANSWER" = some (some (.int (1000000000000) 476)):=by kernel_rfl
theorem z5q:Gg "ANSWER_WORDS" 175:=λ _=>by kernel_rfl
theorem z9f:Gg "make_tale" 182:=λ _=>by kernel_rfl
theorem z66:Gg "make_things" 187:=λ _=>by kernel_rfl
theorem zcp:Gg "is_thing" 194:=λ _=>by kernel_rfl
theorem z63:Gg "make_events" 199:=λ _=>by kernel_rfl
theorem zcg:Gg "is_begin" 206:=λ _=>by kernel_rfl
theorem zfn:Gg "is_end" 213:=λ _=>by kernel_rfl
theorem zc8:Gg "is_event" 220:=λ _=>by kernel_rfl
theorem zdn:Gg "is_hand" 227:=λ _=>by kernel_rfl
theorem z9a:Gg "is_answer" 234:=λ _=>by kernel_rfl
theorem z65:Gg "go_by_turns" 241:=λ _=>by kernel_rfl
theorem zgw:Gg "deeds" 248:=λ _=>by kernel_rfl
theorem z6i:Gg "FIRST_WRITE" 249:=λ _=>by kernel_rfl
theorem z6w:Gg "plain_deeds" 254:=λ _=>by kernel_rfl
theorem z9r:Gg "are_plain" 259:=λ _=>by kernel_rfl
theorem z5z:Gg "is_answered" 266:=λ _=>by kernel_rfl
theorem zdi:Gg "writers" 273:=λ _=>by kernel_rfl
theorem z6l:Gg "ended_reads" 278:=λ _=>by kernel_rfl
theorem zh3:Gg "zones" 283:=λ _=>by kernel_rfl
theorem zeh:Gg "zone_of" 288:=λ _=>by kernel_rfl
theorem z9u:Gg "collision" 295:=λ _=>by kernel_rfl
theorem z7n:Gg "first_pair" 302:=λ _=>by kernel_rfl
theorem zdh:Gg "of_kind" 307:=λ _=>by kernel_rfl
theorem zcx:Gg "collide" 314:=λ _=>by kernel_rfl
theorem z4n:Gg "_law_cell_at" 321:=λ _=>by kernel_rfl
theorem zbr:Gg "_law_row" 328:=λ _=>by kernel_rfl
theorem z9s:Gg "_law_take" 335:=λ _=>by kernel_rfl
theorem z6k:Gg "_law_answer" 340:=λ _=>by kernel_rfl
theorem z3r:Gg "_law_exchanged" 345:=λ _=>by kernel_rfl
theorem z9w:Gg "_law_made" 352:=λ _=>by kernel_rfl
theorem z76:Gg "_law_nexts" 357:=λ _=>by kernel_rfl
theorem z6c:Gg "_law_strict" 362:=λ _=>by kernel_rfl
theorem g_law:Gg "law" 369:=λ _=>by kernel_rfl
noncomputable def kl_FIRST_STATES:List (Str×V):=[("register",.int (0)),("counter",.int (0)),("queue",.ref 86),("set",.ref 87),("cell",.int (0))]
theorem z40 (P:W0):KDict (KX P) P 85 kl_FIRST_STATES:=⟨⟨#[⟨(b0 P "register"),(.str "register" 285),(.int (0) 286)⟩,⟨(b0 P "counter"),(.str "counter" 287),(.int (0) 288)⟩,⟨(b0 P "queue"),(.str "queue" 289),(.ref 86)⟩,⟨(b0 P "set"),(.str "set" 290),(.ref 87)⟩,⟨(b0 P "cell"),(.str "cell" 291),(.int (0) 292)⟩],5,by kernel_rfl,(.cons ⟨⟨_,rfl⟩,rfl,⟨_,rfl⟩⟩ (.cons ⟨⟨_,rfl⟩,rfl,⟨_,rfl⟩⟩ (.cons ⟨⟨_,rfl⟩,rfl,rfl⟩ (.cons ⟨⟨_,rfl⟩,rfl,rfl⟩ (.cons ⟨⟨_,rfl⟩,rfl,⟨_,rfl⟩⟩ .nil)))))⟩,by decide⟩
noncomputable def kl_WORTHS_OF_VERBS:List (Str×V):=[("read",.int (0)),("take",.int (0)),("write",.int (1)),("add",.int (1)),("put",.int (1)),("cut",.int (1)),("has",.int (1)),("swap",.int (2))]
theorem z2i (P:W0):KDict (KX P) P 88 kl_WORTHS_OF_VERBS:=⟨⟨#[⟨(b0 P "read"),(.str "read" 299),(.int (0) 300)⟩,⟨(b0 P "take"),(.str "take" 301),(.int (0) 302)⟩,⟨(b0 P "write"),(.str "write" 303),(.int (1) 304)⟩,⟨(b0 P "add"),(.str "add" 305),(.int (1) 306)⟩,⟨(b0 P "put"),(.str "put" 307),(.int (1) 308)⟩,⟨(b0 P "cut"),(.str "cut" 309),(.int (1) 310)⟩,⟨(b0 P "has"),(.str "has" 311),(.int (1) 312)⟩,⟨(b0 P "swap"),(.str "swap" 313),(.int (2) 314)⟩],8,by kernel_rfl,(.cons ⟨⟨_,rfl⟩,rfl,⟨_,rfl⟩⟩ (.cons ⟨⟨_,rfl⟩,rfl,⟨_,rfl⟩⟩ (.cons ⟨⟨_,rfl⟩,rfl,⟨_,rfl⟩⟩ (.cons ⟨⟨_,rfl⟩,rfl,⟨_,rfl⟩⟩ (.cons ⟨⟨_,rfl⟩,rfl,⟨_,rfl⟩⟩ (.cons ⟨⟨_,rfl⟩,rfl,⟨_,rfl⟩⟩ (.cons ⟨⟨_,rfl⟩,rfl,⟨_,rfl⟩⟩ (.cons ⟨⟨_,rfl⟩,rfl,⟨_,rfl⟩⟩ .nil))))))))⟩,by decide⟩
noncomputable def kl_DOERS:List ((Str×Str)×V):=[(("register","read"),.ref 95),(("register","write"),.ref 102),(("counter","read"),.ref 95),(("counter","add"),.ref 109),(("queue","put"),.ref 116),(("queue","take"),.ref 123),(("set","put"),.ref 130),(("set","cut"),.ref 135),(("set","has"),.ref 142),(("cell","read"),.ref 95),(("cell","write"),.ref 102),(("cell","swap"),.ref 149)]
theorem zfv (P:W0):KDictT (KX P) P 150 kl_DOERS:=⟨⟨#[⟨(A1 (v0 [b0 P "register",b0 P "read"])),(.ref 151),(.ref 95)⟩,⟨(A1 (v0 [b0 P "register",b0 P "write"])),(.ref 152),(.ref 102)⟩,⟨(A1 (v0 [b0 P "counter",b0 P "read"])),(.ref 153),(.ref 95)⟩,⟨(A1 (v0 [b0 P "counter",b0 P "add"])),(.ref 154),(.ref 109)⟩,⟨(A1 (v0 [b0 P "queue",b0 P "put"])),(.ref 155),(.ref 116)⟩,⟨(A1 (v0 [b0 P "queue",b0 P "take"])),(.ref 156),(.ref 123)⟩,⟨(A1 (v0 [b0 P "set",b0 P "put"])),(.ref 157),(.ref 130)⟩,⟨(A1 (v0 [b0 P "set",b0 P "cut"])),(.ref 158),(.ref 135)⟩,⟨(A1 (v0 [b0 P "set",b0 P "has"])),(.ref 159),(.ref 142)⟩,⟨(A1 (v0 [b0 P "cell",b0 P "read"])),(.ref 160),(.ref 95)⟩,⟨(A1 (v0 [b0 P "cell",b0 P "write"])),(.ref 161),(.ref 102)⟩,⟨(A1 (v0 [b0 P "cell",b0 P "swap"])),(.ref 162),(.ref 149)⟩],12,by kernel_rfl,(.cons ⟨⟨151,394,395,0,rfl,by kernel_rfl⟩,rfl,rfl⟩ (.cons ⟨⟨152,396,397,0,rfl,by kernel_rfl⟩,rfl,rfl⟩ (.cons ⟨⟨153,398,399,0,rfl,by kernel_rfl⟩,rfl,rfl⟩ (.cons ⟨⟨154,400,401,0,rfl,by kernel_rfl⟩,rfl,rfl⟩ (.cons ⟨⟨155,402,403,0,rfl,by kernel_rfl⟩,rfl,rfl⟩ (.cons ⟨⟨156,404,405,0,rfl,by kernel_rfl⟩,rfl,rfl⟩ (.cons ⟨⟨157,406,407,0,rfl,by kernel_rfl⟩,rfl,rfl⟩ (.cons ⟨⟨158,408,409,0,rfl,by kernel_rfl⟩,rfl,rfl⟩ (.cons ⟨⟨159,410,411,0,rfl,by kernel_rfl⟩,rfl,rfl⟩ (.cons ⟨⟨160,412,413,0,rfl,by kernel_rfl⟩,rfl,rfl⟩ (.cons ⟨⟨161,414,415,0,rfl,by kernel_rfl⟩,rfl,rfl⟩ (.cons ⟨⟨162,416,417,0,rfl,by kernel_rfl⟩,rfl,rfl⟩ .nil))))))))))))⟩,by decide +kernel,by decide⟩
noncomputable abbrev y1j:Stmt:=top 4
noncomputable abbrev y0m:FuncData:=fnX "is_whole" "is_whole" (top 4) "talejudge.basics" 187 20
theorem z3h (P:W0):Fun (KX P) "is_whole" "is_whole" y1j 21 y0m:=z0c
theorem zac (P:W0):Binds (KX P) y0m ["value"] []:=(z3h P).binds λ _ _ _ _ _ _=>us1 λ _=>rfl
theorem z9g:FnScope ["value"] ["value"] (z07 y1j):=.k
noncomputable abbrev y1b:Stmt:=top 5
noncomputable abbrev y0e:FuncData:=fnX "is_within" "is_within" (top 5) "talejudge.basics" 187 27
theorem z2k (P:W0):Fun (KX P) "is_within" "is_within" y1b 28 y0e:=z0c
theorem z9h (P:W0):Binds (KX P) y0e ["value","greatest"] []:=(z2k P).binds λ _ _ _ _ _ _=>us2 λ _ _=>rfl
theorem z7s:FnScope ["value","greatest"] ["value","greatest"] (z07 y1b):=.k
noncomputable abbrev y1k:Stmt:=top 6
noncomputable abbrev y0n:FuncData:=fnX "is_worth" "is_worth" (top 6) "talejudge.basics" 187 34
theorem z38 (P:W0):Fun (KX P) "is_worth" "is_worth" y1k 35 y0n:=z0c
theorem zbs (P:W0):Binds (KX P) y0n ["value"] []:=(z38 P).binds λ _ _ _ _ _ _=>us1 λ _=>rfl
theorem z9m:FnScope ["value"] ["value"] (z07 y1k):=.k
noncomputable abbrev y1r:Stmt:=top 7
noncomputable abbrev y11:FuncData:=fnX "is_name" "is_name" (top 7) "talejudge.basics" 187 39
theorem z4t (P:W0):Fun (KX P) "is_name" "is_name" y1r 40 y11:=z0c
theorem zdg (P:W0):Binds (KX P) y11 ["value"] []:=(z4t P).binds λ _ _ _ _ _ _=>us1 λ _=>rfl
theorem zco:FnScope ["value"] ["value"] (z07 y1r):=.k
noncomputable abbrev y0s:Stmt:=top 8
noncomputable abbrev y02:FuncData:=fnX "is_tuple_of" "is_tuple_of" (top 8) "talejudge.basics" 187 46
theorem z1d (P:W0):Fun (KX P) "is_tuple_of" "is_tuple_of" y0s 47 y02:=z0c
theorem z5x (P:W0):Binds (KX P) y02 ["value","many"] []:=(z1d P).binds λ _ _ _ _ _ _=>us2 λ _ _=>rfl
theorem z55:FnScope ["value","many"] ["value","many"] (z07 y0s):=.k
noncomputable abbrev y1s:Stmt:=top 26
noncomputable abbrev y12:FuncData:=fnX "is_kind" "is_kind" (top 26) "talejudge.store" 283 168
theorem z4p (P:W0):Fun (KX P) "is_kind" "is_kind" y1s 169 y12:=z0c
theorem zef (P:W0):Binds (KX P) y12 ["kind"] []:=(z4p P).binds λ _ _ _ _ _ _=>us1 λ _=>rfl
theorem zag:FnScope ["kind"] ["kind"] (z07 y1s):=.k
noncomputable abbrev y1t:Stmt:=top 27
noncomputable abbrev y13:FuncData:=fnX "is_deed" "is_deed" (top 27) "talejudge.store" 283 173
theorem z5c (P:W0):Fun (KX P) "is_deed" "is_deed" y1t 174 y13:=z0c
theorem ze2 (P:W0):Binds (KX P) y13 ["kind","verb","worth"] []:=(z5c P).binds λ _ _ _ _ _ _=>us3 λ _ _ _=>rfl
theorem sc_is_deed:FnScope ["kind","verb","worth","many"] ["kind","verb","worth"] (z07 y1t):=.k
noncomputable abbrev y1c:Stmt:=top 34
noncomputable abbrev y0f:FuncData:=fnX "make_tale" "make_tale" (top 34) "talejudge.tales" 468 181
theorem z2g (P:W0):Fun (KX P) "make_tale" "make_tale" y1c 182 y0f:=z0c
theorem z9l (P:W0):Binds (KX P) y0f ["things","events"] []:=(z2g P).binds λ _ _ _ _ _ _=>us2 λ _ _=>rfl
theorem sc_make_tale:FnScope ["things","events","own_things"] ["things","events"] (z07 y1c):=.k
noncomputable abbrev y0t:Stmt:=top 35
noncomputable abbrev y03:FuncData:=fnX "make_things" "make_things" (top 35) "talejudge.tales" 468 186
theorem z1b (P:W0):Fun (KX P) "make_things" "make_things" y0t 187 y03:=z0c
theorem z5u (P:W0):Binds (KX P) y03 ["things"] []:=(z1b P).binds λ _ _ _ _ _ _=>us1 λ _=>rfl
theorem z50:FnScope ["things"] ["things"] (z07 y0t):=.k
noncomputable abbrev y1l:Stmt:=top 36
noncomputable abbrev y0o:FuncData:=fnX "is_thing" "is_thing" (top 36) "talejudge.tales" 468 193
theorem z3u (P:W0):Fun (KX P) "is_thing" "is_thing" y1l 194 y0o:=z0c
theorem zb5 (P:W0):Binds (KX P) y0o ["thing"] []:=(z3u P).binds λ _ _ _ _ _ _=>us1 λ _=>rfl
theorem z9k:FnScope ["thing"] ["thing"] (z07 y1l):=.k
noncomputable abbrev y0u:Stmt:=top 37
noncomputable abbrev y04:FuncData:=fnX "make_events" "make_events" (top 37) "talejudge.tales" 468 198
theorem z1e (P:W0):Fun (KX P) "make_events" "make_events" y0u 199 y04:=z0c
theorem z70 (P:W0):Binds (KX P) y04 ["events","kinds"] []:=(z1e P).binds λ _ _ _ _ _ _=>us2 λ _ _=>rfl
theorem z57:FnScope ["events","kinds"] ["events","kinds"] (z07 y0u):=.k
noncomputable abbrev y1m:Stmt:=top 38
noncomputable abbrev y0p:FuncData:=fnX "is_begin" "is_begin" (top 38) "talejudge.tales" 468 205
theorem z3g (P:W0):Fun (KX P) "is_begin" "is_begin" y1m 206 y0p:=z0c
theorem zcr (P:W0):Binds (KX P) y0p ["event","kinds"] []:=(z3g P).binds λ _ _ _ _ _ _=>us2 λ _ _=>rfl
theorem z9p:FnScope ["event","kinds"] ["event","kinds"] (z07 y1m):=.k
noncomputable abbrev y1z:Stmt:=top 39
noncomputable abbrev y1d:FuncData:=fnX "is_end" "is_end" (top 39) "talejudge.tales" 468 212
theorem z7q (P:W0):Fun (KX P) "is_end" "is_end" y1z 213 y1d:=z0c
theorem zfu (P:W0):Binds (KX P) y1d ["event"] []:=(z7q P).binds λ _ _ _ _ _ _=>us1 λ _=>rfl
theorem ze0:FnScope ["event"] ["event"] (z07 y1z):=.k
noncomputable abbrev y1n:Stmt:=top 40
noncomputable abbrev y0q:FuncData:=fnX "is_event" "is_event" (top 40) "talejudge.tales" 468 219
theorem z3i (P:W0):Fun (KX P) "is_event" "is_event" y1n 220 y0q:=z0c
theorem zam (P:W0):Binds (KX P) y0q ["event","word","many"] []:=(z3i P).binds λ _ _ _ _ _ _=>us3 λ _ _ _=>rfl
theorem z9e:FnScope ["event","word","many"] ["event","word","many"] (z07 y1n):=.k
noncomputable abbrev y1u:Stmt:=top 41
noncomputable abbrev y14:FuncData:=fnX "is_hand" "is_hand" (top 41) "talejudge.tales" 468 226
theorem z51 (P:W0):Fun (KX P) "is_hand" "is_hand" y1u 227 y14:=z0c
theorem zdo (P:W0):Binds (KX P) y14 ["hand"] []:=(z51 P).binds λ _ _ _ _ _ _=>us1 λ _=>rfl
theorem zal:FnScope ["hand"] ["hand"] (z07 y1u):=.k
noncomputable abbrev y1e:Stmt:=top 42
noncomputable abbrev y0g:FuncData:=fnX "is_answer" "is_answer" (top 42) "talejudge.tales" 468 233
theorem z2h (P:W0):Fun (KX P) "is_answer" "is_answer" y1e 234 y0g:=z0c
theorem z9i (P:W0):Binds (KX P) y0g ["answer"] []:=(z2h P).binds λ _ _ _ _ _ _=>us1 λ _=>rfl
theorem z77:FnScope ["answer"] ["answer"] (z07 y1e):=.k
noncomputable abbrev y0v:Stmt:=top 43
noncomputable abbrev y05:FuncData:=fnX "go_by_turns" "go_by_turns" (top 43) "talejudge.tales" 468 240
theorem z1j (P:W0):Fun (KX P) "go_by_turns" "go_by_turns" y0v 241 y05:=z0c
theorem z6d (P:W0):Binds (KX P) y05 ["events"] []:=(z1j P).binds λ _ _ _ _ _ _=>us1 λ _=>rfl
theorem sc_go_by_turns:FnScope ["events","busy","event","begins"] ["events"] (z07 y0v):=.k
noncomputable abbrev y20:Stmt:=top 44
noncomputable abbrev y1p:FuncData:=fnX "deeds" "deeds" (top 44) "talejudge.tales" 468 247
theorem zb0 (P:W0):Fun (KX P) "deeds" "deeds" y20 248 y1p:=z0c
theorem zgl (P:W0):Binds (KX P) y1p ["tale"] []:=(zb0 P).binds λ _ _ _ _ _ _=>us1 λ _=>rfl
theorem sc_deeds:FnScope ["tale","told","numbers","place","event","number","begun"] ["tale"] (z07 y20):=.k
noncomputable abbrev y0w:Stmt:=top 47
noncomputable abbrev y06:FuncData:=fnX "plain_deeds" "plain_deeds" (top 47) "talejudge.zones" 570 253
theorem z1a (P:W0):Fun (KX P) "plain_deeds" "plain_deeds" y0w 254 y06:=z0c
theorem z6h (P:W0):Binds (KX P) y06 ["tale"] []:=(z1a P).binds λ _ _ _ _ _ _=>us1 λ _=>rfl
theorem sc_plain_deeds:FnScope ["tale","told"] ["tale"] (z07 y0w):=.k
noncomputable abbrev y1f:Stmt:=top 48
noncomputable abbrev y0h:FuncData:=fnX "are_plain" "are_plain" (top 48) "talejudge.zones" 570 258
theorem z2f (P:W0):Fun (KX P) "are_plain" "are_plain" y1f 259 y0h:=z0c
theorem za3 (P:W0):Binds (KX P) y0h ["told"] []:=(z2f P).binds λ _ _ _ _ _ _=>us1 λ _=>rfl
theorem sc_are_plain:FnScope ["told","worths"] ["told"] (z07 y1f):=.k
noncomputable abbrev y0x:Stmt:=top 49
noncomputable abbrev y07:FuncData:=fnX "is_answered" "is_answered" (top 49) "talejudge.zones" 570 265
theorem z1h (P:W0):Fun (KX P) "is_answered" "is_answered" y0x 266 y07:=z0c
theorem z6v (P:W0):Binds (KX P) y07 ["deed"] []:=(z1h P).binds λ _ _ _ _ _ _=>us1 λ _=>rfl
theorem z4w:FnScope ["deed"] ["deed"] (z07 y0x):=.k
noncomputable abbrev y1v:Stmt:=top 50
noncomputable abbrev y15:FuncData:=fnX "writers" "writers" (top 50) "talejudge.zones" 570 272
theorem z5j (P:W0):Fun (KX P) "writers" "writers" y1v 273 y15:=z0c
theorem zds (P:W0):Binds (KX P) y15 ["told"] []:=(z5j P).binds λ _ _ _ _ _ _=>us1 λ _=>rfl
theorem sc_writers:FnScope ["told","found","deed"] ["told"] (z07 y1v):=.k
noncomputable abbrev y0y:Stmt:=top 51
noncomputable abbrev y08:FuncData:=fnX "ended_reads" "ended_reads" (top 51) "talejudge.zones" 570 277
theorem z1g (P:W0):Fun (KX P) "ended_reads" "ended_reads" y0y 278 y08:=z0c
theorem z6u (P:W0):Binds (KX P) y08 ["told"] []:=(z1g P).binds λ _ _ _ _ _ _=>us1 λ _=>rfl
theorem z5d:FnScope ["told"] ["told"] (z07 y0y):=.k
noncomputable abbrev y21:Stmt:=top 52
noncomputable abbrev y1q:FuncData:=fnX "zones" "zones" (top 52) "talejudge.zones" 570 282
theorem zbt (P:W0):Fun (KX P) "zones" "zones" y21 283 y1q:=z0c
theorem zhb (P:W0):Binds (KX P) y1q ["tale"] []:=(zbt P).binds λ _ _ _ _ _ _=>us1 λ _=>rfl
theorem sc_zones:FnScope ["tale","told","found","worth","write","spans"] ["tale"] (z07 y21):=.k
noncomputable abbrev y1w:Stmt:=top 53
noncomputable abbrev y16:FuncData:=fnX "zone_of" "zone_of" (top 53) "talejudge.zones" 570 287
theorem z4s (P:W0):Fun (KX P) "zone_of" "zone_of" y1w 288 y16:=z0c
theorem ze7 (P:W0):Binds (KX P) y16 ["worth","spans"] []:=(z4s P).binds λ _ _ _ _ _ _=>us2 λ _ _=>rfl
theorem sc_zone_of:FnScope ["worth","spans","least","greatest"] ["worth","spans"] (z07 y1w):=.k
noncomputable abbrev y1g:Stmt:=top 54
noncomputable abbrev y0i:FuncData:=fnX "collision" "collision" (top 54) "talejudge.zones" 570 294
theorem z2m (P:W0):Fun (KX P) "collision" "collision" y1g 295 y0i:=z0c
theorem z9j (P:W0):Binds (KX P) y0i ["tale"] []:=(z2m P).binds λ _ _ _ _ _ _=>us1 λ _=>rfl
theorem sc_collision:FnScope ["tale","told","written","number","read"] ["tale"] (z07 y1g):=.k
noncomputable abbrev y19:Stmt:=top 55
noncomputable abbrev y0b:FuncData:=fnX "first_pair" "first_pair" (top 55) "talejudge.zones" 570 301
theorem z1w (P:W0):Fun (KX P) "first_pair" "first_pair" y19 302 y0b:=z0c
theorem z7m (P:W0):Binds (KX P) y0b ["found"] []:=(z1w P).binds λ _ _ _ _ _ _=>us1 λ _=>rfl
theorem sc_first_pair:FnScope ["found","kind","zone","other"] ["found"] (z07 y19):=.k
noncomputable abbrev y1x:Stmt:=top 56
noncomputable abbrev y17:FuncData:=fnX "of_kind" "of_kind" (top 56) "talejudge.zones" 570 306
theorem z5e (P:W0):Fun (KX P) "of_kind" "of_kind" y1x 307 y17:=z0c
theorem zd0 (P:W0):Binds (KX P) y17 ["found","kind"] []:=(z5e P).binds λ _ _ _ _ _ _=>us2 λ _ _=>rfl
theorem zcq:FnScope ["found","kind"] ["found","kind"] (z07 y1x):=.k
noncomputable abbrev y1y:Stmt:=top 57
noncomputable abbrev y18:FuncData:=fnX "collide" "collide" (top 57) "talejudge.zones" 570 313
theorem z56 (P:W0):Fun (KX P) "collide" "collide" y1y 314 y18:=z0c
theorem zdl (P:W0):Binds (KX P) y18 ["zone","other"] []:=(z56 P).binds λ _ _ _ _ _ _=>us2 λ _ _=>rfl
theorem zct:FnScope ["zone","other"] ["zone","other"] (z07 y1y):=.k
noncomputable abbrev y0l:Stmt:=top 59
noncomputable abbrev y01:FuncData:=fY "_law_cell_at" "_law_cell_at" (top 59) 320
theorem z14 (P:W0):Fun (KX P) "_law_cell_at" "_law_cell_at" y0l 321 y01:=z0c
theorem z4v (P:W0):Binds (KX P) y01 ["script","k"] []:=(z14 P).binds λ _ _ _ _ _ _=>us2 λ _ _=>rfl
theorem z3y:FnScope ["script","k"] ["script","k"] (z07 y0l):=.k
noncomputable abbrev y1o:Stmt:=top 60
noncomputable abbrev y0r:FuncData:=fY "_law_row" "_law_row" (top 60) 327
theorem z3n (P:W0):Fun (KX P) "_law_row" "_law_row" y1o 328 y0r:=z0c
theorem zbk (P:W0):Binds (KX P) y0r ["cell"] []:=(z3n P).binds λ _ _ _ _ _ _=>us1 λ _=>rfl
theorem z98:FnScope ["cell"] ["cell"] (z07 y1o):=.k
noncomputable abbrev y1h:Stmt:=top 61
noncomputable abbrev y0j:FuncData:=fY "_law_take" "_law_take" (top 61) 334
theorem z2e (P:W0):Fun (KX P) "_law_take" "_law_take" y1h 335 y0j:=z0c
theorem z9b (P:W0):Binds (KX P) y0j ["row","many"] []:=(z2e P).binds λ _ _ _ _ _ _=>us2 λ _ _=>rfl
theorem sc__law_take:FnScope ["row","many","told"] ["row","many"] (z07 y1h):=.k
noncomputable abbrev y0z:Stmt:=top 62
noncomputable abbrev y09:FuncData:=fY "_law_answer" "_law_answer" (top 62) 339
theorem z1c (P:W0):Fun (KX P) "_law_answer" "_law_answer" y0z 340 y09:=z0c
theorem z6o (P:W0):Binds (KX P) y09 ["row","deed","now","rows","spoilt"] []:=(z1c P).binds λ _ _ _ _ _ _=>us5 λ _ _ _ _ _=>rfl
theorem sc__law_answer:FnScope ["row","deed","now","rows","spoilt","worths"] ["row","deed","now","rows","spoilt"] (z07 y0z):=.k
noncomputable abbrev y0d:Stmt:=top 63
noncomputable abbrev y00:FuncData:=fY "_law_exchanged" "_law_exchanged" (top 63) 344
theorem z0x (P:W0):Fun (KX P) "_law_exchanged" "_law_exchanged" y0d 345 y00:=z0c
theorem z36 (P:W0):Binds (KX P) y00 ["row","rows","events"] []:=(z0x P).binds λ _ _ _ _ _ _=>us3 λ _ _ _=>rfl
theorem sc__law_exchanged:FnScope ["row","rows","events","reads","writes","one"] ["row","rows","events"] (z07 y0d):=.k
noncomputable abbrev y1i:Stmt:=top 64
noncomputable abbrev y0k:FuncData:=fY "_law_made" "_law_made" (top 64) 351
theorem z2l (P:W0):Fun (KX P) "_law_made" "_law_made" y1i 352 y0k:=z0c
theorem za1 (P:W0):Binds (KX P) y0k ["cells","most","spoilt"] []:=(z2l P).binds λ _ _ _ _ _ _=>us3 λ _ _ _=>rfl
theorem sc__law_made:FnScope ["cells","most","spoilt","rows","events","held","now","cell","row","hand","deed","verb","worth","late"] ["cells","most","spoilt"] (z07 y1i):=.k
noncomputable abbrev y1a:Stmt:=top 65
noncomputable abbrev y0c:FuncData:=fY "_law_nexts" "_law_nexts" (top 65) 356
theorem z1t (P:W0):Fun (KX P) "_law_nexts" "_law_nexts" y1a 357 y0c:=z0c
theorem z7b (P:W0):Binds (KX P) y0c ["rows","done","now"] []:=(z1t P).binds λ _ _ _ _ _ _=>us3 λ _ _ _=>rfl
theorem sc__law_nexts:FnScope ["rows","done","now","told","number","one","state"] ["rows","done","now"] (z07 y1a):=.k
noncomputable abbrev y10:Stmt:=top 66
noncomputable abbrev y0a:FuncData:=fY "_law_strict" "_law_strict" (top 66) 361
theorem z1f (P:W0):Fun (KX P) "_law_strict" "_law_strict" y10 362 y0a:=z0c
theorem z68 (P:W0):Binds (KX P) y0a ["rows"] []:=(z1f P).binds λ _ _ _ _ _ _=>us1 λ _=>rfl
theorem sc__law_strict:FnScope ["rows","first","known","waiting","done","now","place"] ["rows"] (z07 y10):=.k
noncomputable abbrev y22:Stmt:=top 67
noncomputable abbrev fd_law:FuncData:=fY "law" "law" (top 67) 368
theorem F_law (P:W0):Fun (KX P) "law" "law" y22 369 fd_law:=z0c
theorem sc_law:FnScope ["script","tale","rows"] ["script"] (z07 y22):=.k
section
variable {P:Program} {w:S0} {mg:Str->Option Value} {base:Heap}
def z1n:Sp:=λ vs H Q _=>∃x T,vs=[x]/\TagOf H x T/\Q (.bl (decide (T = "int"))) H
theorem z9y (T:TX (kx w) mg):Fo P w mg base CX0 1 21 y0m ["value"] z1n:=by
 refine (z3h w.params).ok z9g (λ b H Q E h=>?_) (λ e A c s H b Q E d h=>?_)
 ·obtain ⟨x,t,rfl,_⟩:=h;rfl
 ·obtain ⟨x,t,rfl,a,q⟩:=h;refine ⟨_,(z06 (ps_ret (pe_and (z0a z0l rfl (T.no (z0h _)) X3 (z00 (pv 0) (z00 (z1q (v:=.ty "int") rfl (T.no (n_int _)) boot_int rfl) pa_nil))) (pe_one (pe_not (z0a z0l rfl (T.no (z0h _)) X3 (z00 (pv 0) (z00 (z1q (v:=.ty "bool") rfl (T.no (n_bool _)) boot_bool rfl) pa_nil)))))))),?_⟩;refine ⟨_,rfl,_,_,_,rfl,a,by decide,_,rfl,?_⟩;by_cases h1:instB t "int" = true
  ·rw [if_pos h1];refine ⟨_,rfl,_,_,_,rfl,a,by decide,_,rfl,?_⟩;rw [z5n a (by decide)];have:(!decide (t = "bool"))=decide (t = "int"):=by rcases a.one with rfl|rfl|rfl|rfl|rfl|rfl|rfl<;>revert h1<;>decide
   rw [this];exact q
  ·rw [if_neg h1];have:decide (t = "int")=false:=by rcases a.one with rfl|rfl|rfl|rfl|rfl|rfl|rfl<;>revert h1<;>decide
   rw [this] at q;exact q
def z1x:Sp:=λ vs H Q _=>∃x T g,vs=[x,.int g]/\TagOf H x T/\Q (.bl (z0u x g)) H
theorem z7u (T:TX (kx w) mg) (c0:Ca P w mg base "is_whole" ["value"] 1 z1n):Fo P w mg base CX0 2 28 y0e ["value","greatest"] z1x:=by
 refine (z2k w.params).ok z7s (λ b H Q E h=>?_) (λ e A d s H b Q E c h=>?_)
 ·obtain ⟨x,t,g,rfl,_⟩:=h;rfl
 ·obtain ⟨x,t,g,rfl,a,q⟩:=h;refine ⟨_,(z06 (ps_ret (pe_and (pe_cal c0 (c.mono (by decide)) rfl (z00 (pv 0) pa_nil)) (pe_one (z7t op_le op_le (pe_un un_neg (pv 1)) (pv 0) (pv 1)))))),?_⟩;refine ⟨_,rfl,x,t,rfl,a,_,rfl,?_⟩;by_cases h1:t = "int"
  ·subst h1;obtain ⟨i,rfl⟩:=a.int;refine iteT ?_;refine ⟨_,rfl,_,rfl,_,rfl,_,_,rfl,rfl,_,rfl,?_⟩;unfold z0u at q;dsimp only at q;by_cases h2:-g<=i
   ·rw [decide_eq_true h2] at q⊢;refine iteT ⟨_,rfl,_,_,rfl,rfl,?_⟩;rw [B7] at q;exact q
   ·rw [decide_eq_false h2] at q⊢;refine iteF ?_;rw [r6] at q;exact q
  ·rw [decide_eq_false h1];refine iteF ?_;rw [noInt a h1] at q;exact q
def z47:Sp:=λ vs H Q _=>∃x T,vs=[x]/\TagOf H x T/\Q (.bl (z0u x 1000000000)) H
theorem z9q (T:TX (kx w) mg) (c0:Ca P w mg base "is_within" ["value","greatest"] 2 z1x):Fo P w mg base CX0 3 35 y0n ["value"] z47:=by
 refine (z38 w.params).ok z9m (λ b H Q E h=>?_) (λ e A d s H b Q E c h=>?_)
 ·obtain ⟨x,t,rfl,_⟩:=h;rfl
 ·obtain ⟨x,t,rfl,a,q⟩:=h;refine ⟨_,(z06 (ps_ret (pe_cal c0 (c.mono (by decide)) rfl (z00 (pv 0) (z00 (z18 (v:=.int (1000000000)) rfl (T.of (z3t _)) ⟨_,rfl⟩) pa_nil))))),?_⟩;exact ⟨_,rfl,x,t,1000000000,rfl,a,q⟩
def z0v:Sp:=λ vs H Q _=>∃x T m,vs=[x,.int m]/\TagOf H x T/\Q (.bl (match tupOf H x with|some xs=>decide ((xs.length:Int)=m)|none=>false)) H
theorem z4l (T:TX (kx w) mg):Fo P w mg base CX0 1 47 y02 ["value","many"] z0v:=by
 refine (z1d w.params).ok z55 (λ i H Q E h=>?_) (λ k A j s H i Q E l h=>?_)
 ·obtain ⟨x,t,g,rfl,_⟩:=h;rfl
 ·obtain ⟨x,t,g,rfl,b,q⟩:=h;refine ⟨_,(z06 (ps_ret (pe_and (z0a z0l rfl (T.no (z0h _)) X3 (z00 (pv 0) (z00 (z1q (v:=.ty "tuple") rfl (T.no (z8o _)) j18 rfl) pa_nil))) (pe_one (z10 opEq (z0a z0o rfl (T.no (n_len _)) R3 (z00 (pv 0) pa_nil)) (pv 1) (nomark _)))))),?_⟩;refine ⟨_,rfl,_,_,_,rfl,b,by decide,_,rfl,?_⟩;rw [z5n b (by decide)];by_cases h1:t = "tuple"
  ·subst h1;obtain ⟨a,c,rfl,d⟩:=b.tuple;refine iteT ⟨_,rfl,.inl ⟨a,c,rfl,.inr (SqT.of d),_,rfl,rfl,?_⟩⟩;have e:tupOf H (.ref a)=some c:=by unfold tupOf;dsimp only;rw [d]
   rw [e] at q;have f:decide (V.int (c.length:Int)=V.int g)=decide ((c.length:Int)=g):=by simp
   rw [f];exact q
  ·rw [decide_eq_false h1];refine iteF ?_;rw [noTup b h1] at q;exact q
noncomputable def kindB (x:V):Bool:=match x with
 | .str z=>(kl_FIRST_STATES.lookup z).isSome
 | _=>false
def z3k:Sp:=λ vs H Q _=>∃x T,vs=[x]/\TagOf H x T/\Q (.bl (kindB x)) H
theorem zb2 (T:TX (kx w) mg):Fo P w mg base CX0 1 169 y12 ["kind"] z3k:=by
 refine (z4p w.params).ok zag (λ b H Q E h=>?_) (λ e A c s H b Q E d h=>?_)
 ·obtain ⟨x,t,rfl,_⟩:=h;rfl
 ·obtain ⟨x,t,rfl,a,q⟩:=h;refine ⟨_,(z06 (ps_ret (pe_and (z0a z0l rfl (T.no (z0h _)) X3 (z00 (pv 0) (z00 (z1q (v:=.ty "str") rfl (T.no (n_str _)) j19 rfl) pa_nil))) (pe_one (z10 (zg8 (z40 _)) (pv 0) (z18 (v:=.ref 85) rfl (T.of (z5a _)) rfl) (by with_unfolding_all rfl)))))),?_⟩;refine ⟨_,rfl,_,_,_,rfl,a,by decide,_,rfl,?_⟩;rw [z5n a (by decide)];by_cases h1:t = "str"
  ·subst h1;obtain ⟨z,rfl⟩:=a.str;exact iteT ⟨_,rfl,z,rfl,rfl,q⟩
  ·rw [decide_eq_false h1];refine iteF ?_;cases x with
   | str z=>exact absurd a h1
   | _=>exact q
noncomputable def formOf (k v:Str):Int:=match kl_DOERS.lookup (k,v) with
 | none=>-1
 | some _=>(match kl_WORTHS_OF_VERBS.lookup v with|some (.int i)=>i|_=>-1)
noncomputable def deedB (H:Hp) (k v x:V):Bool:=match k,v with
 | .str a,.str b=>if formOf a b=0 then decide (x=.non) else if formOf a b=1 then z0u x 1000000000 else if formOf a b=2 then
   (match tupOf H x with|some xs=>decide (xs.length=2) && xs.all λ y=>z0u y 1000000000|none=>false) else false
 | _,_=>false
theorem z6p {a b:Str} {v:V} (h:kl_DOERS.lookup (a,b)=some v):(kl_FIRST_STATES.lookup a).isSome=true/\∃i,kl_WORTHS_OF_VERBS.lookup b=some (.int i)/\(i=0\/i=1\/i=2):=by
 have m:=z7p h;have all :∀p∈kl_DOERS,(kl_FIRST_STATES.lookup p.1.1).isSome=true/\(kl_WORTHS_OF_VERBS.lookup p.1.2=some (.int 0)\/kl_WORTHS_OF_VERBS.lookup p.1.2=some (.int 1)\/kl_WORTHS_OF_VERBS.lookup p.1.2=some (.int 2)):=by decide +kernel
 obtain ⟨d,c⟩:=all _ m;refine ⟨d,?_⟩;rcases c with c|c|c
 ·exact ⟨0,c,.inl rfl⟩
 ·exact ⟨1,c,.inr (.inl rfl)⟩
 ·exact ⟨2,c,.inr (.inr rfl)⟩
def z6f:Sp:=λ vs H Q _=>∃k v x Tk Tv Tx,vs=[k,v,x]/\TagOf H k Tk/\TagOf H v Tv/\TagOf H x Tx/\Flat H x/\∀H',Same H H'->Q (.bl (deedB H k v x)) H'
theorem zc3 (T:TX (kx w) mg) (c0:Ca P w mg base "is_kind" ["kind"] 1 z3k) (c1:Ca P w mg base "is_worth" ["value"] 3 z47) (c2:Ca P w mg base "is_tuple_of" ["value","many"] 1 z0v):Fo P w mg base CX0 4 174 y13 ["kind","verb","worth"] z6f:=by
 refine (z5c w.params).ok sc_is_deed (λ W H Q E h=>?_) (λ a3 A a2 s H W Q E n h=>?_)
 ·obtain ⟨k,v,x,M,S,D,rfl,_⟩:=h;rfl
 ·obtain ⟨k,v,x,M,S,D,rfl,hk,o,B,hf,q⟩:=h;refine ⟨_,(z05 (ps_if (PW.pt (pw_or (pt_not (pt_val (pe_cal c0 (n.mono (by decide)) rfl (z00 (pv 0) pa_nil)) (λ _=>rfl))) (pw_or (pt_not (pt_val (z0a z0l rfl (T.no (z0h _)) X3 (z00 (pv 1) (z00 (z1q (v:=.ty "str") rfl (T.no (n_str _)) j19 rfl) pa_nil))) (λ _=>rfl))) (pw_or1 (z09 (z7e (hu_of n) (zfv _)) (pe_tup (z00 (pv 0) (z00 (pv 1) pa_nil))) (z18 (v:=.ref 150) rfl (T.of (zgs _)) rfl) (by with_unfolding_all rfl))))))
   (z06 (ps_ret pe_bl))
   z0d)
   (z05 (ps_set (i:=3) sc_is_deed.nd rfl (L1 rfl) (pe_ix (ix_kd (z2i _)) (z18 (v:=.ref 88) rfl (T.of (z2x _)) rfl) (pv 1) (λ _ _=>rfl)))
   (z05 (ps_if (z09 opEq (pv 3) pe_int (nomark _))
   (z06 (ps_ret (z10 op_isN (pv 2) pe_non (nomark _))))
   z0d)
   (z05 (ps_if (z09 opEq (pv 3) pe_int (nomark _))
   (z06 (ps_ret (pe_cal c1 (n.mono (by decide)) rfl (z00 (pv 2) pa_nil))))
   z0d)
   (z06 (ps_ret (pe_and (pe_cal c2 (n.mono (by decide)) rfl (z00 (pv 2) (z00 (pv 3) pa_nil))) (pe_one (z0a (z23 rfl) rfl (T.no (n_all _)) j1a (z00 (pe_cg (xs:=["part"]) (g:=gName 0) (fr:=[]) (pi_tup (pv 2)) (λ _ _ _ _ _=>(pg_cn (N:=["part"]) 0)) (λ _ _ _ _ _=>pf_nil) (λ _ _ _ _ _=>(pe_cal c1 (n.mono (by decide)) rfl (z00 (pv 0) pa_nil)))) pa_nil)))))))))),?_⟩
  refine ⟨_,rfl,k,M,rfl,hk,_,rfl,?_⟩;have O:deedB H k v x=false->Q (.bl false) H:=λ e=>by have:=q H (Same.refl H);rw [e] at this;exact this
  by_cases j :∃a,k=.str a/\(kl_FIRST_STATES.lookup a).isSome=true
  ·obtain ⟨a,rfl,j⟩:=j;have a1:kindB (.str a)=true:=j;rw [a1];refine iteF ?_;refine ⟨_,rfl,_,_,_,rfl,o,by decide,_,rfl,?_⟩;rw [z5n o (by decide)];by_cases r:S = "str"
   ·subst r;obtain ⟨b,rfl⟩:=o.str;refine iteF ?_;refine ⟨_,rfl,_,rfl,?_⟩;refine ⟨w_2,λ p hp=>⟨p,a,b,rfl,z01,rfl,_,rfl,?_⟩⟩;have d:Same H (upd H p (.tup [.str a,.str b])):=Same.upd hp;cases h3:kl_DOERS.lookup (a,b) with
    | none=>
     refine iteT ?_;have:=q _ d;have e:deedB H (.str a) (.str b) x=false:=by unfold deedB formOf;dsimp only;rw [h3];rfl
     rw [e] at this;exact this
    | some z=>
     refine iteF ?_;obtain ⟨_,i,I,X⟩:=z6p h3;have C:formOf a b=i:=by unfold formOf;rw [h3];dsimp only;rw [I]
     refine ⟨_,rfl,b,.int i,rfl,rfl,I,?_⟩;refine ⟨_,rfl,rfl,_,rfl,?_⟩;rcases X with rfl|rfl|rfl
     ·refine iteT ⟨_,rfl,rfl,?_⟩;have:=q _ d;have e:deedB H (.str a) (.str b) x=decide (x=.non):=by unfold deedB;dsimp only;rw [C];rfl
      rw [e] at this;exact this
     ·refine iteF ⟨_,rfl,rfl,_,rfl,?_⟩;refine iteT ⟨_,rfl,x,D,rfl,B.same d,?_⟩;have:=q _ d;have e:deedB H (.str a) (.str b) x=z0u x 1000000000:=by unfold deedB;dsimp only;rw [C];rfl
      rw [e] at this;exact this
     ·refine iteF ⟨_,rfl,rfl,_,rfl,?_⟩;refine iteF ⟨_,rfl,_,rfl,x,D,2,rfl,B.same d,_,rfl,?_⟩;rw [zaf B d];have e:deedB H (.str a) (.str b) x=(match tupOf H x with|some xs=>decide (xs.length=2) && xs.all λ y=>z0u y 1000000000|none=>false):=by unfold deedB;dsimp only;rw [C];rfl
      rw [e] at q;cases ht:tupOf H x with
      | none=>rw [ht] at q;exact iteF (q _ d)
      | some xs=>
       rw [ht] at q;dsimp only at q⊢;by_cases m:xs.length=2
       ·have u:((xs.length:Nat):Int)=2:=by omega
        rw [if_pos (decide_eq_true u)];rw [decide_eq_true m,B7] at q;obtain ⟨c,rfl,Z⟩:=zbz ht;have a0:xs.length<=sizeLine:=by rw [m];decide
        refine e_cb1 ?_;refine z8j (K:=KX w.params) (a:=c) (xs:=xs) (H1:=upd H p (.tup [.str a,.str b])) (λ _=>true) (λ i y _=>y=.bl (z0u (xs[i]?.getD .non) 1000000000)) (λ _ _ _ _ _ z=>z) (λ R h=>⟨_,rfl,h⟩) (SqT.of (d _ _ Z)) a0 ?_ ?_
        ·intro i L t H' F G KT KF k1 k2;obtain ⟨Ty,ty⟩:=(hf xs ht).2 t (d0 G);refine ⟨[some t],rfl,rfl,iteT ?_⟩;exact ⟨_,rfl,t,Ty,rfl,(ty.same d).same F,k1 rfl _ _ (Same.refl _) (by rw [G];rfl)⟩
        ·intro l H' ys F m J;rw [List.filter_eq_self.mpr (λ _ _=>rfl)] at J;have U:ys=xs.map λ y=>V.bl (z0u y 1000000000):=by
          rw [z1l (f:=λ i=>V.bl (z0u (xs[i]?.getD .non) 1000000000)) J];apply List.ext_getElem
          ·simp
          ·intro i j r;have L:i < xs.length:=by simpa using j
           simp [D0 L]
         subst U;refine ⟨l,_,rfl,SqL.of z01,λ y hy=>?_,?_⟩
         ·obtain ⟨z,_,rfl⟩:=List.mem_map.mp hy;exact ⟨_,rfl⟩
         ·have Y:((xs.map λ y=>V.bl (z0u y 1000000000)).all λ y=>decide (y=V.bl true))=xs.all λ y=>z0u y 1000000000:=by rw [List.all_map];congr 1;funext y;simp
          rw [Y];exact q _ ((d.trans F).trans (Same.upd m))
       ·have u:¬ ((xs.length:Nat):Int)=2:=by omega
        rw [if_neg (by rw [decide_eq_false u];exact N0)];rw [decide_eq_false m,r6] at q;exact q _ d
   ·rw [decide_eq_false r];refine iteT ?_;exact O (by unfold deedB;cases v with|str z=>exact absurd o r|_=>rfl)
  ·have e1:kindB k=false:=by
    cases k with
    | str z=>exact Bool.eq_false_iff.mpr λ e=>j ⟨z,rfl,e⟩
    | _=>rfl
   rw [e1];refine iteT ?_;refine O ?_;cases k with
   | str a=>
    cases v with
    | str b=>
     unfold deedB formOf;dsimp only;cases h3:kl_DOERS.lookup (a,b) with
     | none=>rfl
     | some z=>exact absurd ⟨a,rfl,(z6p h3).1⟩ j
    | _=>rfl
   | _=>rfl
inductive Ev
 | beg (h:Int) (n v x:V)
 | fin (h:Int) (a:V)
noncomputable def EvAt (K:c0) (H:Hp):Ev->V->Prop
 | .beg h n v x,y=>∃p,y=.ref p/\SqT K H p [.str "begin",.int h,n,v,x]
 | .fin h a,y=>∃p,y=.ref p/\SqT K H p [.str "end",.int h,a]
structure Rc where
 h:Int
 n:V
 v:V
 x:V
 a:V
 b:Nat
 e:Option Nat
noncomputable def endV:Option Nat->V
 | none=>.non
 | some i=>.int i
def RcAt (K:c0) (H:Hp) (r:Rc) (y:V):Prop:=∃p,y=.ref p/\SqT K H p [.int r.h,r.n,r.v,r.x,r.a,.int r.b,endV r.e]
def Tups (K:c0) (H H':Hp):Prop:=∀a xs,SqT K H a xs->SqT K H' a xs
theorem Tups.of {K:c0} {H H':Hp} (s:Same H H'):Tups K H H':=λ _ _ q=>s.seqT q
theorem Tups.lst {K:c0} {H:Hp} {l:Addr} {o:HO} {zs:List V} (e:H l=some (.lst zs)):Tups K H (upd H l o):=λ _ _ q=>q.wrote e
theorem Tups.dict {K:c0} {H:Hp} {l:Addr} {o:HO} {kvs:List (Key×V)} (e:H l=some (.dK kvs)):Tups K H (upd H l o):=λ a b h=>by
 rcases h with (h|⟨ob,h⟩)|h
 ·exact .inl (.inl (by rw [upd_ne (ne_of h e (by intro z;cases z))];exact h))
 ·exact .inl (.inr ⟨ob,by rw [upd_ne (ne_of h e (by intro z;cases z))];exact h⟩)
 ·exact .inr h
theorem zf0 {n j:Nat} (h:j < n):ixN n (j:Nat)=some j:=by unfold ixN;rw [if_pos (by omega),if_pos (by omega)];rfl
theorem Same.keep {H H':Hp} {l:Addr} {o:HO} (s:Same H H') (n:H l=none):Same H (upd H' l o):=λ a x e=>by rw [upd_ne (z0f e n)];exact s a x e
theorem z0q {α β:Type} {R:α->β->Prop} {x:α} {y:β} :∀{xs:List α} {ys:List β},All2 R xs ys->R x y->All2 R (xs++[x]) (ys++[y])
 | _,_,.nil,h=>.cons h .nil
 | _,_,.cons a r,h=>.cons a (z0q r h)
theorem zad {κ:Type} [DecidableEq κ] {kvs:List (κ×V)} {k:κ} {v:V}:(putK kvs k v).length<=kvs.length + 1:=by
 unfold putK;by_cases z:(kvs.any λ a=>decide (a.1=k))=true
 ·rw [if_pos z,G0];omega
 ·rw [if_neg z,J0];exact C0 _
noncomputable def lastI (h:Int) (hs:List Int):Option Nat:=(hs.foldl (λ (acc:Nat×Option Nat) k=>(acc.1 + 1,if k=h then some acc.1 else acc.2)) (0,none)).2
theorem lastF (h:Int) :∀hs:List Int,(hs.foldl (λ (acc:Nat×Option Nat) k=>(acc.1 + 1,if k=h then some acc.1 else acc.2)) (0,none)).1=hs.length:=by
 have b :∀(hs:List Int) (a:Nat×Option Nat),(hs.foldl (λ (acc:Nat×Option Nat) k=>(acc.1 + 1,if k=h then some acc.1 else acc.2)) a).1=a.1 + hs.length:=by
  intro hs;induction hs with
  | nil=>intro a;rfl
  | cons k hs ih=>intro a;rw [a8,ih,Z0];show a.1 + 1 + hs.length=_;omega
 intro hs;rw [b hs (0,none)];simp
theorem z29 (h k:Int) (hs:List Int):lastI h (hs++[k])=if k=h then some hs.length else lastI h hs:=by unfold lastI;rw [b9];show (if k=h then some _ else _)=_;rw [lastF]
theorem z72 {h:Int} {hs:List Int} {j:Nat} (e:lastI h hs=some j):j < hs.length:=by
 have c :∀(hs:List Int) (a:Nat×Option Nat),(∀j,a.2=some j->j < a.1)->∀j,(hs.foldl (λ (acc:Nat×Option Nat) k=>(acc.1 + 1,if k=h then some acc.1 else acc.2)) a).2=some j->j < a.1 + hs.length:=by
  intro hs;induction hs with
  | nil=>intro a b j e;exact b j e
  | cons k hs ih=>
   intro a b j e;rw [a8] at e;have:=ih (a.1 + 1,if k=h then some a.1 else a.2) (λ j e=>by
    dsimp only at e⊢;by_cases z:k=h
    ·rw [if_pos z] at e;cases e;omega
    ·rw [if_neg z] at e;have:=b j e;omega) j e
   rw [Z0];dsimp only at this;omega
 have:=c hs (0,none) (λ j e=>by cases e) j e;simpa using this
noncomputable def dstep (i:Nat) (rs:List Rc):Ev->List Rc
 | .beg h n v x=>rs++[⟨h,n,v,x,.non,i,none⟩]
 | .fin h a=>match lastI h (rs.map Rc.h) with|some j=>rs.modify j (λ r=>{ r with a:=a,e:=some i })|none=>rs
noncomputable def dAll:Nat->List Rc->List Ev->List Rc
 | _,rs,[]=>rs
 | i,rs,e :: es=>dAll (i + 1) (dstep i rs e) es
noncomputable def dWf:Nat->List Rc->List Ev->Prop
 | _,_,[]=>True
 | i,rs,e :: es=>(∀h a,e=.fin h a->(lastI h (rs.map Rc.h)).isSome=true)/\dWf (i + 1) (dstep i rs e) es
theorem RcAt.tups {K:c0} {H H':Hp} {r:Rc} {y:V} (t:Tups K H H') (h:RcAt K H r y):RcAt K H' r y:=h.elim λ p z=>⟨p,z.1,t _ _ z.2⟩
theorem EvAt.tups {K:c0} {H H':Hp} (t:Tups K H H') :∀{e:Ev} {y:V},EvAt K H e y->EvAt K H' e y
 | .beg h n v x,_,z=>z.elim λ p z=>⟨p,z.1,t _ _ z.2⟩
 | .fin h a,_,z=>z.elim λ p z=>⟨p,z.1,t _ _ z.2⟩
theorem z48 {α β:Type} {R:α->β->Prop} {f:α->α} {y:β} :∀{xs:List α} {ys:List β} {j:Nat} {x:α},All2 R xs ys->xs[j]? = some x->R (f x) y->All2 R (xs.modify j f) (ys.set j y)
 | _,_,_,_,.nil,e,_=>by simp at e
 | _,_,0,x,.cons a r,e,h=>by rw [Z1] at e;cases e;exact .cons h r
 | _,_,j + 1,x,.cons a r,e,h=>by rw [J1] at e;exact .cons a (z48 r e h)
theorem z25 {α β:Type} {R:α->β->Prop} :∀{xs:List α} {ys:List β} {i:Nat} {x:α},All2 R xs ys->xs[i]? = some x->∃y,ys[i]? = some y/\R x y
 | _,_,i,x,.nil,e=>by simp at e
 | _,_,0,x,.cons a _,e=>by rw [Z1] at e;cases e;exact ⟨_,Z1,a⟩
 | _,_,i + 1,x,.cons _ r,e=>by rw [J1] at e;obtain ⟨y,b,c⟩:=z25 r e;exact ⟨y,by rw [J1];exact b,c⟩
def zc0 (K:c0):Sp:=λ vs H Q _=>∃(t te:Addr) (th:V) (ys:List V) (es:List Ev),vs=[.ref t]/\SqT K H t [th,.ref te]/\SqT K H te ys/\All2 (EvAt K H) es ys/\es.length<=100/\dWf 0 [] es/\
 ∀l zs H',Same H H'->H l=none->H' l=some (.lst zs)->All2 (RcAt K H') (dAll 0 [] es) zs->Q (.ref l) H'
theorem zfr (T:TX (kx w) mg):Fo P w mg base CX0 1 248 y1p ["tale"] (zc0 (kx w)):=by
 refine (zb0 w.params).ok sc_deeds (λ vs H Q E h=>?_) (λ c4 A c3 s H vs Q E hr h=>?_)
 ·obtain ⟨t,Z,th,ys,C,rfl,_⟩:=h;rfl
 ·obtain ⟨t,Z,th,ys,C,rfl,st,se,al,hl,wf,q⟩:=h;refine ⟨_,(z05 (ps_set (i:=1) sc_deeds.nd rfl (L1 rfl) (pe_lst pa_nil))
   (z05 (ps_set (i:=2) sc_deeds.nd rfl (L1 rfl) z7h)
   (z05 (ps_for i3 rfl (zfl rfl (T.no (z4f _)) (z00 (pe_ix ix_seq (pv 0) pe_int (λ _ _=>rfl)) pa_nil)) (pg_tup rfl (z0i (z0p (i:=3) sc_deeds.nd rfl (L1 rfl)) (z0i (z0p (i:=4) sc_deeds.nd rfl (L1 rfl)) z1o)))
   (z06 (ps_if (z09 opEq (pe_ix ix_seq (pv 4) pe_int (λ _ _=>rfl)) pe_str (nomark _))
   (z05 (z84 (hu_of hr) (pv 2) (pe_ix ix_seq (pv 4) pe_int (λ _ _=>rfl)) (z0a z0o rfl (T.no (n_len _)) R3 (z00 (pv 1) pa_nil)) rfl)
   (z06 (z2t (z15 (pv 1) (z00 (pe_op opAdd (z1z slSeq (pv 4) (z2u pe_int) z45) (pe_tup (z00 pe_non (z00 (pv 3) (z00 pe_non pa_nil))))) pa_nil)))))
   (z05 (ps_set (i:=5) sc_deeds.nd rfl (L1 rfl) (zbm (hu_of hr) (pv 2) (pe_ix ix_seq (pv 4) pe_int (λ _ _=>rfl)) (λ _ _=>rfl)))
   (z05 (ps_set (i:=6) sc_deeds.nd rfl (L1 rfl) (pe_ix ix_seq (pv 1) (pv 5) (λ _ _=>rfl)))
   (z06 (ps_asg (pe_op opAdd (z1z slSeq (pv 6) z45 (z2u pe_int)) (pe_tup (z00 (pe_ix ix_seq (pv 4) pe_int (λ _ _=>rfl)) (z00 (pe_ix ix_seq (pv 6) pe_int (λ _ _=>rfl)) (z00 (pv 3) pa_nil))))) (pg_sub (pv 1) (pv 5) z1y))))))))
   (z06 (ps_ret (pv 1)))))),?_⟩
  refine ⟨w_0,λ l a0=>?_⟩;intro d a1;have U:l≠d:=z0f z01 a1;have s0:upd H l (.lst []) d=none->H d=none:=λ z=>by rwa [upd_ne U.symm] at z
  have s2:Same H (upd (upd H l (.lst [])) d (.dK [])):=(Same.upd a0).trans (Same.upd a1);have e1:upd (upd H l (.lst [])) d (.dK []) l=some (.lst []):=by rw [upd_ne U];exact z01
  have e2:upd (upd H l (.lst [])) d (.dK []) d=some (.dK []):=z01;generalize upd (upd H l (.lst [])) d (.dK [])=H2 at s2 e1 e2⊢;have c2:=z03 al;refine ⟨_,rfl,.inr (.inl ⟨t,_,1,.ref Z,rfl,rfl,s2.seqT st,z04 (j:=1) rfl,Z,ys,rfl,s2.seqT se,?_⟩)⟩;refine zee (K:=KX w.params) (a:=Z) (xs:=ys) (λ i σ M=>∃c f g,M l=some (.lst f)/\All2 (RcAt (kx w) M) c f/\M d=some (.dK g)/\g.length<=i/\c.length<=i/\(∀h,valV g (.inl h)=(lastI h (c.map Rc.h)).map λ j=>V.int (j:Nat))/\dAll i c (C.drop i)=dAll 0 [] C/\dWf i c (C.drop i)/\Same H M/\∃x3 x4 x5 x6,σ=[some (.ref t),some (.ref l),some (.ref d),x3,x4,x5,x6])
   ⟨[],[],[],e1,.nil,e2,C0 _,C0 _,λ h=>rfl,by rw [C5],by rw [C5];exact wf,s2,_,_,_,_,rfl⟩ (λ i σ M h=>?_) ?_ ?_
  ·obtain ⟨c,f,g,_,_,_,_,_,_,_,_,s',_⟩:=h;exact s'.seqT se
  ·rintro i y σ H3 p hy ⟨c,f,g,el,ar,ed,hk,hr',hv,F,dw,s3,x3,x4,x5,x6,rfl⟩ hp;obtain ⟨e,he,ev⟩:=z08 al hy;obtain ⟨hi,ee⟩:=List.getElem?_eq_some_iff.mp he;have dr:C.drop i=e :: C.drop (i + 1):=by rw [m7 hi,ee]
   rw [dr] at F dw;have s4:=s3.trans (Same.upd (o:=.tup [.int i,y]) hp);have W:=(Same.upd (o:=.tup [.int i,y]) hp) _ _ el;have O:=(Same.upd (o:=.tup [.int i,y]) hp) _ _ ed;have S:=z02 (λ a b z=>RcAt.tups (.of (Same.upd (o:=.tup [.int i,y]) hp)) z) ar;have a7:upd H3 p (.tup [.int i,y]) p=some (.tup [.int i,y]):=z01;generalize upd H3 p (.tup [.int i,y])=H4 at s4 W O S a7⊢;have b2:=EvAt.tups (.of s4) ev;refine ⟨p,_,rfl,SqT.of a7,rfl,.int i,_,rfl,y,_,rfl,rfl,?_⟩;have lz:f.length=c.length:=z03 S;have a9:100<=sizeLine:=by decide
   have a8:i < 100:=i1 hi hl;cases e with
   | beg h n v x=>
    obtain ⟨J,rfl,I⟩:=b2;refine ⟨_,rfl,.inr (.inl ⟨J,_,0,.str "begin",rfl,rfl,I,z04 (j:=0) rfl,rfl,_,rfl,iteP (decide_eq_true rfl) ?_⟩)⟩;refine ⟨_,rfl,.inl ⟨l,f,rfl,.inl (SqL.of W),⟨_,rfl,⟨_,rfl,.inr (.inl ⟨J,_,1,.int h,rfl,rfl,I,z04 (j:=1) rfl,d,_,rfl,DPut.k (k:=.inl h) O (P1 hk (i1 a8 a9)),?_⟩)⟩⟩⟩⟩;have b9:H d=none:=s0 a1;have t5:Tups (kx w) H4 (upd H4 d (.dK (putK g (.inl h) (.int (f.length:Nat))))):=Tups.dict O;have s5:=Same.keep (o:=.dK (putK g (.inl h) (.int (f.length:Nat)))) s4 b9;have a5:upd H4 d (.dK (putK g (.inl h) (.int (f.length:Nat)))) l=some (.lst f):=by rw [upd_ne U];exact W
    have a6:upd H4 d (.dK (putK g (.inl h) (.int (f.length:Nat)))) d=some (.dK (putK g (.inl h) (.int (f.length:Nat)))):=z01;generalize upd H4 d (.dK (putK g (.inl h) (.int (f.length:Nat))))=H5 at t5 s5 a5 a6⊢;have b8:=t5 _ _ I;have b6:=z02 (λ a b z=>RcAt.tups t5 z) S;refine ⟨_,rfl,.inl ⟨rfl,f,SqL.of a5⟩,⟨_,rfl,1,rfl,.inr (.inl ⟨J,_,rfl,b8,λ z=>absurd z.1 (show ¬ HT.sIx 5 0 (some 1)=0 by decide),λ G L=>?_⟩)⟩⟩;have c1:cutV [V.str "begin",.int h,n,v,x] (some 1) none=[.int h,n,v,x]:=rfl;rw [c1];refine ⟨_,rfl,w_3,λ D N=>.inr (.inr (.inr ⟨G,D,_,_,rfl,rfl,(Same.upd N).seqT (SqT.of z01),SqT.of z01,by simp,w_7,λ z=>(by cases z),λ _ u a2=>?_⟩))⟩;have B:Same H5 (upd (upd (upd H5 G (.tup [.int h,n,v,x])) D (.tup [.non,.int i,.non])) u (.tup ([.int h,n,v,x]++[.non,.int i,.non]))):=((Same.upd L).trans (Same.upd N)).trans (Same.upd a2);have R:upd (upd (upd H5 G (.tup [.int h,n,v,x])) D (.tup [.non,.int i,.non])) u (.tup ([.int h,n,v,x]++[.non,.int i,.non])) u=some (.tup ([.int h,n,v,x]++[.non,.int i,.non])):=z01;generalize upd (upd (upd H5 G (.tup [.int h,n,v,x])) D (.tup [.non,.int i,.non])) u (.tup ([.int h,n,v,x]++[.non,.int i,.non]))=H6 at B R⊢;have X:=B _ _ a5;have a3:=B _ _ a6;have a4:=z02 (λ a b z=>RcAt.tups (.of B) z) b6;have Y:Tups (kx w) H6 (upd H6 l (.lst (f++[.ref u]))):=Tups.lst X;refine ⟨l,f,_,rfl,rfl,X,P1 (L0 (Y7 lz) hr') (i1 a8 a9),?_⟩;refine ⟨c++[⟨h,n,v,x,.non,i,none⟩],f++[.ref u],putK g (.inl h) (.int (f.length:Nat)),z01,?_,?_,?_,?_,?_,(show dAll (i + 1) (dstep i c (.beg h n v x)) _=_ from F),dw.2,Same.keep (s5.trans B) a0,_,_,_,_,rfl⟩
    ·exact z0q (z02 (λ a b z=>RcAt.tups Y z) a4) ⟨u,rfl,Y _ _ (SqT.of R)⟩
    ·rw [upd_ne U.symm];exact a3
    ·exact L0 zad (by omega)
    ·rw [J0];show c.length + 1<=i + 1;omega
    ·intro k;rw [z7o,C2];show _=Option.map _ (lastI k (c.map Rc.h++[h]));rw [z29,hv k,G0,lz];by_cases z:h=k
     ·rw [if_pos z,if_pos (by rw [z])];rfl
     ·rw [if_neg z,if_neg (λ y=>z (N4 y).symm)]
   | fin h a=>
    obtain ⟨J,rfl,I⟩:=b2;obtain ⟨j,hj⟩:=Option.isSome_iff_exists.mp (dw.1 h a rfl);have c0:valV g (.inl h)=some (.int (j:Nat)):=by rw [hv h,hj];rfl
    have b3:j < c.length:=by have:=z72 hj;rwa [G0] at this
    have b4:c[j]? = some c[j]:=D0 b3;obtain ⟨yj,b7,pj,rfl,sj⟩:=z25 S b4;have b5:DGet H4 d (.int h) (some (.int (j:Nat))):=c0 ▸ DGet.k (k:=.inl h) O;refine ⟨_,rfl,.inr (.inl ⟨J,_,0,.str "end",rfl,rfl,I,z04 (j:=0) rfl,rfl,_,rfl,iteK ?_⟩)⟩;refine ⟨_,rfl,⟨_,rfl,.inr (.inl ⟨J,_,1,.int h,rfl,rfl,I,z04 (j:=1) rfl,d,_,rfl,b5,?_⟩)⟩⟩;refine ⟨_,rfl,_,rfl,.inl ⟨l,f,j,.ref pj,rfl,rfl,SqL.of W,z04 b7,?_⟩⟩;refine ⟨_,rfl,4,rfl,.inr (.inl ⟨pj,_,rfl,sj,λ z=>absurd z.2 (show ¬ HT.sIx 7 7 (some 4)=7 by decide),λ G L=>?_⟩)⟩;have c1:cutV [.int c[j].h,c[j].n,c[j].v,c[j].x,c[j].a,.int c[j].b,endV c[j].e] none (some 4)=[.int c[j].h,c[j].n,c[j].v,c[j].x]:=rfl;rw [c1];refine ⟨_,rfl,.inr (.inl ⟨J,_,2,a,rfl,rfl,(Same.upd L).seqT I,z04 (j:=2) rfl,?_⟩)⟩;refine ⟨_,rfl,.inr (.inl ⟨pj,_,5,.int c[j].b,rfl,rfl,(Same.upd L).seqT sj,z04 (j:=5) rfl,?_⟩)⟩;refine ⟨_,rfl,w_3,λ D N=>.inr (.inr (.inr ⟨G,D,_,_,rfl,rfl,(Same.upd N).seqT (SqT.of z01),SqT.of z01,by simp,w_7,λ z=>(by cases z),λ _ u a2=>?_⟩))⟩;have B:Same H4 _:=((Same.upd L).trans (Same.upd N)).trans (Same.upd (o:=.tup ([.int c[j].h,c[j].n,c[j].v,c[j].x]++[a,.int c[j].b,.int (i:Nat)])) a2);have R:upd (upd (upd H4 G (.tup [.int c[j].h,c[j].n,c[j].v,c[j].x])) D (.tup [a,.int c[j].b,.int (i:Nat)])) u (.tup ([.int c[j].h,c[j].n,c[j].v,c[j].x]++[a,.int c[j].b,.int (i:Nat)])) u=some (.tup ([.int c[j].h,c[j].n,c[j].v,c[j].x]++[a,.int c[j].b,.int (i:Nat)])):=z01;generalize upd (upd (upd H4 G (.tup [.int c[j].h,c[j].n,c[j].v,c[j].x])) D (.tup [a,.int c[j].b,.int (i:Nat)])) u (.tup ([.int c[j].h,c[j].n,c[j].v,c[j].x]++[a,.int c[j].b,.int (i:Nat)]))=H6 at B R⊢;have X:=B _ _ W;have a3:=B _ _ O;have a4:=z02 (λ a b z=>RcAt.tups (.of B) z) S;have Y:Tups (kx w) H6 (upd H6 l (.lst (f.set j (.ref u)))):=Tups.lst X;refine ⟨_,rfl,_,rfl,l,f,j,j,rfl,rfl,X,zf0 (show j < f.length by rw [lz];exact b3),?_⟩;have dd:dstep i c (.fin h a)=c.modify j (λ r=>{ r with a:=a,e:=some i }):=by unfold dstep;dsimp only;rw [hj]
    have b0:dAll (i + 1) (dstep i c (.fin h a)) (List.drop (i + 1) C)=_:=F;have b1:=dw.2;rw [dd] at b0 b1;have mh:(c.modify j (λ r=>{ r with a:=a,e:=some i })).map Rc.h=c.map Rc.h:=by
     apply Z4;intro m;rw [V0,V0,B2];cases c[m]? with
     | none=>rfl
     | some r=>
      show some (if j=m then _ else r).h=some r.h;by_cases z:j=m
      ·rw [if_pos z]
      ·rw [if_neg z]
    refine ⟨_,f.set j (.ref u),g,z01,?_,?_,?_,?_,?_,b0,b1,Same.keep (s4.trans B) a0,_,_,_,_,rfl⟩
    ·exact z48 (z02 (λ a b z=>RcAt.tups Y z) a4) b4 ⟨u,rfl,Y _ _ (SqT.of R)⟩
    ·rw [upd_ne U.symm];exact a3
    ·omega
    ·rw [X5];omega
    ·intro k;rw [mh];exact hv k
  ·rintro σ H3 ⟨c,f,g,el,ar,ed,hk,hr',hv,F,dw,s3,x3,x4,x5,x6,rfl⟩;have:C.drop ys.length=[]:=by rw [c2];exact List.drop_length
   rw [this] at F;have F:c=dAll 0 [] C:=F;rw [<-F] at q;exact ⟨_,rfl,q l f H3 s3 a0 el ar⟩
end
section
noncomputable def oStep (os:List Int):Ev->List Int
 | .beg h _ _ _=>os++[h]
 | .fin h _=>os.filter λ k=>decide (k≠h)
noncomputable def oOk (os:List Int):Ev->Prop
 | .beg h _ _ _=>h∉os
 | .fin h _=>h∈os
noncomputable def EWf:List Int->List Ev->Prop
 | _,[]=>True
 | os,e :: es=>oOk os e/\EWf (oStep os e) es
theorem EWf.snoc :∀{es:List Ev} {os:List Int} {e:Ev},EWf os es->oOk (es.foldl oStep os) e->EWf os (es++[e])
 | [],os,e,_,h=>⟨h,trivial⟩
 | x :: es,os,e,w,h=>⟨w.1,EWf.snoc w.2 h⟩
theorem z5i {h:Int} (hs:List Int) :∀{j:Nat},lastI h hs=some j->hs[j]? = some h/\∀k,j < k->hs[k]?≠some h:=by
 suffices key :∀n (hs:List Int),hs.length=n->∀{j:Nat},lastI h hs=some j->hs[j]? = some h/\∀k,j < k->hs[k]?≠some h from λ {j} a=>key _ hs rfl a;intro n;induction n with
 | zero=>intro hs e j a;have:=z72 a;omega
 | succ n ih=>
  intro hs e j a;have ne:hs≠[]:=λ z=>by rw [z] at e;cases e
  obtain ⟨b,t,rfl⟩ :∃b t,hs=b++[t]:=⟨hs.dropLast,hs.getLast ne,(K9 ne).symm⟩
  rw [J0] at e;have e:b.length=n:=by simpa using e
  rw [z29] at a;by_cases z:t=h
  ·rw [if_pos z] at a;cases a;refine ⟨by simp [z],λ k c=>?_⟩;rw [B4 (by rw [J0];show b.length + 1<=k;omega)];intro y;cases y
  ·rw [if_neg z] at a;obtain ⟨f,d⟩:=ih b e a;have lt:=z72 a;refine ⟨by rw [X2 lt];exact f,λ k c=>?_⟩;by_cases y:k < b.length
   ·rw [X2 y];exact d k c
   ·by_cases y2:k=b.length
    ·subst y2;rw [V2 (C0 _)];simp;exact z
    ·rw [B4 (by rw [J0];show b.length + 1<=k;omega)];intro y;cases y
theorem zau {h:Int} (hs:List Int) (hm:h∈hs):(lastI h hs).isSome=true:=by
 suffices key :∀n (hs:List Int),hs.length=n->h∈hs->(lastI h hs).isSome=true from key _ hs rfl hm;intro n;induction n with
 | zero=>intro hs e hm;rw [List.length_eq_zero_iff.mp e] at hm;cases hm
 | succ n ih=>
  intro hs e hm;have ne:hs≠[]:=λ z=>by rw [z] at e;cases e
  obtain ⟨a,t,rfl⟩ :∃a t,hs=a++[t]:=⟨hs.dropLast,hs.getLast ne,(K9 ne).symm⟩
  rw [J0] at e;rw [z29];by_cases z:t=h
  ·rw [if_pos z];rfl
  ·rw [if_neg z];refine ih a (by simpa using e) ?_;rcases List.mem_append.mp hm with y|y
   ·exact y
   ·exact absurd (List.mem_singleton.mp y).symm z
structure DInv (i:Nat) (rs:List Rc) (os:List Int):Prop where
 b :∀r∈rs,r.b < i
 e :∀r∈rs,∀e,r.e=some e->e < i
 p :∀(x y:Nat) (r q:Rc),x < y->rs[x]? = some r->rs[y]? = some q->r.b < q.b/\(r.h=q.h->∃e,r.e=some e/\e < q.b)
 o :∀r∈rs,r.h∉os->r.e.isSome=true
 m :∀h∈os,h∈rs.map Rc.h
theorem DInv.nil:DInv 0 [] []:=⟨λ _ h=>(by cases h),λ _ h=>(by cases h),λ x y r q _ h=>(by simp at h),λ _ h=>(by cases h),λ _ h=>(by cases h)⟩
theorem zao {rs:List Rc} {j:Nat} {f:Rc->Rc} (hf :∀r,(f r).h=r.h):(rs.modify j f).map Rc.h=rs.map Rc.h:=by
 apply Z4;intro m;rw [V0,V0,B2];cases rs[m]? with
 | none=>rfl
 | some r=>
  show some (if j=m then f r else r).h=some r.h;by_cases z:j=m
  ·rw [if_pos z,hf]
  ·rw [if_neg z]
theorem DInv.step {i:Nat} {rs:List Rc} {os:List Int} (I:DInv i rs os) {e:Ev} (ok:oOk os e):DInv (i + 1) (dstep i rs e) (oStep os e)/\∀h a,e=.fin h a->(lastI h (rs.map Rc.h)).isSome=true:=by
 cases e with
 | beg h n v x=>
  have ok:h∉os:=ok;refine ⟨⟨λ r d=>?_,λ r d e c=>?_,λ u g r q E K C=>?_,λ r d B=>?_,λ k N=>?_⟩,λ h a e=>by cases e⟩
  ·rcases List.mem_append.mp d with z|z
   ·have:=I.b r z;omega
   ·rw [List.mem_singleton.mp z];exact A2 i
  ·rcases List.mem_append.mp d with z|z
   ·have:=I.e r z e c;omega
   ·rw [List.mem_singleton.mp z] at c;cases c
  ·have a1:g < (dstep i rs (.beg h n v x)).length:=(List.getElem?_eq_some_iff.mp C).1;have hl:(dstep i rs (.beg h n v x)).length=rs.length + 1:=by show (rs++[_]).length=_;rw [J0];rfl
   have W:rs[u]? = some r:=by
    have:(rs++[_])[u]? = some r:=K
    rwa [X2 (by omega)] at this
   by_cases z:g < rs.length
   ·have a0:rs[g]? = some q:=by
     have:(rs++[_])[g]? = some q:=C
     rwa [X2 z] at this
    exact I.p u g r q E W a0
   ·have M:(rs++[_])[g]? = some q:=C;have Y:g=rs.length:=by omega
    subst Y;rw [V2 (C0 _)] at M;simp at M;have L:=d0 W;rw [<-M];refine ⟨I.b r L,λ A=>?_⟩;have:r.e.isSome=true:=I.o r L (by rw [A];exact ok);obtain ⟨e,c⟩:=Option.isSome_iff_exists.mp this;exact ⟨e,c,I.e r L e c⟩
  ·rcases List.mem_append.mp d with z|z
   ·exact I.o r z λ y=>B (List.mem_append.mpr (.inl y))
   ·rw [List.mem_singleton.mp z] at B;exact absurd (List.mem_append.mpr (.inr (List.mem_singleton.mpr rfl))) B
  ·show k∈(rs++[_]).map Rc.h;rw [C2];rcases List.mem_append.mp N with z|z
   ·exact List.mem_append.mpr (.inl (I.m k z))
   ·rw [List.mem_singleton.mp z];exact List.mem_append.mpr (.inr (List.mem_singleton.mpr rfl))
 | fin h a=>
  have ok:h∈os:=ok;obtain ⟨j,F⟩:=Option.isSome_iff_exists.mp (zau _ (I.m h ok));refine ⟨?_,λ h' a' e=>by cases e;rw [F];rfl⟩;obtain ⟨T,P⟩:=z5i _ F;have hd:dstep i rs (.fin h a)=rs.modify j (λ r=>{ r with a:=a,e:=some i }):=by unfold dstep;dsimp only;rw [F]
  rw [hd];have Z:oStep os (.fin h a)=os.filter λ k=>decide (k≠h):=rfl;rw [Z];rw [V0] at T;obtain ⟨rj,R,X⟩:=Option.map_eq_some_iff.mp T;have get :∀m q,(rs.modify j (λ r=>{ r with a:=a,e:=some i }))[m]? = some q->∃r,rs[m]? = some r/\q.h=r.h/\q.b=r.b/\(m=j->q.e=some i)/\(m≠j->q=r):=λ m q U=>by
   rw [B2] at U;obtain ⟨r,d,e⟩:=Option.map_eq_some_iff.mp U;refine ⟨r,d,?_⟩;by_cases z:j=m
   ·rw [if_pos z] at e;rw [<-e];exact ⟨rfl,rfl,λ _=>rfl,λ y=>absurd z.symm y⟩
   ·rw [if_neg z] at e;rw [<-e];exact ⟨rfl,rfl,λ y=>absurd y.symm z,λ _=>rfl⟩
  refine ⟨λ r d=>?_,λ r d e c=>?_,λ u g r q E K C=>?_,λ r d B=>?_,λ k N=>?_⟩
  ·obtain ⟨m,D⟩:=List.mem_iff_getElem?.mp d;obtain ⟨s,t,_,h3,_⟩:=get m r D;have:=I.b s (d0 t);omega
  ·obtain ⟨m,D⟩:=List.mem_iff_getElem?.mp d;obtain ⟨s,t,_,_,G,J⟩:=get m r D;by_cases z:m=j
   ·rw [G z] at c;cases c;exact A2 i
   ·rw [J z] at c;have:=I.e s (d0 t) e c;omega
  ·obtain ⟨s,O,r2,r3,r4,r5⟩:=get u r K;obtain ⟨S,V,Q,q3,_⟩:=get g q C;obtain ⟨p1,H⟩:=I.p u g s S E O V;refine ⟨by omega,λ A=>?_⟩;by_cases z:u=j
   ·subst z;rw [R] at O;cases O;refine absurd ?_ (P g E);rw [V0,V];show some S.h=some h;rw [<-Q,<-A,r2,X]
   ·rw [r5 z] at A⊢;rw [Q] at A;obtain ⟨e,c,lt⟩:=H A;exact ⟨e,c,by omega⟩
  ·obtain ⟨m,D⟩:=List.mem_iff_getElem?.mp d;obtain ⟨s,t,h2,_,G,J⟩:=get m r D;by_cases z:m=j
   ·rw [G z];rfl
   ·rw [J z] at B⊢;by_cases y:s.h=h
    ·have lt:m < j:=by
      rcases Nat.lt_or_gt_of_ne z with l|l
      ·exact l
      ·exact absurd (by rw [V0,t];show some s.h=_;rw [y]) (P m l)
     obtain ⟨_,H⟩:=I.p m j s rj lt t R;obtain ⟨e,c,_⟩:=H (by rw [y,X]);rw [c];rfl
    ·exact I.o s (d0 t) λ w=>B (List.mem_filter.mpr ⟨w,decide_eq_true y⟩)
  ·rw [zao (f:=λ r=>{ r with a:=a,e:=some i }) (λ r=>rfl)];exact I.m k (List.mem_filter.mp N).1
theorem DInv.all :∀{es:List Ev} {i:Nat} {rs:List Rc} {os:List Int},DInv i rs os->EWf os es->dWf i rs es/\∃os',DInv (i + es.length) (dAll i rs es) os'
 | [],i,rs,os,I,_=>⟨trivial,os,I⟩
 | e :: es,i,rs,os,I,w=>by obtain ⟨b,d⟩:=I.step w.1;obtain ⟨c,os',a⟩:=DInv.all b w.2;refine ⟨⟨d,c⟩,os',?_⟩;rw [Z0,show i + (es.length + 1)=i + 1 + es.length by omega];exact a
theorem z4k {kvs:List (Key×V)} {k:Key}:(valV kvs k).isSome=true↔k∈kvs.map (·.1):=by
 induction kvs with
 | nil=>simp [valV]
 | cons p r ih=>
  obtain ⟨a,pv⟩:=p;by_cases y:a=k
  ·subst y;rw [z0r rfl];simp
  ·rw [z0t y,ih,X0,O2];exact ⟨λ z=>.inr z,λ z=>z.resolve_left λ x=>y x.symm⟩
theorem z3f {kvs:List (Key×V)} {k:Key} {v:V} (h:k∉kvs.map (·.1)):putK kvs k v=kvs++[(k,v)]:=by unfold putK;rw [if_neg];intro z;obtain ⟨p,a,e⟩:=List.any_eq_true.mp z;exact h (List.mem_map.mpr ⟨p,a,of_decide_eq_true e⟩)
theorem z1k {α β:Type} {R:α->β->Prop} :∀{xs:List α} {ys:List β},ys.length=xs.length->(∀(k:Nat) a b,xs[k]? = some a->ys[k]? = some b->R a b)->All2 R xs ys
 | [],[],_,_=>.nil
 | [],y :: ys,h,_=>by cases h
 | x :: xs,[],h,_=>by cases h
 | x :: xs,y :: ys,h,f=>.cons (f 0 x y rfl rfl) (z1k (by simpa using h) λ k a b d c=>f (k + 1) a b (by rw [J1];exact d) (by rw [J1];exact c))
end
section
variable {P:Program} {w:S0} {mg:Str->Option Value} {base:Heap}
structure NameOk (z:Str):Prop where
 l1:1<=z.length
 l8:z.length<=8
 s :∀c∈z.cps.toList,97<=c/\c<=122
theorem NameOk.ascii {z:Str} (h:NameOk z):z.cps.all (· < 128)=true:=by rw [Array.all_eq_true_iff_forall_mem];intro c a;have:=h.s c (Array.mem_toList_iff.mpr a);exact decide_eq_true (by omega)
theorem zdy :∀k:Fin 26,(Y6 ("abcdefghijklmnopqrstuvwxyz" : Str) ⟨#[97 + k.val]⟩ 0 ("abcdefghijklmnopqrstuvwxyz" : Str).length 1).isEmpty=false:=by decide +kernel
theorem zdj {c:Nat} (h:97<=c/\c<=122):(Y6 ("abcdefghijklmnopqrstuvwxyz" : Str) ⟨#[c]⟩ 0 ("abcdefghijklmnopqrstuvwxyz" : Str).length 1).isEmpty=false:=by have:=zdy ⟨c - 97,by omega⟩;rw [show 97 + (c - 97)=c by omega] at this;exact this
def z3m:Sp:=λ vs H Q _=>∃z:Str,vs=[.str z]/\NameOk z/\∀H',Same H H'->Q (.bl true) H'
theorem zb9 (T:TX (kx w) mg):Fo P w mg base CX0 1 40 y11 ["value"] z3m:=by
 refine (z4t w.params).ok zco (λ n H Q E h=>?_) (λ I A C s H n Q E J h=>?_)
 ·obtain ⟨z,rfl,_⟩:=h;rfl
 ·obtain ⟨z,rfl,b,q⟩:=h;refine ⟨_,(z05 (ps_if (PW.pt (pw_or (pt_not (pt_val (z0a z0l rfl (T.no (z0h _)) X3 (z00 (pv 0) (z00 (z1q (v:=.ty "str") rfl (T.no (n_str _)) j19 rfl) pa_nil))) (λ _=>rfl))) (pw_or1 (pt_not (zfh op_le op_le pe_int (z0a z0o rfl (T.no (n_len _)) R3 (z00 (pv 0) pa_nil)) (z18 (v:=.int (8)) rfl (T.of (z4u _)) ⟨_,rfl⟩))))))
   (z06 (ps_ret pe_bl))
   z0d)
   (z06 (ps_ret (z0a (z23 rfl) rfl (T.no (n_all _)) j1a (z00 (pe_cg (xs:=["sign"]) (g:=gName 0) (fr:=[]) (pi_str (pv 0)) (λ _ _ _ _ _=>(pg_cn (N:=["sign"]) 0)) (λ _ _ _ _ _=>pf_nil) (λ _ _ _ _ _=>(z10 zdz (pv 0) (z18 (v:=.str "abcdefghijklmnopqrstuvwxyz") rfl (T.of (z3v _)) ⟨_,rfl⟩) (by with_unfolding_all rfl)))) pa_nil))))),?_⟩
  have B:=b.l1;have e:=b.l8;refine sq_if (t_or ?_);refine ⟨_,rfl,_,_,"str",rfl,rfl,by decide,_,rfl,iteN (by decide) ?_⟩;refine ⟨_,rfl,.inr ⟨z,rfl,L0 e (by decide),_,_,rfl,rfl,_,rfl,?_⟩⟩;refine iteP (decide_eq_true (by omega)) ?_;refine ⟨_,_,rfl,rfl,_,rfl,iteN (by rw [decide_eq_true (show (z.length:Int)<=8 by omega)];decide) ?_⟩;refine t_nx (sq_ret (e_cb1 ?_));refine tcompS (x:=z) (H1:=H) (λ _=>true) (λ _ y _=>y=.bl true) (λ _ _ _ _ _ z=>z) (λ R h=>⟨_,rfl,h⟩) b.ascii (L0 (m:=8) e (by decide)) ?_ ?_
  ·intro i F v H1 d j KT D u G;obtain ⟨c,o,rfl⟩:=j;have p:c∈z.cps.toList:=Array.mem_toList_iff.mpr (j12 o);refine ⟨[some (.str ⟨#[c]⟩)],rfl,rfl,iteT ?_⟩;refine ⟨_,rfl,_,_,rfl,rfl,?_⟩;rw [zdj (b.s c p)];exact u rfl _ _ (Same.refl _) rfl
  intro r H1 bs d l k;have f :∀y∈bs,y=.bl true:=λ y a=>by obtain ⟨m,t⟩:=List.mem_iff_getElem?.mp a;obtain ⟨_,_,z⟩:=z08 k t;exact z
  refine ⟨r,bs,rfl,SqL.of z01,λ y a=>⟨true,f y a⟩,?_⟩;rw [List.all_eq_true.mpr (λ y a=>decide_eq_true (f y a))];exact q _ (d.trans (Same.upd l))
structure ThingOk (t:Str×Str):Prop where
 n:NameOk t.1
 k:kindB (.str t.2)=true
def ThV (H:Hp) (t:Str×Str) (y:V):Prop:=∃p,y=.ref p/\H p=some (.tup [.str t.1,.str t.2])
theorem ThV.same {H H':Hp} {t:Str×Str} {y:V} (s:Same H H') (h:ThV H t y):ThV H' t y:=h.elim λ p z=>⟨p,z.1,s _ _ z.2⟩
theorem z5g {H:Hp} {p:Addr} {xs:List V} (e:H p=some (.tup xs)):tupOf H (.ref p)=some xs:=by unfold tupOf;dsimp only;rw [e]
def z46:Sp:=λ vs H Q _=>∃t y,vs=[y]/\ThV H t y/\ThingOk t/\∀H',Same H H'->Q (.bl true) H'
theorem z9c (T:TX (kx w) mg) (c0:Ca P w mg base "is_tuple_of" ["value","many"] 1 z0v) (c1:Ca P w mg base "is_name" ["value"] 1 z3m) (c2:Ca P w mg base "is_kind" ["kind"] 1 z3k):Fo P w mg base CX0 2 194 y0o ["thing"] z46:=by
 refine (z3u w.params).ok z9k (λ d H Q E h=>?_) (λ g A f s H d Q E b h=>?_)
 ·obtain ⟨t,y,rfl,_⟩:=h;rfl
 ·obtain ⟨t,y,rfl,⟨p,rfl,a⟩,ok,q⟩:=h;refine ⟨_,(z06 (ps_ret (pe_and (pe_cal c0 (b.mono (by decide)) rfl (z00 (pv 0) (z00 pe_int pa_nil))) (pe_and (pe_cal c1 (b.mono (by decide)) rfl (z00 (pe_ix ix_seq (pv 0) pe_int (λ _ _=>rfl)) pa_nil)) (pe_one (pe_cal c2 (b.mono (by decide)) rfl (z00 (pe_ix ix_seq (pv 0) pe_int (λ _ _=>rfl)) pa_nil))))))),?_⟩;refine ⟨_,rfl,_,"tuple",2,rfl,.inr (.inl ⟨⟨_,a⟩,rfl⟩),?_⟩;rw [z5g a];refine ⟨_,rfl,iteP (by simp) ?_⟩;refine ⟨_,rfl,.inr (.inl ⟨p,_,0,.str t.1,rfl,rfl,SqT.of a,z04 (j:=0) rfl,t.1,rfl,ok.n,λ e c=>⟨true,rfl,iteP rfl ?_⟩⟩)⟩;refine ⟨_,rfl,.inr (.inl ⟨p,_,1,.str t.2,rfl,rfl,SqT.of (c _ _ a),z04 (j:=1) rfl,_,"str",rfl,rfl,?_⟩)⟩;rw [ok.k];exact q _ c
def z24 (K:c0):Sp:=λ vs H Q _=>∃(a p0:Addr) (t:Str×Str),vs=[.ref a]/\H a=some (.lst [.ref p0])/\ThV H t (.ref p0)/\ThingOk t/\∀c H',Same H H'->H' c=some (.tup [.ref p0])->Q (.ref c) H'
theorem z4m (T:TX (kx w) mg) (c0:Ca P w mg base "is_thing" ["thing"] 2 z46):Fo P w mg base CX0 3 187 y03 ["things"] (z24 (kx w)):=by
 refine (z1b w.params).ok z50 (λ W H Q E h=>?_) (λ a3 A a2 s H W Q E hr h=>?_)
 ·obtain ⟨a,b,t,rfl,_⟩:=h;rfl
 ·obtain ⟨a,b,t,rfl,B,G,ok,q⟩:=h;refine ⟨_,(z05 (ps_if (PW.pt (pw_or (pt_not (pt_val (z0a z0l rfl (T.no (z0h _)) X3 (z00 (pv 0) (z00 (z1q (v:=.ty "list") rfl (T.no (n_list _)) boot_list rfl) pa_nil))) (λ _=>rfl))) (pw_or1 (pt_not (pt_val (z0a (z23 rfl) rfl (T.no (n_all _)) j1a (z00 (pe_cg (xs:=["thing"]) (g:=gName 0) (fr:=[]) (z0n (pv 0)) (λ _ _ _ _ _=>(pg_cn (N:=["thing"]) 0)) (λ _ _ _ _ _=>pf_nil) (λ _ _ _ _ _=>(pe_cal c0 (hr.mono (by decide)) rfl (z00 (pv 0) pa_nil)))) pa_nil)) (λ _=>rfl))))))
   (z06 z1s)
   z0d)
   (z05 (ps_if (z09 op_gt (z0a z0o rfl (T.no (n_len _)) R3 (z00 (pv 0) pa_nil)) (z18 (v:=.int (6)) rfl (T.of (z60 _)) ⟨_,rfl⟩) (nomark _))
   (z06 z1s)
   z0d)
   (z05 (ps_if (z09 op_lt (zbi rfl rfl (T.no (n_len _)) rfl (T.no (n_set _)) R3 boot_set (pe_cg (xs:=["thing"]) (g:=gName 0) (fr:=[]) (z0n (pv 0)) (λ _ _ _ _ _=>(pg_cn (N:=["thing"]) 0)) (λ _ _ _ _ _=>pf_nil) (λ _ _ _ _ _=>(pe_ix (z0m (K:=KX w.params) rfl) (pv 0) pe_int (λ _ _=>rfl))))) (z0a z0o rfl (T.no (n_len _)) R3 (z00 (pv 0) pa_nil)) (nomark _))
   (z06 z1s)
   z0d)
   (z06 (ps_ret (z31 z1i rfl (T.no (z8o _)) j18 (z00 (z0a z7a rfl (T.no (zcs _)) boot_sorted (z00 (pv 0) pa_nil)) pa_nil))))))),?_⟩
  refine sq_if (t_or ?_);refine ⟨_,rfl,_,_,"list",rfl,.inl ⟨⟨_,B⟩,rfl⟩,by decide,_,rfl,iteN (by decide) ?_⟩;refine tB_not (e_cb1 ?_);refine z0s (K:=KX w.params) (a:=a) (xs:=[.ref b]) (H1:=H) (λ _=>true) (λ _ y _=>y=.bl true) (λ _ _ _ _ _ z=>z) (λ R h=>⟨_,rfl,h⟩) (SqL.of B) w_1 ?_ ?_
  ·intro i hi v H1 x l KT Z D k2;cases List.mem_singleton.mp (d0 l);exact ⟨[some (.ref b)],rfl,rfl,iteT ⟨_,rfl,t,_,rfl,G.same x,ok,λ L d=>D rfl _ _ d rfl⟩⟩
  intro M H1 bs x U S;have O :∀y∈bs,y=.bl true:=λ y f=>by obtain ⟨m,hm⟩:=List.mem_iff_getElem?.mp f;obtain ⟨_,_,z⟩:=z08 S hm;exact z
  refine ⟨M,bs,rfl,SqL.of z01,λ y f=>⟨true,O y f⟩,?_⟩;rw [List.all_eq_true.mpr (λ y f=>decide_eq_true (O y f))];refine ⟨_,rfl,iteN (by decide) ?_⟩;have d:=x.trans (Same.upd (o:=.lst bs) U);generalize upd H1 M (.lst bs)=L at d⊢;have u:=d _ _ B;refine t_nx (sq_if ?_);refine ⟨_,rfl,.inl ⟨a,_,rfl,.inl (SqL.of u),_,_,rfl,rfl,_,rfl,iteN (show ¬ decide ((6:Int) < ((1:Nat):Int))=true by decide) ?_⟩⟩;refine t_nx (sq_if (t_test (zgy ?_)));refine z0s (K:=KX w.params) (a:=a) (xs:=[.ref b]) (H1:=L) (λ _=>true) (λ i y _=>y=.str t.1) (λ _ _ _ _ _ z=>z) (λ R h=>⟨_,rfl,h⟩) (SqL.of u) w_1 ?_ ?_
  ·intro i hi v C n l KT Z D k2;cases List.mem_singleton.mp (d0 l);obtain ⟨p,e,ep⟩:=G.same (d.trans n);cases e;exact ⟨[some (.ref b)],rfl,rfl,iteT ⟨_,rfl,.inr (.inl ⟨b,_,0,.str t.1,rfl,rfl,SqT.of ep,z04 (j:=0) rfl,D rfl _ _ (Same.refl _) rfl⟩)⟩⟩
  intro k C zs n X a1;have ez:zs=[V.str t.1]:=by
   cases a1 with
   | cons a r=>cases r;rw [a]
  subst ez;have F:=n.trans (Same.upd (o:=.lst [V.str t.1]) X);have J:upd C k (.lst [V.str t.1]) k=some (.lst ([t.1].map V.str)):=z01;generalize upd C k (.lst [V.str t.1])=H4 at F J⊢;have I:=F _ _ u;refine ⟨k,[t.1],rfl,SqL.of J,(show (1:Nat) < 100 by decide),_,rfl,.inl ⟨a,_,rfl,.inl (SqL.of I),_,_,rfl,rfl,_,rfl,iteN (λ e=>absurd (of_decide_eq_true e) (by show ¬ ((addT [] t.1).length:Int) < ((1:Nat):Int);unfold addT;rw [if_neg B0];exact (show ¬ ((1:Nat):Int) < ((1:Nat):Int) by decide))) ?_⟩⟩;refine t_nx (sq_ret ?_);refine ⟨_,rfl,a,_,rfl,SqL.of I,λ l5 a0=>?_⟩;have s5:=F.trans (Same.upd (o:=.lst [.ref b]) a0);exact ⟨l5,_,rfl,.inl ⟨SqL.of z01,λ c Y=>q c _ (d.trans (s5.trans (Same.upd Y))) z01⟩⟩
def z6z:Sp:=λ vs H Q _=>∃h:Int,vs=[.int h]/\0<=h/\h<=5/\Q (.bl true) H
theorem zcm (T:TX (kx w) mg) (c0:Ca P w mg base "is_whole" ["value"] 1 z1n):Fo P w mg base CX0 2 227 y14 ["hand"] z6z:=by
 refine (z51 w.params).ok zal (λ b H Q E h=>?_) (λ g A f s H b Q E e h=>?_)
 ·obtain ⟨h,rfl,_⟩:=h;rfl
 ·obtain ⟨h,rfl,a,d,q⟩:=h;refine ⟨_,(z06 (ps_ret (pe_and (pe_cal c0 (e.mono (by decide)) rfl (z00 (pv 0) pa_nil)) (pe_one (z7t op_le op_le pe_int (pv 0) (z18 (v:=.int (5)) rfl (T.of (z9o _)) ⟨_,rfl⟩)))))),?_⟩;refine ⟨_,rfl,_,"int",rfl,rfl,_,rfl,iteP (by decide) ?_⟩;refine ⟨_,rfl,_,_,rfl,rfl,_,rfl,?_⟩;rw [decide_eq_true a];refine iteT ⟨_,_,rfl,rfl,?_⟩;have c:decide (h<=5)=true:=decide_eq_true d;show Q (.bl (decide (h<=5))) H;rw [c];exact q
def z2j:Sp:=λ vs H Q _=>∃(p:Addr) (xs:List V) (z wd:Str) (h m:Int),vs=[.ref p,.str wd,.int m]/\H p=some (.tup (.str z :: .int h :: xs))/\0<=h/\h<=5/\Q (.bl (decide (((xs.length + 2:Nat):Int)=m) && decide (z=wd))) H
theorem z9d (T:TX (kx w) mg) (c0:Ca P w mg base "is_tuple_of" ["value","many"] 1 z0v) (c1:Ca P w mg base "is_hand" ["hand"] 2 z6z):Fo P w mg base CX0 3 220 y0q ["event","word","many"] z2j:=by
 refine (z3i w.params).ok z9e (λ f H Q E h=>?_) (λ l A k s H f Q E d h=>?_)
 ·obtain ⟨p,b,z,c,h,m,rfl,_⟩:=h;rfl
 ·obtain ⟨p,b,z,c,h,m,rfl,a,i,g,q⟩:=h;refine ⟨_,(z06 (ps_ret (pe_and (pe_cal c0 (d.mono (by decide)) rfl (z00 (pv 0) (z00 (pv 2) pa_nil))) (pe_and (z0a z0l rfl (T.no (z0h _)) X3 (z00 (pe_ix ix_seq (pv 0) pe_int (λ _ _=>rfl)) (z00 (z1q (v:=.ty "str") rfl (T.no (n_str _)) j19 rfl) pa_nil))) (pe_and (z10 opEq (pe_ix ix_seq (pv 0) pe_int (λ _ _=>rfl)) (pv 1) (nomark _)) (pe_one (pe_cal c1 (d.mono (by decide)) rfl (z00 (pe_ix ix_seq (pv 0) pe_int (λ _ _=>rfl)) pa_nil)))))))),?_⟩;refine ⟨_,rfl,_,rfl,_,"tuple",m,rfl,.inr (.inl ⟨⟨_,a⟩,rfl⟩),?_⟩;rw [z5g a];refine ⟨_,rfl,?_⟩;by_cases hm:((b.length + 2:Nat):Int)=m;rotate_left
  ·rw [decide_eq_false hm,r6] at q;exact iteN (λ e=>hm (of_decide_eq_true e)) q
  rw [decide_eq_true hm,B7] at q;refine iteP (decide_eq_true hm) ?_;refine ⟨_,rfl,.inr (.inl ⟨p,_,0,.str z,rfl,rfl,SqT.of a,z04 (j:=0) rfl,_,_,"str",rfl,rfl,by decide,_,rfl,iteP (by decide) ?_⟩)⟩;refine ⟨_,rfl,.inr (.inl ⟨p,_,0,.str z,rfl,rfl,SqT.of a,z04 (j:=0) rfl,_,rfl,rfl,_,rfl,?_⟩)⟩;by_cases hz:z=c
  ·subst hz;refine iteP (decide_eq_true rfl) ?_;rw [decide_eq_true rfl] at q;exact ⟨_,rfl,.inr (.inl ⟨p,_,1,.int h,rfl,rfl,SqT.of a,z04 (j:=1) rfl,h,rfl,i,g,q⟩)⟩
  ·refine iteN (λ e=>hz (by have:=of_decide_eq_true e;injection this)) ?_;rw [decide_eq_false hz] at q;exact q
def AnsOk (a:V):Prop:=a=.str "ok"\/a=.str "none"\/∃i,a=.int i/\z0u (.int i) 1000000000000=true
theorem zat {H:Hp}:SqT (kx w) H 175 [.str "ok",.str "none"]:=
 .inr ⟨⟨(.type "tuple"),none,(.seq #[(.str "ok" 478),(.str "none" 479)] 0),#[]⟩,#[(.str "ok" 478),(.str "none" 479)],0,by kernel_rfl,rfl,rfl,w_2,.cons ⟨_,rfl⟩ (.cons ⟨_,rfl⟩ .nil)⟩
def z3e:Sp:=λ vs H Q _=>∃a,vs=[a]/\AnsOk a/\Q (.bl true) H
theorem z7g (T:TX (kx w) mg) (c0:Ca P w mg base "is_within" ["value","greatest"] 2 z1x):Fo P w mg base CX0 3 234 y0g ["answer"] z3e:=by
 refine (z2h w.params).ok z77 (λ b H Q E h=>?_) (λ e A d s H b Q E c h=>?_)
 ·obtain ⟨a,rfl,_⟩:=h;rfl
 ·obtain ⟨a,rfl,ok,q⟩:=h;refine ⟨_,(z05 (ps_if (pt_val (z0a z0l rfl (T.no (z0h _)) X3 (z00 (pv 0) (z00 (z1q (v:=.ty "str") rfl (T.no (n_str _)) j19 rfl) pa_nil))) (λ _=>rfl))
   (z06 (ps_ret (z10 z8y (pv 0) (z18 (v:=.ref 175) rfl (T.of (z5q _)) rfl) (by with_unfolding_all rfl))))
   z0d)
   (z06 (ps_ret (pe_cal c0 (c.mono (by decide)) rfl (z00 (pv 0) (z00 (z18 (v:=.int (1000000000000)) rfl (T.of (z2z _)) ⟨_,rfl⟩) pa_nil)))))),?_⟩
  refine sq_if ?_;rcases ok with rfl|rfl|⟨i,rfl,hi⟩
  ·refine ⟨_,rfl,_,_,"str",rfl,rfl,by decide,_,rfl,iteP (by decide) ?_⟩;exact ⟨_,rfl,175,_,rfl,.inr zat,rfl,rfl,q⟩
  ·refine ⟨_,rfl,_,_,"str",rfl,rfl,by decide,_,rfl,iteP (by decide) ?_⟩;exact ⟨_,rfl,175,_,rfl,.inr zat,rfl,rfl,q⟩
  ·refine ⟨_,rfl,_,_,"int",rfl,rfl,by decide,_,rfl,iteN (by decide) ?_⟩;refine t_nx (sq_ret ?_);refine ⟨_,rfl,_,"int",_,rfl,rfl,?_⟩;rw [hi];exact q
inductive XOk (H:Hp):Str->Str->V->Prop
 | none {k v:Str}:formOf k v=0->XOk H k v .non
 | one {k v:Str} {i:Int}:formOf k v=1->z0u (.int i) 1000000000=true->XOk H k v (.int i)
 | two {k v:Str} {i j:Int} {p:Addr}:formOf k v=2->H p=some (.tup [.int i,.int j])->z0u (.int i) 1000000000=true->z0u (.int j) 1000000000=true->XOk H k v (.ref p)
theorem XOk.same {H H':Hp} {k v:Str} {x:V} (s:Same H H') (h:XOk H k v x):XOk H' k v x:=by
 cases h with
 | none e=>exact .none e
 | one e h=>exact .one e h
 | two e h1 h2 h3=>exact .two e (s _ _ h1) h2 h3
theorem XOk.deed {H:Hp} {k v:Str} {x:V} (h:XOk H k v x):deedB H (.str k) (.str v) x=true/\(∃T,TagOf H x T)/\Flat H x:=by
 cases h with
 | none e=>refine ⟨?_,⟨"NoneType",rfl⟩,λ b z=>by cases z⟩;unfold deedB;dsimp only;rw [e,if_pos rfl];rfl
 | one e h=>refine ⟨?_,⟨"int",rfl⟩,λ b z=>by cases z⟩;unfold deedB;dsimp only;rw [e,if_neg (by decide),if_pos rfl];exact h
 | two e h1 h2 h3=>
  rename_i i j p;refine ⟨?_,⟨"tuple",.inr (.inl ⟨⟨_,h1⟩,rfl⟩)⟩,λ b z=>?_⟩
  ·unfold deedB;dsimp only;rw [e,if_neg (by decide),if_neg (by decide),if_pos rfl,z5g h1];show (decide ([V.int i,V.int j].length=2) && (z0u (.int i) 1000000000 && (z0u (.int j) 1000000000 && true)))=true;rw [h2,h3];rfl
  ·rw [z5g h1] at z;cases z;refine ⟨(show (2:Nat)<=1000 by decide),λ y a=>?_⟩;simp only [O2,B0,or_false] at a;rcases a with rfl|rfl<;>exact ⟨"int",rfl⟩
noncomputable def EvT (H:Hp) (ts:List (Str×Str)):Ev->V->Prop
 | .beg h n v x,y=>∃p nm k vb,y=.ref p/\H p=some (.tup [.str "begin",.int h,n,v,x])/\0<=h/\h<=5/\n=.str nm/\v=.str vb/\(nm,k)∈ts/\NameOk nm/\XOk H k vb x
 | .fin h a,y=>∃p,y=.ref p/\H p=some (.tup [.str "end",.int h,a])/\0<=h/\h<=5/\AnsOk a
theorem EvT.same {H H':Hp} {ts:List (Str×Str)} (s:Same H H') :∀{e:Ev} {y:V},EvT H ts e y->EvT H' ts e y
 | .beg h n v x,_,⟨p,nm,k,vb,h1,h2,h3,h4,h5,h6,h7,h8,h9⟩=>⟨p,nm,k,vb,h1,s _ _ h2,h3,h4,h5,h6,h7,h8,h9.same s⟩
 | .fin h a,_,⟨p,h1,h2,h3⟩=>⟨p,h1,s _ _ h2,h3⟩
def KdAt (H:Hp) (d:Addr) (ts:List (Str×Str)):Prop:=∃kvs:List (Key×V),H d=some (.dK kvs)/\∀nm k,(nm,k)∈ts->valV kvs (.inr nm)=some (.str k)
theorem KdAt.same {H H':Hp} {d:Addr} {ts:List (Str×Str)} (s:Same H H') (h:KdAt H d ts):KdAt H' d ts:=h.elim λ a z=>⟨a,s _ _ z.1,z.2⟩
noncomputable def isBeg:Ev->Bool
 | .beg _ _ _ _=>true
 | .fin _ _=>false
def z4e:Sp:=λ vs H Q _=>∃e y d ts,vs=[y,.ref d]/\EvT H ts e y/\KdAt H d ts/\∀H',Same H H'->Q (.bl (isBeg e)) H'
theorem z9v (T:TX (kx w) mg) (c0:Ca P w mg base "is_event" ["event","word","many"] 3 z2j) (c1:Ca P w mg base "is_name" ["value"] 1 z3m) (c2:Ca P w mg base "is_deed" ["kind","verb","worth"] 4 z6f):Fo P w mg base CX0 5 206 y0p ["event","kinds"] z4e:=by
 refine (z3g w.params).ok z9p (λ z H Q E h=>?_) (λ V A S s H z Q E f h=>?_)
 ·obtain ⟨e,y,d,F,rfl,_⟩:=h;rfl
 ·obtain ⟨e,y,d,F,rfl,r,⟨R,D,N⟩,q⟩:=h;refine ⟨_,(z05 (ps_if (PW.pt (pw_or (pt_not (pt_val (pe_cal c0 (f.mono (by decide)) rfl (z00 (pv 0) (z00 pe_str (z00 pe_int pa_nil)))) (λ _=>rfl))) (pw_or (pt_not (pt_val (pe_cal c1 (f.mono (by decide)) rfl (z00 (pe_ix ix_seq (pv 0) pe_int (λ _ _=>rfl)) pa_nil)) (λ _=>rfl))) (pw_or1 (pt_cmp (z87 (hu_of f) (pe_ix ix_seq (pv 0) pe_int (λ _ _=>rfl)) (pv 1)) (by with_unfolding_all rfl))))))
   (z06 (ps_ret pe_bl))
   z0d)
   (z06 (ps_ret (pe_cal c2 (f.mono (by decide)) rfl (z00 (zbm (hu_of f) (pv 1) (pe_ix ix_seq (pv 0) pe_int (λ _ _=>rfl)) (λ _ _=>rfl)) (z00 (pe_ix ix_seq (pv 0) pe_int (λ _ _=>rfl)) (z00 (pe_ix ix_seq (pv 0) pe_int (λ _ _=>rfl)) pa_nil))))))),?_⟩
  refine sq_if ?_;cases e with
  | fin h a=>obtain ⟨p,rfl,c,m,l,_⟩:=r;refine ⟨_,rfl,p,[a],"end","begin",h,5,rfl,c,m,l,_,rfl,iteP (by rw [show decide (("end" : Str) = "begin")=false by decide +kernel,z8];rfl) ?_⟩;exact iteP rfl (q _ (Same.refl _))
  | beg h n v x=>obtain ⟨p,b,k,C,rfl,c,m,l,rfl,rfl,K,I,u⟩:=r;refine ⟨_,rfl,p,_,"begin","begin",h,5,rfl,c,m,l,_,rfl,iteN (by rw [show decide (("begin" : Str) = "begin")=true by decide +kernel];show ¬ (!(decide (((3 + 2:Nat):Int)=5) && true))=true;decide) ?_⟩;refine ⟨_,rfl,.inr (.inl ⟨p,_,2,.str b,rfl,rfl,SqT.of c,z04 (j:=2) rfl,b,rfl,I,λ G i=>⟨true,rfl,iteN (by decide) ?_⟩⟩)⟩;have M:=i _ _ D;have g:=i _ _ c;have o:DGet G d (.str b) (some (.str k)):=(N b k K) ▸ DGet.k (k:=.inr b) M;refine ⟨_,rfl,.inr (.inl ⟨p,_,2,.str b,rfl,rfl,SqT.of g,z04 (j:=2) rfl,?_⟩)⟩;refine ⟨_,rfl,d,_,rfl,o,_,rfl,iteN (by show ¬ (!true)=true;decide) ?_⟩;refine t_nx (sq_ret ?_);obtain ⟨O,⟨t,J⟩,B⟩:=(u.same i).deed;refine ⟨_,rfl,_,rfl,.inr (.inl ⟨p,_,2,.str b,rfl,rfl,SqT.of g,z04 (j:=2) rfl,d,_,rfl,o,?_⟩)⟩;refine ⟨_,rfl,.inr (.inl ⟨p,_,3,.str C,rfl,rfl,SqT.of g,z04 (j:=3) rfl,?_⟩)⟩;refine ⟨_,rfl,.inr (.inl ⟨p,_,4,x,rfl,rfl,SqT.of g,z04 (j:=4) rfl,_,_,_,"str","str",t,rfl,rfl,rfl,J,B,λ U L=>?_⟩)⟩;rw [O];exact q _ (i.trans L)
def z80:Sp:=λ vs H Q _=>∃h a y ts,vs=[y]/\EvT H ts (.fin h a) y/\Q (.bl true) H
theorem zeg (T:TX (kx w) mg) (c0:Ca P w mg base "is_event" ["event","word","many"] 3 z2j) (c1:Ca P w mg base "is_answer" ["answer"] 3 z3e):Fo P w mg base CX0 4 213 y1d ["event"] z80:=by
 refine (z7q w.params).ok ze0 (λ f H Q E h=>?_) (λ l A k s H f Q E b h=>?_)
 ·obtain ⟨h,a,y,d,rfl,_⟩:=h;rfl
 ·obtain ⟨h,a,y,d,rfl,⟨p,rfl,c,e,g,i⟩,q⟩:=h;refine ⟨_,(z06 (ps_ret (pe_and (pe_cal c0 (b.mono (by decide)) rfl (z00 (pv 0) (z00 pe_str (z00 pe_int pa_nil)))) (pe_one (pe_cal c1 (b.mono (by decide)) rfl (z00 (pe_ix ix_seq (pv 0) pe_int (λ _ _=>rfl)) pa_nil)))))),?_⟩;refine ⟨_,rfl,p,[a],"end","end",h,3,rfl,c,e,g,_,rfl,iteP (by rw [show decide (("end" : Str) = "end")=true by decide +kernel];rfl) ?_⟩;exact ⟨_,rfl,.inr (.inl ⟨p,_,2,a,rfl,rfl,SqT.of c,z04 (j:=2) rfl,a,rfl,i,q⟩)⟩
def z2a (K:c0):Sp:=λ vs H Q _=>∃a ys ts es,vs=[.ref a]/\SqL K H a ys/\All2 (EvT H ts) es ys/\es.length<=1000/\EWf [] es/\∀H',Same H H'->Q (.bl true) H'
theorem z5h (T:TX (kx w) mg):Fo P w mg base CX0 1 241 y05 ["events"] (z2a (kx w)):=by
 refine (z1j w.params).ok sc_go_by_turns (λ I H Q E h=>?_) (λ a2 A a1 s H I Q E F h=>?_)
 ·obtain ⟨a,o,M,f,rfl,_⟩:=h;rfl
 ·obtain ⟨a,o,M,f,rfl,D,B,ln,U,q⟩:=h;refine ⟨_,(z05 (ps_set (i:=1) sc_go_by_turns.nd rfl (L1 rfl) z7h)
   (z05 (ps_for i3 rfl (z0n (pv 0)) (z0p (i:=2) sc_go_by_turns.nd rfl (L1 rfl))
   (z05 (ps_set (i:=3) sc_go_by_turns.nd rfl (L1 rfl) (z10 opEq (pe_ix ix_seq (pv 2) pe_int (λ _ _=>rfl)) pe_str (nomark _)))
   (z05 (ps_if (z09 opEq (zfx (hu_of F) (pv 1) (pe_ix ix_seq (pv 2) pe_int (λ _ _=>rfl)) pe_bl ⟨rfl,rfl,rfl,rfl⟩) (pv 3) (nomark _))
   (z06 (ps_ret pe_bl))
   z0d)
   (z06 (z84 (hu_of F) (pv 1) (pe_ix ix_seq (pv 2) pe_int (λ _ _=>rfl)) (pv 3) rfl)))))
   (z06 (ps_ret pe_bl)))),?_⟩
  have ly:o.length=f.length:=z03 B;refine z0b ?_;intro d hd;refine g_name ?_;obtain ⟨H0,W,C,L⟩:=newA (.dK []) hd;rw [<-W];refine ⟨_,rfl,a,rfl,⟨_,C.seq D⟩,?_⟩;refine z1v (K:=KX w.params) (a:=a) (xs:=o) (λ i σ l=>Same H l/\(∃kvs os,l d=some (.dK kvs)/\kvs.length<=i/\EWf os (f.drop i)/\∀h:Int,(valV kvs (.inl h)).getD (.bl false)=.bl (decide (h∈os)))/\∃x2 x3,σ=[some (.ref a),some (.ref d),x2,x3])
   ⟨C,⟨[],[],L,C0 _,by rw [C5];exact U,λ h=>by rw [decide_eq_false B0];rfl⟩,_,_,rfl⟩ (λ _ σ l _ h=>h.1.seq D) ?_ ?_
  ·rintro i y σ t R ⟨s1,⟨kvs,os,ed,lk,wf1,kv⟩,x2,x3,rfl⟩;obtain ⟨e,J,O⟩:=z08 B R;obtain ⟨S,ee⟩:=List.getElem?_eq_some_iff.mp J;have N:f.drop i=e :: f.drop (i + 1):=by rw [m7 S,ee]
   rw [N] at wf1;have r:=EvT.same s1 O;refine g_name ?_;obtain ⟨p,xs,z,h,b,g,c,Z,X,Y,a0⟩ :∃(p:Addr) (xs:List V) (z:Str) (h:Int) (b:Bool),y=.ref p/\t p=some (.tup (.str z :: .int h :: xs))/\decide (z = "begin")=b/\decide (h∈os) = !b/\(∀k:Int,decide (k∈oStep os e)=if k=h then b else decide (k∈os))/\EWf (oStep os e) (f.drop (i + 1)):=by
    cases e with
    | beg h n v x=>
     obtain ⟨p,nm,k,vb,g,c,_⟩:=r;refine ⟨p,_,"begin",h,true,g,c,by decide +kernel,by rw [decide_eq_false (show h∉os from wf1.1)];rfl,λ k=>?_,wf1.2⟩;show decide (k∈os++[h])=_;by_cases z:k=h
     ·rw [if_pos z,decide_eq_true (List.mem_append.mpr (.inr (List.mem_singleton.mpr z)))]
     ·rw [if_neg z];by_cases y:k∈os
      ·rw [decide_eq_true y,decide_eq_true (List.mem_append.mpr (.inl y))]
      ·rw [decide_eq_false y,decide_eq_false (λ w=>(List.mem_append.mp w).elim y λ u=>z (List.mem_singleton.mp u))]
    | fin h a'=>
     obtain ⟨p,g,c,_⟩:=r;refine ⟨p,_,"end",h,false,g,c,by decide +kernel,by rw [decide_eq_true (show h∈os from wf1.1)];rfl,λ k=>?_,wf1.2⟩;show decide (k∈os.filter λ j=>decide (j≠h))=_;by_cases z:k=h
     ·rw [if_pos z,decide_eq_false (λ w=>(of_decide_eq_true (List.mem_filter.mp w).2) z)]
     ·rw [if_neg z];by_cases y:k∈os
      ·rw [decide_eq_true y,decide_eq_true (List.mem_filter.mpr ⟨y,decide_eq_true z⟩)]
      ·rw [decide_eq_false y,decide_eq_false (λ w=>y (List.mem_filter.mp w).1)]
   subst g;refine z0b ?_;refine ⟨_,rfl,.inr (.inl ⟨p,_,0,.str z,rfl,rfl,SqT.of c,z04 (j:=0) rfl,rfl,?_⟩)⟩;have G:decide (V.str z=V.str "begin")=b:=by
    rw [<-Z];by_cases y:z = "begin"
    ·rw [y,decide_eq_true rfl,decide_eq_true rfl]
    ·rw [decide_eq_false y,decide_eq_false (λ e=>y (by injection e))]
   rw [G];refine g_name ?_;refine sq_if ?_;refine ⟨_,rfl,d,rfl,.inl ⟨_,.inl ed⟩,_,rfl,.inr (.inl ⟨p,_,1,.int h,rfl,rfl,SqT.of c,z04 (j:=1) rfl,_,DGet.k (k:=.inl h) ed,?_⟩)⟩;rw [kv h,X];refine ⟨_,rfl,rfl,_,rfl,iteN (by cases b<;>decide) ?_⟩;refine t_nx ?_;refine ⟨_,rfl,_,rfl,_,rfl,.inr (.inl ⟨p,_,1,.int h,rfl,rfl,SqT.of c,z04 (j:=1) rfl,d,_,rfl,DPut.k (k:=.inl h) ed (P1 (m:=1000) (by omega) (by decide)),?_⟩)⟩;refine ⟨Same.keep s1 hd,⟨_,oStep os e,z01,L0 zad (by omega),a0,λ k=>?_⟩,_,_,rfl⟩;rw [z7o,Y k];by_cases z:k=h
   ·rw [if_pos (by rw [z]),if_pos z];rfl
   ·rw [if_neg (λ e=>z (N4 e)),if_neg z];exact kv k
  ·rintro σ t ⟨s1,_,x2,x3,rfl⟩;exact q _ s1
theorem zh1 {H:Hp} {ts:List (Str×Str)} {e:Ev} {y:V} (h:EvT H ts e y) :∃(p:Addr) (z:Str) (r:List V),y=.ref p/\H p=some (.tup (.str z :: r))/\decide (z = "begin")=isBeg e:=by
 cases e with
 | beg h n v x=>obtain ⟨p,d,k,f,c,b,_⟩:=h;exact ⟨p,_,_,c,b,(show decide (("begin" : Str) = "begin")=true by decide +kernel)⟩
 | fin h a=>obtain ⟨p,c,b,_⟩:=h;exact ⟨p,_,_,c,b,(show decide (("end" : Str) = "begin")=false by decide +kernel)⟩
theorem z88 {z y:Str}:decide (V.str z=V.str y)=decide (z=y):=by
 by_cases e:z=y
 ·rw [e,decide_eq_true rfl,decide_eq_true rfl]
 ·rw [decide_eq_false e,decide_eq_false (λ x=>e (by injection x))]
def z2c (K:c0):Sp:=λ vs H Q _=>∃a d ys ts es,vs=[.ref a,.ref d]/\H a=some (.lst ys)/\KdAt H d ts/\All2 (EvT H ts) es ys/\es.length<=1000/\(es.filter isBeg).length<=24/\EWf [] es/\∀c H',Same H H'->H' c=some (.tup ys)->Q (.ref c) H'
theorem z5s (T:TX (kx w) mg) (c0:Ca P w mg base "is_begin" ["event","kinds"] 5 z4e) (c1:Ca P w mg base "is_end" ["event"] 4 z80) (c2:Ca P w mg base "go_by_turns" ["events"] 1 (z2a (kx w))):Fo P w mg base CX0 6 199 y04 ["events","kinds"] (z2c (kx w)):=by
 refine (z1e w.params).ok z57 (λ vs H Q E h=>?_) (λ a7 A a6 s H vs Q E O h=>?_)
 ·obtain ⟨a,d,t,u,k,rfl,_⟩:=h;rfl
 ·obtain ⟨a,d,t,u,k,rfl,L,kd,I,ln,a4,wf,q⟩:=h;refine ⟨_,(z05 (ps_if (PW.pt (pw_or (pt_not (pt_val (z0a z0l rfl (T.no (z0h _)) X3 (z00 (pv 0) (z00 (z1q (v:=.ty "list") rfl (T.no (n_list _)) boot_list rfl) pa_nil))) (λ _=>rfl))) (pw_or1 (pt_not (pt_val (z0a (z23 rfl) rfl (T.no (n_all _)) j1a (z00 (pe_cg (xs:=["event"]) (g:=gName 0) (fr:=[(1,"kinds")]) (z0n (pv 0)) (λ _ _ _ _ _=>(pg_cn (N:=["event","kinds"]) 0)) (λ _ _ _ _ _=>pf_nil) (λ _ _ _ _ _=>(pe_or (pe_cal c0 (O.mono (by decide)) rfl (z00 (pv 0) (z00 (pv 1) pa_nil))) (pe_one (pe_cal c1 (O.mono (by decide)) rfl (z00 (pv 0) pa_nil)))))) pa_nil)) (λ _=>rfl))))))
   (z06 z1s)
   z0d)
   (z05 (ps_if (z09 op_gt (z0a z0o rfl (T.no (n_len _)) R3 (z00 (pe_cg (xs:=["event"]) (g:=gName 0) (fr:=[]) (z0n (pv 0)) (λ _ _ _ _ _=>(pg_cn (N:=["event"]) 0)) (λ _ _ _ _ _=>(pf_one (z09 opEq (pe_ix (z0m (K:=KX w.params) rfl) (pv 0) pe_int (λ _ _=>rfl)) pe_str (nomark _)))) (λ _ _ _ _ _=>(pv 0))) pa_nil)) (z18 (v:=.int (24)) rfl (T.of (z6e _)) ⟨_,rfl⟩) (nomark _))
   (z06 z1s)
   z0d)
   (z05 (ps_if (pt_not (pt_val (pe_cal c2 (O.mono (by decide)) rfl (z00 (pv 0) pa_nil)) (λ _=>rfl)))
   (z06 z1s)
   z0d)
   (z06 (ps_ret (z31 z1i rfl (T.no (z8o _)) j18 (z00 (pv 0) pa_nil))))))),?_⟩
  have ly:t.length=k.length:=z03 I;refine sq_if (t_or ?_);refine ⟨_,rfl,_,_,"list",rfl,.inl ⟨⟨_,L⟩,rfl⟩,by decide,_,rfl,iteN (by decide) ?_⟩;refine tB_not (e_cb1 ?_);refine z0s (K:=KX w.params) (a:=a) (xs:=t) (H1:=H) (λ _=>true) (λ _ y _=>y=.bl true) (λ _ _ _ _ _ z=>z) (λ R h=>⟨_,rfl,h⟩) (SqL.of L) (L0 (m:=1000) (by omega) (by decide)) ?_ ?_
  ·intro i hi v H1 B F KT KF l M;obtain ⟨e,W,J⟩:=z08 I F;have V:=EvT.same B J;refine ⟨[some v],rfl,rfl,iteT ?_⟩;refine ⟨_,rfl,_,rfl,e,v,d,u,rfl,V,kd.same B,λ H2 b=>⟨_,rfl,?_⟩⟩;cases e with
   | beg h n v' x=>exact iteP rfl (l rfl _ _ b rfl)
   | fin h a'=>exact iteN (λ z=>by cases z) ⟨_,rfl,h,a',v,u,rfl,EvT.same b V,l rfl _ _ b rfl⟩
  intro l1 H1 bs B a1 a0;have hb :∀y∈bs,y=.bl true:=λ y f=>by obtain ⟨m,hm⟩:=List.mem_iff_getElem?.mp f;obtain ⟨_,_,z⟩:=z08 a0 hm;exact z
  refine ⟨l1,bs,rfl,SqL.of z01,λ y f=>⟨true,hb y f⟩,?_⟩;rw [List.all_eq_true.mpr (λ y f=>decide_eq_true (hb y f))];refine ⟨_,rfl,iteN (by decide) ?_⟩;have b:=B.trans (Same.upd (o:=.lst bs) a1);generalize upd H1 l1 (.lst bs)=H2 at b⊢;have U:=b _ _ L;have S:=z02 (λ _ _ z=>EvT.same b z) I;refine t_nx (sq_if (zfq ?_));refine z0s (K:=KX w.params) (a:=a) (xs:=t) (H1:=H2) (λ i=>isBeg (k[i]?.getD (.fin 0 .non))) (λ _ y _=>True) (λ _ _ _ _ _ z=>z) (λ R h=>⟨_,rfl,h⟩) (SqL.of U) (L0 (m:=1000) (by omega) (by decide)) ?_ ?_
  ·intro i hi v H3 G F KT KF l M;obtain ⟨e,W,J⟩:=z08 S F;rw [W] at l M;obtain ⟨p,z,r,rfl,ep,hz⟩:=zh1 (EvT.same G J);refine ⟨[some (.ref p)],rfl,rfl,?_⟩;refine ⟨_,rfl,.inr (.inl ⟨p,_,0,.str z,rfl,rfl,SqT.of ep,z04 (j:=0) rfl,rfl,_,rfl,?_⟩)⟩;rw [z88,hz];cases hbe:isBeg e with
   | true=>exact iteP rfl ⟨_,rfl,l hbe _ _ (Same.refl _) trivial⟩
   | false=>exact iteN (by decide) (M hbe _ (Same.refl _))
  intro Y H3 C G a3 a5;have lz:C.length<=24:=by rw [z03 a5,ly];have:=congrArg j24 (z0w isBeg (λ e=>e) (.fin 0 .non) k);rw [G0,G0] at this;rw [this];exact a4
  have D:=G.trans (Same.upd (o:=.lst C) a3);refine .inl ⟨Y,C,rfl,.inl (SqL.of z01),?_⟩;generalize upd H3 Y (.lst C)=H4 at D⊢;refine ⟨_,_,rfl,rfl,_,rfl,iteN (λ e=>absurd (of_decide_eq_true e) (by omega)) ?_⟩;refine t_nx (sq_if ?_);have X:=D _ _ U;have a2:=z02 (λ _ _ z=>EvT.same D z) S;refine ⟨_,rfl,a,t,u,k,rfl,SqL.of X,a2,ln,wf,λ H5 Z=>⟨true,rfl,iteN (by decide) ?_⟩⟩;refine t_nx (sq_ret ?_);refine ⟨_,rfl,a,_,rfl,.inl ⟨SqL.of (Z _ _ X),λ c hc=>?_⟩⟩;exact q c _ (((b.trans D).trans Z).trans (Same.upd hc)) z01
theorem val_in :∀{kvs:List (Key×V)} {k:Key} {v:V},(kvs.map (·.1)).Nodup->(k,v)∈kvs->valV kvs k=some v
 | (k',v') :: kvs,k,v,nd,h=>by
  rw [X0,G9] at nd;rcases List.mem_cons.mp h with e|h
  ·cases e;exact z0r rfl
  ·rw [z0t (λ e=>nd.1 (by have e:k'=k:=e;subst e;exact List.mem_map.mpr ⟨_,h,rfl⟩))];exact val_in nd.2 h
def z34 (K:c0):Sp:=λ vs H Q _=>∃(a b p0:Addr) (t:Str×Str) (zs:List V) (es:List Ev),vs=[.ref a,.ref b]/\H a=some (.lst [.ref p0])/\ThV H t (.ref p0)/\ThingOk t/\H b=some (.lst zs)/\All2 (EvT H [t]) es zs/\es.length<=1000/\(es.filter isBeg).length<=24/\EWf [] es/\
 ∀tt c e H',Same H H'->H' tt=some (.tup [.ref c,.ref e])->H' c=some (.tup [.ref p0])->H' e=some (.tup zs)->Q (.ref tt) H'
theorem z7x (T:TX (kx w) mg) (c0:Ca P w mg base "make_things" ["things"] 3 (z24 (kx w))) (c1:Ca P w mg base "make_events" ["events","kinds"] 6 (z2c (kx w))):Fo P w mg base CX0 7 182 y0f ["things","events"] (z34 (kx w)):=by
 refine (z2g w.params).ok sc_make_tale (λ G H Q E h=>?_) (λ Y A W s H G Q E D h=>?_)
 ·obtain ⟨a,b,g,t,x,y,rfl,_⟩:=h;rfl
 ·obtain ⟨a,b,g,t,x,y,rfl,M,m,ok,O,K,L,I,U,q⟩:=h;refine ⟨_,(z05 (ps_set (i:=2) sc_make_tale.nd rfl (L1 rfl) (pe_cal c0 (D.mono (by decide)) rfl (z00 (pv 0) pa_nil)))
   (z06 (ps_ret (pe_tup (z00 (pv 2) (z00 (pe_cal c1 (D.mono (by decide)) rfl (z00 (pv 1) (z00 (z31 (zcb rfl) rfl (T.no (n_dict _)) boot_dict (z00 (pv 2) pa_nil)) pa_nil))) pa_nil)))))),?_⟩
  refine z0b ⟨_,rfl,a,g,t,rfl,M,m,ok,λ c n u v=>g_name ?_⟩;obtain ⟨p,e,R⟩:=m.same u;cases e;refine ⟨_,rfl,_,rfl,_,rfl,c,_,[(.inr t.1,.str t.2)],rfl,v,.cons ⟨g,rfl,SqT.of R⟩ .nil,λ d hd=>?_⟩;have f:=u.trans (Same.upd (o:=.dK (mergeK [] [(.inr t.1,.str t.2)])) hd);have B:KdAt (upd n d (.dK (mergeK [] [(.inr t.1,.str t.2)]))) d [t]:=⟨_,z01,λ C k N=>by cases List.mem_singleton.mp N;show valV (putK ([]:List (Key×V)) (.inr C:Key) (.str k)) (.inr C:Key)=_;rw [z7o,if_pos rfl]⟩
  have r:=(Same.upd (o:=.dK (mergeK [] [(.inr t.1,.str t.2)])) hd) _ _ v;generalize upd n d (.dK (mergeK [] [(.inr t.1,.str t.2)]))=H2 at f B r⊢;refine ⟨b,d,x,[t],y,rfl,f _ _ O,B,z02 (λ _ _ z=>EvT.same f z) K,L,I,U,λ e X l S=>⟨w_2,λ J F=>?_⟩⟩;have j:=Same.upd (o:=.tup [.ref c,.ref e]) F;exact q J c e _ ((f.trans l).trans j) z01 (j _ _ (l _ _ r)) (j _ _ S)
end
section
mutual
noncomputable def HPd (H:Hp):PyData->V->Prop
 | .none,v=>v=.non
 | .bool b,v=>v=.bl b
 | .int i,v=>v=.int i
 | .str z,v=>v=.str z
 | .list ds,v=>∃a xs,v=.ref a/\H a=some (.lst xs)/\HPds H ds xs
 | .tuple ds,v=>∃a xs,v=.ref a/\H a=some (.tup xs)/\HPds H ds xs
 | .dict kvs,v=>kvs=[]/\∃a,v=.ref a/\H a=some (.dK [])
noncomputable def HPds (H:Hp):List PyData->List V->Prop
 | [],xs=>xs=[]
 | d :: ds,xs=>∃x r,xs=x :: r/\HPd H d x/\HPds H ds r
end
noncomputable def dif (B H:Hp):Hp:=λ p=>if B p=none then H p else none
noncomputable def tDat (P:L2.St->Prop) (d:PyData):TE:=λ σ H Q=>P σ/\∀v H',Same H H'->HPd (dif H H') d v->Q v H'
noncomputable def tDats (P:L2.St->Prop) (ds:List PyData):TA:=λ σ H Q=>P σ/\∀xs H',Same H H'->HPds (dif H H') ds xs->Q xs H'
variable {X:Cx} {pos:Pos} {P:L2.St->Prop}
structure QD (X:Cx) (P:L2.St->Prop) (e:Expr) (d:PyData):Prop where
 run:PE X e (tDat P d)
structure QDs (X:Cx) (P:L2.St->Prop) (es:List Expr) (ds:List PyData):Prop where
 run:PA X es (tDats P ds)
end
section
theorem z0j {α:Type} {l:List α} {i:Nat} {x:α} (h:l[i]? = some x):i < l.length:=(List.getElem?_eq_some_iff.mp h).1
theorem z90 :∀{es:List Ev} {i:Nat} {rs:List Rc} {e:Ev},dAll i rs (es++[e])=dstep (i + es.length) (dAll i rs es) e
 | [],i,rs,e=>rfl
 | x :: es,i,rs,e=>by show dAll (i + 1) (dstep i rs x) (es++[e])=dstep (i + (es.length + 1)) (dAll (i + 1) (dstep i rs x) es) e;rw [z90,show i + (es.length + 1)=i + 1 + es.length by omega]
noncomputable def isW (r:Rc):Bool:=decide (r.v=.str "write")
noncomputable def intV:V->Int
 | .int i=>i
 | _=>0
def RdG (r:Rc):Prop:=r.v=.str "read"/\r.x=.non/\∀e,r.e=some e->r.a=.int (intV r.a)
def WrG (_:Int) (r:Rc):Prop:=r.v=.str "write"/\True/\r.x=.int (intV r.x)/\∀e,r.e=some e->r.a=.str "ok"
theorem z11:(V.str "read")≠.str "write":=by decide +kernel
theorem WrG.w {wr:Int} {r:Rc} (h:WrG wr r):isW r=true:=decide_eq_true h.1
theorem RdG.w {r:Rc} (h:RdG r):isW r=false:=decide_eq_false λ e=>z11 (h.1.symm.trans e)
theorem z91 {rs:List Rc} {i:Nat} {r:Rc} (h:rs[i]? = some r):rs.take (i + 1)=rs.take i++[r]:=by rw [z5,h];rfl
theorem z71 :∀(us ns:List Int),us.Nodup->(∀u∈us,u∉ns)->(us.foldl addI ns).length=ns.length + us.length
 | [],ns,_,_=>rfl
 | u :: us,ns,nd,h=>by
  rw [G9] at nd;have e:addI ns u=ns++[u]:=by unfold addI;rw [if_neg (h u (.head _))]
  rw [a8,e,z71 us (ns++[u]) nd.2 λ v a z=>?_]
  ·simp only [J0,Z0,U4];omega
  ·rcases List.mem_append.mp z with z|z
   ·exact h v (.tail _ a) z
   ·rw [List.mem_singleton.mp z] at a;exact nd.1 a
structure TwG (es:List Ev):Prop where
 wf:dWf 0 [] es
 g :∀wr:Int,∀r∈dAll 0 [] es,RdG r\/WrG wr r
 nd:(((dAll 0 [] es).filter isW).map (λ r=>intV r.x)).Nodup
 n0:(0:Int)∉((dAll 0 [] es).filter isW).map (λ r=>intV r.x)
structure PosI (n:Nat) (rs:List Rc):Prop where
 b :∀r∈rs,r.b < n
 e :∀r∈rs,∀e,r.e=some e->e < n
 bb :∀(i j:Nat) (r q:Rc),rs[i]? = some r->rs[j]? = some q->r.b=q.b->i=j
 ee :∀(i j:Nat) (r q:Rc) (e:Nat),rs[i]? = some r->rs[j]? = some q->r.e=some e->q.e=some e->i=j
 be :∀r∈rs,∀q∈rs,∀e,q.e=some e->r.b≠e
theorem PosI.step {n:Nat} {rs:List Rc} (p:PosI n rs) (e:Ev):PosI (n + 1) (dstep n rs e):=by
 cases e with
 | beg h nm v x=>
  have at_ :∀{i:Nat} {r:Rc},(rs++[(⟨h,nm,v,x,.non,n,none⟩:Rc)])[i]? = some r->rs[i]? = some r\/(i=rs.length/\r=⟨h,nm,v,x,.non,n,none⟩):=λ {i r} q=>by
   rw [y8] at q;split at q
   ·exact .inl q
   ·rename_i z;obtain ⟨y,_⟩:=List.getElem?_eq_some_iff.mp q;rw [T3] at y;have:i - rs.length=0:=by omega
    rw [this] at q;cases q;exact .inr ⟨by omega,rfl⟩
  show PosI (n + 1) (rs++[_]);refine ⟨λ r f=>?_,λ r f e c=>?_,λ i j r q g k z=>?_,λ i j r q e g k o m=>?_,λ r f q D e c=>?_⟩
  ·rcases List.mem_append.mp f with z|z
   ·exact E1 (p.b r z)
   ·rw [List.mem_singleton.mp z];exact A2 n
  ·rcases List.mem_append.mp f with z|z
   ·exact E1 (p.e r z e c)
   ·rw [List.mem_singleton.mp z] at c;cases c
  ·rcases at_ g with a|⟨a,rfl⟩
   ·rcases at_ k with b|⟨b,rfl⟩
    ·exact p.bb i j r q a b z
    ·have:=p.b r (d0 a);exact absurd z (T0 this)
   ·rcases at_ k with b|⟨b,rfl⟩
    ·have:=p.b q (d0 b);exact absurd z.symm (T0 this)
    ·omega
  ·rcases at_ g with a|⟨a,rfl⟩
   ·rcases at_ k with b|⟨b,rfl⟩
    ·exact p.ee i j r q e a b o m
    ·cases m
   ·cases o
  ·rcases List.mem_append.mp D with b|b
   ·rcases List.mem_append.mp f with a|a
    ·exact p.be r a q b e c
    ·rw [List.mem_singleton.mp a];exact F2 (p.e q b e c)
   ·rw [List.mem_singleton.mp b] at c;cases c
 | fin h a=>
  unfold dstep;dsimp only;cases lastI h (rs.map Rc.h) with
  | none=>exact ⟨λ r f=>E1 (p.b r f),λ r f e c=>E1 (p.e r f e c),p.bb,p.ee,p.be⟩
  | some j0=>
   dsimp only;have at_ :∀{i:Nat} {r:Rc},(rs.modify j0 λ r=>{ r with a:=a,e:=some n })[i]? = some r->∃d,rs[i]? = some d/\r.b=d.b/\((i=j0/\r.e=some n)\/r.e=d.e):=λ {i r} q=>by
    rw [B2] at q;cases z:rs[i]? with
    | none=>rw [z] at q;cases q
    | some d=>
     rw [z] at q;have q:some (if j0=i then { d with a:=a,e:=some n } else d)=some r:=q;by_cases y:j0=i
     ·rw [if_pos y] at q;cases q;exact ⟨d,rfl,rfl,.inl ⟨y.symm,rfl⟩⟩
     ·rw [if_neg y] at q;cases q;exact ⟨_,rfl,rfl,.inr rfl⟩
   have A :∀{r:Rc},r∈(rs.modify j0 λ r=>{ r with a:=a,e:=some n })->∃i,(rs.modify j0 λ r=>{ r with a:=a,e:=some n })[i]? = some r:=λ h=>List.mem_iff_getElem?.mp h;refine ⟨λ r f=>?_,λ r f e c=>?_,λ i j r q g k z=>?_,λ i j r q e g k o m=>?_,λ r f q D e c=>?_⟩
   ·obtain ⟨i,g⟩:=A f;obtain ⟨d,l,u,_⟩:=at_ g;rw [u];exact E1 (p.b d (d0 l))
   ·obtain ⟨i,g⟩:=A f;obtain ⟨d,l,_,⟨_,z⟩|z⟩:=at_ g
    ·rw [z] at c;cases c;exact A2 n
    ·rw [z] at c;exact E1 (p.e d (d0 l) e c)
   ·obtain ⟨d,l,u,_⟩:=at_ g;obtain ⟨s,t,F,_⟩:=at_ k;exact p.bb i j d s l t (by rw [<-u,<-F];exact z)
   ·obtain ⟨d,l,_,⟨G,E⟩|y⟩:=at_ g
    ·obtain ⟨s,t,_,⟨C,B⟩|w⟩:=at_ k
     ·rw [G,C]
     ·rw [E] at o;cases o;rw [w] at m;exact absurd (p.e s (d0 t) _ m) (E3 _)
    ·obtain ⟨s,t,_,⟨C,B⟩|w⟩:=at_ k
     ·rw [B] at m;cases m;rw [y] at o;exact absurd (p.e d (d0 l) _ o) (E3 _)
     ·exact p.ee i j d s e l t (by rw [<-y];exact o) (by rw [<-w];exact m)
   ·obtain ⟨i,g⟩:=A f;obtain ⟨j,k⟩:=A D;obtain ⟨d,l,u,_⟩:=at_ g;obtain ⟨s,t,_,⟨C,B⟩|w⟩:=at_ k
    ·rw [B] at c;cases c;rw [u];exact T0 (p.b d (d0 l))
    ·rw [u];exact p.be d (d0 l) s (d0 t) e (by rw [<-w];exact c)
theorem PosI.all :∀(es:List Ev) {n:Nat} {rs:List Rc},PosI n rs->PosI (n + es.length) (dAll n rs es)
 | [],_,_,p=>p
 | e :: es,n,rs,p=>by have:=PosI.all es (p.step e);rw [show n + (e :: es).length=n + 1 + es.length by rw [Z0];omega];exact this
theorem PosI.nil:PosI 0 []:=⟨λ _ h=>absurd h B0,λ _ h=>absurd h B0,λ i j r q h=>by simp at h,λ i j r q e h=>by simp at h,λ _ h=>absurd h B0⟩
theorem z22 {α β:Type} {R:α->β->Prop} :∀{xs:List α} {x:α} {ys:List β},All2 R (xs++[x]) ys->∃ys' y,ys=ys'++[y]/\All2 R xs ys'/\R x y
 | [],x,_,.cons a .nil=>⟨[],_,rfl,.nil,a⟩
 | z :: xs,x,_,.cons a r=>by obtain ⟨ys',y,rfl,b,c⟩:=z22 r;exact ⟨_ :: ys',y,rfl,.cons a b,c⟩
theorem z4o {α β:Type} {S:α->β->Prop} {q:α->Bool} {es:List α} :∀(n:Nat),n<=es.length->∀{ws:List β},All2 (λ i y=>∀e,es[i]? = some e->S e y) ((N1 n).filter λ i=>(es[i]?.map q).getD false) ws->All2 S ((es.take n).filter q) ws
 | 0,_,ws,h=>by cases h;exact .nil
 | n + 1,hn,ws,h=>by
  have e:es[n]? = some es[n]:=D0 hn;rw [F9,B3] at h;rw [z5,e,B3];by_cases z:q es[n]=true
  ·rw [G2 (by rw [e];exact z)] at h;obtain ⟨c,y,rfl,a,b⟩:=z22 h;show All2 S (_++[es[n]].filter q) _;rw [G2 z];exact z0q (z4o n (by omega) a) (b _ e)
  ·rw [N2 (by rw [e];exact z)] at h;show All2 S (_++[es[n]].filter q) _;rw [N2 z,N6,D3];rw [N6,D3] at h;exact z4o n (by omega) h
end
section
variable {P:Program} {w:S0} {mg:Str->Option Value} {base:Heap}
def z27 (K:c0):Sp:=λ vs H Q _=>∃y r wr e,vs=[y]/\RcAt K H r y/\(RdG r\/WrG wr r)/\r.e=some e/\Q (.bl true) H
theorem z4q (T:TX (kx w) mg) (c0:Ca P w mg base "is_whole" ["value"] 1 z1n):Fo P w mg base CX0 2 266 y07 ["deed"] (z27 (kx w)):=by
 refine (z1h w.params).ok z4w (λ f H Q E h=>?_) (λ l A k s H f Q E i h=>?_)
 ·obtain ⟨y,r,d,e,rfl,_⟩:=h;rfl
 ·obtain ⟨y,r,d,e,rfl,⟨p,rfl,b⟩,g,c,q⟩:=h;refine ⟨_,(z05 (ps_if (z09 opEq (pe_ix ix_seq (pv 0) pe_int (λ _ _=>rfl)) pe_str (nomark _))
   (z06 (ps_ret (z10 opEq (pe_ix ix_seq (pv 0) pe_int (λ _ _=>rfl)) pe_str (nomark _))))
   z0d)
   (z06 (ps_ret (pe_cal c0 (i.mono (by decide)) rfl (z00 (pe_ix ix_seq (pv 0) pe_int (λ _ _=>rfl)) pa_nil))))),?_⟩
  rcases g with g|g
  ·refine ⟨_,rfl,.inr (.inl ⟨p,_,2,.str "read",rfl,rfl,b,by rw [g.1];exact z04 (j:=2) rfl,rfl,_,rfl,iteK ?_⟩)⟩;exact ⟨_,rfl,.inr (.inl ⟨p,_,4,.int (intV r.a),rfl,rfl,b,by rw [g.2.2 e c];exact z04 (j:=4) rfl,_,"int",rfl,rfl,by rw [show decide (("int" : String) = "int")=true by decide];exact q⟩)⟩
  ·refine ⟨_,rfl,.inr (.inl ⟨p,_,2,.str "write",rfl,rfl,b,by rw [g.1];exact z04 (j:=2) rfl,rfl,_,rfl,iteP (by decide +kernel) ?_⟩)⟩;exact ⟨_,rfl,.inr (.inl ⟨p,_,4,.str "ok",rfl,rfl,b,by rw [g.2.2.2 e c];exact z04 (j:=4) rfl,rfl,q⟩)⟩
structure ToldAt (K:c0) (H:Hp) (l:Addr) (wr:Int) (rs:List Rc) (zs:List V):Prop where
 l:H l=some (.lst zs)
 a:All2 (RcAt K H) rs zs
 g :∀r∈rs,RdG r\/WrG wr r
 n:rs.length<=63
theorem ToldAt.same {K:c0} {H H':Hp} {l:Addr} {wr:Int} {rs:List Rc} {zs:List V} (s:Same H H') (h:ToldAt K H l wr rs zs):ToldAt K H' l wr rs zs:=⟨s _ _ h.l,z02 (λ _ _ z=>RcAt.tups (.of s) z) h.a,h.g,h.n⟩
noncomputable def r00:Rc:=⟨0,.non,.non,.non,.non,0,none⟩
theorem getD_some {rs:List Rc} {i:Nat} {r:Rc} (h:rs[i]? = some r):rs[i]?.getD r00=r:=by rw [h];rfl
theorem zcc (x:Int) :∀ns:List Int,inV (.int x) (ns.map V.int)=decide (x∈ns)
 | []=>by rw [decide_eq_false B0];rfl
 | n :: r=>by
  show ((n == x) || inV (.int x) (r.map V.int))=_;rw [zcc x r];by_cases e:n=x
  ·rw [beq_iff_eq.mpr e,Bool.true_or,decide_eq_true (List.mem_cons.mpr (.inl e.symm))]
  ·rw [Bool.eq_false_iff.mpr (λ h=>e (beq_iff_eq.mp h)),Bool.false_or];by_cases m:x∈r
   ·rw [decide_eq_true m,decide_eq_true (List.mem_cons.mpr (.inr m))]
   ·rw [decide_eq_false m,decide_eq_false (λ h=>(List.mem_cons.mp h).elim (λ y=>e y.symm) m)]
theorem z8t :∀ns:List Int,(ns.map V.int).all flatV=true
 | []=>rfl
 | _ :: r=>by show (true && (r.map V.int).all flatV)=true;rw [z8t r];rfl
theorem z8l {f:Rc->V} {rs:List Rc} {zs ys:List V} (lz:zs.length=rs.length) (h:All2 (λ (i:Nat) y=>y=f (rs[i]?.getD r00)) ((N1 zs.length).filter λ i=>isW (rs[i]?.getD r00)) ys):ys=(rs.filter isW).map f:=by rw [lz] at h;rw [z1l h];exact z0w isW f r00 rs
def z3s (K:c0):Sp:=λ vs H Q _=>∃l zs rs wr,vs=[.ref l]/\ToldAt K H l wr rs zs/\((rs.filter isW).map (λ r=>intV r.x)).Nodup/\(0:Int)∉(rs.filter isW).map (λ r=>intV r.x)/\∀H',Same H H'->Q (.bl true) H'
theorem z7j (T:TX (kx w) mg) (c0:Ca P w mg base "is_answered" ["deed"] 2 (z27 (kx w))):Fo P w mg base CX0 3 259 y0h ["told"] (z3s (kx w)):=by
 refine (z2f w.params).ok sc_are_plain (λ vs H Q E h=>?_) (λ a5 A a4 s H vs Q E hr h=>?_)
 ·obtain ⟨l,D,c,O,rfl,_⟩:=h;rfl
 ·obtain ⟨l,D,c,O,rfl,d,nd,n0,q⟩:=h;refine ⟨_,(z05 (zas (i:=1) sc_are_plain.nd rfl (L1 rfl) (xs:=["deed"]) (g:=gName 0) (fr:=[]) rfl (z0n (pv 0)) (λ _ z=>absurd z B0) (z5r rfl) (λ _ z=>absurd z B0) (by decide +kernel) rfl (by decide +kernel) (λ _ _ _ _ _=>(pg_cn (N:=["deed"]) 0)) (λ _ _ _ _ _=>(pf_one (z09 opEq (pe_ix (z0m (K:=KX w.params) rfl) (pv 0) pe_int (λ _ _=>rfl)) pe_str (nomark _)))) (λ _ _ _ _ _=>(pe_ix (z0m (K:=KX w.params) rfl) (pv 0) pe_int (λ _ _=>rfl))))
   (z05 (ps_if (PW.pt (pw_or (z09 z8y pe_int (pv 1) (by with_unfolding_all rfl)) (pw_or1 (z09 op_lt (zdf rfl rfl (T.no (n_len _)) rfl (T.no (n_set _)) R3 boot_set (pv 1)) (z0a z0o rfl (T.no (n_len _)) R3 (z00 (pv 1) pa_nil)) (nomark _)))))
   (z06 (ps_ret pe_bl))
   z0d)
   (z06 (ps_ret (z0a (z23 rfl) rfl (T.no (n_all _)) j1a (z00 (pe_cg (xs:=["deed"]) (g:=gName 0) (fr:=[]) (z0n (pv 0)) (λ _ _ _ _ _=>(pg_cn (N:=["deed"]) 0)) (λ _ _ _ _ _=>pf_nil) (λ _ _ _ _ _=>(pe_or (z10 op_isN (pe_ix (z0m (K:=KX w.params) rfl) (pv 0) pe_int (λ _ _=>rfl)) pe_non (nomark _)) (pe_one (pe_cal c0 (hr.mono (by decide)) rfl (z00 (pv 0) pa_nil)))))) pa_nil)))))),?_⟩
  have lz:D.length=c.length:=z03 d.a;have a1:=d.n;refine z0b ?_;refine z0s (K:=KX w.params) (a:=l) (xs:=D) (H1:=H) (λ i=>isW (c[i]?.getD r00)) (λ i y _=>y=.int (intV (c[i]?.getD r00).x)) (λ _ _ _ _ _ z=>z) (λ R h=>⟨_,rfl,h⟩) (SqL.of d.l) (L0 (m:=63) (by omega) (by decide)) ?_ ?_
  ·intro i hi v H1 I F KT KF t L;obtain ⟨r,C,p,rfl,M⟩:=z08 d.a F;have b:=I.seqT M;rw [getD_some C] at t L;refine ⟨[some (.ref p)],rfl,rfl,?_⟩;rcases d.g r (d0 C) with g|g
   ·refine ⟨_,rfl,.inr (.inl ⟨p,_,2,.str "read",rfl,rfl,b,by rw [g.1];exact z04 (j:=2) rfl,rfl,_,rfl,iteK (L g.w _ (Same.refl _))⟩)⟩
   ·refine ⟨_,rfl,.inr (.inl ⟨p,_,2,.str "write",rfl,rfl,b,by rw [g.1];exact z04 (j:=2) rfl,rfl,_,rfl,iteP (by decide +kernel) ?_⟩)⟩;exact ⟨_,rfl,.inr (.inl ⟨p,_,3,.int (intV r.x),rfl,rfl,b,by rw [<-g.2.2.1];exact z04 (j:=3) rfl,t g.w _ _ (Same.refl _) rfl⟩)⟩
  intro k H1 ys I Y X;have Z:=z8l (f:=λ r=>V.int (intV r.x)) lz X;have a2:ys=((c.filter isW).map (λ r=>intV r.x)).map V.int:=by rw [Z,Q2];rfl
  have lu:((c.filter isW).map (λ r=>intV r.x)).length<=63:=by rw [G0];exact L0 (O1 _ _) a1
  subst a2;generalize (c.filter isW).map (λ r=>intV r.x)=us at nd n0 lu⊢;have W:=Same.upd (o:=.lst (us.map V.int)) Y;have B:upd H1 k (.lst (us.map V.int)) k=some (.lst (us.map V.int)):=z01;have J:=I.trans W;generalize upd H1 k (.lst (us.map V.int))=H2 at W B J⊢;refine g_name ?_;refine sq_if ?_;refine t_or ?_;refine ⟨_,rfl,k,_,rfl,.inl (SqL.of B),rfl,z8t _,_,rfl,iteN (by show ¬ inV _ _=true;rw [zcc,decide_eq_false n0];decide) ?_⟩;refine ⟨_,rfl,k,us,rfl,SqL.of B,by omega,_,rfl,.inl ⟨k,_,rfl,.inl (SqL.of B),_,_,rfl,rfl,_,rfl,iteN ?_ ?_⟩⟩
  ·rw [z71 us [] nd (λ _ _=>B0),U4,G0];exact λ e=>absurd (of_decide_eq_true e) (by omega)
  refine t_nx (sq_ret (e_cb1 ?_));have S:=d.same J;refine z0s (K:=KX w.params) (a:=l) (xs:=D) (H1:=H2) (λ _=>true) (λ i y _=>y=.bl true) (λ _ _ _ _ _ z=>z) (λ R h=>⟨_,rfl,h⟩) (SqL.of S.l) (L0 (m:=63) (by omega) (by decide)) ?_ ?_
  ·intro i hi v H3 G F KT KF t L;obtain ⟨r,C,p,rfl,M⟩:=z08 S.a F;have b:=G.seqT M;refine ⟨[some (.ref p)],rfl,rfl,iteT ?_⟩;cases he:r.e with
   | none=>exact ⟨_,rfl,.inr (.inl ⟨p,_,6,.non,rfl,rfl,b,by rw [he];exact z04 (j:=6) rfl,rfl,_,rfl,iteP (by decide) (t rfl _ _ (Same.refl _) rfl)⟩)⟩
   | some e=>refine ⟨_,rfl,.inr (.inl ⟨p,_,6,.int e,rfl,rfl,b,by rw [he];exact z04 (j:=6) rfl,rfl,_,rfl,iteN (by simp) ?_⟩)⟩;exact ⟨_,rfl,_,r,O,e,rfl,⟨p,rfl,b⟩,d.g r (d0 C),he,t rfl _ _ (Same.refl _) rfl⟩
  intro l3 H3 bs G a0 a3;have U :∀y∈bs,y=.bl true:=λ y u=>by obtain ⟨m,hm⟩:=List.mem_iff_getElem?.mp u;obtain ⟨_,_,z⟩:=z08 a3 hm;exact z
  refine ⟨l3,bs,rfl,SqL.of z01,λ y u=>⟨true,U y u⟩,?_⟩;rw [List.all_eq_true.mpr (λ y u=>decide_eq_true (U y u))];exact q _ (J.trans (G.trans (Same.upd a0)))
structure TalR (K:c0) (H:Hp) (t:Addr) (nm:Str) (wr:Int) (es:List Ev) (ys:List V):Prop where
 t :∃pt te th,SqT K H t [.ref pt,.ref te]/\SqT K H pt [.ref th]/\SqT K H th [.str nm,.str "register"]/\SqT K H te ys
 ev:All2 (EvAt K H) es ys
 tw:TwG es
 ln:es.length<=62
theorem TalR.same {K:c0} {H H':Hp} {t:Addr} {nm:Str} {wr:Int} {es:List Ev} {ys:List V} (s:Same H H') (h:TalR K H t nm wr es ys):TalR K H' t nm wr es ys:=by obtain ⟨pt,f,e,a,b,c,d⟩:=h.t;exact ⟨⟨pt,f,e,s.seqT a,s.seqT b,s.seqT c,s.seqT d⟩,z02 (λ _ _ z=>EvAt.tups (.of s) z) h.ev,h.tw,h.ln⟩
theorem z5l :∀{es:List Ev} {i:Nat} {rs:List Rc},(dAll i rs es).length<=rs.length + es.length
 | [],_,_=>C0 _
 | e :: es,i,rs=>by
  have h:=z5l (es:=es) (i:=i + 1) (rs:=dstep i rs e);have b:(dstep i rs e).length<=rs.length + 1:=by
   cases e with
   | beg k n v x=>exact Y7 (J0 ..)
   | fin k a=>
    unfold dstep;dsimp only;cases lastI k (rs.map Rc.h) with
    | none=>exact L6 _
    | some j=>dsimp only;rw [X5];exact L6 _
  show (dAll (i + 1) (dstep i rs e) es).length<=_;rw [Z0];omega
def z13 (K:c0):Sp:=λ vs H Q _=>∃t nm wr es ys,vs=[.ref t]/\TalR K H t nm wr es ys/\∀l zs H',Same H H'->ToldAt K H' l wr (dAll 0 [] es) zs->Q (.ref l) H'
theorem z8m:plainP (.list [.str "register"])=true:=by decide +kernel
theorem zha:j22 (.list [.str "register"]) (.list [.str "register"])=true:=by decide +kernel
theorem z4y (T:TX (kx w) mg) (c0:Ca P w mg base "deeds" ["tale"] 1 (zc0 (kx w))) (c1:Ca P w mg base "are_plain" ["told"] 3 (z3s (kx w))):Fo P w mg base CX0 4 254 y06 ["tale"] (z13 (kx w)):=by
 refine (z1a w.params).ok sc_plain_deeds (λ Y H Q E h=>?_) (λ a5 A a2 s H Y Q E C h=>?_)
 ·obtain ⟨t,S,b,k,U,rfl,_⟩:=h;rfl
 ·obtain ⟨t,S,b,k,U,rfl,e,q⟩:=h;refine ⟨_,(z05 (ps_set (i:=1) sc_plain_deeds.nd rfl (L1 rfl) (pe_cal c0 (C.mono (by decide)) rfl (z00 (pv 0) pa_nil)))
   (z05 (ps_if (PW.pt (pw_or (z09 (op_neP C) (pe_cg (xs:=["name","kind"]) (g:=gTup (kx w) 2 (gCons (gName 0) (gCons (gName 1) gNil))) (fr:=[]) (pi_tup (pe_ix ix_seq (pv 0) pe_int (λ _ _=>rfl))) (λ _ _ _ _ _=>(pg_tup rfl (z0i (pg_cn (N:=["name","kind"]) 0) (z0i (pg_cn (N:=["name","kind"]) 1) z1o)))) (λ _ _ _ _ _=>pf_nil) (λ _ _ _ _ _=>(pv 1))) (pe_lst (z00 pe_str pa_nil)) (nomark _)) (pw_or1 (pt_not (pt_val (pe_cal c1 (C.mono (by decide)) rfl (z00 (pv 1) pa_nil)) (λ _=>rfl))))))
   (z06 z1s)
   z0d)
   (z06 (ps_ret (pv 1))))),?_⟩
  obtain ⟨pt,Z,m,L,sp,sh,se⟩:=e.t;have tw:=e.tw;have wf:=tw.wf;have a3:=e.ln;have rn:(dAll 0 [] k).length<=63:=L0 z5l (by simp;omega);refine z0b ?_;refine ⟨_,rfl,t,Z,.ref pt,U,k,rfl,L,se,e.ev,by omega,wf,λ l u H1 d a4 el al=>?_⟩;refine g_name ?_;have I:ToldAt (kx w) H1 l b (dAll 0 [] k) u:=⟨el,al,tw.g b,rn⟩
  refine sq_if (t_or (t_test ?_));refine z8j (K:=KX w.params) (a:=pt) (xs:=[.ref m]) (H1:=H1) (λ _=>true) (λ i y _=>y=.str "register") (λ _ _ _ _ _ z=>z) (λ R h=>⟨_,rfl,.inr (.inl ⟨t,_,0,.ref pt,rfl,rfl,d.seqT L,z04 (j:=0) rfl,h⟩)⟩) (d.seqT sp) w_1 ?_ ?_
  ·intro i hi v p x W KT KF X h2;have:v=.ref m:=List.mem_singleton.mp (d0 W);subst this;refine ⟨m,_,rfl,(d.trans x).seqT sh,rfl,_,_,rfl,_,_,rfl,rfl,[some (.str S),some (.str "register")],rfl,rfl,iteT ⟨_,rfl,X rfl _ _ (Same.refl _) rfl⟩⟩
  intro f p O x a1 n;have ek:O=[.str "register"]:=by
   replace n:All2 (λ (_:Nat) (y:V)=>y=.str "register") [0] O:=n;cases n with
   | cons a r=>cases r;rw [a]
  subst ek;have D:=Same.upd (o:=.lst [V.str "register"]) a1;have J:upd p f (.lst [V.str "register"]) f=some (.lst [V.str "register"]):=z01;have M:=x.trans D;generalize upd p f (.lst [V.str "register"])=H3 at D J M⊢;refine ⟨w_1,λ F a0=>?_⟩;have B:=Same.upd (o:=.lst [V.str "register"]) a0;refine ⟨.list [.str "register"],.list [.str "register"],⟨f,_,rfl,SqL.of (B _ _ J),⟨_,_,rfl,rfl,rfl⟩⟩,⟨F,_,rfl,SqL.of z01,⟨_,_,rfl,rfl,rfl⟩⟩,z8m,z8m,(show (1:Nat)<=60 by decide),_,rfl,iteN (by rw [zha];decide) ?_⟩;have c:=M.trans B;generalize upd H3 F (.lst [V.str "register"])=H4 at B c⊢;refine ⟨_,rfl,l,u,_,b,rfl,I.same c,tw.nd,tw.n0,λ H5 G=>⟨true,rfl,iteN (by decide) ?_⟩⟩;exact ⟨_,rfl,q l u H5 (d.trans (c.trans G)) (I.same (c.trans G))⟩
structure Ent where
 x:Int
 b:Int
 e:Option Int
noncomputable def ent0:Ent:=⟨0,-2,some (-1)⟩
noncomputable def entW (r:Rc):Ent:=⟨intV r.x,r.b,r.e.map λ n=>(n:Int)⟩
noncomputable def ents (rs:List Rc):List Ent:=ent0 :: (rs.filter isW).map entW
theorem ents_mem {rs:List Rc} {t:Ent}:t∈ents rs↔t=ent0\/∃w∈rs,isW w=true/\t=entW w:=by
 unfold ents;rw [O2,List.mem_map];constructor
 ·rintro (h|⟨w,hw,e⟩)
  ·exact .inl h
  ·exact .inr ⟨w,(List.mem_filter.mp hw).1,(List.mem_filter.mp hw).2,e.symm⟩
 ·rintro (h|⟨w,hw,hi,e⟩)
  ·exact .inl h
  ·exact .inr ⟨w,List.mem_filter.mpr ⟨hw,hi⟩,e.symm⟩
theorem z8e (rs:List Rc) (r:Rc):ents (rs++[r])=ents rs++if isW r=true then [entW r] else []:=by
 unfold ents;rw [B3,C2,List.cons_append];by_cases z:isW r=true
 ·rw [if_pos z,G2 z];rfl
 ·rw [if_neg z,N2 z];rfl
noncomputable def endO:Option Int->V
 | none=>.non
 | some i=>.int i
theorem endV_O (o:Option Nat):endV o=endO (o.map λ n=>(n:Int)):=by cases o<;>rfl
def EntV (K:c0) (H:Hp) (t:Ent) (v:V):Prop:=∃p,v=.ref p/\SqT K H p [.int t.b,endO t.e]
def EntAt (K:c0) (H:Hp) (t:Ent) (kv:Key×V):Prop:=kv.1=.inl t.x/\EntV K H t kv.2
theorem EntV.tups {K:c0} {H H':Hp} {t:Ent} {v:V} (f :∀c xs,SqT K H c xs->SqT K H' c xs) (h:EntV K H t v):EntV K H' t v:=h.elim λ p z=>⟨p,z.1,f _ _ z.2⟩
theorem EntAt.tups {K:c0} {H H':Hp} {t:Ent} {kv:Key×V} (f :∀c xs,SqT K H c xs->SqT K H' c xs) (h:EntAt K H t kv):EntAt K H' t kv:=⟨h.1,h.2.tups f⟩
theorem z59 {K:c0} {H:Hp} :∀{ts:List Ent} {kvs:List (Key×V)},All2 (EntAt K H) ts kvs->kvs.map (·.1)=ts.map λ t=>Sum.inl t.x
 | _,_,.nil=>rfl
 | _,_,.cons a r=>by rw [X0,X0,z59 r,a.1]
theorem z7i (rs:List Rc):(ents rs).length<=rs.length + 1:=by unfold ents;rw [Z0,G0];exact Nat.succ_le_succ (O1 _ _)
theorem zhe {rs:List Rc} {i:Nat} {r:Rc} (nd:((rs.filter isW).map (λ r=>intV r.x)).Nodup) (n0:(0:Int)∉(rs.filter isW).map (λ r=>intV r.x)) (h:rs[i]? = some r) (hw:isW r=true):(Sum.inl (intV r.x):Key)∉(ents (rs.take i)).map λ t=>(Sum.inl t.x:Key):=λ z=>by
 obtain ⟨t,a,e⟩:=List.mem_map.mp z;have e:=N4 e;rcases ents_mem.mp a with rfl|⟨w,hm,hi,rfl⟩
 ·exact n0 (List.mem_map.mpr ⟨r,List.mem_filter.mpr ⟨d0 h,hw⟩,e.symm⟩)
 ·have c:rs=rs.take i++r :: rs.drop (i + 1):=by obtain ⟨b,d⟩:=List.getElem?_eq_some_iff.mp h;rw [<-d,<-m7 b,f8]
  rw [c,B3,C2,List.nodup_append] at nd;exact nd.2.2 _ (List.mem_map.mpr ⟨w,List.mem_filter.mpr ⟨hm,hi⟩,rfl⟩) _ (List.mem_map.mpr ⟨r,List.mem_filter.mpr ⟨.head _,hw⟩,rfl⟩) e
theorem zfg {H:Hp}:SqT (kx w) H 249 [.int (-2),.int (-1)]:=
 .inr ⟨⟨(.type "tuple"),none,(.seq #[(.int (-2) 573),(.int (-1) 575)] 0),#[]⟩,#[(.int (-2) 573),(.int (-1) 575)],0,by kernel_rfl,rfl,rfl,w_2,.cons ⟨_,rfl⟩ (.cons ⟨_,rfl⟩ .nil)⟩
def z3c (K:c0):Sp:=λ vs H Q _=>∃l zs rs wr,vs=[.ref l]/\ToldAt K H l wr rs zs/\((rs.filter isW).map (λ r=>intV r.x)).Nodup/\(0:Int)∉(rs.filter isW).map (λ r=>intV r.x)/\∀d kvs H',Same H H'->H d=none->H' d=some (.dK kvs)->All2 (EntAt K H') (ents rs) kvs->Q (.ref d) H'
theorem zce (T:TX (kx w) mg):Fo P w mg base CX0 1 273 y15 ["told"] (z3c (kx w)):=by
 refine (z5j w.params).ok sc_writers (λ S H Q E h=>?_) (λ a2 A a0 s H S Q E hr h=>?_)
 ·obtain ⟨l,I,D,R,rfl,_⟩:=h;rfl
 ·obtain ⟨l,I,D,R,rfl,f,nd,n0,q⟩:=h;refine ⟨_,(z05 (ps_set (i:=1) sc_writers.nd rfl (L1 rfl) (zgk (zg2 pe_int (z18 (v:=.ref 249) rfl (T.of (z6i _)) rfl) zh2) rfl rfl (by simp) (by decide)))
   (z05 (ps_for i3 rfl (z0n (pv 0)) (z0p (i:=2) sc_writers.nd rfl (L1 rfl))
   (z06 (ps_if (z09 opEq (pe_ix ix_seq (pv 2) pe_int (λ _ _=>rfl)) pe_str (nomark _))
   (z06 (z84 (hu_of hr) (pv 1) (pe_ix ix_seq (pv 2) pe_int (λ _ _=>rfl)) (z1z slSeq (pv 2) (z2u pe_int) z45) rfl))
   z0d)))
   (z06 (ps_ret (pv 1))))),?_⟩
  have lz:I.length=D.length:=z03 f.a;have a1:=f.n;intro d hd;refine ⟨z01,[(.inl 0,.ref 249)],rfl,(show (1:Nat)<=15 by decide),?_⟩;have F:Same H (upd (upd H d (.dK [])) d (.dK (mergeK [] [(.inl 0,.ref 249)]))):=Same.keep (Same.upd hd) hd;have J:upd (upd H d (.dK [])) d (.dK (mergeK [] [(.inl 0,.ref 249)])) d=some (.dK [(.inl 0,.ref 249)]):=z01;generalize upd (upd H d (.dK [])) d (.dK (mergeK [] [(.inl 0,.ref 249)]))=H1 at F J⊢;refine ⟨_,rfl,l,rfl,⟨_,SqL.of (F _ _ f.l)⟩,?_⟩;refine z1v (K:=KX w.params) (a:=l) (xs:=I) (λ i σ B=>Same H B/\(∃kvs,B d=some (.dK kvs)/\All2 (EntAt (kx w) B) (ents (D.take i)) kvs)/\∃x2,σ=[some (.ref l),some (.ref d),x2])
   ⟨F,⟨_,J,.cons ⟨rfl,249,rfl,zfg⟩ .nil⟩,_,rfl⟩ (λ _ σ B _ h=>SqL.of (h.1 _ _ f.l)) ?_ ?_
  ·rintro i y σ O V ⟨s2,⟨kvs,ed,wk⟩,x2,rfl⟩;obtain ⟨r,o,p,rfl,Z⟩:=z08 f.a V;have hi:i < 63:=by have:=(List.getElem?_eq_some_iff.mp o).1;omega
   have lk:kvs.length<=64:=by rw [z03 wk];refine L0 (z7i _) ?_;rw [F3];omega
   have u:=s2.seqT Z;refine g_name ?_;rcases f.g r (d0 o) with g|g
   ·refine ⟨_,rfl,.inr (.inl ⟨p,_,2,.str "read",rfl,rfl,u,by rw [g.1];exact z04 (j:=2) rfl,rfl,_,rfl,iteK ?_⟩)⟩;refine ⟨s2,⟨kvs,ed,?_⟩,_,rfl⟩;rw [z91 o,z8e,if_neg (by rw [g.w];decide),D3];exact wk
   ·refine ⟨_,rfl,.inr (.inl ⟨p,_,2,.str "write",rfl,rfl,u,by rw [g.1];exact z04 (j:=2) rfl,rfl,_,rfl,iteP (by decide +kernel) ?_⟩)⟩;refine ⟨_,rfl,5,rfl,.inr (.inl ⟨p,_,rfl,u,λ z=>absurd z.1 (show ¬ HT.sIx 7 0 (some 5)=0 by decide),λ L X=>?_⟩)⟩;have U:cutV [.int r.h,r.n,r.v,r.x,r.a,.int r.b,endV r.e] (some 5) none=[.int r.b,endV r.e]:=rfl;rw [U];obtain ⟨N,Y,t,W⟩:=newA (.tup [.int r.b,endV r.e]) X;rw [<-Y];have M:=t _ _ ed;refine ⟨_,rfl,_,rfl,.inr (.inl ⟨p,_,3,.int (intV r.x),rfl,rfl,t.seqT u,by rw [<-g.2.2.1];exact z04 (j:=3) rfl,d,_,rfl,DPut.k (k:=.inl (intV r.x)) M (P1 (m:=100) (by omega) (by decide)),?_⟩)⟩;have G:Tups (kx w) N (upd N d (.dK (putK kvs (.inl (intV r.x)) (.ref L)))):=Tups.dict M;have C:=zhe nd n0 o g.w;rw [<-z59 wk] at C;refine ⟨Same.keep (s2.trans t) hd,⟨_,z01,?_⟩,_,rfl⟩;rw [z91 o,z8e,if_pos g.w,z3f C];rw [z3f C] at G;refine z0q (z02 (λ _ _ z=>EntAt.tups (λ c xs y=>G _ _ (t.seqT y)) z) wk) ⟨rfl,L,rfl,?_⟩;have:=G _ _ (SqT.of W);rw [endV_O] at this;exact this
  ·rintro σ O ⟨s2,⟨kvs,ed,wk⟩,x2,rfl⟩;rw [lz,v4] at wk;exact ⟨_,rfl,q d kvs O s2 hd ed wk⟩
def NumAt (H:Hp) (zs:List V) (i:Nat) (y:V):Prop:=∃p z,y=.ref p/\H p=some (.tup [.int (i:Nat),z])/\zs[i]? = some z
theorem NumAt.same {H H':Hp} {zs:List V} {i:Nat} {y:V} (s:Same H H') (h:NumAt H zs i y):NumAt H' zs i y:=by obtain ⟨p,z,b,c,a⟩:=h;exact ⟨p,z,b,s _ _ c,a⟩
noncomputable def isRE (r:Rc):Bool:=decide (r.v=.str "read") && r.e.isSome
def z16 (K:c0):Sp:=λ vs H Q _=>∃l zs rs wr,vs=[.ref l]/\ToldAt K H l wr rs zs/\∀a ws H',Same H H'->H' a=some (.lst ws)->All2 (NumAt H' zs) ((N1 rs.length).filter λ i=>isRE (rs[i]?.getD r00)) ws->Q (.ref a) H'
theorem z5m (T:TX (kx w) mg):Fo P w mg base CX0 1 278 y08 ["told"] (z16 (kx w)):=by
 refine (z1g w.params).ok z5d (λ M H Q E h=>?_) (λ a1 A Z s H M Q E hr h=>?_)
 ·obtain ⟨l,d,f,L,rfl,_⟩:=h;rfl
 ·obtain ⟨l,d,f,L,rfl,b,q⟩:=h;refine ⟨_,(z06 (ps_ret (pe_cg (xs:=["number","deed"]) (g:=gTup (kx w) 2 (gCons (gName 0) (gCons (gName 1) gNil))) (fr:=[]) (zg9 rfl (T.no (z4f _)) (z00 (pv 0) pa_nil)) (λ _ _ _ _ _=>(pg_tup rfl (z0i (pg_cn (N:=["number","deed"]) 0) (z0i (pg_cn (N:=["number","deed"]) 1) z1o)))) (λ _ _ _ _ _=>(pf_one (PW.pt (pw_and (z09 opEq (pe_ix (z0m (K:=KX w.params) rfl) (pv 1) pe_int (λ _ _=>rfl)) pe_str (nomark _)) (z2r (z09 z4c (pe_ix (z0m (K:=KX w.params) rfl) (pv 1) pe_int (λ _ _=>rfl)) pe_non (nomark _))))))) (λ _ _ _ _ _=>(pe_tup (z00 (pv 0) (z00 (pv 1) pa_nil))))))),?_⟩;have lz:d.length=f.length:=z03 b.a;have a0:=b.n;refine sq_ret ?_;refine ze5 (K:=KX w.params) (a:=l) (xs:=d) (H1:=H) (λ i=>isRE (f[i]?.getD r00)) (λ i y Y=>NumAt Y d i y) (λ _ _ _ _ s z=>z.same s) (λ R h=>⟨_,rfl,h⟩) (SqL.of b.l) (L0 (m:=63) (by omega) (by decide)) ?_ ?_
  ·intro i hi v H1 k S KT KF C t;obtain ⟨x,V,B,rfl,O⟩:=S;obtain ⟨r,D,p,rfl,X⟩:=z08 b.a B;have c:=k.seqT X;rw [getD_some D] at C t;refine ⟨V,_,rfl,SqT.of O,rfl,_,_,rfl,_,_,rfl,rfl,[some (.int (i:Nat)),some (.ref p)],rfl,rfl,?_⟩;rcases b.g r (d0 D) with g|g
   ·refine ⟨_,rfl,.inr (.inl ⟨p,_,2,.str "read",rfl,rfl,c,by rw [g.1];exact z04 (j:=2) rfl,rfl,_,rfl,iteP (by decide +kernel) ?_⟩)⟩;cases he:r.e with
    | none=>exact ⟨_,rfl,.inr (.inl ⟨p,_,6,.non,rfl,rfl,c,by rw [he];exact z04 (j:=6) rfl,rfl,_,rfl,iteN (by decide) (t (by unfold isRE;rw [he];exact z8 _) _ (Same.refl _))⟩)⟩
    | some e=>refine ⟨_,rfl,.inr (.inl ⟨p,_,6,.int e,rfl,rfl,c,by rw [he];exact z04 (j:=6) rfl,rfl,_,rfl,iteP (by simp) ?_⟩)⟩;refine ⟨_,rfl,_,rfl,w_2,λ J W=>C (by unfold isRE;rw [he,decide_eq_true g.1];rfl) _ _ (Same.upd W) ⟨J,_,rfl,z01,B⟩⟩
   ·refine ⟨_,rfl,.inr (.inl ⟨p,_,2,.str "write",rfl,rfl,c,by rw [g.1];exact z04 (j:=2) rfl,rfl,_,rfl,iteK ?_⟩)⟩;refine iteN (by decide) (t ?_ _ (Same.refl _));unfold isRE;rw [decide_eq_false (λ e=>z11 (e.symm.trans g.1))];rfl
  intro U H1 F k I u;rw [lz] at u;have G:=Same.upd (o:=.lst F) I;exact q U F _ (k.trans G) z01 (z02 (λ _ _ z=>z.same G) u)
theorem ck_T (P:W0):CodeK (KX P) cdT tbT:=⟨⟨(.type "code"),none,(.fields #[(.str "zones" 611),(.str "zones" 612),(.str "/claim/cut.py" 613),(.int (150) 0),(.int (1) 0),(.int (0) 0),(.int (0) 0),(.int (3) 0),(.ref 279),(.bool true),(.int (181) 0),(.ref 280),.none,.none,.none,(.ref 281),(.int (614) 0),(.int (150) 0),(.str "/claim/cut.py" 615)]),#[]⟩,_,_,_,_,_,_,_,_,by kernel_rfl,rfl,rfl,rfl,rfl,rfl,rfl,rfl,rfl,by decide⟩
structure Zt where
 x:Int
 lo:Int
 hi:Int
 on:Bool
noncomputable def onS:Bool->Str
 | true=>"on"
 | false=>"in"
def ZtV (H:Hp) (z:Zt) (y:V):Prop:=∃p,y=.ref p/\H p=some (.tup [.int z.x,.int z.lo,.int z.hi,.str (onS z.on)])
theorem ZtV.same {H H':Hp} {z:Zt} {y:V} (s:Same H H') (h:ZtV H z y):ZtV H' z y:=h.elim λ p e=>⟨p,e.1,s _ _ e.2⟩
def MinI (l:Int) (ns:List Int):Prop:=l∈ns/\∀u∈ns,l<=u
def MaxI (l:Int) (ns:List Int):Prop:=l∈ns/\∀u∈ns,u<=l
noncomputable def zOf (x l g:Int):Zt:=if l < g then ⟨x,l,g,true⟩ else ⟨x,g,l,false⟩
def SpV (K:c0) (H:Hp) (s:Int×Option Int) (y:V):Prop:=∃p,y=.ref p/\SqT K H p [.int s.1,endO s.2]
theorem zb7 :∀{n:Nat} {ss:List (Int×Option Int)} {ys:List V},n<=ss.length->All2 (λ (i:Nat) y=>∀s e,ss[i]? = some s->s.2=some e->y=V.int e) ((N1 n).filter λ i=>(ss[i]?.map λ s=>s.2.isSome).getD false) ys->ys=((ss.take n).filterMap (·.2)).map V.int
 | 0,ss,ys,_,h=>by cases h;rfl
 | n + 1,ss,ys,hn,h=>by
  have e:ss[n]? = some ss[n]:=D0 hn;rw [F9,B3] at h;rw [z5,e,List.filterMap_append,C2];cases z:ss[n].2 with
  | none=>rw [N2 (by rw [e];show ¬ ss[n].2.isSome=true;rw [z];decide),N6,D3] at h;rw [zb7 (by omega) h];show _=_++([ss[n]].filterMap (·.2)).map V.int;rw [j0a z];exact (D3 _).symm
  | some v=>rw [G2 (by rw [e];show ss[n].2.isSome=true;rw [z];rfl),N6] at h;obtain ⟨c,y,rfl,a,b⟩:=z22 h;rw [zb7 (by omega) a,b _ v e z];show _=_++([ss[n]].filterMap (·.2)).map V.int;rw [z7 z];rfl
def z3a (K:c0):Sp:=λ vs H Q _=>∃(x:Int) (l:Addr) (ys:List V) (ss:List (Int×Option Int)),vs=[.int x,.ref l]/\H l=some (.lst ys)/\All2 (SpV K H) ss ys/\ss.length<=100/\ss.filterMap (·.2)≠[]/\ss≠[]/\∀p lo g H',Same H H'->MinI lo (ss.filterMap (·.2))->MaxI g (ss.map (·.1))->ZtV H' (zOf x lo g) (.ref p)->Q (.ref p) H'
theorem zb3 (T:TX (kx w) mg):Fo P w mg base CX0 1 288 y16 ["worth","spans"] (z3a (kx w)):=by
 refine (z4s w.params).ok sc_zone_of (λ vs H Q E h=>?_) (λ a5 A a4 s H vs Q E hr h=>?_)
 ·obtain ⟨x,l,O,b,rfl,_⟩:=h;rfl
 ·obtain ⟨x,l,O,b,rfl,U,J,a6,a1,a2,q⟩:=h;have ly:=z03 J;refine ⟨_,(z05 (ps_set (i:=2) sc_zone_of.nd rfl (L1 rfl) (z0a (zed rfl) rfl (T.no (n_min _)) boot_min (z00 (pe_cg (xs:=["begin","end"]) (g:=gTup (kx w) 2 (gCons (gName 0) (gCons (gName 1) gNil))) (fr:=[]) (z0n (pv 1)) (λ _ _ _ _ _=>(pg_tup rfl (z0i (pg_cn (N:=["begin","end"]) 0) (z0i (pg_cn (N:=["begin","end"]) 1) z1o)))) (λ _ _ _ _ _=>(pf_one (z09 z4c (pv 1) pe_non (nomark _)))) (λ _ _ _ _ _=>(pv 1))) pa_nil)))
   (z05 (ps_set (i:=3) sc_zone_of.nd rfl (L1 rfl) (z0a (ze3 rfl) rfl (T.no (n_max _)) boot_max (z00 (pe_cg (xs:=["begin","end"]) (g:=gTup (kx w) 2 (gCons (gName 0) (gCons (gName 1) gNil))) (fr:=[]) (z0n (pv 1)) (λ _ _ _ _ _=>(pg_tup rfl (z0i (pg_cn (N:=["begin","end"]) 0) (z0i (pg_cn (N:=["begin","end"]) 1) z1o)))) (λ _ _ _ _ _=>pf_nil) (λ _ _ _ _ _=>(pv 0))) pa_nil)))
   (z05 (ps_if (z09 op_lt (pv 2) (pv 3) (nomark _))
   (z06 (ps_ret (pe_tup (z00 (pv 0) (z00 (pv 2) (z00 (pv 3) (z00 pe_str pa_nil)))))))
   z0d)
   (z06 (ps_ret (pe_tup (z00 (pv 0) (z00 (pv 3) (z00 (pv 2) (z00 pe_str pa_nil)))))))))),?_⟩
  refine z0b (e_cb1 ?_);refine z0s (K:=KX w.params) (a:=l) (xs:=O) (H1:=H) (λ i=>(b[i]?.map λ s=>s.2.isSome).getD false) (λ i y _=>∀s e,b[i]? = some s->s.2=some e->y=V.int e) (λ _ _ _ _ _ z=>z) (λ R h=>⟨_,rfl,h⟩) (SqL.of U) (L0 (m:=100) (by omega) (by decide)) (λ i hi v H1 j D KT KF d k=>?_) λ C H1 Z j a0 n=>?_
  ·obtain ⟨c,G,p,rfl,M⟩:=z08 J D;rw [G] at d k;refine ⟨p,_,rfl,j.seqT M,rfl,_,_,rfl,_,_,rfl,rfl,[some (.int c.1),some (endO c.2)],rfl,rfl,?_⟩;cases z:c.2 with
   | none=>exact ⟨_,rfl,rfl,_,rfl,iteN (by decide) (k (by show c.2.isSome=false;rw [z];rfl) _ (Same.refl _))⟩
   | some e=>exact ⟨_,rfl,rfl,_,rfl,iteP (by simp [endO]) ⟨_,rfl,d (by show c.2.isSome=true;rw [z];rfl) _ _ (Same.refl _) λ s' e' F t=>by cases F;rw [z] at t;cases t;rfl⟩⟩
  rw [ly] at n;have f:=zb7 (C0 _) n;rw [v4] at f;subst f;have B:=j.trans (Same.upd (o:=.lst ((b.filterMap (·.2)).map V.int)) a0);have S:upd H1 C (.lst ((b.filterMap (·.2)).map V.int)) C=some (.lst ((b.filterMap (·.2)).map V.int)):=z01;generalize upd H1 C (.lst ((b.filterMap (·.2)).map V.int))=H2 at B S⊢;refine ⟨C,_,rfl,SqL.of S,a1,λ L d k=>g_name ?_⟩;refine z0b (e_cb1 ?_);refine z0s (K:=KX w.params) (a:=l) (xs:=O) (H1:=H2) (λ _=>true) (λ i y _=>y=V.int (b[i]?.getD (0,none)).1) (λ _ _ _ _ _ z=>z) (λ R h=>⟨_,rfl,h⟩) (SqL.of (B _ _ U)) (L0 (m:=100) (by omega) (by decide)) (λ i hi v H1 j D KT KF d k=>?_) λ u X Z s3 a3 n=>?_
  ·obtain ⟨c,G,p,rfl,M⟩:=z08 J D;exact ⟨p,_,rfl,(B.trans j).seqT M,rfl,_,_,rfl,_,_,rfl,rfl,[some (.int c.1),some (endO c.2)],rfl,rfl,iteT ⟨_,rfl,d rfl _ _ (Same.refl _) (by rw [G];rfl)⟩⟩
  rw [ly,List.filter_eq_self.mpr (λ _ _=>rfl)] at n;have f:=z1l n;have f:Z=(b.map (·.1)).map V.int:=by
   rw [f];apply Z4;intro m;rw [V0,V0,V0];by_cases z:m < b.length
   ·rw [List.getElem?_range z,D0 z];show some (V.int (b[m]?.getD (0,none)).1)=_;rw [D0 z];rfl
   ·rw [B4 (by rw [Y4];omega),B4 (by omega)];rfl
  subst f;have Y:=B.trans (s3.trans (Same.upd (o:=.lst ((b.map (·.1)).map V.int)) a3));have W:upd X u (.lst ((b.map (·.1)).map V.int)) u=some (.lst ((b.map (·.1)).map V.int)):=z01;generalize upd X u (.lst ((b.map (·.1)).map V.int))=H4 at Y W⊢;refine ⟨u,_,rfl,SqL.of W,λ z=>a2 (List.map_eq_nil_iff.mp z),λ g F t=>g_name ?_⟩;have fin :∀(p:Addr) r,Same H4 r->ZtV r (zOf x L g) (.ref p)->Q (.ref p) r:=λ p r s' z=>q p L g r (Y.trans s') ⟨d,k⟩ ⟨F,t⟩ z;refine sq_if ⟨_,rfl,_,rfl,_,_,rfl,rfl,_,rfl,ite2 (λ z=>?_) λ z=>t_nx ?_⟩
  ·have z:=of_decide_eq_true z;refine ⟨_,rfl,_,rfl,_,rfl,w_4,λ p I=>fin p _ (Same.upd I) ⟨p,rfl,?_⟩⟩;unfold zOf;rw [if_pos z];exact z01
  ·have z:¬ L < g:=λ y=>z (decide_eq_true y);refine ⟨_,rfl,_,rfl,_,rfl,w_4,λ p I=>fin p _ (Same.upd I) ⟨p,rfl,?_⟩⟩;unfold zOf;rw [if_neg z];exact z01
theorem slSeqK {X:Cx} {K:c0} (hK:X.K=K):SlR X (λ x lo hi H Q=>rSlL K x lo hi H Q\/rSlT K x lo hi H Q\/rSlS x lo hi H Q):=hK ▸ slSeq
theorem zh9 {K:c0} {tl te:TE} {tc:TT} {g:TG} {m:Nat} {fr:List (Nat×Str)} {σ:L2.St} {H:Hp} {Q:VK} (h:tl σ H λ x H1=>tCompG (iList K λ _ _ R=>R x H1) m fr g tc te σ H1 Q):tCompG (iList K tl) m fr g tc te σ H Q:=h
noncomputable def lamP:Pos:=⟨157,29,157,49⟩
noncomputable def lamQ:Str:=(("zones" : Str)++".<locals>.")++"<lambda>"
abbrev LamH:Hp->Prop:=LamT tbT lamP lamQ
theorem LamH.same {H H':Hp} (s:Same H H') (h:LamH H):LamH H':=by
 rcases h with z|⟨c',z,y⟩
 ·exact .inl (s _ _ z)
 ·exact .inr ⟨c',s _ _ z,s _ _ y⟩
noncomputable def rdsF (rs:List Rc) (x:Int):List Rc:=(rs.filter isRE).filter λ r=>decide (intV r.a=x)
noncomputable def spR (r:Rc):Int×Option Int:=((r.b:Int),r.e.map λ n=>(n:Int))
noncomputable def spans (rs:List Rc) (t:Ent):List (Int×Option Int):=(t.b,t.e) :: (rdsF rs t.x).map spR
noncomputable def cntB (rs:List Rc) (t:Ent):Bool:=decide ((spans rs t).filterMap (·.2)≠[])
def ZnR (rs:List Rc) (t:Ent) (z:Zt):Prop:=∃l g,MinI l ((spans rs t).filterMap (·.2))/\MaxI g ((spans rs t).map (·.1))/\z=zOf t.x l g
def ZonS (rs:List Rc) (zl:List Zt):Prop:=∃zl0,All2 (ZnR rs) ((ents rs).filter (cntB rs)) zl0/\zl.Perm zl0/\zl.Pairwise λ z z'=>z.lo<=z'.lo
theorem z5k {α β γ:Type} {f:α->β} {R:β->γ->Prop} :∀{xs:List α} {ys:List γ},All2 (λ x y=>R (f x) y) xs ys->All2 R (xs.map f) ys
 | _,_,.nil=>.nil
 | _,_,.cons a r=>.cons a (z5k r)
def RdN (K:c0) (H:Hp) (r:Rc) (y:V):Prop:=∃(p:Addr) (i:Int) (z:V),y=.ref p/\H p=some (.tup [.int i,z])/\RcAt K H r z
theorem rdn_of {K:c0} {H:Hp} {rs:List Rc} {zs ws:List V} (a:All2 (RcAt K H) rs zs) (h:All2 (NumAt H zs) ((N1 rs.length).filter λ i=>isRE (rs[i]?.getD r00)) ws):All2 (RdN K H) (rs.filter isRE) ws:=by have e:=z0w isRE id r00 rs;rw [List.map_id] at e;rw [<-e];refine z5k (z02 (λ i y z=>?_) h);obtain ⟨p,v,rfl,c,b⟩:=z;obtain ⟨r,d,q⟩:=z08 a b;exact ⟨p,i,v,rfl,c,by rw [d];exact q⟩
theorem key_zt {H:Hp} {zl:List Zt} {ys out:List V} (a:All2 (ZtV H) zl ys) (k:KeyOut (zl.map (·.lo)) ys out) :∃zl',zl'.Perm zl/\zl'.Pairwise (λ z z'=>z.lo<=z'.lo)/\All2 (ZtV H) zl' out:=by
 obtain ⟨m,d,rfl,g⟩:=k;have e:(zl.map (·.lo)).zip ys=(zl.zip ys).map λ p=>(p.1.lo,p.2):=by rw [List.zip_map_left];exact P6 λ p _=>rfl
 obtain ⟨b,f,rfl⟩:=z89 d _ e;have j :∀{zl:List Zt} {ys:List V},All2 (ZtV H) zl ys->(∀q∈zl.zip ys,ZtV H q.1 q.2)/\(zl.zip ys).map j23=zl:=by
  intro zl ys a;induction a with
  | nil=>exact ⟨λ q c=>absurd c B0,rfl⟩
  | cons a r ih=>
   refine ⟨λ q c=>?_,?_⟩
   ·rcases List.mem_cons.mp c with rfl|c
    ·exact a
    ·exact ih.1 q c
   ·show _ :: (List.zip _ _).map j23=_;rw [ih.2]
 obtain ⟨l,i⟩:=j a;refine ⟨b.map j23,?_,?_,?_⟩
 ·rw [<-i];exact f.map _
 ·rw [m6] at g⊢;exact g
 ·rw [Q2];have key :∀b:List (Zt×V),(∀q∈b,ZtV H q.1 q.2)->All2 (ZtV H) (b.map j23) (b.map (Prod.snd ∘ λ p=>(p.1.lo,p.2))):=by
   intro b;induction b with
   | nil=>exact λ _=>.nil
   | cons q b ih=>exact λ h=>.cons (h q (.head _)) (ih λ p d=>h p (.tail _ d))
  exact key b λ q c=>l q (f.mem_iff.mp c)
theorem sp_ne {rs:List Rc} {t:Ent} (h:rdsF rs t.x≠[]):(spans rs t).filterMap (·.2)≠[]:=by
 obtain ⟨r,d,e⟩:=B5 h;have b:r∈rdsF rs t.x:=by rw [e];exact .head _
 have a:=(List.mem_filter.mp (List.mem_filter.mp b).1).2;unfold isRE at a;rw [D5] at a;obtain ⟨k,c⟩:=Option.isSome_iff_exists.mp a.2;refine R4 (List.mem_filterMap.mpr ⟨spR r,.tail _ (List.mem_map.mpr ⟨r,b,rfl⟩),(?_:_=some (k:Int))⟩);unfold spR;rw [c];rfl
theorem SameB.of {T:Addr} {H H':Hp} (s:Same H H'):SameB T H H':=λ b o _ e=>s b o e
theorem SameB.trans {T:Addr} {H H1 H2:Hp} (s:SameB T H H1) (r:SameB T H1 H2):SameB T H H2:=λ b o n e=>r b o n (s b o n e)
theorem ZtV.sb {H H':Hp} {z:Zt} {y:V} (s:SameB tbT H H') (h :∃ps,H tbT=some (.tbl ps)) (e:ZtV H z y):ZtV H' z y:=by obtain ⟨ps,b⟩:=h;obtain ⟨p,rfl,a⟩:=e;exact ⟨p,rfl,s _ _ (λ q=>by rw [q,b] at a;cases a) a⟩
def zba (K:c0):Sp:=λ vs H Q _=>∃t nm wr es ys,vs=[.ref t]/\TalR K H t nm wr es ys/\LamH H/\∀D out zl H',SameB tbT H H'->LamH H'->H D=none->H' D=some (.lst out)->ZonS (dAll 0 [] es) zl->All2 (ZtV H') zl out->Q (.ref D) H'
theorem zf9 (T:TX (kx w) mg) (B:BtMain base mg) (c0:Ca P w mg base "plain_deeds" ["tale"] 4 (z13 (kx w))) (c1:Ca P w mg base "writers" ["told"] 1 (z3c (kx w))) (c2:Ca P w mg base "ended_reads" ["told"] 1 (z16 (kx w))) (c3:Ca P w mg base "zone_of" ["worth","spans"] 1 (z3a (kx w))):Fo P w mg base CX0 6 283 y1q ["tale"] (zba (kx w)):=by
 refine (zbt w.params).okC (c:=cdT) rfl sc_zones (λ vs H Q E h=>?_) (λ A f4 s H vs Q E M h=>?_)
 ·obtain ⟨t,nm,U,es,ys,rfl,_⟩:=h;rfl
 ·obtain ⟨t,nm,U,es,ys,rfl,ta,lm,q⟩:=h;refine ⟨_,(z05 (ps_set (i:=1) sc_zones.nd rfl (L1 rfl) (pe_cal c0 (M.mono (by decide)) rfl (z00 (pv 0) pa_nil)))
   (z05 (ps_set (i:=2) sc_zones.nd rfl (L1 rfl) (pe_lst pa_nil))
   (z05 (ps_for i3 rfl (zfz (pe_cal c1 (M.mono (by decide)) rfl (z00 (pv 1) pa_nil))) (pg_tup rfl (z0i (z0p (i:=3) sc_zones.nd rfl (G1 rfl)) (z0i (z0p (i:=4) sc_zones.nd rfl (L1 rfl)) z1o)))
   (z05 (ps_set (i:=5) sc_zones.nd rfl (L1 rfl) (pe_op opAdd (pe_lst (z00 (pv 4) pa_nil)) (pe_cg (xs:=["number","read"]) (g:=gTup (kx w) 2 (gCons (gName 0) (gCons (gName 1) gNil))) (fr:=[(3,"worth")]) (z0n (pe_cal c2 (M.mono (by decide)) rfl (z00 (pv 1) pa_nil))) (λ _ _ _ _ _=>(pg_tup rfl (z0i (pg_cn (N:=["number","read","worth"]) 0) (z0i (pg_cn (N:=["number","read","worth"]) 1) z1o)))) (λ _ _ _ _ _=>(pf_one (z09 opEq (pe_ix (z0m (K:=KX w.params) rfl) (pv 1) pe_int (λ _ _=>rfl)) (pv 2) (nomark _)))) (λ _ _ _ _ _=>(z1z (slSeqK (K:=KX w.params) rfl) (pv 1) (z2u pe_int) z45)))))
   (z06 (ps_if (PW.pt (pw_or (z09 z4c (pe_ix ix_seq (pv 4) pe_int (λ _ _=>rfl)) pe_non (nomark _)) (pw_or1 (z09 op_gt (z0a z0o rfl (T.no (n_len _)) R3 (z00 (pv 5) pa_nil)) pe_int (nomark _)))))
   (z06 (z2t (z15 (pv 2) (z00 (pe_cal c3 (M.mono (by decide)) rfl (z00 (pv 3) (z00 (pv 5) pa_nil))) pa_nil))))
   z0d))))
   (z06 (ps_ret (zcj (k:=0) (N:=["zone"]) (px:="zone") B rfl (ck_T _) (M.mono (by decide)) rfl (T.no (zcs _)) (z00 (pv 2) pa_nil) ⟨rfl,rfl,rfl,by decide +kernel,rfl,by decide +kernel,by decide +kernel⟩ (λ _ _ _ _=>rfl) (λ _ _ _ _=>(pe_ix (z0m (K:=KX w.params) rfl) (pv 0) pe_int (λ _ _=>rfl))))))))),?_⟩
  refine z0b ⟨_,rfl,t,nm,U,es,ys,rfl,ta,λ l zs H1 s1 tl=>g_name ?_⟩;have nd:=ta.tw.nd;have c4:(dAll 0 [] es).length<=62:=L0 z5l (by simpa using ta.ln);have n0:=ta.tw.n0;generalize dAll 0 [] es=rs at tl nd n0 q c4;refine z0b ⟨w_0,λ F a8=>g_name ?_⟩;have u2:=s1.trans (Same.upd (o:=.lst []) a8);have ef:upd H1 F (.lst []) F=some (.lst []):=z01;have a1:=tl.same (Same.upd (o:=.lst []) a8);have nf:H F=none:=s1.free a8;have nl:l≠F:=λ z=>by have:=tl.l;rw [z,a8] at this;cases this
  generalize upd H1 F (.lst [])=H2 at u2 ef a1⊢;have f7:=a1.n;have le:=z7i rs;have f5:rs.length<=62:=c4;refine ⟨_,rfl,l,zs,rs,U,rfl,a1,nd,n0,λ d G W s3 b3 ed wk=>⟨d,G,rfl,ed,λ J=>?_⟩⟩;have e4:H d=none:=u2.free b3;have e3:F≠d:=λ z=>by rw [z,b3] at ef;cases ef
  have u4:Same H (upd W d (.frz J (.dK G))):=Same.keep (u2.trans s3) e4;have b5:=a1.same (Same.keep (o:=.frz J (.dK G)) s3 b3);have c7:All2 (EntAt (kx w) (upd W d (.frz J (.dK G)))) (ents rs) G:=z02 (λ _ _ z=>z.tups (Tups.dict ed)) wk;have d3:upd W d (.frz J (.dK G)) F=some (.lst []):=by rw [upd_ne e3];exact s3 _ _ ef
  have d1:upd W d (.frz J (.dK G)) d=some (.frz J (.dK G)):=z01;have lk:=z03 wk;generalize upd W d (.frz J (.dK G))=H4 at u4 b5 c7 d3 d1⊢;clear wk a1 ed s3 ef u2 tl;refine zd3 (λ i σ u=>Same H u/\u d=some (.frz J (.dK G))/\ToldAt (kx w) u l U rs zs/\All2 (EntAt (kx w) u) (ents rs) G/\(∃fs zl,u F=some (.lst fs)/\All2 (ZtV u) zl fs/\All2 (ZnR rs) (((ents rs).take i).filter (cntB rs)) zl)/\∃x3 x4 x5,σ=[some (.ref t),some (.ref l),some (.ref F),x3,x4,x5]) ⟨u4,d1,b5,c7,⟨[],[],d3,.nil,.nil⟩,_,_,_,rfl⟩ (λ i σ u h=>h.2.1) ?_ ?_
  ·rintro i k v σ H5 p hk ⟨u5,ed5,tl5,wk5,⟨fs,zl,ef5,az,an⟩,x3,x4,x5,rfl⟩ hp;obtain ⟨f,c6,e1,C,e2,sw⟩:=z08 wk5 hk;have e1:k=.inl f.x:=e1;have e2:v=.ref C:=e2;subst e1 e2;have hi:=z0j c6;have u6:=Same.upd (o:=.tup [kV (.inl f.x),.ref C]) hp;have e6:upd H5 p (.tup [kV (.inl f.x),.ref C]) p=some (.tup [.int f.x,.ref C]):=z01;generalize upd H5 p (.tup [kV (.inl f.x),.ref C])=H6 at u6 e6⊢;refine ⟨p,_,rfl,SqT.of e6,rfl,_,_,rfl,_,_,rfl,rfl,?_⟩;refine z0b ⟨_,rfl,w_1,λ l0 f1=>?_⟩;have u7:=u6.trans (Same.upd (o:=.lst [.ref C]) f1);have e7:upd H6 l0 (.lst [.ref C]) l0=some (.lst [.ref C]):=z01;generalize upd H6 l0 (.lst [.ref C])=H7 at u7 e7⊢;have c9:=tl5.same u7;refine zh9 ⟨_,rfl,l,zs,rs,U,rfl,c9,λ la ws H8 s8 e0 aw=>?_⟩;have aw:=rdn_of (c9.same s8).a aw;have lw:=z03 aw;have f6:(rs.filter isRE).length<=rs.length:=O1 _ _;refine z0s (K:=KX w.params) (a:=la) (xs:=ws) (H1:=H8) (λ j=>((rs.filter isRE)[j]?.map λ r=>decide (intV r.a=f.x)).getD false) (λ j y u=>∀r,(rs.filter isRE)[j]? = some r->SpV (kx w) u (spR r) y) (λ _ _ _ _ s z r M=>(z r M).elim λ p e=>⟨p,e.1,s.seqT e.2⟩) (λ R h=>h) (SqL.of e0) (L0 (m:=63) (by omega) (by decide)) (λ j hj v H9 s9 hv KT KF X Y=>?_) λ l1 H9 I s9 b6 Z=>?_
   ·obtain ⟨r,M,p',i',z,rfl,f2,S,rfl,a9⟩:=z08 aw hv;have hm:=List.mem_filter.mp (d0 M);have ra:r.a=.int (intV r.a):=by
     have a3:=hm.2;unfold isRE at a3;rw [D5] at a3;obtain ⟨e,he⟩:=Option.isSome_iff_exists.mp a3.2;rcases tl5.g r hm.1 with g|g
     ·exact g.2.2 e he
     ·exact absurd ((of_decide_eq_true a3.1).symm.trans g.1) z11
    rw [M] at X Y;have a9:=s9.seqT a9;refine ⟨p',_,rfl,SqT.of (s9 _ _ f2),rfl,_,_,rfl,_,_,rfl,rfl,[some (.int i'),some (.ref S)],rfl,rfl,?_⟩;refine ⟨_,rfl,.inr (.inl ⟨S,_,4,.int (intV r.a),rfl,rfl,a9,by rw [<-ra];exact z04 (j:=4) rfl,_,rfl,rfl,_,rfl,?_⟩)⟩;refine ite2 (λ z=>?_) λ z=>Y (decide_eq_false λ y=>z (decide_eq_true (by rw [y]))) _ (Same.refl _);have z:=of_decide_eq_true z;injection z with z;refine ⟨_,rfl,5,rfl,.inr (.inl ⟨S,_,rfl,a9,λ z=>absurd z.1 (show ¬ HT.sIx 7 0 (some 5)=0 by decide),λ p1 d6=>?_⟩)⟩;refine X (decide_eq_true z) _ _ (Same.upd d6) λ r' e8=>?_;cases e8;refine ⟨p1,rfl,?_⟩;show SqT _ _ _ [.int (r.b:Int),endO (r.e.map λ n=>(n:Int))];rw [<-endV_O];exact SqT.of z01
   rw [lw] at Z;have Z:=z4o (q:=λ r:Rc=>decide (intV r.a=f.x)) _ (C0 _) Z;rw [v4] at Z;have g0:=z03 Z;have f8:((rs.filter isRE).filter λ r=>decide (intV r.a=f.x)).length<=(rs.filter isRE).length:=O1 _ _;have u9:=s8.trans (s9.trans (Same.upd (o:=.lst I) b6));have e9:upd H9 l1 (.lst I) l1=some (.lst I):=z01;have a2:All2 (λ r y=>SpV (kx w) (upd H9 l1 (.lst I)) (spR r) y) (rdsF rs f.x) I:=z02 (λ _ _ z=>z.elim λ p e=>⟨p,e.1,(Same.upd (o:=.lst I) b6).seqT e.2⟩) Z;generalize upd H9 l1 (.lst I)=H10 at u9 e9 a2⊢;refine .inr (.inr (.inl ⟨l0,l1,_,_,rfl,rfl,u9 _ _ e7,e9,L0 (m:=64) (by show 1 + I.length<=64;omega) (by decide),λ O d7=>g_name ?_⟩));have c8:=Same.upd (o:=.lst ([.ref C]++I)) d7;have L:=(u7.trans u9).trans c8;have b4:upd H10 O (.lst ([.ref C]++I)) O=some (.lst (.ref C :: I)):=z01;have d2:All2 (SpV (kx w) (upd H10 O (.lst ([.ref C]++I)))) (spans rs f) (.ref C :: I):=.cons ⟨C,rfl,L.seqT sw⟩ (z5k (z02 (λ _ _ z=>z.elim λ p e=>⟨p,e.1,c8.seqT e.2⟩) a2));generalize upd H10 O (.lst ([.ref C]++I))=H11 at L b4 d2⊢;have a5:=L _ _ ef5;have c5:(ents rs).take (i + 1)=(ents rs).take i++[f]:=by rw [z5,c6];rfl
   have skip:¬ (spans rs f).filterMap (·.2)≠[]->Same H H11/\H11 d=some (.frz J (.dK G))/\ToldAt (kx w) H11 l U rs zs/\All2 (EntAt (kx w) H11) (ents rs) G/\∃fs zl,H11 F=some (.lst fs)/\All2 (ZtV H11) zl fs/\All2 (ZnR rs) (((ents rs).take (i + 1)).filter (cntB rs)) zl:=λ z=>by refine ⟨u5.trans L,L _ _ ed5,tl5.same L,z02 (λ _ _ z=>z.tups (Tups.of L)) wk5,fs,zl,a5,z02 (λ _ _ z=>z.same L) az,?_⟩;rw [c5,B3,N2 (by unfold cntB;rw [decide_eq_false z];decide),N6,D3];exact an
   have go:(spans rs f).filterMap (·.2)≠[]->∀{N:Hp->Prop},(∀u,(Same H u/\u d=some (.frz J (.dK G))/\ToldAt (kx w) u l U rs zs/\All2 (EntAt (kx w) u) (ents rs) G/\∃fs zl,u F=some (.lst fs)/\All2 (ZtV u) zl fs/\All2 (ZnR rs) (((ents rs).take (i + 1)).filter (cntB rs)) zl)->N u)->z3a (kx w) [.int f.x,.ref O] H11 (λ y H2=>za9 (.ref F) [y] H2 λ _ W=>N W) E0:=λ a6 N hN=>by
    refine ⟨f.x,O,_,spans rs f,rfl,b4,d2,by show (((rs.filter isRE).filter λ r=>decide (intV r.a=f.x)).map spR).length + 1<=100;rw [G0];omega,a6,List.cons_ne_nil _ _,λ S lo g a4 b7 X Y hz=>?_⟩;have b0:=b7 _ _ a5;have e5:=z03 an;have b8:=z03 az;have d9:(((ents rs).take i).filter (cntB rs)).length<=((ents rs).take i).length:=O1 _ _;rw [F3] at d9;refine ⟨F,_,_,rfl,rfl,b0,i1 (m:=100) (by omega) (by decide),hN _ ?_⟩;have a0:=L.trans b7;have b9:Tups (kx w) a4 (upd a4 F (.lst (fs++[.ref S]))):=Tups.lst b0;have zt :∀{z:Zt} {y:V},ZtV a4 z y->ZtV (upd a4 F (.lst (fs++[.ref S]))) z y:=λ ⟨p,e,ep⟩=>⟨p,e,by rw [upd_ne (ne_of ep b0 (by intro z;cases z))];exact ep⟩
    have a7:=tl5.same a0;refine ⟨Same.keep (u5.trans a0) nf,by rw [upd_ne (λ z=>by rw [z] at ed5;rw [ef5] at ed5;cases ed5)];exact a0 _ _ ed5,⟨by rw [upd_ne nl];exact a7.l,z02 (λ _ _ z=>RcAt.tups b9 z) a7.a,a7.g,a7.n⟩,z02 (λ _ _ z=>z.tups λ c xs e=>b9 _ _ (a0.seqT e)) wk5,fs++[.ref S],zl++[zOf f.x lo g],z01,z0q (z02 (λ _ _ z=>zt (z.same a0)) az) (zt hz),?_⟩;rw [c5,B3,G2 (by unfold cntB;exact decide_eq_true a6)];exact z0q an ⟨lo,g,X,Y,rfl⟩
   refine z12 (t_or ⟨_,rfl,.inr (.inl ⟨C,_,1,endO f.e,rfl,rfl,L.seqT sw,z04 (j:=1) rfl,rfl,_,rfl,?_⟩)⟩);cases he:f.e with
   | some e=>exact iteP (by simp [endO]) (iteT ⟨_,rfl,.inl ⟨rfl,_,SqL.of a5⟩,_,rfl,_,rfl,go (by unfold spans;rw [he];exact List.cons_ne_nil _ _) λ u h=>⟨h.1,h.2.1,h.2.2.1,h.2.2.2.1,h.2.2.2.2,_,_,_,rfl⟩⟩)
   | none=>
    refine iteN (by decide) ⟨_,rfl,.inl ⟨O,_,rfl,.inl (SqL.of b4),_,_,rfl,rfl,_,rfl,ite2 (λ z=>?_) λ z=>?_⟩⟩
    ·have z:=of_decide_eq_true z;rw [Z0] at z;have a6:rdsF rs f.x≠[]:=λ y=>by have:=z03 a2;rw [y] at this;rw [this] at z;exact absurd z (by decide)
     exact ⟨_,rfl,.inl ⟨rfl,_,SqL.of a5⟩,_,rfl,_,rfl,go (sp_ne a6) λ u h=>⟨h.1,h.2.1,h.2.2.1,h.2.2.2.1,h.2.2.2.2,_,_,_,rfl⟩⟩
    ·have f0:rdsF rs f.x=[]:=by
      cases y:rdsF rs f.x with
      | nil=>rfl
      | cons r rr=>exfalso;have:=z03 a2;rw [y,Z0] at this;refine z (decide_eq_true ?_);rw [Z0];omega
     have h:=skip (λ y=>y (by unfold spans;rw [f0,he];rfl));exact ⟨h.1,h.2.1,h.2.2.1,h.2.2.2.1,h.2.2.2.2,_,_,_,rfl⟩
  rintro σ H5 ⟨u5,ed5,tl5,wk5,⟨fs,zl,ef5,az,an⟩,x3,x4,x5,rfl⟩;rw [lk,v4] at an;have b8:=z03 az;have e5:=z03 an;have f9:((ents rs).filter (cntB rs)).length<=(ents rs).length:=O1 _ _;have b1:=LamH.same u5 lm;refine ⟨_,rfl,F,fs,zl.map (·.lo),rfl,SqL.of ef5,by rw [G0];exact b8.symm,by omega,b1,λ H7 sb d5=>⟨λ i y k hy hk=>?_,λ D d4 hD ko=>?_⟩⟩
  ·obtain ⟨z,hz,p,rfl,ep⟩:=z08 az hy;rw [V0,hz] at hk;cases hk;have b2:ZtV H7 z (.ref p):=ZtV.sb sb b1.tb ⟨p,rfl,ep⟩;obtain ⟨p',e',b2⟩:=b2;cases e';exact ⟨_,rfl,.inr (.inl ⟨p,_,1,_,rfl,rfl,SqT.of b2,z04 (j:=1) rfl,rfl,rfl⟩)⟩
  ·obtain ⟨d8,X,Y,h3⟩:=key_zt (z02 (λ _ _ z=>ZtV.sb sb b1.tb z) az) ko;have f3:H D=none:=by
    cases y:H D with
    | none=>rfl
    | some o=>
     exfalso;by_cases z:D=tbT
     ·obtain ⟨ps,e⟩:=d5.tb;rw [z,e] at hD;cases hD
     ·rw [sb _ _ z (u5 _ _ y)] at hD;cases hD
   have v8:=Same.upd (o:=.lst d4) hD;exact q D d4 d8 _ (SameB.trans (SameB.of u5) (SameB.trans sb (SameB.of v8))) (LamH.same v8 d5) f3 z01 ⟨zl,an,X,Y⟩ (z02 (λ _ _ z=>z.same v8) h3)
theorem t_and {t u:TT} {σ:L2.St} {H:Hp} {Q:Bool->Hp->Prop} (h:t σ H λ c H1=>if c=true then u σ H1 Q else Q false H1):tAnd t u σ H Q:=h
def z1p (K:c0):Sp:=λ vs H Q _=>∃(a:Addr) (ns:List Int) (k:Nat),vs=[.ref a,.int (k:Nat)]/\SqL K H a (ns.map V.int)/\∀i,Q (.int i) H
theorem z3w (T:TX (kx w) mg):Fo P w mg base CX0 1 321 y01 ["script","k"] (z1p (kx w)):=by
 refine (z14 w.params).ok z3y (λ d H Q E h=>?_) (λ i A g s H d Q E f h=>?_)
 ·obtain ⟨a,b,k,rfl,_⟩:=h;rfl
 ·obtain ⟨a,b,k,rfl,c,q⟩:=h;refine ⟨_,(z05 (ps_if (z09 op_lt (pv 1) (z0a z0o rfl (T.no (n_len _)) R3 (z00 (pv 0) pa_nil)) (nomark _))
   (z06 (ps_ret (pe_ix ix_seq (pv 0) (pv 1) (λ _ _=>rfl))))
   z0d)
   (z06 (ps_ret pe_int))),?_⟩
  refine sq_if ?_;refine ⟨_,rfl,_,rfl,.inl ⟨a,_,rfl,.inl c,_,_,rfl,rfl,_,rfl,?_⟩⟩;by_cases z:k < b.length
  ·refine iteP (decide_eq_true (by rw [G0];omega)) ?_;refine ⟨_,rfl,_,rfl,.inl ⟨a,_,k,.int b[k],rfl,rfl,c,z04 (by rw [V0,D0 z];rfl),q _⟩⟩
  ·exact iteN (λ e=>z (by have:=of_decide_eq_true e;rw [G0] at this;omega)) (t_nx (sq_ret (q 0)))
def DkAt (H:Hp) (r:Addr):Prop:=∃a b c:Int,H r=some (.lst [.int a,.int b,.int c])/\0<=c/\c < 2147483587
structure Dk (r:Addr) (H H':Hp):Prop where
 k:Kept r H H'
 d:DkAt H' r
theorem Same.kp {H0 H H':Hp} {r:Addr} (s:Same H0 H) (n:H0 r=none) (k:Kept r H H'):Same H0 H':=λ b o e=>k b o (λ z=>by rw [z,n] at e;cases e) (s b o e)
theorem DkAt.same {H H':Hp} {r:Addr} (s:Same H H') (h:DkAt H r):DkAt H' r:=by obtain ⟨a,b,c,e,h⟩:=h;exact ⟨a,b,c,s _ _ e,h⟩
def z4h:Sp:=λ vs H Q _=>∃c:Int,vs=[.int c]/\∀r o,H r=none->DkAt (upd H r o) r->Q (.ref r) (upd H r o)
theorem za0 (T:TX (kx w) mg):Fo P w mg base CX0 1 328 y0r ["cell"] z4h:=by
 refine (z3n w.params).ok z98 (λ b H Q E h=>?_) (λ e A d s H b Q E a h=>?_)
 ·obtain ⟨c,rfl,_⟩:=h;rfl
 ·obtain ⟨c,rfl,q⟩:=h;refine ⟨_,(z06 (ps_ret (pe_lst (z00 (pe_op z75 (pv 0) pe_int) (z00 (pe_op op_mod (pv 0) pe_int) (z00 (pe_op op_mod (pv 0) pe_int) pa_nil)))))),?_⟩;refine ⟨_,rfl,_,_,rfl,rfl,(show CDivB c 2 from ⟨by decide,by decide⟩),_,rfl,_,_,rfl,rfl,(show (0:Int) < 2 by decide),_,rfl,_,_,rfl,rfl,(show (0:Int) < 2147483587 by decide),w_3,λ r a=>?_⟩;exact q r _ a ⟨_,_,_,z01,g8 _ (by decide),l7 _ (by decide)⟩
def z0y:Sp:=λ vs H Q _=>∃(r:Addr) (m:Int),vs=[.ref r,.int m]/\DkAt H r/\0 < m/\m < 2 ^ 64/\∀t H',Dk r H H'->0<=t->t < m->Q (.int t) H'
theorem z78 (T:TX (kx w) mg):Fo P w mg base CX0 1 335 y0j ["row","many"] z0y:=by
 refine (z2e w.params).ok sc__law_take (λ n H Q E h=>?_) (λ z A v s H n Q E y h=>?_)
 ·obtain ⟨r,m,rfl,_⟩:=h;rfl
 ·obtain ⟨r,m,rfl,⟨a,b,c,e,p,l⟩,f,u,q⟩:=h;refine ⟨_,(z05 (ps_if (PW.pt (pw_and (z09 opEq (pe_ix ix_seq (pv 0) pe_int (λ _ _=>rfl)) pe_int (nomark _)) (z2r (z09 opNe (pe_ix ix_seq (pv 0) pe_int (λ _ _=>rfl)) pe_int (nomark _)))))
   (z05 (ps_set (i:=2) sc__law_take.nd rfl (L1 rfl) (pe_op op_mod (pe_ix ix_seq (pv 0) pe_int (λ _ _=>rfl)) (pv 1)))
   (z05 (ps_asg (pe_op z75 (pe_ix ix_seq (pv 0) pe_int (λ _ _=>rfl)) (pv 1)) (pg_sub (pv 0) pe_int z1y))
   (z06 (ps_ret (pv 2)))))
   z0d)
   (z05 (ps_asg (pe_op op_mod (pe_op opAdd (pe_op opAdd (pe_op op_mul (pe_ix ix_seq (pv 0) pe_int (λ _ _=>rfl)) (pe_ix ix_seq (pv 0) pe_int (λ _ _=>rfl))) (pe_op op_mul pe_int (pe_ix ix_seq (pv 0) pe_int (λ _ _=>rfl)))) pe_int) pe_int) (pg_sub (pv 0) pe_int z1y))
   (z06 (ps_ret (pe_op op_mod (pe_op z75 (pe_ix ix_seq (pv 0) pe_int (λ _ _=>rfl)) pe_int) (pv 1)))))),?_⟩
  have d:SqL (kx w) H r [.int a,.int b,.int c]:=SqL.of e;refine z28 (λ k t=>t=H/\k=[some (.ref r),some (.int m),none]) ?_ λ g=>?_
  ·rintro σ x ⟨rfl,rfl⟩;have o:0<=(c * c + 69621 * c + 12345) % 2147483587:=g8 _ (by decide);have j:(c * c + 69621 * c + 12345) % 2147483587 < 2147483587:=l7 _ (by decide);refine z0b ⟨_,rfl,.inl ⟨r,_,2,.int c,rfl,rfl,d,rfl,_,rfl,.inl ⟨r,_,2,.int c,rfl,rfl,d,rfl,_,_,rfl,rfl,.inl ⟨by omega,by omega⟩,_,rfl,.inl ⟨r,_,2,.int c,rfl,rfl,d,rfl,_,_,rfl,rfl,.inl ⟨by decide,by decide⟩,.inl ⟨_,_,rfl,rfl,.inl ⟨_,_,rfl,rfl,_,_,rfl,rfl,(show (0:Int) < 2147483587 by decide),?_⟩⟩⟩⟩⟩⟩;refine ⟨_,rfl,r,_,2,2,rfl,rfl,e,rfl,?_⟩;refine ⟨_,rfl,.inl ⟨r,_,2,.int _,rfl,rfl,SqL.of z01,rfl,?_⟩⟩;refine ⟨_,_,rfl,rfl,(show CDivB _ 8 from ⟨by decide,by decide⟩),_,rfl,_,_,rfl,rfl,f,?_⟩;exact q _ _ ⟨.set,a,b,_,z01,o,j⟩ (g8 _ (by omega)) (l7 _ f)
  ·refine z12 (t_and ⟨_,rfl,.inl ⟨r,_,1,.int b,rfl,rfl,d,rfl,rfl,_,rfl,?_⟩⟩);refine ite2 (λ _=>?_) λ _=>iteF (g _ _ ⟨rfl,rfl⟩);refine ⟨_,rfl,.inl ⟨r,_,0,.int a,rfl,rfl,d,rfl,rfl,_,rfl,ite2 (λ _=>?_) λ _=>g _ _ ⟨rfl,rfl⟩⟩⟩;refine z0b ⟨_,rfl,.inl ⟨r,_,0,.int a,rfl,rfl,d,rfl,_,rfl,_,_,rfl,rfl,f,g_name ?_⟩⟩;refine z0b ⟨_,rfl,.inl ⟨r,_,0,.int a,rfl,rfl,d,rfl,_,rfl,_,_,rfl,rfl,⟨f,u⟩,?_⟩⟩;refine ⟨_,rfl,r,_,0,0,rfl,rfl,e,rfl,?_⟩;exact ⟨_,rfl,q _ _ ⟨.set,_,_,c,z01,p,l⟩ (g8 _ (by omega)) (l7 _ f)⟩
theorem p12:CPow 10 12:=⟨by decide,by decide,by decide⟩
theorem p12v:(10:Int) ^ (12:Int).toNat=1000000000000:=by decide
def bdI (i:Int):Prop:=-1000000000<=i/\i<=1000000000
def bdA (i:Int):Prop:=-1000000000000<=i/\i<=1000000000000
theorem bdI.a {i:Int} (h:bdI i):bdA i:=⟨by have:=h.1;omega,by have:=h.2;omega⟩
def RowR (H:Hp) (r:Rc) (y:V):Prop:=∃p late,y=.ref p/\H p=some (.lst [.int r.h,r.v,r.x,r.a,.int r.b,endV r.e,.int late])/\bdI late
theorem RowR.same {H H':Hp} {r:Rc} {y:V} (s:Same H H') (h:RowR H r y):RowR H' r y:=by obtain ⟨p,d,c,b,a⟩:=h;exact ⟨p,d,c,s _ _ b,a⟩
structure RwsA (H:Hp) (lr:Addr) (rs:List Rc) (zs:List V):Prop where
 l:H lr=some (.lst zs)
 a:All2 (RowR H) rs zs
 g :∀r∈rs,RdG r\/WrG 0 r
 x :∀r∈rs,isW r=true->bdI (intV r.x)
 n:rs.length<=24
theorem RwsA.same {H H':Hp} {lr:Addr} {rs:List Rc} {zs:List V} (s:Same H H') (h:RwsA H lr rs zs):RwsA H' lr rs zs:=⟨s _ _ h.l,z02 (λ _ _ z=>z.same s) h.a,h.g,h.x,h.n⟩
def z26 (K:c0):Sp:=λ vs H Q _=>∃(rw p lr:Addr) (r:Rc) (now:Int) (sp:Bool) (rs:List Rc) (zs:List V) (H0:Hp),vs=[.ref rw,.ref p,.int now,.ref lr,.bl sp]/\Same H0 H/\H0 rw=none/\DkAt H rw/\RowR H0 r (.ref p)/\(RdG r\/WrG 0 r)/\bdI now/\RwsA H0 lr rs zs/\∀a H',Same H0 H'->DkAt H' rw->(isW r=true->a=.str "ok")->(isW r=false->∃i,a=.int i/\bdA i)->Q a H'
theorem z5f (T:TX (kx w) mg) (c0:Ca P w mg base "_law_take" ["row","many"] 1 z0y):Fo P w mg base CX0 2 340 y09 ["row","deed","now","rows","spoilt"] (z26 (kx w)):=by
 refine (z1c w.params).ok sc__law_answer (λ vs H Q E h=>?_) (λ c1 A b9 s H vs Q E hr h=>?_)
 ·obtain ⟨C,p,lr,r,now,sp,D,zs,S,rfl,_⟩:=h;rfl
 ·obtain ⟨C,p,lr,r,now,sp,D,zs,S,rfl,O,n0,dk,rr,g,bn,ra,q⟩:=h;refine q_of (z0e (QS.mk (ps_if (z09 opEq (pe_ix ix_seq (pv 1) pe_int (λ _ _=>rfl)) pe_str (nomark _))
   (z06 (ps_ret pe_str))
   z0d))
   (z0e (QS.mk (ps_if (PW.pt (pw_or (pt_not (pt_val (pv 4) (λ _=>rfl))) (pw_or1 (z09 op_gt (pe_cal c0 (hr.mono (by decide)) rfl (z00 (pv 0) (z00 pe_int pa_nil))) pe_int (nomark _)))))
   (z06 (ps_ret (pe_ix ix_seq (pe_lst (z00 (pe_ix ix_seq (pv 1) pe_int (λ _ _=>rfl)) (z00 (pv 2) pa_nil))) (pe_cal c0 (hr.mono (by decide)) rfl (z00 (pv 0) (z00 pe_int pa_nil))) (λ _ _=>rfl))))
   z0d))
   (z0e (qs_set (i:=5) sc__law_answer.nd rfl (L1 rfl) (qe_op opAdd (qe_lst (z2v (QE.mk pe_int) (z2v (QE.mk pe_int) (z2v (QE.mk (pe_op op_pow pe_int pe_int)) (z2v (QE.mk (pe_op op_sub pe_int (pe_op op_pow pe_int pe_int))) qa_nil))))) (QE.mk (pe_cg (xs:=["one"]) (g:=gName 0) (fr:=[]) (z0n (pv 3)) (λ _ _ _ _ _=>(pg_cn (N:=["one"]) 0)) (λ _ _ _ _ _=>(pf_one (z09 opEq (pe_ix (z0m (K:=KX w.params) rfl) (pv 0) pe_int (λ _ _=>rfl)) pe_str (nomark _)))) (λ _ _ _ _ _=>(pe_ix (z0m (K:=KX w.params) rfl) (pv 0) pe_int (λ _ _=>rfl)))))))
   (z2n (QS.mk (ps_ret (pe_ix ix_seq (pv 5) (pe_cal c0 (hr.mono (by decide)) rfl (z00 (pv 0) (z00 (z0a z0o rfl (T.no (n_len _)) R3 (z00 (pv 5) pa_nil)) pa_nil))) (λ _ _=>rfl)))))))) ?_
  obtain ⟨p',G,e,ep,bl⟩:=rr;cases e;have b0:SqL (kx w) H p _:=SqL.of (O _ _ ep);rcases g with g|g;rotate_left
  ·exact sq_if ⟨_,rfl,.inl ⟨p,_,1,.str "write",rfl,rfl,b0,by rw [g.1];exact z04 (j:=1) rfl,rfl,_,rfl,iteP (by decide +kernel) (q _ _ O dk (λ _=>rfl) λ z=>by rw [g.w] at z;cases z)⟩⟩
  refine sq_if ⟨_,rfl,.inl ⟨p,_,1,.str "read",rfl,rfl,b0,by rw [g.1];exact z04 (j:=1) rfl,rfl,_,rfl,iteK (t_nx ?_)⟩⟩;have done :∀i B,bdA i->Same S B->DkAt B C->Q (.int i) B:=λ i B b Y d=>q _ _ Y d (λ z=>by rw [g.w] at z;cases z) λ _=>⟨i,rfl,b⟩
  have b5 :∀(l:Addr) (t:Int) B,0<=t->t < 2->B l=some (.lst [.int G,.int now])->Same S B->DkAt B C->rIx (kx w) (.ref l) (.int t) B Q:=λ l t B X t1 el Y d=>by
   rcases (show t=0\/t=1 by omega) with rfl|rfl
   ·exact .inl ⟨l,_,0,.int G,rfl,rfl,SqL.of el,z04 (j:=0) rfl,done _ _ bl.a Y d⟩
   ·exact .inl ⟨l,_,1,.int now,rfl,rfl,SqL.of el,z04 (j:=1) rfl,done _ _ bn.a Y d⟩
  have a5 :∀H1,Same S H1->DkAt H1 C->∀l,H1 l=none->z0y [.ref C,.int 2] (upd H1 l (.lst [.int G,.int now])) (λ y M=>rIx (kx w) (.ref l) y M Q) E0:=λ H1 J d1 l I=>by
   have u:=Same.upd (o:=.lst [.int G,.int now]) I;have nl:l≠C:=λ z=>by obtain ⟨a,b,c,e,_⟩:=d1;rw [z,e] at I;cases I
   exact ⟨C,2,rfl,d1.same u,by decide,by decide,λ t M a1 X t1=>b5 l t M X t1 (a1.k _ _ nl z01) (Same.kp (J.trans u) n0 a1.k) a1.d⟩
  refine sq_if (t_or ?_);have a6 :∀H1,Same S H1->SqL (kx w) H1 p [.int r.h,r.v,r.x,r.a,.int r.b,endV r.e,.int G]:=λ H1 J=>SqL.of (J _ _ ep);refine ⟨_,rfl,_,rfl,?_⟩;cases sp with
  | false=>exact iteP rfl (iteT ⟨_,rfl,.inl ⟨p,_,6,.int G,rfl,rfl,a6 _ O,z04 (j:=6) rfl,_,rfl,w_2,λ l I=>⟨_,rfl,a5 H O dk l I⟩⟩⟩)
  | true=>
   refine iteN (by decide) ⟨_,rfl,C,6,rfl,dk,by decide,by decide,λ t6 H1 a4 b6 b8=>⟨_,_,rfl,rfl,_,rfl,?_⟩⟩;have J:=Same.kp O n0 a4.k;refine ite2 (λ _=>⟨_,rfl,.inl ⟨p,_,6,.int G,rfl,rfl,a6 _ J,z04 (j:=6) rfl,_,rfl,w_2,λ l I=>⟨_,rfl,a5 H1 J a4.d l I⟩⟩⟩) λ _=>t_nx ?_;refine z0b ⟨_,_,rfl,rfl,p12,_,_,rfl,rfl,p12,_,_,rfl,rfl,w_4,λ U b4=>?_⟩;dsimp only;rw [p12v];have u2:=Same.upd (o:=.lst [.int 0,.int 7,.int 1000000000000,.int (1 - 1000000000000)]) b4;have e2:upd H1 U (.lst [.int 0,.int 7,.int 1000000000000,.int (1 - 1000000000000)]) U=some (.lst (([0,7,1000000000000,1 - 1000000000000]:List Int).map V.int)):=z01;have d2:=a4.d.same u2;have s2:=J.trans u2;generalize upd H1 U (.lst [.int 0,.int 7,.int 1000000000000,.int (1 - 1000000000000)])=M at u2 e2 d2 s2⊢;have a0:=ra.same s2;have lz:zs.length=D.length:=z03 a0.a;have b2:=ra.n;refine z0s (K:=KX w.params) (a:=lr) (xs:=zs) (H1:=M) (λ i=>isW (D[i]?.getD r00)) (λ i y _=>y=.int (intV (D[i]?.getD r00).x)) (λ _ _ _ _ _ z=>z) (λ R h=>⟨_,rfl,h⟩) (SqL.of a0.l) (L0 (m:=24) (by omega) (by decide)) (λ i Z v H3 s3 hv KT KF h1 h2=>?_) λ l5 H3 ys s3 a8 fa=>?_
   ·obtain ⟨W,a7,p5,b7,rfl,F,_⟩:=z08 a0.a hv;have F:=SqL.of (K:=KX w.params) (s3 _ _ F);rw [getD_some a7] at h1 h2;refine ⟨[some (.ref p5)],rfl,rfl,?_⟩;rcases ra.g W (d0 a7) with g|g
    ·exact ⟨_,rfl,.inl ⟨p5,_,1,.str "read",rfl,rfl,F,by rw [g.1];exact z04 (j:=1) rfl,rfl,_,rfl,iteK (h2 g.w _ (Same.refl _))⟩⟩
    ·exact ⟨_,rfl,.inl ⟨p5,_,1,.str "write",rfl,rfl,F,by rw [g.1];exact z04 (j:=1) rfl,rfl,_,rfl,iteP (by decide +kernel) ⟨_,rfl,.inl ⟨p5,_,2,.int (intV W.x),rfl,rfl,F,by rw [<-g.2.2.1];exact z04 (j:=2) rfl,h1 g.w _ _ (Same.refl _) rfl⟩⟩⟩⟩
   have ey:=z8l (f:=λ r=>V.int (intV r.x)) lz fa;have b1:ys=((D.filter isW).map (λ r=>intV r.x)).map V.int:=by rw [ey,Q2];rfl
   subst b1;have lu:((D.filter isW).map (λ r=>intV r.x)).length<=24:=by rw [G0];exact L0 (O1 _ _) b2
   have bx :∀i∈(D.filter isW).map (λ r=>intV r.x),bdA i:=λ i Z=>by obtain ⟨W,a9,rfl⟩:=List.mem_map.mp Z;exact (ra.x W (List.mem_filter.mp a9).1 (List.mem_filter.mp a9).2).a
   generalize (D.filter isW).map (λ r=>intV r.x)=us at lu bx a8⊢;have u3:=s3.trans (Same.upd (o:=.lst (us.map V.int)) a8);have F:upd H3 l5 (.lst (us.map V.int)) l5=some (.lst (us.map V.int)):=z01;generalize upd H3 l5 (.lst (us.map V.int))=H4 at u3 F⊢;refine .inr (.inr (.inl ⟨U,l5,_,_,rfl,rfl,u3 _ _ e2,F,L0 (m:=28) (by rw [G0,G0];show 4 + us.length<=28;omega) (by decide),λ L a3=>g_name ?_⟩));have u6:=u3.trans (Same.upd (o:=.lst (([0,7,1000000000000,1 - 1000000000000]:List Int).map V.int++us.map V.int)) a3);have e6:upd H4 L (.lst (([0,7,1000000000000,1 - 1000000000000]:List Int).map V.int++us.map V.int)) L=some (.lst ((([0,7,1000000000000,1 - 1000000000000]:List Int)++us).map V.int)):=by rw [z01,C2]
   generalize upd H4 L (.lst (([0,7,1000000000000,1 - 1000000000000]:List Int).map V.int++us.map V.int))=H6 at u6 e6⊢;have bw :∀i∈([0,7,1000000000000,1 - 1000000000000]:List Int)++us,bdA i:=λ i Z=>by
    rcases List.mem_append.mp Z with z|z
    ·have key :∀i∈([0,7,1000000000000,1 - 1000000000000]:List Int),bdA i:=by unfold bdA;decide
     exact key i z
    ·exact bx i z
   have lw:0 < (([0,7,1000000000000,1 - 1000000000000]:List Int)++us).length:=by rw [J0];show 0 < 4 + _;omega
   have b3:(([0,7,1000000000000,1 - 1000000000000]:List Int)++us).length<=28:=by rw [J0];show 4 + us.length<=28;omega
   generalize ([0,7,1000000000000,1 - 1000000000000]:List Int)++us=ws at bw lw b3 e6;have d6:=d2.same u6;refine ⟨_,rfl,_,rfl,_,rfl,.inl ⟨L,_,rfl,.inl (SqL.of e6),C,_,rfl,d6,by rw [G0];omega,by rw [G0];omega,λ t H7 a2 X t1=>?_⟩⟩;rw [G0] at t1;obtain ⟨n,rfl⟩ :∃n:Nat,t=(n:Int):=⟨t.toNat,(R8 X).symm⟩
   have hn:n < ws.length:=by omega
   have n6:L≠C:=λ z=>by obtain ⟨a,b,c,e,_⟩:=d2.same u3;rw [z,e] at a3;cases a3
   exact .inl ⟨L,_,n,.int ws[n],rfl,rfl,SqL.of (a2.k _ _ n6 e6),z04 (by rw [V0,D0 hn];rfl),done _ _ (bw _ (K5 hn)) (Same.kp (s2.trans u6) n0 a2.k) a2.d⟩
noncomputable def fixA (p:Nat) (v:V) (r:Rc):Rc:=if r.e=some p then { r with a:=v } else r
theorem fixA_h {p:Nat} {v:V} (r:Rc):(fixA p v r).h=r.h:=by unfold fixA;split<;>rfl
theorem fixA_x {p:Nat} {v:V} (r:Rc):(fixA p v r).x=r.x:=by unfold fixA;split<;>rfl
theorem fixA_v {p:Nat} {v:V} (r:Rc):(fixA p v r).v=r.v:=by unfold fixA;split<;>rfl
theorem fix_hs {p:Nat} {v:V} (rs:List Rc):(rs.map (fixA p v)).map Rc.h=rs.map Rc.h:=by rw [Q2];exact P6 λ r _=>fixA_h r
theorem zd8 {p j:Nat} {v:V} (n:p≠j) (rs:List Rc) (e:Ev):dstep j (rs.map (fixA p v)) e=(dstep j rs e).map (fixA p v):=by
 cases e with
 | beg h nm vb x=>show rs.map _++[_]=(rs++[_]).map _;rw [C2];congr 1
 | fin h a=>
  unfold dstep;dsimp only;rw [fix_hs];cases lastI h (rs.map Rc.h) with
  | none=>rfl
  | some k=>
   dsimp only;apply Z4;intro m;rw [B2,V0,V0,B2];cases rs[m]? with
   | none=>rfl
   | some r=>
    show some (if k=m then _ else _)=some (fixA p v (if k=m then _ else _));by_cases z:k=m
    ·rw [if_pos z,if_pos z];congr 1;unfold fixA;rw [if_neg (show ¬ (some j:Option Nat)=some p from λ y=>n (C1 y).symm)];split<;>rfl
    ·rw [if_neg z,if_neg z]
theorem zcv {p:Nat} {v:V} :∀(es:List Ev) (j:Nat) (rs:List Rc),p < j->dAll j (rs.map (fixA p v)) es=(dAll j rs es).map (fixA p v)
 | [],_,_,_=>rfl
 | e :: es,j,rs,h=>by show dAll (j + 1) (dstep j (rs.map _) e) es=(dAll (j + 1) (dstep j rs e) es).map _;rw [zd8 (T0 h),zcv es (j + 1) _ (by omega)]
theorem zfj {p:Nat} {v:V} {rs:List Rc} (h :∀r∈rs,r.e≠some p):rs.map (fixA p v)=rs:=by
 conv=>rhs;rw [<-List.map_id rs]
 exact P6 λ r a=>by unfold fixA;rw [if_neg (h r a)];rfl
theorem zbl {v:V} :∀(es:List Ev) (i:Nat) (rs:List Rc) (p:Nat) (h:Int) (a:V),es[p]? = some (.fin h a)->PosI i rs->dAll i rs (es.set p (.fin h v))=(dAll i rs es).map (fixA (i + p) v)
 | e :: es,i,rs,0,h,a,he,ps=>by
  rw [Z1] at he;cases he;show dAll (i + 1) (dstep i rs (.fin h v)) es=(dAll (i + 1) (dstep i rs (.fin h a)) es).map (fixA i v);rw [<-zcv es (i + 1) _ (by omega)];congr 1;unfold dstep;dsimp only;have b :∀r∈rs,r.e≠some i:=λ r c z=>E3 _ (ps.e r c i z);cases lastI h (rs.map Rc.h) with
  | none=>exact (zfj b).symm
  | some k=>
   dsimp only;apply Z4;intro m;rw [B2,V0,B2];cases z:rs[m]? with
   | none=>rfl
   | some r=>
    show some (if k=m then _ else _)=some (fixA i v (if k=m then _ else _));by_cases y:k=m
    ·rw [if_pos y,if_pos y];unfold fixA;rw [if_pos rfl]
    ·rw [if_neg y,if_neg y];unfold fixA;rw [if_neg (b r (d0 z))]
 | e :: es,i,rs,p + 1,h,a,he,ps=>by rw [J1] at he;show dAll (i + 1) (dstep i rs e) (es.set p _)=_;rw [zbl es (i + 1) (dstep i rs e) p h a he (ps.step e),show i + 1 + p=i + (p + 1) by omega];rfl
theorem zep {v:V} :∀(es:List Ev) (os:List Int) (p:Nat) (h:Int) (a:V),es[p]? = some (.fin h a)->EWf os es->EWf os (es.set p (.fin h v))
 | e :: es,os,0,h,a,he,w=>by rw [Z1] at he;cases he;exact w
 | e :: es,os,p + 1,h,a,he,w=>⟨w.1,zep es _ p h a (by rw [J1] at he;exact he) w.2⟩
theorem zck {v:V} :∀(es:List Ev) (p:Nat) (h:Int) (a:V),es[p]? = some (.fin h a)->(es.set p (.fin h v)).filter isBeg=es.filter isBeg
 | e :: es,0,h,a,he=>by rw [Z1] at he;cases he;rfl
 | e :: es,p + 1,h,a,he=>by
  rw [J1] at he;show (e :: es.set p _).filter isBeg=_;cases z:isBeg e with
  | true=>rw [G2 z,G2 z,zck es p h a he]
  | false=>rw [N2 (by rw [z];decide),N2 (by rw [z];decide),zck es p h a he]
theorem zbe :∀(es:List Ev) (j:Nat) (rs:List Rc),∀r∈dAll j rs es,∀e,r.e=some e->e < j->∃r0∈rs,r0.e=some e/\r0.h=r.h/\r0.a=r.a
 | [],_,_,r,hr,e,he,_=>⟨r,hr,he,rfl,rfl⟩
 | x :: es,j,rs,r,hr,e,he,hj=>by
  obtain ⟨f,c,d,g,i⟩:=zbe es (j + 1) (dstep j rs x) r hr e he (by omega);refine ⟨f,?_,d,g,i⟩;cases x with
  | beg h0 nm v y=>
   rcases List.mem_append.mp c with z|z
   ·exact z
   ·rw [List.mem_singleton.mp z] at d;cases d
  | fin h0 a=>
   unfold dstep at c;dsimp only at c;cases z:lastI h0 (rs.map Rc.h) with
   | none=>rw [z] at c;exact c
   | some k=>
    rw [z] at c;dsimp only at c;obtain ⟨m,b⟩:=List.mem_iff_getElem?.mp c;rw [B2] at b;cases y:rs[m]? with
    | none=>rw [y] at b;cases b
    | some r0=>
     rw [y] at b;have b:some (if k=m then { r0 with a:=a,e:=some j } else r0)=some f:=b;by_cases u:k=m
     ·rw [if_pos u] at b;cases b;have d:some j=some e:=d;cases d;omega
     ·rw [if_neg u] at b;cases b;exact d0 y
theorem end_at :∀(es:List Ev) (i:Nat) (rs:List Rc),(∀r∈rs,∀e,r.e=some e->e < i)->∀r∈dAll i rs es,∀e,r.e=some e->i<=e->es[e - i]? = some (.fin r.h r.a)
 | [],i,rs,h,r,hr,e,he,hi=>by have:=h r hr e he;omega
 | x :: es,i,rs,h,r,hr,e,he,hi=>by
  have g :∀q∈dstep i rs x,∀k,q.e=some k->k < i\/(k=i/\x=.fin q.h q.a):=λ q c k d=>by
   cases x with
   | beg h0 nm v y=>
    rcases List.mem_append.mp c with z|z
    ·exact .inl (h q z k d)
    ·rw [List.mem_singleton.mp z] at d;cases d
   | fin h0 a=>
    unfold dstep at c;dsimp only at c;cases z:lastI h0 (rs.map Rc.h) with
    | none=>rw [z] at c;exact .inl (h q c k d)
    | some j=>
     rw [z] at c;dsimp only at c;obtain ⟨m,b⟩:=List.mem_iff_getElem?.mp c;rw [B2] at b;cases y:rs[m]? with
     | none=>rw [y] at b;cases b
     | some r0=>
      rw [y] at b;have b:some (if j=m then { r0 with a:=a,e:=some i } else r0)=some q:=b;by_cases u:j=m
      ·rw [if_pos u] at b;cases b;cases d;have f:=(z5i _ z).1;rw [V0,u,y] at f;have f:some r0.h=some h0:=f;cases f;exact .inr ⟨rfl,rfl⟩
      ·rw [if_neg u] at b;cases b;exact .inl (h _ (d0 y) k d)
  by_cases z:e=i
  ·subst z;obtain ⟨s,n,o,l,p⟩:=zbe es (e + 1) _ r hr e he (by omega);rcases g s n e o with y|⟨_,y⟩
   ·omega
   ·rw [Nat.sub_self,Z1,y,l,p]
  ·have:=end_at es (i + 1) (dstep i rs x) (λ q c k d=>by rcases g q c k d with y|⟨y,_⟩<;>omega) r hr e he (by omega);rw [show e - i=e - (i + 1) + 1 by omega,J1];exact this
def WxI (rs:List Rc):Prop:=∀(i:Nat) (r:Rc),rs[i]? = some r->isW r=true->∃t:Int,0<=t/\t < 1000/\(intV r.x=(24 * t + i + 1) * 41666\/intV r.x=-((24 * t + i + 1) * 41666))
theorem WxI.nd {rs:List Rc} (x:WxI rs) (l:rs.length<=24):((rs.filter isW).map λ r=>intV r.x).Nodup:=by
 have p:rs.Pairwise λ r q=>isW r=true->isW q=true->intV r.x≠intV q.x:=by rw [j01];intro i j d b k a f e;obtain ⟨t,o,w,m⟩:=x i _ (D0 d) a;obtain ⟨u,n,s,v⟩:=x j _ (D0 b) f;omega
 unfold List.Nodup;rw [m6];exact (p.filter isW).imp_of_mem λ c g h=>h (List.mem_filter.mp c).2 (List.mem_filter.mp g).2
theorem WxI.n0 {rs:List Rc} (x:WxI rs):(0:Int)∉(rs.filter isW).map λ r=>intV r.x:=λ z=>by obtain ⟨r,c,e⟩:=List.mem_map.mp z;obtain ⟨a,b⟩:=List.mem_filter.mp c;obtain ⟨i,d⟩:=List.mem_iff_getElem?.mp a;obtain ⟨t,g,h,f⟩:=x i r d b;omega
theorem WxI.bd {rs:List Rc} (x:WxI rs) (l:rs.length<=24) :∀r∈rs,isW r=true->bdI (intV r.x):=λ r c b=>by obtain ⟨i,a⟩:=List.mem_iff_getElem?.mp c;obtain ⟨t,e,f,d⟩:=x i r a b;have:=z0j a;unfold bdI;omega
theorem WxI.fix {rs:List Rc} {p:Nat} {v:V} (x:WxI rs):WxI (rs.map (fixA p v)):=λ i r b a=>by rw [V0] at b;obtain ⟨c,d,rfl⟩:=Option.map_eq_some_iff.mp b;rw [fixA_x];refine x i c d ?_;unfold isW at a⊢;rw [fixA_v] at a;exact a
noncomputable abbrev rTh:List (Str×Str):=[("r","register")]
structure Md (HL H:Hp) (lr le:Addr) (es:List Ev) (zs ys:List V):Prop where
 s:Same HL H
 fl:HL lr=none
 fe:HL le=none
 fz :∀p,V.ref p∈zs->HL p=none/\p≠lr/\p≠le
 nd:zs.Nodup
 n1:lr≠le
 l:H lr=some (.lst zs)
 a:All2 (RowR H) (dAll 0 [] es) zs
 g :∀r∈dAll 0 [] es,RdG r\/WrG 0 r
 n:(dAll 0 [] es).length<=24
 e:H le=some (.lst ys)
 ev:All2 (EvT H rTh) es ys
 wf:EWf [] es
 wx:WxI (dAll 0 [] es)
 n60:es.length<=60
 bg:(es.filter isBeg).length<=24
theorem Md.rws {HL H:Hp} {lr le:Addr} {es:List Ev} {zs ys:List V} (m:Md HL H lr le es zs ys):RwsA H lr (dAll 0 [] es) zs:=⟨m.l,m.a,m.g,m.wx.bd m.n,m.n⟩
theorem Md.same {HL H H':Hp} {lr le:Addr} {es:List Ev} {zs ys:List V} (m:Md HL H lr le es zs ys) (s:Same H H'):Md HL H' lr le es zs ys:=
 ⟨m.s.trans s,m.fl,m.fe,m.fz,m.nd,m.n1,s _ _ m.l,z02 (λ _ _ z=>z.same s) m.a,m.g,m.n,s _ _ m.e,z02 (λ _ _ z=>z.same s) m.ev,m.wf,m.wx,m.n60,m.bg⟩
theorem Md.pos {HL H:Hp} {lr le:Addr} {es:List Ev} {zs ys:List V} (m:Md HL H lr le es zs ys):PosI es.length (dAll 0 [] es):=by
 have:=PosI.all es PosI.nil
 rwa [y6] at this
theorem nd_at {zs:List V} (nd:zs.Nodup) {i j:Nat} {v:V} (h1:zs[i]? = some v) (h2:zs[j]? = some v):i=j:=by
 obtain ⟨b,c⟩:=List.getElem?_eq_some_iff.mp h1;obtain ⟨a,d⟩:=List.getElem?_eq_some_iff.mp h2;rcases z6 i j with z|z|z
 ·exact absurd (c.trans d.symm) (List.pairwise_iff_getElem.mp nd i j b a z)
 ·exact z
 ·exact absurd (d.trans c.symm) (List.pairwise_iff_getElem.mp nd j i a b z)
theorem zf3 {zs ws:List V} {n:Nat} {p:Nat->Bool} (h:All2 (λ (i:Nat) y=>zs[i]? = some y) ((N1 n).filter p) ws) {t:Nat} (ht:t < ws.length) :∃i v,ws[t]? = some v/\zs[i]? = some v/\p i=true:=by obtain ⟨i,a,e⟩:=z08 h (D0 ht);exact ⟨i,_,D0 ht,e,(List.mem_filter.mp (d0 a)).2⟩
theorem XOk.tp {H H':Hp} {k v:Str} {x:V} (s :∀a xs,H a=some (.tup xs)->H' a=some (.tup xs)) (h:XOk H k v x):XOk H' k v x:=by
 cases h with
 | none e=>exact .none e
 | one e h=>exact .one e h
 | two e h1 h2 h3=>exact .two e (s _ _ h1) h2 h3
theorem EvT.tp {H H':Hp} {ts:List (Str×Str)} (s :∀a xs,H a=some (.tup xs)->H' a=some (.tup xs)) :∀{e:Ev} {y:V},EvT H ts e y->EvT H' ts e y
 | .beg h n v x,_,⟨p,nm,k,vb,h1,h2,h3,h4,h5,h6,h7,h8,h9⟩=>⟨p,nm,k,vb,h1,s _ _ h2,h3,h4,h5,h6,h7,h8,XOk.tp s h9⟩
 | .fin h a,_,⟨p,h1,h2,h3⟩=>⟨p,h1,s _ _ h2,h3⟩
theorem zbh {α β:Type} {R:α->β->Prop} {x:α} {y:β} :∀{xs:List α} {ys:List β} (j:Nat),All2 R xs ys->R x y->All2 R (xs.set j x) (ys.set j y)
 | _,_,_,.nil,_=>.nil
 | _,_,0,.cons _ r,h=>.cons h r
 | _,_,j + 1,.cons a r,h=>.cons a (zbh j r h)
theorem zeu {i:Int} (h:bdA i):AnsOk (.int i):=.inr (.inr ⟨i,rfl,by show (decide (-1000000000000<=i) && decide (i<=1000000000000))=true;rw [decide_eq_true h.1,decide_eq_true h.2];rfl⟩)
theorem ixN_at {n j:Nat} (h:j < n):ixN n (j:Int)=some j:=zf0 h
theorem Md.fix {HL H0 H':Hp} {lr le p tp:Addr} {es:List Ev} {zs ys:List V} {i:Nat} {r:Rc} {e:Nat} {late x:Int} (m:Md HL H0 lr le es zs ys) (hr:(dAll 0 [] es)[i]? = some r) (hz:zs[i]? = some (.ref p)) (hre:isRE r=true) (he:r.e=some e) (bl:bdI late) (bx:bdA x)
  (k :∀b o,b≠p->b≠le->H0 b=some o->H' b=some o) (hp:H' p=some (.lst [.int r.h,r.v,r.x,.int x,.int r.b,endV r.e,.int late])) (ht:H' tp=some (.tup [.str "end",.int r.h,.int x])) (hl:H' le=some (.lst (ys.set e (.ref tp)))) :
  Md HL H' lr le (es.set e (.fin r.h (.int x))) zs (ys.set e (.ref tp)):=by
 obtain ⟨T,Q,W⟩:=m.fz p (d0 hz);have F:=d0 hr;have A:es[e]? = some (.fin r.h r.a):=by
  have:=end_at es 0 [] (λ _ h=>absurd h B0) r F e he (R1 _)
  rwa [Nat.sub_zero] at this
 have t:=zbl (v:=.int x) es 0 [] e r.h r.a A PosI.nil;rw [y6] at t;have P:=m.pos;have E:RdG r:=by
  unfold isRE at hre;rw [D5] at hre;rcases m.g r F with g|g
  ·exact g
  ·exact absurd ((of_decide_eq_true hre.1).symm.trans g.1) z11
 have only :∀(j:Nat) (q:Rc),(dAll 0 [] es)[j]? = some q->q.e=some e->j=i:=λ j q R L=>P.ee j i q r e R hr L he;have U :∀a B,H0 a=some (.tup B)->H' a=some (.tup B):=λ a B z=>k a _ (λ q=>by obtain ⟨_,_,_,_,N,G,_⟩:=z08 m.a hz;cases N;rw [q,G] at z;cases z) (λ q=>by rw [q,m.e] at z;cases z) z;have C:0<=r.h/\r.h<=5:=by obtain ⟨y,X,z⟩:=z25 m.ev A;obtain ⟨_,_,_,O,K,_⟩:=z;exact ⟨O,K⟩
 refine ⟨λ b o z=>k b o (λ q=>by rw [q,T] at z;cases z) (λ q=>by rw [q,m.fe] at z;cases z) (m.s b o z),m.fl,m.fe,m.fz,m.nd,m.n1,k _ _ (P3 Q) m.n1 m.l,?_,?_,?_,hl,?_,zep es [] e r.h r.a A m.wf,?_,by rw [Z7];exact m.n60,by rw [zck es e r.h r.a A];exact m.bg⟩
 ·rw [t];refine z1k (by rw [G0];exact z03 m.a) λ j M v d u=>?_;rw [V0] at d;obtain ⟨f,c,rfl⟩:=Option.map_eq_some_iff.mp d;obtain ⟨Y,D,w,H,rfl,J,S⟩:=z08 m.a u;rw [c] at D;cases D;by_cases z:w=p
  ·subst z;have:=nd_at m.nd u hz;subst this;rw [hr] at c;cases c;refine ⟨w,late,rfl,?_,bl⟩;unfold fixA;rw [if_pos he];exact hp
  ·have ne:f.e≠some e:=λ y=>by have:=only j f c y;subst this;rw [u] at hz;cases hz;exact z rfl
   refine ⟨w,H,rfl,?_,S⟩;unfold fixA;rw [if_neg ne];exact k _ _ z (m.fz w (d0 u)).2.2 J
 ·rw [t];intro M I;obtain ⟨f,c,rfl⟩:=List.mem_map.mp I;obtain ⟨j,d⟩:=List.mem_iff_getElem?.mp c;by_cases z:f.e=some e
  ·have:=only j f d z;subst this;rw [hr] at d;cases d;unfold fixA;rw [if_pos z];exact .inl ⟨E.1,E.2.1,λ _ _=>rfl⟩
  ·unfold fixA;rw [if_neg z];exact m.g f c
 ·rw [t,G0];exact m.n
 ·exact zbh e (z02 (λ _ _ z=>EvT.tp U z) m.ev) ⟨tp,rfl,ht,C.1,C.2,zeu bx⟩
 ·rw [t];exact m.wx.fix
def z19 (K:c0):Sp:=λ vs H Q _=>∃(rw lr le:Addr) (es:List Ev) (zs ys:List V) (HL H0:Hp),vs=[.ref rw,.ref lr,.ref le]/\Same H0 H/\H0 rw=none/\DkAt H rw/\Md HL H0 lr le es zs ys/\∀es' ys' H',Md HL H' lr le es' zs ys'->Q .non H'
theorem z2y (T:TX (kx w) mg) (c0:Ca P w mg base "_law_take" ["row","many"] 1 z0y):Fo P w mg base CX0 2 345 y00 ["row","rows","events"] (z19 (kx w)):=by
 refine (z0x w.params).ok sc__law_exchanged (λ B H Q E h=>?_) (λ d8 A d5 s H B Q E Y h=>?_)
 ·obtain ⟨W,lr,le,es,X,ys,HL,H0,rfl,_⟩:=h;rfl
 ·obtain ⟨W,lr,le,es,X,ys,HL,H0,rfl,s0,n0,dk,f,q⟩:=h;refine ⟨_,(z05 (zas (i:=3) sc__law_exchanged.nd rfl (L1 rfl) (xs:=["one"]) (g:=gName 0) (fr:=[]) rfl (z0n (pv 1)) (λ _ z=>absurd z B0) (z5r rfl) (λ _ z=>absurd z B0) (by decide +kernel) rfl (by decide +kernel) (λ _ _ _ _ _=>(pg_cn (N:=["one"]) 0)) (λ _ _ _ _ _=>(pf_one (PW.pt (pw_and (z09 opEq (pe_ix (z0m (K:=KX w.params) rfl) (pv 0) pe_int (λ _ _=>rfl)) pe_str (nomark _)) (z2r (z09 z4c (pe_ix (z0m (K:=KX w.params) rfl) (pv 0) pe_int (λ _ _=>rfl)) pe_non (nomark _))))))) (λ _ _ _ _ _=>(pv 0)))
   (z05 (zas (i:=4) sc__law_exchanged.nd rfl (L1 rfl) (xs:=["one"]) (g:=gName 0) (fr:=[]) rfl (z0n (pv 1)) (λ _ z=>absurd z B0) (z5r rfl) (λ _ z=>absurd z B0) (by decide +kernel) rfl (by decide +kernel) (λ _ _ _ _ _=>(pg_cn (N:=["one"]) 0)) (λ _ _ _ _ _=>(pf_one (z09 opEq (pe_ix (z0m (K:=KX w.params) rfl) (pv 0) pe_int (λ _ _=>rfl)) pe_str (nomark _)))) (λ _ _ _ _ _=>(pv 0)))
   (z06 (ps_if (PW.pt (pw_and (z09 (z8i Y) (pv 3) (pe_lst pa_nil) (nomark _)) (pw_and (z09 (z8i Y) (pv 4) (pe_lst pa_nil) (nomark _)) (z2r (z09 opEq (pe_cal c0 (Y.mono (by decide)) rfl (z00 (pv 0) (z00 pe_int pa_nil))) pe_int (nomark _))))))
   (z05 (ps_set (i:=5) sc__law_exchanged.nd rfl (L1 rfl) (pe_ix ix_seq (pv 3) (pe_cal c0 (Y.mono (by decide)) rfl (z00 (pv 0) (z00 (z0a z0o rfl (T.no (n_len _)) R3 (z00 (pv 3) pa_nil)) pa_nil))) (λ _ _=>rfl)))
   (z05 (ps_asg (pe_ix ix_seq (pe_ix ix_seq (pv 4) (pe_cal c0 (Y.mono (by decide)) rfl (z00 (pv 0) (z00 (z0a z0o rfl (T.no (n_len _)) R3 (z00 (pv 4) pa_nil)) pa_nil))) (λ _ _=>rfl)) pe_int (λ _ _=>rfl)) (pg_sub (pv 5) pe_int z1y))
   (z06 (ps_asg (pe_tup (z00 pe_str (z00 (pe_ix ix_seq (pv 5) pe_int (λ _ _=>rfl)) (z00 (pe_ix ix_seq (pv 5) pe_int (λ _ _=>rfl)) pa_nil)))) (pg_sub (pv 2) (pe_ix ix_seq (pv 5) pe_int (λ _ _=>rfl)) z1y)))))
   z0d)))),?_⟩
  have lz:X.length=(dAll 0 [] es).length:=z03 f.a;have c1:=f.n;have ra:=f.rws.same s0;refine z0b ?_;refine z0s (K:=KX w.params) (a:=lr) (xs:=X) (H1:=H) (λ i=>isRE ((dAll 0 [] es)[i]?.getD r00)) (λ i y _=>X[i]? = some y) (λ _ _ _ _ _ z=>z) (λ R h=>⟨_,rfl,h⟩) (SqL.of ra.l) (L0 (m:=24) (by omega) (by decide)) (λ i hi v H3 I J KT KF Z V=>?_) λ M H1 D s1 a9 a8=>?_
  ·obtain ⟨r',C,F,c4,rfl,u,_⟩:=z08 ra.a J;have u:=SqL.of (K:=KX w.params) (I _ _ u);rw [getD_some C] at Z V;refine ⟨[some (.ref F)],rfl,rfl,t_and ?_⟩;rcases ra.g r' (d0 C) with g|g
   ·refine ⟨_,rfl,.inl ⟨F,_,1,.str "read",rfl,rfl,u,by rw [g.1];exact z04 (j:=1) rfl,rfl,_,rfl,iteP (by decide +kernel) ?_⟩⟩;cases G:r'.e with
    | none=>exact ⟨_,rfl,.inl ⟨F,_,5,.non,rfl,rfl,u,by rw [G];exact z04 (j:=5) rfl,rfl,_,rfl,iteN (by decide) (V (by unfold isRE;rw [G];exact z8 _) _ (Same.refl _))⟩⟩
    | some e=>exact ⟨_,rfl,.inl ⟨F,_,5,.int e,rfl,rfl,u,by rw [G];exact z04 (j:=5) rfl,rfl,_,rfl,iteP (by simp) ⟨_,rfl,Z (by unfold isRE;rw [G,decide_eq_true g.1];rfl) _ _ (Same.refl _) J⟩⟩⟩
   ·refine ⟨_,rfl,.inl ⟨F,_,1,.str "write",rfl,rfl,u,by rw [g.1];exact z04 (j:=1) rfl,rfl,_,rfl,iteK (iteF (V ?_ _ (Same.refl _)))⟩⟩;unfold isRE;rw [decide_eq_false (λ e=>z11 (e.symm.trans g.1))];rfl
  have b5:M≠W:=λ z=>by obtain ⟨a,b,c,e,_⟩:=dk;rw [z,s1 _ _ e] at a9;cases a9
  have u1:=s1.trans (Same.upd (o:=.lst D) a9);have e1:upd H1 M (.lst D) M=some (.lst D):=z01;generalize upd H1 M (.lst D)=H2 at u1 e1⊢;have c2:=ra.same u1;refine g_name (z0b ?_);refine z0s (K:=KX w.params) (a:=lr) (xs:=X) (H1:=H2) (λ i=>isW ((dAll 0 [] es)[i]?.getD r00)) (λ i y _=>X[i]? = some y) (λ _ _ _ _ _ z=>z) (λ R h=>⟨_,rfl,h⟩) (SqL.of c2.l) (L0 (m:=24) (by omega) (by decide)) (λ i hi v H3 I J KT KF Z V=>?_) λ L H3 B I a3 a7=>?_
  ·obtain ⟨r',C,F,c4,rfl,u,_⟩:=z08 c2.a J;have u:=SqL.of (K:=KX w.params) (I _ _ u);rw [getD_some C] at Z V;refine ⟨[some (.ref F)],rfl,rfl,?_⟩;rcases ra.g r' (d0 C) with g|g
   ·exact ⟨_,rfl,.inl ⟨F,_,1,.str "read",rfl,rfl,u,by rw [g.1];exact z04 (j:=1) rfl,rfl,_,rfl,iteK (V g.w _ (Same.refl _))⟩⟩
   ·exact ⟨_,rfl,.inl ⟨F,_,1,.str "write",rfl,rfl,u,by rw [g.1];exact z04 (j:=1) rfl,rfl,_,rfl,iteP (by decide +kernel) ⟨_,rfl,Z g.w _ _ (Same.refl _) J⟩⟩⟩
  have b4:L≠W:=λ z=>by obtain ⟨a,b,c,e,_⟩:=dk;rw [z,I _ _ (u1 _ _ e)] at a3;cases a3
  have u3:=u1.trans (I.trans (Same.upd (o:=.lst B) a3));have b2:=(I.trans (Same.upd (o:=.lst B) a3)) _ _ e1;have e2:upd H3 L (.lst B) L=some (.lst B):=z01;generalize upd H3 L (.lst B)=H4 at u3 e2 b2⊢;rw [lz] at a8 a7;have d4:=dk.same u3;have s4:=s0.trans u3;have done :∀H',Same H0 H'->Q .non H':=λ H' s'=>q es ys H' (f.same s');refine g_name ?_;have e3:D.length<=24:=by rw [z03 a8];exact L0 (O1 _ _) (by rw [Y4];exact c1)
  have d6:B.length<=24:=by rw [z03 a7];exact L0 (O1 _ _) (by rw [Y4];exact c1)
  refine z12 (t_and ⟨_,rfl,w_0,λ l5 c7=>?_⟩);obtain ⟨H5,v_,v5,u⟩:=newA (.lst []) c7;rw [<-v_];refine ⟨M,l5,D,rfl,rfl,SqL.of (v5 _ _ b2),SqL.of u,_,rfl,ite2 (λ z1=>?_) λ _=>iteF (done _ (s4.trans v5))⟩;refine t_and ⟨_,rfl,w_0,λ l6 c8=>?_⟩;have O:=v5.trans (Same.upd (o:=.lst []) c8);have e6:upd H5 l6 (.lst []) l6=some (.lst []):=z01;generalize upd H5 l6 (.lst [])=H6 at O e6⊢;refine ⟨L,l6,B,rfl,rfl,SqL.of (O _ _ e2),SqL.of e6,_,rfl,ite2 (λ z2=>?_) λ _=>iteF (done _ (s4.trans O))⟩;have s6:=s4.trans O;refine ⟨_,rfl,W,3,rfl,d4.same O,by decide,by decide,λ t3 H7 a4 _ _=>?_⟩;have s7:=Same.kp s6 n0 a4.k;have b8:=a4.k _ _ b5 (O _ _ b2);have c9:=a4.k _ _ b4 (O _ _ e2);refine ⟨rfl,_,rfl,ite2 (λ _=>?_) λ _=>done _ s7⟩;have p1:0 < D.length:=List.length_pos_iff.mpr (of_decide_eq_true z1);have p2:0 < B.length:=List.length_pos_iff.mpr (of_decide_eq_true z2);refine z0b ⟨_,rfl,_,rfl,_,rfl,.inl ⟨M,D,rfl,.inl (SqL.of b8),W,_,rfl,a4.d,by omega,by omega,λ t H8 a5 t0 t1=>?_⟩⟩;obtain ⟨n,rfl⟩ :∃n:Nat,t=(n:Int):=⟨t.toNat,(R8 t0).symm⟩
  obtain ⟨i,v,J,b1,c3⟩:=zf3 a8 (t:=n) (by omega);have s8:=Same.kp s7 n0 a5.k;refine .inl ⟨M,D,n,v,rfl,rfl,SqL.of (a5.k _ _ b5 b8),z04 J,g_name ?_⟩;have b6:=a5.k _ _ b4 c9;obtain ⟨r,C,p,a2,rfl,ep,bl⟩:=z08 f.a b1;have U:isRE r=true:=by rw [getD_some C] at c3;exact c3
  obtain ⟨e,G⟩ :∃e,r.e=some e:=by have U:=U;unfold isRE at U;rw [D5] at U;exact Option.isSome_iff_exists.mp U.2
  refine z0b ⟨_,rfl,_,rfl,_,rfl,.inl ⟨L,B,rfl,.inl (SqL.of b6),W,_,rfl,a5.d,by omega,by omega,λ t' H9 b7 c6 d7=>?_⟩⟩;obtain ⟨n',rfl⟩ :∃n:Nat,t'=(n:Int):=⟨t'.toNat,(R8 c6).symm⟩
  obtain ⟨i2,v2,d2,d3,b9⟩:=zf3 a7 (t:=n') (by omega);have s9:=Same.kp s8 n0 b7.k;obtain ⟨S,b3,q2,d9,rfl,c5,_⟩:=z08 f.a d3;have w2:isW S=true:=by rw [getD_some b3] at b9;exact b9
  have g2:S.x=.int (intV S.x):=by
   rcases f.g S (d0 b3) with g|g
   ·rw [g.w] at w2;cases w2
   ·exact g.2.2.1
  have bx:=(f.wx.bd f.n S (d0 b3) w2).a;generalize intV S.x=x2 at g2 bx;refine .inl ⟨L,B,n',.ref q2,rfl,rfl,SqL.of (b7.k _ _ b4 b6),z04 d2,.inl ⟨q2,_,2,.int x2,rfl,rfl,SqL.of (s9 _ _ c5),by rw [g2];exact z04 (j:=2) rfl,?_⟩⟩;refine ⟨_,rfl,p,_,3,3,rfl,rfl,s9 _ _ ep,rfl,?_⟩;obtain ⟨f1,f2,f3⟩:=f.fz p (d0 b1);have a0:upd H9 p (.lst ([.int r.h,r.v,r.x,r.a,.int r.b,endV r.e,.int a2].set 3 (.int x2))) p=some (.lst [.int r.h,r.v,r.x,.int x2,.int r.b,endV r.e,.int a2]):=z01;have a1 :∀b o,b≠p->H9 b=some o->upd H9 p (.lst ([.int r.h,r.v,r.x,r.a,.int r.b,endV r.e,.int a2].set 3 (.int x2))) b=some o:=λ b o n z=>by rw [upd_ne n];exact z
  generalize upd H9 p (.lst ([.int r.h,r.v,r.x,r.a,.int r.b,endV r.e,.int a2].set 3 (.int x2)))=H10 at a0 a1⊢;refine ⟨_,rfl,.inl ⟨p,_,0,.int r.h,rfl,rfl,SqL.of a0,z04 (j:=0) rfl,_,rfl,.inl ⟨p,_,3,.int x2,rfl,rfl,SqL.of a0,z04 (j:=3) rfl,w_3,λ tp b0=>?_⟩⟩⟩;obtain ⟨e0,v_,a6,d1⟩:=newA (.tup [.str "end",.int r.h,.int x2]) b0;rw [<-v_];have eL:=a6 _ _ (a1 _ _ (P3 f3) (s9 _ _ f.e));have ey:e < ys.length:=by rw [z03 f.ev];exact f.pos.e r (d0 C) e G
  refine ⟨_,rfl,_,rfl,.inl ⟨p,_,5,.int e,rfl,rfl,SqL.of (a6 _ _ a0),by rw [G];exact z04 (j:=5) rfl,le,ys,e,e,rfl,rfl,eL,ixN_at ey,?_⟩⟩;have nt:tp≠le:=λ z=>by rw [z,a1 _ _ (P3 f3) (s9 _ _ f.e)] at b0;cases b0
  refine q _ _ _ (f.fix (tp:=tp) C b1 U G bl bx (λ b o n1 n2 z=>?_) ?_ ?_ z01)
  ·rw [upd_ne n2];exact a6 _ _ (a1 _ _ n1 (s9 _ _ z))
  ·rw [upd_ne f3];exact a6 _ _ a0
  ·rw [upd_ne nt];exact d1
end
section
structure HdI (es:List Ev) (os:List (Int×Nat)):Prop where
 o:os.map (·.1)=es.foldl oStep []
 j :∀h j,(h,j)∈os->lastI h ((dAll 0 [] es).map Rc.h)=some j
noncomputable def heldK (os:List (Int×Nat)):List (Key×V):=os.map λ o=>(Sum.inl o.1,V.int (o.2:Nat))
theorem z8p (os:List (Int×Nat)):(heldK os).map (·.1)=(os.map (·.1)).map Sum.inl:=by unfold heldK;rw [Q2,Q2];rfl
theorem held_in {os:List (Int×Nat)} {h:Int}:(valV (heldK os) (.inl h)).isSome=true↔h∈os.map (·.1):=by rw [z4k,z8p];exact ⟨λ z=>by obtain ⟨k,a,e⟩:=List.mem_map.mp z;exact N4 e ▸ a,λ z=>List.mem_map.mpr ⟨h,z,rfl⟩⟩
theorem zcf :∀{os:List (Int×Nat)} {h:Int},h∈os.map (·.1)->∃b,(h,b)∈os/\valV (heldK os) (.inl h)=some (.int (b:Nat))
 | [],_,z=>absurd z B0
 | (k,c) :: os,h,z=>by
  by_cases e:k=h
  ·subst e;exact ⟨c,.head _,z0r rfl⟩
  ·rcases List.mem_cons.mp z with y|y
   ·exact absurd y.symm e
   ·obtain ⟨b,f,d⟩:=zcf (os:=os) y;exact ⟨b,.tail _ f,by show valV ((Sum.inl k,_) :: heldK os) _=_;rw [z0t (λ a=>e (N4 a))];exact d⟩
theorem z54 :∀{os:List (Int×Nat)} {h:Int},dropK (heldK os) (.inl h)=heldK (os.filter λ k=>decide (k.1≠h))
 | [],_=>rfl
 | (k,c) :: os,h=>by
  show dropK ((Sum.inl k,_) :: heldK os) _=_;by_cases e:k=h
  ·rw [ze4 (by rw [e]),N2 (by simp [e]),z54]
  ·rw [zec (λ a=>e (N4 a)),G2 (by simp [e]),z54];rfl
theorem zg6 {os:List (Int×Nat)} {h:Int} {b:Nat} (n:h∉os.map (·.1)):putK (heldK os) (.inl h) (.int (b:Nat))=heldK (os++[(h,b)]):=by rw [z3f (by rw [z8p];exact λ z=>n (by obtain ⟨k,a,e⟩:=List.mem_map.mp z;exact N4 e ▸ a))];unfold heldK;rw [C2];rfl
theorem z2d {h:Int} :∀os:List (Int×Nat),(os.filter λ k=>decide (k.1≠h)).map (·.1)=(os.map (·.1)).filter λ k=>decide (k≠h)
 | []=>rfl
 | (k,c) :: os=>by
  by_cases e:k=h
  ·rw [N2 (by simp [e]),X0,N2 (by simp [e]),z2d os]
  ·rw [G2 (by simp [e]),X0,X0,G2 (by simp [e]),z2d os]
theorem z30 (es:List Ev) (e:Ev):dAll 0 [] (es++[e])=dstep es.length (dAll 0 [] es) e:=by
 have:=z90 (es:=es) (i:=0) (rs:=[]) (e:=e)
 rwa [y6] at this
theorem HdI.fin {es:List Ev} {os:List (Int×Nat)} {h:Int} {a:V} (x:HdI es os):HdI (es++[.fin h a]) (os.filter λ k=>decide (k.1≠h)):=by
 refine ⟨?_,λ k j c=>?_⟩
 ·rw [b9,z2d,x.o];rfl
 ·rw [z30];have b:(dstep es.length (dAll 0 [] es) (.fin h a)).map Rc.h=(dAll 0 [] es).map Rc.h:=by
   unfold dstep;dsimp only;cases lastI h ((dAll 0 [] es).map Rc.h) with
   | none=>rfl
   | some m=>exact zao λ _=>rfl
  rw [b];exact x.j k j (List.mem_filter.mp c).1
theorem HdI.beg {es:List Ev} {os:List (Int×Nat)} {h:Int} {nm v y:V} (x:HdI es os) (n:h∉os.map (·.1)):HdI (es++[.beg h nm v y]) (os++[(h,(dAll 0 [] es).length)]):=by
 refine ⟨?_,λ k j a=>?_⟩
 ·rw [b9,C2,x.o];rfl
 ·rw [z30];show lastI k ((dAll 0 [] es++[_]).map Rc.h)=_;rw [C2];show lastI k (_++[h])=_;rw [z29,G0];rcases List.mem_append.mp a with z|z
  ·rw [if_neg (λ q=>n (by rw [q];exact List.mem_map.mpr ⟨_,z,rfl⟩))];exact x.j k j z
  ·cases List.mem_singleton.mp z;rw [if_pos rfl]
theorem Md.kp {HL H H':Hp} {lr le:Addr} {es:List Ev} {zs ys:List V} (m:Md HL H lr le es zs ys) {d:Addr} {kvs:List (Key×V)} (hd:H d=some (.dK kvs)) (fd:HL d=none) (k :∀b o,b≠d->H b=some o->H' b=some o):Md HL H' lr le es zs ys:=by
 have f :∀{b:Addr} {c:List V},H b=some (.lst c)->b≠d:=λ e q=>by rw [q,hd] at e;cases e
 have t :∀{b:Addr} {c:List V},H b=some (.tup c)->b≠d:=λ e q=>by rw [q,hd] at e;cases e
 exact ⟨λ b o e=>k b o (λ q=>by rw [q,fd] at e;cases e) (m.s b o e),m.fl,m.fe,m.fz,m.nd,m.n1,k _ _ (f m.l) m.l,z02 (λ _ _ z=>by obtain ⟨p,i,r,h,j⟩:=z;exact ⟨p,i,r,k _ _ (f h) h,j⟩) m.a,m.g,m.n,k _ _ (f m.e) m.e,z02 (λ _ _ z=>EvT.tp (λ a c e=>k _ _ (t e) e) z) m.ev,m.wf,m.wx,m.n60,m.bg⟩
theorem Md.fin {HL H0 H':Hp} {lr le p tp:Addr} {es:List Ev} {zs ys:List V} {j:Nat} {r:Rc} {late:Int} {a:V} (m:Md HL H0 lr le es zs ys) (hj:lastI r.h ((dAll 0 [] es).map Rc.h)=some j) (hr:(dAll 0 [] es)[j]? = some r) (hz:zs[j]? = some (.ref p)) (ho:r.h∈es.foldl oStep []) (hh:0<=r.h/\r.h<=5) (l60:es.length < 60) (bl:bdI late) (ha1:isW r=true->a=.str "ok") (ha2:isW r=false->∃i,a=.int i/\bdA i)
  (k :∀b o,b≠p->b≠le->H0 b=some o->H' b=some o) (hp:H' p=some (.lst [.int r.h,r.v,r.x,a,.int r.b,.int (es.length:Nat),.int late])) (ht:H' tp=some (.tup [.str "end",.int r.h,a])) (hl:H' le=some (.lst (ys++[.ref tp]))) :
  Md HL H' lr le (es++[.fin r.h a]) zs (ys++[.ref tp]):=by
 obtain ⟨L,H,O⟩:=m.fz p (d0 hz);have f:dAll 0 [] (es++[.fin r.h a])=(dAll 0 [] es).modify j λ q=>{ q with a:=a,e:=some es.length }:=by rw [z30];unfold dstep;dsimp only;rw [hj]
 have at_ :∀{i:Nat} {q:Rc},(dAll 0 [] (es++[.fin r.h a]))[i]? = some q->(i=j/\q={ r with a:=a,e:=some es.length })\/(i≠j/\(dAll 0 [] es)[i]? = some q):=λ {i q} z=>by
  rw [f,B2] at z;cases y:(dAll 0 [] es)[i]? with
  | none=>rw [y] at z;cases z
  | some r0=>
   rw [y] at z;have z:some (if j=i then { r0 with a:=a,e:=some es.length } else r0)=some q:=z;by_cases u:j=i
   ·subst u;rw [hr] at y;cases y;rw [if_pos rfl] at z;cases z;exact .inl ⟨rfl,rfl⟩
   ·rw [if_neg u] at z;cases z;exact .inr ⟨P3 u,rfl⟩
 have M :∀a t,H0 a=some (.tup t)->H' a=some (.tup t):=λ a t z=>k a _ (λ q=>by obtain ⟨_,_,_,_,G,D,_⟩:=z08 m.a hz;cases G;rw [q,D] at z;cases z) (λ q=>by rw [q,m.e] at z;cases z) z;have K:AnsOk a:=by
  cases w:isW r with
  | true=>exact .inl (ha1 w)
  | false=>obtain ⟨i,rfl,b⟩:=ha2 w;exact zeu b
 have N:RdG { r with a:=a,e:=some es.length }\/WrG 0 { r with a:=a,e:=some es.length }:=by
  rcases m.g r (d0 hr) with g|g
  ·refine .inl ⟨g.1,g.2.1,λ _ _=>?_⟩;obtain ⟨i,e,_⟩:=ha2 g.w;show a=.int (intV a);rw [e];rfl
  ·exact .inr ⟨g.1,trivial,g.2.2.1,λ _ _=>ha1 g.w⟩
 refine ⟨λ b o z=>k b o (λ q=>by rw [q,L] at z;cases z) (λ q=>by rw [q,m.fe] at z;cases z) (m.s b o z),m.fl,m.fe,m.fz,m.nd,m.n1,k _ _ (P3 H) m.n1 m.l,?_,?_,?_,hl,?_,m.wf.snoc ho,?_,by rw [J0];show es.length + 1<=60;omega,?_⟩
 ·refine z1k (by rw [f,X5];exact z03 m.a) λ i q v d c=>?_;rcases at_ d with ⟨rfl,rfl⟩|⟨ne,h0⟩
  ·rw [hz] at c;cases c;exact ⟨p,late,rfl,hp,bl⟩
  ·obtain ⟨P,A,B,E,rfl,F,J⟩:=z08 m.a c;rw [h0] at A;cases A;refine ⟨B,E,rfl,k _ _ (λ z=>?_) (m.fz B (d0 c)).2.2 F,J⟩;subst z;exact ne (nd_at m.nd c hz)
 ·intro q I;obtain ⟨i,d⟩:=List.mem_iff_getElem?.mp I;rcases at_ d with ⟨_,rfl⟩|⟨_,h0⟩
  ·exact N
  ·exact m.g q (d0 h0)
 ·rw [f,X5];exact m.n
 ·exact z0q (z02 (λ _ _ z=>EvT.tp M z) m.ev) ⟨tp,rfl,ht,hh.1,hh.2,K⟩
 ·intro i q d C;rcases at_ d with ⟨rfl,rfl⟩|⟨_,h0⟩
  ·exact m.wx i r hr C
  ·exact m.wx i q h0 C
 ·rw [B3];show (_++[]).length<=24;rw [D3];exact m.bg
theorem zcw :∀(es:List Ev) (i:Nat) (rs:List Rc),(dAll i rs es).length=rs.length + (es.filter isBeg).length
 | [],_,_=>rfl
 | .beg h n v x :: es,i,rs=>by show (dAll (i + 1) (rs++[_]) es).length=rs.length + ((es.filter isBeg).length + 1);rw [zcw es,J0];show rs.length + 1 + _=_;omega
 | .fin h a :: es,i,rs=>by
  show (dAll (i + 1) (dstep i rs (.fin h a)) es).length=rs.length + (es.filter isBeg).length;rw [zcw es];congr 1;unfold dstep;dsimp only;cases lastI h (rs.map Rc.h) with
  | none=>rfl
  | some k=>exact X5 ..
theorem nameR:NameOk "r":=⟨by decide +kernel,by decide +kernel,by decide +kernel⟩
def NewD (i:Nat) (v x:V):Prop:=(v=.str "read"/\x=.non)\/(v=.str "write"/\∃t y:Int,0<=t/\t < 1000/\x=.int y/\(y=(24 * t + i + 1) * 41666\/y=-((24 * t + i + 1) * 41666)))
theorem Md.beg {HL H0 H':Hp} {lr le p tp:Addr} {es:List Ev} {zs ys:List V} {h:Int} {v x:V} {late:Int} (m:Md HL H0 lr le es zs ys) (hn:(dAll 0 [] es).length < 24) (nd:NewD (dAll 0 [] es).length v x) (ho:h∉es.foldl oStep []) (hh:0<=h/\h<=5) (l60:es.length < 60) (bl:bdI late)
  (fp:H0 p=none) (k :∀b o,b≠lr->b≠le->H0 b=some o->H' b=some o) (hr:H' lr=some (.lst (zs++[.ref p]))) (hp:H' p=some (.lst [.int h,v,x,.non,.int (es.length:Nat),.non,.int late])) (ht:H' tp=some (.tup [.str "begin",.int h,.str "r",v,x])) (hl:H' le=some (.lst (ys++[.ref tp]))) :
  Md HL H' lr le (es++[.beg h (.str "r") v x]) (zs++[.ref p]) (ys++[.ref tp]):=by
 have j:dAll 0 [] (es++[.beg h (.str "r") v x])=dAll 0 [] es++[⟨h,.str "r",v,x,.non,es.length,none⟩]:=z30 es _;have lz:=z03 m.a;have E:=zcw es 0 [];rw [U4] at E;have I:HL p=none:=m.s.free fp;have J:p≠lr:=λ q=>by rw [q,m.l] at fp;cases fp
 have D:p≠le:=λ q=>by rw [q,m.e] at fp;cases fp
 have H:V.ref p∉zs:=λ q=>by obtain ⟨i,c⟩:=List.mem_iff_getElem?.mp q;obtain ⟨_,_,_,_,M,A,_⟩:=z08 m.a c;cases M;rw [fp] at A;cases A
 have S :∀a u,H0 a=some (.tup u)->H' a=some (.tup u):=λ a u z=>k a _ (λ q=>by rw [q,m.l] at z;cases z) (λ q=>by rw [q,m.e] at z;cases z) z;refine ⟨λ b o z=>k b o (λ q=>by rw [q,m.fl] at z;cases z) (λ q=>by rw [q,m.fe] at z;cases z) (m.s b o z),m.fl,m.fe,λ b w=>?_,?_,m.n1,hr,?_,?_,?_,hl,?_,m.wf.snoc ho,?_,by rw [J0];show es.length + 1<=60;omega,?_⟩
 ·rcases List.mem_append.mp w with z|z
  ·exact m.fz b z
  ·cases List.mem_singleton.mp z;exact ⟨I,J,D⟩
 ·exact List.nodup_append.mpr ⟨m.nd,List.nodup_cons.mpr ⟨B0,.nil⟩,λ a K b w e=>by rw [List.mem_singleton.mp w] at e;exact H (e ▸ K)⟩
 ·rw [j];refine z0q (z1k lz λ i q v c B=>?_) ⟨p,late,rfl,hp,bl⟩;obtain ⟨T,d,C,F,rfl,L,R⟩:=z08 m.a B;rw [c] at d;cases d;obtain ⟨_,O,G⟩:=m.fz C (d0 B);exact ⟨C,F,rfl,k _ _ O G L,R⟩
 ·rw [j];intro q Q;rcases List.mem_append.mp Q with z|z
  ·exact m.g q z
  ·rw [List.mem_singleton.mp z];rcases nd with ⟨d,f⟩|⟨d,t,y,_,_,f,_⟩
   ·exact .inl ⟨d,f,λ _ z=>by cases z⟩
   ·exact .inr ⟨d,trivial,by show x=.int (intV x);rw [f];rfl,λ _ z=>by cases z⟩
 ·rw [j,J0];show _ + 1<=24;omega
 ·refine z0q (z02 (λ _ _ z=>EvT.tp S z) m.ev) ?_;rcases nd with ⟨rfl,rfl⟩|⟨rfl,t,y,t0,t1,rfl,hy⟩
  ·exact ⟨tp,"r","register","read",rfl,ht,hh.1,hh.2,rfl,rfl,.head _,nameR,.none (by decide +kernel)⟩
  ·refine ⟨tp,"r","register","write",rfl,ht,hh.1,hh.2,rfl,rfl,.head _,nameR,.one (by decide +kernel) ?_⟩;show (decide (-1000000000<=y) && decide (y<=1000000000))=true;rw [decide_eq_true (by omega),decide_eq_true (by omega)];rfl
 ·rw [j];intro i q c n;rw [y8] at c;split at c
  ·exact m.wx i q c n
  ·rename_i z;obtain ⟨y,_⟩:=List.getElem?_eq_some_iff.mp c;rw [T3] at y;have N:i - (dAll 0 [] es).length=0:=by omega
   rw [N] at c;cases c;have P:i=(dAll 0 [] es).length:=by omega
   rcases nd with ⟨d,f⟩|⟨d,t,y,t0,t1,f,hy⟩
   ·unfold isW at n;rw [show (⟨h,.str "r",v,x,.non,es.length,none⟩:Rc).v=v from rfl,d,decide_eq_false z11] at n;cases n
   ·refine ⟨t,t0,t1,?_⟩;show intV x=_\/intV x=_;rw [f,P];exact hy
 ·rw [B3];show (_++[_]).length<=24;rw [J0];show _ + 1<=24;omega
end
section
variable {P:Program} {w:S0} {mg:Str->Option Value} {base:Heap}
theorem Same.upd2 {B H:Hp} {l:Addr} {o:HO} (s:Same B H):Same (upd B l o) (upd H l o):=λ p x e=>by
 by_cases z:p=l
 ·subst z;rw [z01] at e⊢;exact e
 ·rw [upd_ne z] at e⊢;exact s _ _ e
theorem row_ok {es:List Ev} {h:Int} {j:Nat} (hj:lastI h ((dAll 0 [] es).map Rc.h)=some j) :∃r,(dAll 0 [] es)[j]? = some r/\r.h=h:=by have a:=(z5i _ hj).1;rw [V0] at a;obtain ⟨r,c,b⟩:=Option.map_eq_some_iff.mp a;exact ⟨r,c,b⟩
theorem nx_to3 {t:TS} {D:Ends} {rt:VK} {bk ct:L2.St->Hp->Prop} {σ:L2.St} {H:Hp} (h:t D σ H):({ nx:=t D,rt:=rt,bk:=bk,ct:=ct }:Ends).nx σ H:=h
theorem ev_at {K:c0} {H:Hp} {ts:List (Str×Str)} :∀{e:Ev} {y:V},EvT H ts e y->EvAt K H e y
 | .beg _ _ _ _,_,⟨p,_,_,_,h1,h2,_⟩=>⟨p,h1,SqT.of h2⟩
 | .fin _ _,_,⟨p,h1,h2,_⟩=>⟨p,h1,SqT.of h2⟩
theorem Md.tw {HL H:Hp} {lr le:Addr} {es:List Ev} {zs ys:List V} (m:Md HL H lr le es zs ys):TwG es:=⟨(DInv.nil.all m.wf).1,λ _ r a=>m.g r a,m.wx.nd m.n,m.wx.n0⟩
def z39 (K:c0):Sp:=λ vs H Q _=>∃(c:Addr) (sp:Bool) (ns:List Int),vs=[.ref c,.int 9,.bl sp]/\SqL K H c (ns.map V.int)/\ns.length<=60/\∀tt tl lr zs es ys H',Same H H'->H' tt=some (.tup [.ref tl,.ref lr])->TalR K H' tl "r" 0 es ys->RwsA H' lr (dAll 0 [] es) zs->zs.length<=9->Q (.ref tt) H'
theorem z79 (T:TX (kx w) mg) (c0:Ca P w mg base "_law_row" ["cell"] 1 z4h) (c1:Ca P w mg base "_law_take" ["row","many"] 1 z0y) (c2:Ca P w mg base "_law_answer" ["row","deed","now","rows","spoilt"] 2 (z26 (kx w))) (c3:Ca P w mg base "_law_exchanged" ["row","rows","events"] 2 (z19 (kx w))) (c4:Ca P w mg base "make_tale" ["things","events"] 7 (z34 (kx w))):Fo P w mg base CX0 8 352 y0k ["cells","most","spoilt"] (z39 (kx w)):=by
 refine (z2l w.params).ok sc__law_made (λ vs H Q E h=>?_) (λ j7 A j3 s H vs Q E C h=>?_)
 ·obtain ⟨c,Z,ns,rfl,_⟩:=h;rfl
 ·obtain ⟨c,Z,ns,rfl,sq,i9,q⟩:=h;refine q_of (z0e (QS.mk (ps_set (i:=3) sc__law_made.nd rfl (L1 rfl) (pe_lst pa_nil)))
   (z0e (QS.mk (ps_set (i:=4) sc__law_made.nd rfl (L1 rfl) (pe_lst pa_nil)))
   (z0e (QS.mk (ps_set (i:=5) sc__law_made.nd rfl (L1 rfl) z7h))
   (z0e (QS.mk (ps_set (i:=6) sc__law_made.nd rfl (L1 rfl) pe_int))
   (z0e (qs_for i3 rfl (z0n (pv 0)) (z0p (i:=7) sc__law_made.nd rfl (L1 rfl))
   (z0e (QS.mk (ps_set (i:=8) sc__law_made.nd rfl (L1 rfl) (pe_cal c0 (C.mono (by decide)) rfl (z00 (pv 7) pa_nil))))
   (z0e (QS.mk (ps_set (i:=9) sc__law_made.nd rfl (L1 rfl) (pe_cal c1 (C.mono (by decide)) rfl (z00 (pv 8) (z00 pe_int pa_nil)))))
   (z2n (qs_if (pt_cmp (pc_din (hu_of C) (pv 9) (pv 5)) (by with_unfolding_all rfl))
   (z0e (QS.mk (ps_set (i:=10) sc__law_made.nd rfl (L1 rfl) (pe_ix ix_seq (pv 3) (zga (pv 5) (pv 9) ⟨rfl,rfl,rfl,rfl⟩) (λ _ _=>rfl))))
   (z0e (QS.mk (ps_if (PW.pt (pw_and (z09 opEq (pe_ix ix_seq (pv 10) pe_int (λ _ _=>rfl)) pe_str (nomark _)) (z2r (z09 opEq (pe_ix ix_seq (pv 10) pe_int (λ _ _=>rfl)) pe_int (nomark _)))))
   (z06 (ps_set (i:=6) sc__law_made.nd rfl (L1 rfl) (pe_ix ix_seq (pv 10) pe_int (λ _ _=>rfl))))
   z0d))
   (z0e (QS.mk (ps_asg (pe_cal c2 (C.mono (by decide)) rfl (z00 (pv 8) (z00 (pv 10) (z00 (pv 6) (z00 (pv 3) (z00 (pv 2) pa_nil)))))) (pg_sub (pv 10) pe_int z1y)))
   (z0e (QS.mk (ps_asg (z0a z0o rfl (T.no (n_len _)) R3 (z00 (pv 4) pa_nil)) (pg_sub (pv 10) pe_int z1y)))
   (z2n (QS.mk (z2t (z15 (pv 4) (z00 (pe_tup (z00 pe_str (z00 (pv 9) (z00 (pe_ix ix_seq (pv 10) pe_int (λ _ _=>rfl)) pa_nil)))) pa_nil)))))))))
   (z2n (qs_if (z09 op_lt (z0a z0o rfl (T.no (n_len _)) R3 (z00 (pv 3) pa_nil)) (pv 1) (nomark _))
   (z0e (qs_set (i:=11) sc__law_made.nd rfl (L1 rfl) (qe_ix ix_seq (qe_lst (z2v (QE.mk pe_str) (z2v (QE.mk pe_str) qa_nil))) (QE.mk (pe_cal c1 (C.mono (by decide)) rfl (z00 (pv 8) (z00 pe_int pa_nil)))) (λ _ _=>rfl)))
   (z0e (QS.mk (ps_set (i:=12) sc__law_made.nd rfl (L1 rfl) pe_non))
   (z0e (QS.mk (ps_set (i:=13) sc__law_made.nd rfl (L1 rfl) (pv 6)))
   (z0e (qs_if (z09 opEq (pv 11) pe_str (nomark _))
   (z0e (qs_set (i:=12) sc__law_made.nd rfl (L1 rfl) (qe_op op_mul (QE.mk (pe_op op_mul (pe_op opAdd (pe_op opAdd (pe_op op_mul pe_int (pe_cal c1 (C.mono (by decide)) rfl (z00 (pv 8) (z00 pe_int pa_nil)))) (z0a z0o rfl (T.no (n_len _)) R3 (z00 (pv 3) pa_nil))) pe_int) pe_int)) (qe_ix ix_seq (qe_lst (z2v (QE.mk pe_int) (z2v (QE.mk (pe_un un_neg pe_int)) qa_nil))) (QE.mk (pe_cal c1 (C.mono (by decide)) rfl (z00 (pv 8) (z00 pe_int pa_nil)))) (λ _ _=>rfl))))
   (z0e (QS.mk (ps_set (i:=13) sc__law_made.nd rfl (L1 rfl) (pe_cal c1 (C.mono (by decide)) rfl (z00 (pv 8) (z00 pe_int pa_nil)))))
   (z2n (QS.mk (ps_if (z09 opEq (pv 13) pe_int (nomark _))
   (z06 (ps_set (i:=6) sc__law_made.nd rfl (L1 rfl) (pv 12)))
   z0d)))))
   (QSs.mk z0d))
   (z0e (QS.mk (z84 (hu_of C) (pv 5) (pv 9) (z0a z0o rfl (T.no (n_len _)) R3 (z00 (pv 3) pa_nil)) rfl))
   (z0e (QS.mk (z2t (z15 (pv 3) (z00 (pe_lst (z00 (pv 9) (z00 (pv 11) (z00 (pv 12) (z00 pe_non (z00 (z0a z0o rfl (T.no (n_len _)) R3 (z00 (pv 4) pa_nil)) (z00 pe_non (z00 (pv 13) pa_nil)))))))) pa_nil))))
   (z2n (QS.mk (z2t (z15 (pv 4) (z00 (pe_tup (z00 pe_str (z00 (pv 9) (z00 pe_str (z00 (pv 11) (z00 (pv 12) pa_nil)))))) pa_nil)))))))))))
   (QSs.mk z0d))))))))
   (z0e (QS.mk (ps_if (pt_val (pv 2) (λ _=>rfl))
   (z06 (z2t (pe_cal c3 (C.mono (by decide)) rfl (z00 (pe_cal c0 (C.mono (by decide)) rfl (z00 (z0a (zcz rfl) rfl (T.no (n_sum _)) boot_sum (z00 (pv 0) pa_nil)) pa_nil)) (z00 (pv 3) (z00 (pv 4) pa_nil))))))
   z0d))
   (z2n (QS.mk (ps_ret (pe_tup (z00 (pe_cal c4 (C.mono (by decide)) rfl (z00 (pe_lst (z00 (pe_tup (z00 pe_str (z00 pe_str pa_nil))) pa_nil)) (z00 (pv 4) pa_nil))) (z00 (pv 3) pa_nil)))))))))))) ?_
  refine z0b ⟨w_0,λ u f6=>g_name ?_⟩;obtain ⟨H1,v_,u1,e1⟩:=newA (.lst []) f6;rw [<-v_];refine z0b ⟨w_0,λ le b6=>g_name ?_⟩;have i8:u≠le:=λ z=>by rw [<-z,e1] at b6;cases b6
  have i1:=u1.free b6;have v2:=Same.upd (o:=.lst []) b6;have u2:=u1.trans v2;have a8:=v2 _ _ e1;have e2:upd H1 le (.lst []) le=some (.lst []):=z01;generalize upd H1 le (.lst [])=H2 at v2 u2 a8 e2⊢;refine z0b λ hd f4=>g_name ?_;have e8:=u2.free f4;have v3:=Same.upd (o:=.dK []) f4;have e3:upd H2 hd (.dK []) hd=some (.dK (heldK [])):=z01;have d4:Md H (upd H2 hd (.dK [])) u le [] [] []:=⟨u2.trans v3,f6,i1,λ p R=>absurd R B0,.nil,i8,v3 _ _ a8,.nil,λ r C=>absurd C B0,R1 _,v3 _ _ e2,.nil,trivial,(λ i r h=>by cases h),R1 _,R1 _⟩
  generalize upd H2 hd (.dK [])=H3 at e3 d4⊢;refine z0b (g_name ?_);refine ⟨_,rfl,c,rfl,⟨_,d4.s.seq sq⟩,?_⟩;refine z1v (K:=KX w.params) (a:=c) (xs:=ns.map V.int) (λ i σ H'=>∃es zs ys os now x7 x8 x9 x10 x11 x12 x13,Md H H' u le es zs ys/\H' hd=some (.dK (heldK os))/\HdI es os/\bdI now/\es.length<=i/\os.length<=i/\zs.length<=9/\σ=[some (.ref c),some (.int 9),some (.bl Z),some (.ref u),some (.ref le),some (.ref hd),some (.int now),x7,x8,x9,x10,x11,x12,x13]) ⟨[],[],[],[],0,_,_,_,_,_,_,_,d4,e3,⟨rfl,λ h j z=>absurd z B0⟩,⟨by decide,by decide⟩,C0 _,C0 _,R1 _,rfl⟩ (λ _ σ H' _ h=>by obtain ⟨_,_,_,_,_,_,_,_,_,_,_,_,t,_⟩:=h;exact t.s.seq sq) ?_ ?_
  ·rintro i y σ G hy ⟨es,zs,ys,os,now,x7,x8,x9,x10,x11,x12,x13,t,ehd,hdI,bn,lei,loi,z9,rfl⟩;obtain ⟨cl,_,rfl⟩:=List.mem_map.mp (d0 hy);have hi:i < 60:=by have:=(List.getElem?_eq_some_iff.mp hy).1;rw [G0] at this;omega
   have lz:=z03 t.a;have ly:=z03 t.ev;refine g_name ?_;refine z0b ⟨_,rfl,cl,rfl,λ r o F b2=>g_name ?_⟩;have u5:=Same.upd (o:=o) F;generalize upd G r o=H5 at u5 b2⊢;refine z0b ⟨_,rfl,r,4,rfl,b2,by decide,by decide,λ h H6 c9 h0 h1=>g_name ?_⟩;have s6:=Same.kp u5 F c9.k;have b7:=s6 _ _ ehd;have e0:r≠hd:=λ z=>by rw [z,ehd] at F;cases F
   refine z12 ⟨_,rfl,_,rfl,hd,_,rfl,DGet.k (k:=.inl h) b7,_,rfl,?_⟩;by_cases hb:h∈os.map (·.1)
   ·refine iteP (held_in.mpr hb) ?_;obtain ⟨j,g3,i2⟩:=zcf hb;have hj:=hdI.j h j g3;obtain ⟨f,b4,g5⟩:=row_ok hj;obtain ⟨z,d5,pz⟩:=z25 t.a b4;obtain ⟨p,I,rfl,ep,Y⟩:=id pz;obtain ⟨f1,f2,f3⟩:=t.fz p (d0 d5);have D:Md H (upd G hd (.dK (dropK (heldK os) (.inl h)))) u le es zs ys:=t.kp ehd e8 λ b o n e=>by rw [upd_ne n];exact e
    have O:=Same.upd2 (l:=hd) (o:=.dK (dropK (heldK os) (.inl h))) s6;have n7:upd G hd (.dK (dropK (heldK os) (.inl h))) r=none:=by rw [upd_ne e0];exact F
    have f5:DkAt (upd H6 hd (.dK (dropK (heldK os) (.inl h)))) r:=by obtain ⟨a,b,c,e,z⟩:=c9.d;exact ⟨a,b,c,by rw [upd_ne e0];exact e,z⟩
    have a6:upd G hd (.dK (dropK (heldK os) (.inl h))) hd=some (.dK (heldK (os.filter λ k=>decide (k.1≠h)))):=by rw [z01,z54]
    have f8:upd H6 hd (.dK (dropK (heldK os) (.inl h))) u=some (.lst zs):=O _ _ D.l;refine z0b ⟨_,rfl,_,rfl,hd,rfl,.inl ⟨_,.inl b7⟩,_,rfl,heldK os,.inl h,.int (j:Nat),b7,rfl,i2,.inl ⟨u,zs,j,.ref p,rfl,rfl,SqL.of f8,z04 d5,g_name ?_⟩⟩;have a7:upd G hd (.dK (dropK (heldK os) (.inl h))) p=some (.lst [.int f.h,f.v,f.x,f.a,.int f.b,endV f.e,.int I]):=by rw [upd_ne (show p≠hd from λ z=>by rw [z,ehd] at ep;cases ep)];exact ep
    generalize upd G hd (.dK (dropK (heldK os) (.inl h)))=H0' at D O n7 a6 a7;generalize upd H6 hd (.dK (dropK (heldK os) (.inl h)))=H7 at O f5 f8⊢;have b5:=SqL.of (K:=KX w.params) (O _ _ a7);have g0:=t.g f (d0 b4);refine z28 (λ σ' H'=>H'=H7/\∃now',bdI now'/\σ'=[some (.ref c),some (.int 9),some (.bl Z),some (.ref u),some (.ref le),some (.ref hd),some (.int now'),some (.int cl),some (.ref r),some (.int h),some (.ref p),x11,x12,x13]) ?_ λ L=>?_;rotate_left
    ·rcases g0 with g|g
     ·exact z12 (t_and ⟨_,rfl,.inl ⟨p,_,1,.str "read",rfl,rfl,b5,by rw [g.1];exact z04 (j:=1) rfl,rfl,_,rfl,iteK (iteF (L _ _ ⟨rfl,now,bn,rfl⟩))⟩⟩)
     ·refine z12 (t_and ⟨_,rfl,.inl ⟨p,_,1,.str "write",rfl,rfl,b5,by rw [g.1];exact z04 (j:=1) rfl,rfl,_,rfl,iteP (by decide +kernel) ⟨_,rfl,.inl ⟨p,_,6,.int I,rfl,rfl,b5,z04 (j:=6) rfl,rfl,_,rfl,ite2 (λ _=>?_) λ _=>L _ _ ⟨rfl,now,bn,rfl⟩⟩⟩⟩⟩);have bx:=t.wx.bd t.n f (d0 b4) g.w;exact ⟨_,rfl,.inl ⟨p,_,2,.int (intV f.x),rfl,rfl,b5,by rw [<-g.2.2.1];exact z04 (j:=2) rfl,g_name (L _ _ ⟨rfl,_,bx,rfl⟩)⟩⟩
    rintro σ j9 ⟨rfl,now',bn',rfl⟩;refine z0b ⟨_,rfl,_,rfl,_,rfl,_,rfl,_,rfl,r,p,u,f,now',Z,_,zs,H0',rfl,O,n7,f5,⟨p,I,rfl,a7,Y⟩,g0,bn',D.rws,λ a H8 U b0 g7 g6=>?_⟩;refine ⟨_,rfl,p,_,3,3,rfl,rfl,U _ _ a7,rfl,?_⟩;have e9:upd H8 p (.lst ([.int f.h,f.v,f.x,f.a,.int f.b,endV f.e,.int I].set 3 a)) p=some (.lst [.int f.h,f.v,f.x,a,.int f.b,endV f.e,.int I]):=z01;have k9 :∀b o,b≠p->H8 b=some o->upd H8 p (.lst ([.int f.h,f.v,f.x,f.a,.int f.b,endV f.e,.int I].set 3 a)) b=some o:=λ b o n z=>by rw [upd_ne n];exact z
    generalize upd H8 p (.lst ([.int f.h,f.v,f.x,f.a,.int f.b,endV f.e,.int I].set 3 a))=N at e9 k9⊢;have i4:=k9 _ _ (P3 f3) (U _ _ D.e);refine z0b ⟨_,rfl,.inl ⟨le,ys,rfl,.inl (SqL.of i4),_,rfl,p,_,5,5,rfl,rfl,e9,rfl,?_⟩⟩;have a1:upd N p (.lst ([.int f.h,f.v,f.x,a,.int f.b,endV f.e,.int I].set 5 (.int (ys.length:Nat)))) p=some (.lst [.int f.h,f.v,f.x,a,.int f.b,.int (ys.length:Nat),.int I]):=z01;have b3 :∀b o,b≠p->H8 b=some o->upd N p (.lst ([.int f.h,f.v,f.x,a,.int f.b,endV f.e,.int I].set 5 (.int (ys.length:Nat)))) b=some o:=λ b o n z=>by rw [upd_ne n];exact k9 _ _ n z
    generalize upd N p (.lst ([.int f.h,f.v,f.x,a,.int f.b,endV f.e,.int I].set 5 (.int (ys.length:Nat))))=H10 at a1 b3⊢;have c5:=b3 _ _ (P3 f3) (U _ _ D.e);refine ⟨_,rfl,.inl ⟨rfl,_,SqL.of c5⟩,_,rfl,_,rfl,.inl ⟨p,_,3,a,rfl,rfl,SqL.of a1,z04 (j:=3) rfl,w_3,λ tp X=>?_⟩⟩;have J:=Same.upd (o:=.tup [.str "end",.int h,a]) X;have a5:upd H10 tp (.tup [.str "end",.int h,a]) tp=some (.tup [.str "end",.int h,a]):=z01;have nt:tp≠le:=λ z=>by rw [z,c5] at X;cases X
    generalize upd H10 tp (.tup [.str "end",.int h,a])=S at J a5⊢;refine ⟨le,ys,_,rfl,rfl,J _ _ c5,P1 (m:=100) (by omega) (by decide),?_⟩;subst g5;have ho:f.h∈es.foldl oStep []:=by rw [<-hdI.o];exact hb
    rw [ly] at a1;have b1:=D.fin (H':=upd S le (.lst (ys++[.ref tp]))) (tp:=tp) (a:=a) hj b4 d5 ho ⟨h0,by omega⟩ (by omega) Y g7 g6 (λ b o n1 n2 z=>by rw [upd_ne n2];exact J _ _ (b3 _ _ n1 (U _ _ z))) (by rw [upd_ne f3];exact J _ _ a1) (by rw [upd_ne nt];exact a5) z01;have c6:upd S le (.lst (ys++[.ref tp])) hd=some (.dK (heldK (os.filter λ k=>decide (k.1≠f.h)))):=by rw [upd_ne (λ z=>by rw [z] at a6;have:=D.e;rw [a6] at this;cases this)];exact J _ _ (b3 _ _ (λ z=>by rw [z] at a6;rw [a6] at a7;cases a7) (U _ _ a6))
    exact ⟨es++[.fin f.h a],zs,ys++[.ref tp],os.filter λ k=>decide (k.1≠f.h),now',_,_,_,_,_,_,_,b1,c6,hdI.fin,bn',by rw [J0];show es.length + 1<=i + 1;omega,L0 (O1 _ _) (by omega),z9,rfl⟩
   ·refine iteN (λ z=>hb (held_in.mp z)) ?_;have a3:=t.same s6;refine z12 ⟨_,rfl,.inl ⟨u,zs,rfl,.inl (SqL.of a3.l),_,rfl,_,_,rfl,rfl,_,rfl,ite2 (λ zl=>?_) λ _=>⟨es,zs,ys,os,now,_,_,_,_,_,_,_,a3,b7,hdI,bn,by omega,by omega,z9,rfl⟩⟩⟩;have j2:zs.length < 9:=by have:=of_decide_eq_true zl;omega
    have zl:zs.length < 24:=by omega
    have f0:=c9.d;refine z0b ⟨w_2,λ lv d8=>?_⟩;have u7:=Same.upd (o:=.lst [.str "read",.str "write"]) d8;have e7:upd H6 lv (.lst [.str "read",.str "write"]) lv=some (.lst [.str "read",.str "write"]):=z01;have i0:lv≠r:=λ z=>by obtain ⟨a,b,c,e,_⟩:=f0;rw [z,e] at d8;cases d8
    generalize upd H6 lv (.lst [.str "read",.str "write"])=H7 at u7 e7⊢;refine ⟨_,rfl,r,2,rfl,f0.same u7,by decide,by decide,λ tv H8 b0 j6 j1=>?_⟩;have U:=Same.kp (s6.trans u7) F b0.k;obtain ⟨n,B,rfl,h6,ev⟩ :∃(n:Nat) (B:Str),tv=(n:Int)/\(B = "read"\/B = "write")/\[V.str "read",.str "write"][n]? = some (.str B):=by
     rcases (show tv=0\/tv=1 by omega) with rfl|rfl
     ·exact ⟨0,"read",rfl,.inl rfl,rfl⟩
     ·exact ⟨1,"write",rfl,.inr rfl,rfl⟩
    refine .inl ⟨lv,_,n,.str B,rfl,rfl,SqL.of (b0.k _ _ i0 e7),z04 ev,g_name ?_⟩;refine z0b (g_name ?_);refine z0b ⟨_,rfl,g_name ?_⟩;refine z28 (λ σ' H'=>∃x late' now',Same G H'/\DkAt H' r/\NewD zs.length (.str B) x/\bdI late'/\bdI now'/\σ'=[some (.ref c),some (.int 9),some (.bl Z),some (.ref u),some (.ref le),some (.ref hd),some (.int now'),some (.int cl),some (.ref r),some (.int h),x10,some (.str B),some x,some (.int late')]) ?_ λ L=>?_;rotate_left
    ·rcases h6 with rfl|rfl
     ·exact z12 ⟨_,rfl,rfl,_,rfl,iteK (L _ _ ⟨.non,now,now,U,b0.d,.inl ⟨rfl,rfl⟩,bn,bn,rfl⟩)⟩
     ·refine z12 ⟨_,rfl,rfl,_,rfl,iteP (by decide +kernel) ?_⟩;refine z0b ⟨_,rfl,r,1000,rfl,b0.d,by decide,by decide,λ tw N c7 g2 h5=>?_⟩;have s9:=Same.kp U F c7.k;refine ⟨24,_,rfl,rfl,.inl ⟨by decide,by decide⟩,_,rfl,.inl ⟨u,zs,rfl,.inl (SqL.of (s9 _ _ t.l)),.inl ⟨_,_,rfl,rfl,.inl ⟨_,_,rfl,rfl,_,_,rfl,rfl,.inl ⟨by omega,by omega⟩,?_⟩⟩⟩⟩;refine ⟨1,rfl,w_2,λ lx d9=>?_⟩;have e4:=c7.d;have b9:=Same.upd (o:=.lst [.int 1,.int (-1)]) d9;have a1:upd N lx (.lst [.int 1,.int (-1)]) lx=some (.lst [.int 1,.int (-1)]):=z01;have g9:lx≠r:=λ z=>by obtain ⟨a,b,c,e,_⟩:=e4;rw [z,e] at d9;cases d9
      generalize upd N lx (.lst [.int 1,.int (-1)])=H10 at b9 a1⊢;refine ⟨_,rfl,r,2,rfl,e4.same b9,by decide,by decide,λ ts S d2 j4 j0=>?_⟩;have i5:=Same.kp (s9.trans b9) F d2.k;obtain ⟨n2,W,rfl,e6,i6⟩ :∃(n:Nat) (W:Int),ts=(n:Int)/\(W=1\/W=-1)/\[V.int 1,.int (-1)][n]? = some (.int W):=by
       rcases (show ts=0\/ts=1 by omega) with rfl|rfl
       ·exact ⟨0,1,rfl,.inl rfl,rfl⟩
       ·exact ⟨1,-1,rfl,.inr rfl,rfl⟩
      refine .inl ⟨lx,_,n2,.int W,rfl,rfl,SqL.of (d2.k _ _ g9 a1),z04 i6,_,_,rfl,rfl,.inl ⟨by omega,by omega⟩,?_⟩;obtain ⟨y,hy,nw,h7⟩ :∃y:Int,(24 * tw + (zs.length:Int) + 1) * 41666 * W=y/\(y=(24 * tw + zs.length + 1) * 41666\/y=-((24 * tw + zs.length + 1) * 41666))/\bdI y:=by
       refine ⟨_,rfl,?_,?_⟩
       ·rcases e6 with rfl|rfl<;>omega
       ·unfold bdI;rcases e6 with rfl|rfl<;>omega
      show gName 12 (V.int ((24 * tw + (zs.length:Int) + 1) * 41666 * W)) _ _ _;rw [hy];refine g_name ?_;have nd:NewD zs.length (.str "write") (.int y):=.inr ⟨rfl,tw,y,g2,h5,rfl,nw⟩;refine z0b ⟨_,rfl,r,2,rfl,d2.d,by decide,by decide,λ tl d3 d7 k0 j8=>g_name ?_⟩;have e5:=Same.kp i5 F d7.k;have Y:bdI tl:=⟨by omega,by omega⟩
      refine z12 ⟨_,rfl,rfl,_,rfl,ite2 (λ _=>⟨_,rfl,g_name (L _ _ ⟨.int y,tl,y,e5,d7.d,nd,Y,h7,rfl⟩)⟩) λ _=>L _ _ ⟨.int y,tl,now,e5,d7.d,nd,Y,bn,rfl⟩⟩
    rintro σ N ⟨x,late',now',s9,c7,nd,Y,bn',rfl⟩;have h9:=SqL.of (K:=KX w.params) (s9 _ _ t.l);have put:=zg6 (b:=zs.length) hb;refine ⟨_,rfl,.inl ⟨u,zs,rfl,.inl h9,_,rfl,_,rfl,hd,_,rfl,DPut.k (k:=.inl h) (s9 _ _ ehd) (P1 (m:=100) (by unfold heldK;rw [G0];omega) (by decide)),t_nx ?_⟩⟩;have D:Md H (upd G hd (.dK (putK (heldK os) (.inl h) (.int (zs.length:Nat))))) u le es zs ys:=t.kp ehd e8 λ b o n e=>by rw [upd_ne n];exact e
    have a0:=Same.upd2 (l:=hd) (o:=.dK (putK (heldK os) (.inl h) (.int (zs.length:Nat)))) s9;have a4:upd G hd (.dK (putK (heldK os) (.inl h) (.int (zs.length:Nat)))) hd=some (.dK (heldK (os++[(h,zs.length)]))):=by rw [z01,put]
    generalize upd G hd (.dK (putK (heldK os) (.inl h) (.int (zs.length:Nat))))=H0' at D a0 a4;generalize upd N hd (.dK (putK (heldK os) (.inl h) (.int (zs.length:Nat))))=H10 at a0⊢;have d1:=a0 _ _ D.l;have b8:=a0 _ _ D.e;refine ⟨_,rfl,.inl ⟨rfl,_,SqL.of d1⟩,_,rfl,_,rfl,_,rfl,_,rfl,.inl ⟨le,ys,rfl,.inl (SqL.of b8),_,rfl,w_7,λ p R=>?_⟩⟩;have J:=Same.upd (o:=.lst [.int h,.str B,x,.non,.int (ys.length:Nat),.non,.int late']) R;have a5:upd H10 p (.lst [.int h,.str B,x,.non,.int (ys.length:Nat),.non,.int late']) p=some (.lst [.int h,.str B,x,.non,.int (ys.length:Nat),.non,.int late']):=z01;have fp:H0' p=none:=a0.free R;have g4:p≠u:=λ z=>by rw [z,d1] at R;cases R
    have h8:p≠le:=λ z=>by rw [z,b8] at R;cases R
    generalize upd H10 p (.lst [.int h,.str B,x,.non,.int (ys.length:Nat),.non,.int late'])=S at J a5⊢;refine ⟨u,zs,_,rfl,rfl,J _ _ d1,P1 (m:=100) (by omega) (by decide),t_nx ?_⟩;have a8:upd S u (.lst (zs++[.ref p])) u=some (.lst (zs++[.ref p])):=z01;have a9 :∀b o,b≠u->S b=some o->upd S u (.lst (zs++[.ref p])) b=some o:=λ b o n z=>by rw [upd_ne n];exact z
    generalize upd S u (.lst (zs++[.ref p]))=d3 at a8 a9⊢;have d6:=a9 _ _ (P3 t.n1) (J _ _ b8);refine ⟨_,rfl,.inl ⟨rfl,_,SqL.of d6⟩,_,rfl,_,rfl,_,rfl,w_5,λ tp X=>?_⟩;have a2:=Same.upd (o:=.tup [.str "begin",.int h,.str "r",.str B,x]) X;have f7:upd d3 tp (.tup [.str "begin",.int h,.str "r",.str B,x]) tp=some (.tup [.str "begin",.int h,.str "r",.str B,x]):=z01;have nt:tp≠le:=λ z=>by rw [z,d6] at X;cases X
    generalize upd d3 tp (.tup [.str "begin",.int h,.str "r",.str B,x])=H13 at a2 f7⊢;refine ⟨le,ys,_,rfl,rfl,a2 _ _ d6,P1 (m:=100) (by omega) (by decide),?_⟩;have ho:h∉es.foldl oStep []:=by rw [<-hdI.o];exact hb
    rw [ly] at a5;rw [lz] at nd zl;have b1:=D.beg (H':=upd H13 le (.lst (ys++[.ref tp]))) (tp:=tp) (p:=p) zl nd ho ⟨h0,by omega⟩ (by omega) Y fp (λ b o n1 n2 z=>by rw [upd_ne n2];exact a2 _ _ (a9 _ _ n1 (J _ _ (a0 _ _ z)))) (by rw [upd_ne t.n1];exact a2 _ _ a8) (by rw [upd_ne h8];exact a2 _ _ (a9 _ _ g4 a5)) (by rw [upd_ne nt];exact f7) z01;have c6:upd H13 le (.lst (ys++[.ref tp])) hd=some (.dK (heldK (os++[(h,zs.length)]))):=by rw [upd_ne (λ z=>by rw [z] at a4;have:=D.e;rw [a4] at this;cases this)];exact a2 _ _ (a9 _ _ (λ z=>by rw [z] at a4;have:=D.l;rw [a4] at this;cases this) (J _ _ (a0 _ _ a4)))
    have f9:=hdI.beg (nm:=.str "r") (v:=.str B) (y:=x) hb;rw [<-lz] at f9;exact ⟨es++[.beg h (.str "r") (.str B) x],zs++[.ref p],ys++[.ref tp],os++[(h,zs.length)],now',_,_,_,_,_,_,_,b1,c6,f9,bn',by rw [J0];show es.length + 1<=i + 1;omega,by rw [J0];show os.length + 1<=i + 1;omega,by rw [J0];show zs.length + 1<=9;omega,rfl⟩
  rintro σ G ⟨es,zs,ys,os,now,x7,x8,x9,x10,x11,x12,x13,t,ehd,hdI,bn,lei,loi,z9,rfl⟩;refine nx_to3 ?_;refine z28 (λ σ' H'=>∃es zs ys,Md H H' u le es zs ys/\zs.length<=9/\σ'=[some (.ref c),some (.int 9),some (.bl Z),some (.ref u),some (.ref le),some (.ref hd),some (.int now),x7,x8,x9,x10,x11,x12,x13]) ?_ λ L=>?_;rotate_left
  ·refine z12 ⟨_,rfl,_,rfl,?_⟩;cases Z with
   | false=>exact iteN (by decide) (L _ _ ⟨es,zs,ys,t,z9,rfl⟩)
   | true=>exact iteP rfl ⟨_,rfl,c,ns,rfl,t.s.seq sq,ns.sum,rfl,λ r o F b2=>⟨_,rfl,_,rfl,r,u,le,es,zs,ys,H,G,rfl,Same.upd F,F,b2,t,λ h2 h4 H' b1=>L _ _ ⟨h2,zs,h4,b1,z9,rfl⟩⟩⟩
  clear t ehd hdI lei loi z9;rintro σ H5 ⟨es,zs,ys,t,z9,rfl⟩;refine ⟨w_2,λ M g1=>⟨w_1,λ la h3=>?_⟩⟩;have w1:=Same.upd (o:=.tup [.str "r",.str "register"]) g1;have w2:=Same.upd (o:=.lst [.ref M]) h3;have u6:=w1.trans w2;have ep:=w2 _ _ (z01 (H:=H5) (a:=M) (o:=.tup [.str "r",.str "register"]));have ea:upd (upd H5 M (.tup [.str "r",.str "register"])) la (.lst [.ref M]) la=some (.lst [.ref M]):=z01;generalize upd (upd H5 M (.tup [.str "r",.str "register"])) la (.lst [.ref M])=H6 at u6 ep ea⊢;have a3:=t.same u6;have j5:=t.n60;refine ⟨_,rfl,la,le,M,("r","register"),ys,es,rfl,ea,⟨M,rfl,ep⟩,⟨nameR,by decide +kernel⟩,a3.e,a3.ev,by omega,t.bg,t.wf,λ tt c' e' H7 O g8 ec ee=>?_⟩;refine ⟨_,rfl,w_2,λ t2 i7=>?_⟩;have u8:=Same.upd (o:=.tup [.ref tt,.ref u]) i7;have c8:=a3.same (O.trans u8);exact q t2 tt u zs es ys _ c8.s z01 ⟨⟨c',e',M,SqT.of (u8 _ _ g8),SqT.of (u8 _ _ ec),SqT.of (u8 _ _ (O _ _ ep)),SqT.of (u8 _ _ ee)⟩,z02 (λ _ _ z=>ev_at z) c8.ev,t.tw,by omega⟩ c8.rws z9
noncomputable def enN (r:Rc):Int:=((r.e.getD 0:Nat):Int)
theorem re_end {r:Rc} (h:isRE r=true):r.v=.str "read"/\r.e=some (r.e.getD 0):=by unfold isRE at h;rw [D5] at h;obtain ⟨k,a⟩:=Option.isSome_iff_exists.mp h.2;exact ⟨of_decide_eq_true h.1,by rw [a];rfl⟩
theorem zh5 (rs:List Rc) (t:Ent):(spans rs t).filterMap (·.2)=t.e.toList++(rdsF rs t.x).map enN:=by
 have key :∀l:List Rc,(∀r∈l,isRE r=true)->(l.map spR).filterMap (·.2)=l.map enN:=by
  intro l;induction l with
  | nil=>exact λ _=>rfl
  | cons r l ih=>
   intro h;rw [X0,z7 (b:=enN r) (by show r.e.map (λ n=>(n:Int))=some (enN r);unfold enN;rw [(re_end (h r (.head _))).2];rfl),ih λ q c=>h q (.tail _ c)];rfl
 have k:=key (rdsF rs t.x) λ r a=>(List.mem_filter.mp (List.mem_filter.mp a).1).2;unfold spans;cases h:t.e with
 | none=>rw [j0a rfl,k];rfl
 | some e=>rw [z7 (f:=λ x:Int×Option Int=>x.2) (b:=e) rfl,k];rfl
theorem zfy {a b:Int} {ns:List Int} (h:MinI a ns) (h':MinI b ns):a=b:=Int.le_antisymm (h.2 b h'.1) (h'.2 a h.1)
theorem z44 {rs:List Rc} (nd:((rs.filter isW).map (λ r=>intV r.x)).Nodup) (n0:(0:Int)∉(rs.filter isW).map (λ r=>intV r.x)):((ents rs).map λ t=>(Sum.inl t.x:Key)).Nodup:=by
 have e:(ents rs).map (λ t=>(Sum.inl t.x:Key))=((0:Int) :: (rs.filter isW).map (λ r=>intV r.x)).map Sum.inl:=by unfold ents;rw [X0,Q2,X0,Q2];rfl
 rw [e];unfold List.Nodup;rw [m6];exact (List.nodup_cons.mpr ⟨n0,nd⟩:List.Nodup _).imp λ h z=>h (N4 z)
end
section
def PosOf (rs:List Rc) (x p:Int):Prop:=(x=0/\p < 0)\/∃(i:Nat) (r:Rc),rs[i]? = some r/\(p=r.b\/∃e:Nat,r.e=some e/\p=(e:Int))/\((isW r=true/\intV r.x=x)\/(isRE r=true/\intV r.a=x))
theorem z74 {n:Nat} {rs:List Rc} (ps:PosI n rs) {x x' p:Int} (h:PosOf rs x p) (h':PosOf rs x' p):x=x':=by
 rcases h with ⟨rfl,h⟩|⟨i,r,hi,hp,hx⟩
 ·rcases h' with ⟨rfl,_⟩|⟨j,q,hj,hp',_⟩
  ·rfl
  ·rcases hp' with z|⟨e,_,z⟩<;>omega
 ·rcases h' with ⟨rfl,h'⟩|⟨j,q,hj,hp',hx'⟩
  ·rcases hp with z|⟨e,_,z⟩<;>omega
  ·have d:i=j:=by
    rcases hp with z|⟨e,he,z⟩
    ·rcases hp' with y|⟨f,hf,y⟩
     ·exact ps.bb i j r q hi hj (by omega)
     ·exact absurd (by omega) (ps.be r (d0 hi) q (d0 hj) f hf)
    ·rcases hp' with y|⟨f,hf,y⟩
     ·exact absurd (by omega) (ps.be q (d0 hj) r (d0 hi) e he)
     ·have:e=f:=by omega
      subst this;exact ps.ee i j r q e hi hj he hf
   subst d;rw [hi] at hj;cases hj;have c:¬ (isW r=true/\isRE r=true):=λ ⟨a,b⟩=>z11 ((re_end b).1.symm.trans (of_decide_eq_true a));rcases hx with ⟨a,rfl⟩|⟨a,rfl⟩
   ·rcases hx' with ⟨_,b⟩|⟨b,_⟩
    ·exact b
    ·exact absurd ⟨a,b⟩ c
   ·rcases hx' with ⟨b,_⟩|⟨_,b⟩
    ·exact absurd ⟨b,a⟩ c
    ·exact b
theorem z52 {rs:List Rc} {t:Ent} (ht:t∈ents rs) {s:Int×Option Int} (hs:s∈spans rs t):PosOf rs t.x s.1/\∀e,s.2=some e->PosOf rs t.x e:=by
 rcases List.mem_cons.mp hs with rfl|hs
 ·rcases ents_mem.mp ht with rfl|⟨w,hw,hi,rfl⟩
  ·exact ⟨.inl ⟨rfl,by decide⟩,λ e a=>by cases a;exact .inl ⟨rfl,by decide⟩⟩
  ·obtain ⟨i,h⟩:=List.mem_iff_getElem?.mp hw;refine ⟨.inr ⟨i,w,h,.inl rfl,.inl ⟨hi,rfl⟩⟩,λ e a=>?_⟩;unfold entW at a;cases hk:w.e with
   | none=>rw [hk] at a;cases a
   | some k=>rw [hk] at a;cases a;exact .inr ⟨i,w,h,.inr ⟨k,hk,rfl⟩,.inl ⟨hi,rfl⟩⟩
 ·obtain ⟨r,g,rfl⟩:=List.mem_map.mp hs;obtain ⟨f,b⟩:=List.mem_filter.mp g;obtain ⟨d,c⟩:=List.mem_filter.mp f;have b:=of_decide_eq_true b;obtain ⟨i,h⟩:=List.mem_iff_getElem?.mp d;refine ⟨.inr ⟨i,r,h,.inl rfl,.inr ⟨c,b⟩⟩,λ e a=>?_⟩;unfold spR at a;cases hk:r.e with
  | none=>rw [hk] at a;cases a
  | some k=>rw [hk] at a;cases a;exact .inr ⟨i,r,h,.inr ⟨k,hk,rfl⟩,.inr ⟨c,b⟩⟩
theorem zn_pos {rs:List Rc} {t:Ent} {z:Zt} (ht:t∈ents rs) (h:ZnR rs t z):PosOf rs t.x z.lo:=by
 obtain ⟨l,g,b,c,rfl⟩:=h;unfold zOf;split
 ·obtain ⟨s,a,e⟩:=List.mem_filterMap.mp b.1;exact (z52 ht a).2 l e
 ·obtain ⟨s,a,e⟩:=List.mem_map.mp c.1;rw [<-e];exact (z52 ht a).1
theorem zfw {a b:Int} {ns:List Int} (h:MaxI a ns) (h':MaxI b ns):a=b:=Int.le_antisymm (h'.2 a h.1) (h.2 b h'.1)
theorem zbg {rs:List Rc} {t:Ent} {z z':Zt} (h:ZnR rs t z) (h':ZnR rs t z'):z=z':=by obtain ⟨l,g,b,c,rfl⟩:=h;obtain ⟨e,f,a,d,rfl⟩:=h';rw [zfy b a,zfw c d]
theorem ents_x {rs:List Rc} (nd:((ents rs).map λ t=>(Sum.inl t.x:Key)).Nodup) {t t':Ent} (h:t∈ents rs) (h':t'∈ents rs) (e:t.x=t'.x):t=t':=by
 obtain ⟨i,k⟩:=List.mem_iff_getElem?.mp h;obtain ⟨j,a⟩:=List.mem_iff_getElem?.mp h';obtain ⟨b,f⟩:=List.getElem?_eq_some_iff.mp k;obtain ⟨d,c⟩:=List.getElem?_eq_some_iff.mp a;have g:=List.pairwise_iff_getElem.mp nd;rcases z6 i j with z|z|z
 ·refine absurd ?_ (g i j (by rw [G0];exact b) (by rw [G0];exact d) z);rw [O4,O4,f,c,e]
 ·subst z;rw [k] at a;exact C1 a
 ·refine absurd ?_ (g j i (by rw [G0];exact d) (by rw [G0];exact b) z);rw [O4,O4,f,c,e]
theorem z97 {α β:Type} {R:α->β->Prop} :∀{xs:List α} {ys:List β},All2 R xs ys->∀y∈ys,∃x∈xs,R x y
 | _,_,.cons a r,y,h=>by
  rcases List.mem_cons.mp h with rfl|h
  ·exact ⟨_,.head _,a⟩
  ·obtain ⟨x,b,c⟩:=z97 r y h;exact ⟨x,.tail _ b,c⟩
end
section
def onP (z z':Zt):Prop:=z.on=true/\z'.on=true/\z.lo < z'.lo/\z'.lo < z.hi
def inP (z z':Zt):Prop:=z.on=false/\z'.on=true/\z'.lo < z.lo/\z.hi < z'.hi
noncomputable def kdP:Bool->Zt->Zt->Prop
 | true=>onP
 | false=>inP
def FstP (P:Zt->Zt->Prop) (zl:List Zt) (z z':Zt):Prop:=z∈zl/\z'∈zl/\P z z'/\∀y y',y∈zl->y'∈zl->P y y'->z.lo < y.lo\/(z.lo=y.lo/\z'.lo<=y'.lo)
def NoP (P:Zt->Zt->Prop) (zl:List Zt):Prop:=∀y y',y∈zl->y'∈zl->¬ P y y'
inductive Oc
 | lost (n:Nat)
 | pr (k:Bool) (x y:Int)
 | non
def LosB (rs:List Rc) (r:Rc):Prop:=isRE r=true/\∀t∈ents rs,t.x=intV r.a->((r.e.getD 0:Nat):Int) < t.b
def FstL (rs:List Rc) (n:Nat):Prop:=∃r,rs[n]? = some r/\LosB rs r/\∀(m:Nat) (q:Rc),m < n->rs[m]? = some q->¬ LosB rs q
def NoL (rs:List Rc):Prop:=∀r∈rs,¬ LosB rs r
noncomputable def PrOk (zl:List Zt):Oc->Prop
 | .lost _=>False
 | .pr true x y=>∃z z',FstP onP zl z z'/\x=z.x/\y=z'.x
 | .pr false x y=>NoP onP zl/\∃z z',FstP inP zl z z'/\x=z.x/\y=z'.x
 | .non=>NoP onP zl/\NoP inP zl
noncomputable def OcOk (rs:List Rc):Oc->Prop
 | .lost n=>FstL rs n
 | o=>NoL rs/\∃zl,ZonS rs zl/\PrOk zl o
noncomputable def OcV (H:Hp):Oc->V->Prop
 | .lost n,v=>∃p,v=.ref p/\H p=some (.tup [.str "lost",.int (n:Nat)])
 | .pr k x y,v=>∃p,v=.ref p/\H p=some (.tup [.str (onS k),.int x,.int y])
 | .non,v=>v=.non
theorem zon_lo {n:Nat} {rs:List Rc} (ps:PosI n rs) (nd:((rs.filter isW).map (λ r=>intV r.x)).Nodup) (n0:(0:Int)∉(rs.filter isW).map (λ r=>intV r.x)) {zl:List Zt} (h:ZonS rs zl) :∀z∈zl,∀z'∈zl,z.lo=z'.lo->z=z':=λ z p z' k e=>by obtain ⟨a,f,g,q⟩:=h;obtain ⟨t,l,i⟩:=z97 f z (g.mem_iff.mp p);obtain ⟨s,m,c⟩:=z97 f z' (g.mem_iff.mp k);have b:=(List.mem_filter.mp l).1;have d:=(List.mem_filter.mp m).1;have j:=zn_pos b i;have o:=zn_pos d c;rw [e] at j;have:=ents_x (z44 nd n0) b d (z74 ps j o);subst this;exact zbg i c
theorem zgj {rs:List Rc} {n:Nat} (h:FstL rs n) (h':NoL rs):False:=by obtain ⟨r,a,b,c⟩:=h;exact h' r (d0 a) b
theorem fst_no {P:Zt->Zt->Prop} {zl:List Zt} {z z':Zt} (h:FstP P zl z z') (h':NoP P zl):False:=h' z z' h.1 h.2.1 h.2.2.1
end
section
variable {P:Program} {w:S0} {mg:Str->Option Value} {base:Heap}
noncomputable def colB (z z':Zt):Bool:=if z.on=true then decide (z.lo < z'.lo) && decide (z'.lo < z.hi) else decide (z'.lo < z.lo) && decide (z.hi < z'.hi)
def z69 (K:c0):Sp:=λ vs H Q _=>∃z z' y y',vs=[y,y']/\ZtV H z y/\ZtV H z' y'/\Q (.bl (colB z z')) H
theorem zc5 (T:TX (kx w) mg):Fo P w mg base CX0 1 314 y18 ["zone","other"] (z69 (kx w)):=by
 refine (z56 w.params).ok zct (λ g H Q E h=>?_) (λ l A k s H g Q E m h=>?_)
 ·obtain ⟨z,b,y,i,rfl,_⟩:=h;rfl
 ·obtain ⟨z,b,y,i,rfl,⟨p,rfl,c⟩,⟨f,rfl,d⟩,q⟩:=h;refine ⟨_,(z05 (ps_if (z09 opEq (pe_ix ix_seq (pv 0) pe_int (λ _ _=>rfl)) pe_str (nomark _))
   (z06 (ps_ret (pe_and (z10 op_lt (pe_ix ix_seq (pv 1) pe_int (λ _ _=>rfl)) (pe_ix ix_seq (pv 0) pe_int (λ _ _=>rfl)) (nomark _)) (pe_one (z10 op_lt (pe_ix ix_seq (pv 0) pe_int (λ _ _=>rfl)) (pe_ix ix_seq (pv 1) pe_int (λ _ _=>rfl)) (nomark _))))))
   z0d)
   (z06 (ps_ret (z7t op_lt op_lt (pe_ix ix_seq (pv 0) pe_int (λ _ _=>rfl)) (pe_ix ix_seq (pv 1) pe_int (λ _ _=>rfl)) (pe_ix ix_seq (pv 0) pe_int (λ _ _=>rfl)))))),?_⟩
  have c:=SqT.of (K:=KX w.params) c;have d:=SqT.of (K:=KX w.params) d;refine sq_if ⟨_,rfl,.inr (.inl ⟨p,_,3,.str (onS z.on),rfl,rfl,c,z04 (j:=3) rfl,rfl,_,rfl,?_⟩)⟩;cases hz:z.on with
  | true=>
   refine iteK (t_nx ?_);refine ⟨_,rfl,.inr (.inl ⟨p,_,1,.int z.lo,rfl,rfl,c,z04 (j:=1) rfl,_,rfl,.inr (.inl ⟨f,_,1,.int b.lo,rfl,rfl,d,z04 (j:=1) rfl,_,_,rfl,rfl,_,rfl,ite2 (λ a=>?_) λ a=>?_⟩)⟩)⟩
   ·have e:colB z b=decide (b.lo < z.hi):=by unfold colB;rw [hz,if_pos rfl,a,B7]
    rw [e] at q;exact ⟨_,rfl,.inr (.inl ⟨p,_,2,.int z.hi,rfl,rfl,c,z04 (j:=2) rfl,_,_,rfl,rfl,q⟩)⟩
   ·have e:colB z b=false:=by unfold colB;rw [hz,if_pos rfl,Bool.eq_false_iff.mpr a,r6]
    rw [e] at q;exact q
  | false=>
   refine iteP (by decide +kernel) ?_;refine ⟨_,rfl,.inr (.inl ⟨f,_,1,.int b.lo,rfl,rfl,d,z04 (j:=1) rfl,_,rfl,.inr (.inl ⟨p,_,1,.int z.lo,rfl,rfl,c,z04 (j:=1) rfl,_,_,rfl,rfl,_,rfl,ite2 (λ a=>?_) λ a=>?_⟩)⟩)⟩
   ·have e:colB z b=decide (z.hi < b.hi):=by unfold colB;rw [hz,if_neg (by decide),a,B7]
    rw [e] at q;exact ⟨_,rfl,.inr (.inl ⟨p,_,2,.int z.hi,rfl,rfl,c,z04 (j:=2) rfl,_,rfl,.inr (.inl ⟨f,_,2,.int b.hi,rfl,rfl,d,z04 (j:=2) rfl,_,_,rfl,rfl,q⟩)⟩)⟩
   ·have e:colB z b=false:=by unfold colB;rw [hz,if_neg (by decide),Bool.eq_false_iff.mpr a,r6]
    rw [e] at q;exact q
def z6y (K:c0):Sp:=λ vs H Q _=>∃l zl ys b,vs=[.ref l,.str (onS b)]/\H l=some (.lst ys)/\All2 (ZtV H) zl ys/\zl.length<=100/\∀a ws H',Same H H'->H' a=some (.lst ws)->All2 (ZtV H') (zl.filter λ z=>z.on == b) ws->Q (.ref a) H'
theorem on_eq (b c:Bool):decide (V.str (onS b)=V.str (onS c))=(b == c):=by cases b<;>cases c<;>decide +kernel
theorem zbd (T:TX (kx w) mg):Fo P w mg base CX0 1 307 y17 ["found","kind"] (z6y (kx w)):=by
 refine (z5e w.params).ok zcq (λ G H Q E h=>?_) (λ Z A V s H G Q E C h=>?_)
 ·obtain ⟨l,e,u,b,rfl,_⟩:=h;rfl
 ·obtain ⟨l,e,u,b,rfl,I,B,a0,q⟩:=h;refine ⟨_,(z06 (ps_ret (pe_cg (xs:=["zone"]) (g:=gName 0) (fr:=[(1,"kind")]) (z0n (pv 0)) (λ _ _ _ _ _=>(pg_cn (N:=["zone","kind"]) 0)) (λ _ _ _ _ _=>(pf_one (z09 opEq (pe_ix (z0m (K:=KX w.params) rfl) (pv 0) pe_int (λ _ _=>rfl)) (pv 1) (nomark _)))) (λ _ _ _ _ _=>(pv 0))))),?_⟩;have O:=z03 B;refine sq_ret ?_;refine z0s (K:=KX w.params) (a:=l) (xs:=u) (H1:=H) (λ i=>(e[i]?.map λ z=>z.on == b).getD false) (λ i y S=>∀z,e[i]? = some z->ZtV S z y) (λ _ _ _ _ s z r C=>(z r C).same s) (λ R h=>⟨_,rfl,h⟩) (SqL.of I) (L0 (m:=100) (by omega) (by decide)) (λ i Y v H1 d D KT X k t=>?_) λ L H1 n d F c=>?_
  ·obtain ⟨z,U,p,rfl,M⟩:=z08 B D;have f:=d _ _ M;rw [U] at k t;refine ⟨[some (.ref p)],rfl,rfl,⟨_,rfl,.inr (.inl ⟨p,_,3,.str (onS z.on),rfl,rfl,SqT.of f,z04 (j:=3) rfl,_,rfl,rfl,_,rfl,?_⟩)⟩⟩;refine ite2 (λ y=>⟨_,rfl,k ((on_eq _ _).symm.trans y) _ _ (Same.refl _) λ W J=>by cases J;exact ⟨p,rfl,f⟩⟩) λ y=>t ((on_eq _ _).symm.trans (Bool.eq_false_iff.mpr y)) _ (Same.refl _)
  rw [O] at c;have c:=z4o (q:=λ z:Zt=>z.on == b) _ (C0 _) c;rw [v4] at c;have x:=Same.upd (o:=.lst n) F;exact q L n _ (d.trans x) z01 (z02 (λ _ _ z=>z.same x) c)
theorem zn_x {rs:List Rc} {t:Ent} {z:Zt} (h:ZnR rs t z):z.x=t.x:=by obtain ⟨l,g,_,_,rfl⟩:=h;unfold zOf;split<;>rfl
theorem zon_lt {n:Nat} {rs:List Rc} (ps:PosI n rs) (nd:((rs.filter isW).map (λ r=>intV r.x)).Nodup) (n0:(0:Int)∉(rs.filter isW).map (λ r=>intV r.x)) {zl:List Zt} (h:ZonS rs zl):zl.Pairwise λ z z'=>z.lo < z'.lo:=by
 have k:=zon_lo ps nd n0 h;obtain ⟨a,u,o,l⟩:=h;have e :∀{c:List Ent} {a:List Zt},All2 (ZnR rs) c a->(a.map λ z=>(Sum.inl z.x:Key))=c.map λ t=>(Sum.inl t.x:Key):=by
  intro c a h;induction h with
  | nil=>rfl
  | cons a r ih=>rw [X0,X0,ih,zn_x a]
 have p:(a.map λ z=>(Sum.inl z.x:Key)).Nodup:=by rw [e u];exact (z44 nd n0).sublist ((List.filter_sublist).map _)
 have s:(zl.map λ z=>(Sum.inl z.x:Key)).Nodup:=(o.map _).nodup_iff.mpr p;have q:=List.pairwise_iff_getElem.mp s;have m:=List.pairwise_iff_getElem.mp l;rw [j01];intro i j d b f;have g:=q i j (by rw [G0];exact d) (by rw [G0];exact b) f;rw [O4,O4] at g;have v:=m i j d b f;have w:zl[i].lo≠zl[j].lo:=λ z=>g (by rw [k _ (K5 d) _ (K5 b) z]);omega
theorem pw_lo {xs:List Zt} (pw:xs.Pairwise λ z z'=>z.lo < z'.lo) {i j:Nat} {z y:Zt} (hi:xs[i]? = some z) (hj:xs[j]? = some y) (h:i < j):z.lo < y.lo:=by
 obtain ⟨a,d⟩:=List.getElem?_eq_some_iff.mp hi;obtain ⟨b,c⟩:=List.getElem?_eq_some_iff.mp hj;have:=List.pairwise_iff_getElem.mp pw i j a b h
 rwa [d,c] at this
theorem kd_on {b:Bool} {z z':Zt} (h:kdP b z z'):z.on=b/\z'.on=true:=by
 cases b with
 | true=>exact ⟨h.1,h.2.1⟩
 | false=>exact ⟨h.1,h.2.1⟩
theorem zgd {b:Bool} {z z':Zt} (h:z.on=b) (h':z'.on=true):colB z z'=true↔kdP b z z':=by
 unfold colB;subst h;cases hz:z.on with
 | true=>rw [if_pos rfl,Z3,decide_eq_true_iff,decide_eq_true_iff];exact ⟨λ ⟨a,b⟩=>⟨hz,h',a,b⟩,λ ⟨_,_,a,b⟩=>⟨a,b⟩⟩
 | false=>rw [if_neg (by decide),Z3,decide_eq_true_iff,decide_eq_true_iff];exact ⟨λ ⟨a,b⟩=>⟨hz,h',a,b⟩,λ ⟨_,_,a,b⟩=>⟨a,b⟩⟩
theorem mem_kd {b:Bool} {zl:List Zt} {y:Zt} (h:y∈zl) (e:y.on=b) :∃i:Nat,(zl.filter λ z=>z.on == b)[i]? = some y:=List.mem_iff_getElem?.mp (List.mem_filter.mpr ⟨h,beq_iff_eq.mpr e⟩)
def z2p (K:c0):Sp:=λ vs H Q _=>∃l zl ys,vs=[.ref l]/\H l=some (.lst ys)/\All2 (ZtV H) zl ys/\zl.length<=100/\(zl.Pairwise λ z z'=>z.lo < z'.lo)/\∀o v H',Same H H'->PrOk zl o->OcV H' o v->Q v H'
theorem z6n (T:TX (kx w) mg) (c0:Ca P w mg base "of_kind" ["found","kind"] 1 (z6y (kx w))) (c1:Ca P w mg base "collide" ["zone","other"] 1 (z69 (kx w))):Fo P w mg base CX0 2 302 y0b ["found"] (z2p (kx w)):=by
 refine (z1w w.params).ok sc_first_pair (λ vs H Q E h=>?_) (λ b4 A b3 s H vs Q E I h=>?_)
 ·obtain ⟨l,e,N,rfl,_⟩:=h;rfl
 ·obtain ⟨l,e,N,rfl,el,az,a4,pw,q⟩:=h;refine ⟨_,(z05 (ps_for i3 rfl (pi_tup (pe_tup (z00 pe_str (z00 pe_str pa_nil)))) (z0p (i:=1) sc_first_pair.nd rfl (L1 rfl))
   (z06 (ps_for i3 rfl (z0n (pe_cal c0 (I.mono (by decide)) rfl (z00 (pv 0) (z00 (pv 1) pa_nil)))) (z0p (i:=2) sc_first_pair.nd rfl (L1 rfl))
   (z06 (ps_for i3 rfl (z0n (pe_cal c0 (I.mono (by decide)) rfl (z00 (pv 0) (z00 pe_str pa_nil)))) (z0p (i:=3) sc_first_pair.nd rfl (L1 rfl))
   (z06 (ps_if (pt_val (pe_cal c1 (I.mono (by decide)) rfl (z00 (pv 2) (z00 (pv 3) pa_nil))) (λ _=>rfl))
   (z06 (ps_ret (pe_tup (z00 (pv 1) (z00 (pe_ix ix_seq (pv 2) pe_int (λ _ _=>rfl)) (z00 (pe_ix ix_seq (pv 3) pe_int (λ _ _=>rfl)) pa_nil))))))
   z0d)))))))
   (z06 (ps_ret pe_non))),?_⟩
  refine ⟨w_2,λ tb b2=>?_⟩;obtain ⟨H1,v_,u1,e1⟩:=newA (.tup [.str "on",.str "in"]) b2;rw [<-v_];refine ⟨tb,rfl,⟨_,SqT.of e1⟩,?_⟩;refine zgb (K:=KX w.params) (a:=tb) (xs:=[.str "on",.str "in"]) (λ i σ f=>Same H1 f/\(1<=i->NoP onP e)/\(2<=i->NoP inP e)/\∃x1 x2 x3,σ=[some (.ref l),x1,x2,x3]) ⟨Same.refl _,λ z=>absurd z (by decide),λ z=>absurd z (by decide),_,_,_,rfl⟩ (λ _ σ f _ h=>SqT.of (h.1 _ _ e1)) ?_ ?_;rotate_left
  ·rintro σ H2 ⟨s2,n1,n2,x1,x2,x3,rfl⟩;exact q .non .non _ (u1.trans s2) ⟨n1 (by decide),n2 (by decide)⟩ rfl
  rintro i y σ H2 d ⟨s2,n1,n2,x1,x2,x3,rfl⟩;obtain ⟨b,rfl,a9,S⟩ :∃b,y=V.str (onS b)/\(b=true->i=0)/\(b=false->i=1):=by
   match i,d with
   | 0,d=>cases d;exact ⟨true,rfl,λ _=>rfl,(λ z=>by cases z)⟩
   | 1,d=>cases d;exact ⟨false,rfl,(λ z=>by cases z),λ _=>rfl⟩
  have J:=u1.trans s2;refine g_name ?_;refine ⟨_,rfl,_,rfl,l,e,N,b,rfl,J _ _ el,z02 (λ _ _ z=>z.same J) az,a4,λ a ws H3 Z ea aw=>⟨a,rfl,⟨_,SqL.of ea⟩,?_⟩⟩;have u3:=J.trans Z;have b1:(e.filter λ z=>z.on == b).Pairwise λ z z'=>z.lo < z'.lo:=pw.filter _;have a6:(e.filter λ z=>z.on == true).Pairwise λ z z'=>z.lo < z'.lo:=pw.filter _;refine z1v (K:=KX w.params) (a:=a) (xs:=ws) (λ j σ f=>Same H3 f/\(∀(o:Nat) (z:Zt),o < j->(e.filter λ z=>z.on == b)[o]? = some z->∀z'∈e,¬ kdP b z z')/\∃x2 x3,σ=[some (.ref l),some (.str (onS b)),x2,x3]) ⟨Same.refl _,λ o z h=>absurd h (W5 _),_,_,rfl⟩ (λ _ σ f _ h=>SqL.of (h.1 _ _ ea)) ?_ ?_;rotate_left
  ·rintro σ H4 ⟨s4,nb,x2,x3,rfl⟩;have X:NoP (kdP b) e:=λ y u d G k=>by obtain ⟨j,hj⟩:=mem_kd d (kd_on k).1;exact nb j y (by rw [z03 aw];exact z0j hj) hj u G k
   refine ⟨s2.trans (Z.trans s4),λ h=>?_,λ h=>?_,_,_,_,rfl⟩
   ·cases b with
    | true=>exact X
    | false=>exact n1 (by rw [S rfl];decide)
   ·cases b with
    | true=>have:=a9 rfl;omega
    | false=>exact X
  rintro j v σ H4 hv ⟨s4,nb,x2,x3,rfl⟩;obtain ⟨z,B,zv⟩:=z08 aw hv;have a3:=List.mem_filter.mp (d0 B);have M:=u3.trans s4;refine g_name ?_;refine ⟨_,rfl,l,e,N,true,rfl,M _ _ el,z02 (λ _ _ z=>z.same M) az,a4,λ a2 a7 H5 L O U=>⟨a2,rfl,⟨_,SqL.of O⟩,?_⟩⟩;refine z1v (K:=KX w.params) (a:=a2) (xs:=a7) (λ k σ f=>Same H5 f/\(∀(r:Nat) (z':Zt),r < k->(e.filter λ z=>z.on == true)[r]? = some z'->¬ kdP b z z')/\∃x3,σ=[some (.ref l),some (.str (onS b)),some v,x3]) ⟨Same.refl _,λ r z' h=>absurd h (W5 _),_,rfl⟩ (λ _ σ f _ h=>SqL.of (h.1 _ _ O)) ?_ ?_;rotate_left
  ·rintro σ H6 ⟨s6,nk,x3,rfl⟩;refine ⟨s4.trans (L.trans s6),λ o y h d z' n k=>?_,_,_,rfl⟩;rcases Nat.lt_succ_iff_lt_or_eq.mp h with h|rfl
   ·exact nb o y h d z' n k
   ·rw [B] at d;cases d;obtain ⟨m,g⟩:=mem_kd n (kd_on k).2;exact nk m z' (by rw [z03 U];exact z0j g) g k
  rintro k v' σ H6 a5 ⟨s6,nk,x3,rfl⟩;obtain ⟨z',n,a8⟩:=z08 U a5;have a0:=List.mem_filter.mp (d0 n);have W:=zv.same (s4.trans (L.trans s6));have a1:=a8.same s6;have ci:=zgd (b:=b) (z:=z) (z':=z') (beq_iff_eq.mp a3.2) (beq_iff_eq.mp a0.2);refine g_name ?_;refine z12 ⟨_,rfl,_,rfl,z,z',v,v',rfl,W,a1,_,rfl,ite2 (λ c=>?_) λ c=>?_⟩
  ·have C:=ci.mp c;have Y:FstP (kdP b) e z z':=⟨a3.1,a0.1,C,λ y u d G D=>by
    obtain ⟨m,g⟩:=mem_kd d (kd_on D).1;rcases z6 m j with t|t|t
    ·exact absurd D (nb m y t g u G)
    ·subst t;rw [B] at g;cases g;refine .inr ⟨rfl,?_⟩;obtain ⟨R,F⟩:=mem_kd G (kd_on D).2;rcases z6 R k with t|t|t
     ·exact absurd D (nk R u t F)
     ·subst t;rw [n] at F;cases F;exact L9 _
     ·exact Int.le_of_lt (pw_lo a6 n F t)
    ·exact .inl (pw_lo b1 B g t)⟩
   obtain ⟨p,rfl,ep⟩:=W;obtain ⟨p',rfl,b0⟩:=a1;refine ⟨_,rfl,_,rfl,.inr (.inl ⟨p,_,0,.int z.x,rfl,rfl,SqT.of ep,z04 (j:=0) rfl,_,rfl,.inr (.inl ⟨p',_,0,.int z'.x,rfl,rfl,SqT.of b0,z04 (j:=0) rfl,w_3,λ t ht=>?_⟩)⟩)⟩;refine q (.pr b z.x z'.x) (.ref t) _ (M.trans (L.trans (s6.trans (Same.upd ht)))) ?_ ⟨t,rfl,z01⟩;cases b with
   | true=>exact ⟨z,z',Y,rfl,rfl⟩
   | false=>exact ⟨n1 (by rw [S rfl];decide),z,z',Y,rfl,rfl⟩
  ·refine ⟨s6,λ r y h d C=>?_,_,rfl⟩;rcases Nat.lt_succ_iff_lt_or_eq.mp h with h|rfl
   ·exact nk r y h d C
   ·rw [n] at d;cases d;exact c (ci.mpr C)
theorem zgz {K:c0} {H:Hp} {rs:List Rc} {kvs:List (Key×V)} (wk:All2 (EntAt K H) (ents rs) kvs) (nd:((ents rs).map λ t=>(Sum.inl t.x:Key)).Nodup) (x:Int):(valV kvs (.inl x)=none/\∀t∈ents rs,t.x≠x)\/∃t pw,t∈ents rs/\t.x=x/\valV kvs (.inl x)=some (.ref pw)/\SqT K H pw [.int t.b,endO t.e]:=by
 by_cases h :∃t∈ents rs,t.x=x
 ·obtain ⟨t,a,rfl⟩:=h;obtain ⟨i,l⟩:=List.mem_iff_getElem?.mp a;obtain ⟨g,j,d,pw,c,f⟩:=z25 wk l;obtain ⟨k,v⟩:=g;have d:k=.inl t.x:=d;have c:v=.ref pw:=c;subst d c;exact .inr ⟨t,pw,a,rfl,val_in (by rw [z59 wk];exact nd) (d0 j),f⟩
 ·refine .inl ⟨?_,λ t a e=>h ⟨t,a,e⟩⟩;cases z:valV kvs (.inl x) with
  | none=>rfl
  | some v=>have:=(z4k (kvs:=kvs) (k:=.inl x)).mp (by rw [z];rfl);rw [z59 wk] at this;obtain ⟨t,a,e⟩:=List.mem_map.mp this;exact absurd ⟨t,a,N4 e⟩ h
theorem zg3 {rs:List Rc} {r:Rc} (h:isRE r=true) (n :∀t∈ents rs,t.x≠intV r.a):LosB rs r:=⟨h,λ t b e=>absurd e (n t b)⟩
theorem zf7 {rs:List Rc} {r:Rc} (nd:((ents rs).map λ t=>(Sum.inl t.x:Key)).Nodup) (h:isRE r=true) {t:Ent} (ht:t∈ents rs) (e:t.x=intV r.a):LosB rs r↔((r.e.getD 0:Nat):Int) < t.b:=⟨λ l=>l.2 t ht e,λ l=>⟨h,λ f d c=>by rw [ents_x nd d ht (c.trans e.symm)];exact l⟩⟩
theorem idx_lt {n k i m:Nat} {p:Nat->Bool} (h:((N1 n).filter p)[k]? = some i) (hm:m < i) (hp:p m=true) :∃k',k' < k/\((N1 n).filter p)[k']? = some m:=by
 have g:=List.mem_range.mp (List.mem_filter.mp (d0 h)).1;obtain ⟨k',b⟩:=List.mem_iff_getElem?.mp (List.mem_filter.mpr ⟨List.mem_range.mpr (A6 hm g),hp⟩);refine ⟨k',?_,b⟩;have f:=List.pairwise_iff_getElem.mp ((O7 (n:=n)).filter p);obtain ⟨e,c⟩:=List.getElem?_eq_some_iff.mp h;obtain ⟨d,a⟩:=List.getElem?_eq_some_iff.mp b;rcases z6 k' k with z|z|z
 ·exact z
 ·subst z;rw [c] at a;omega
 ·have:=f k k' e d z;rw [c,a] at this;omega
theorem oc_of {rs:List Rc} {zl:List Zt} {o:Oc} (n:NoL rs) (z:ZonS rs zl) (p:PrOk zl o):OcOk rs o:=by
 cases o with
 | lost _=>exact p.elim
 | pr k x y=>exact ⟨n,zl,z,p⟩
 | non=>exact ⟨n,zl,z,p⟩
theorem zgp {rs:List Rc} {zl:List Zt} (h:ZonS rs zl):zl.length<=rs.length + 1:=by obtain ⟨a,c,b,_⟩:=h;rw [b.length_eq,z03 c];exact L0 (O1 _ _) (z7i rs)
def z33 (K:c0):Sp:=λ vs H Q _=>∃t nm wr es ys,vs=[.ref t]/\TalR K H t nm wr es ys/\LamH H/\∀o v H',SameB tbT H H'->LamH H'->OcOk (dAll 0 [] es) o->OcV H' o v->Q v H'
theorem z7l (T:TX (kx w) mg) (c0:Ca P w mg base "plain_deeds" ["tale"] 4 (z13 (kx w))) (c1:Ca P w mg base "writers" ["told"] 1 (z3c (kx w))) (c2:Ca P w mg base "ended_reads" ["told"] 1 (z16 (kx w))) (c3:Ca P w mg base "zones" ["tale"] 6 (zba (kx w))) (c4:Ca P w mg base "first_pair" ["found"] 2 (z2p (kx w))):Fo P w mg base CX0 7 295 y0i ["tale"] (z33 (kx w)):=by
 refine (z2m w.params).ok sc_collision (λ vs H Q E h=>?_) (λ b9 A b8 s H vs Q E c h=>?_)
 ·obtain ⟨t,nm,O,G,ys,rfl,_⟩:=h;rfl
 ·obtain ⟨t,nm,O,G,ys,rfl,M,lm,q⟩:=h;refine ⟨_,(z05 (ps_set (i:=1) sc_collision.nd rfl (L1 rfl) (pe_cal c0 (c.mono (by decide)) rfl (z00 (pv 0) pa_nil)))
   (z05 (ps_set (i:=2) sc_collision.nd rfl (L1 rfl) (pe_cal c1 (c.mono (by decide)) rfl (z00 (pv 1) pa_nil)))
   (z05 (ps_for i3 rfl (z0n (pe_cal c2 (c.mono (by decide)) rfl (z00 (pv 1) pa_nil))) (pg_tup rfl (z0i (z0p (i:=3) sc_collision.nd rfl (L1 rfl)) (z0i (z0p (i:=4) sc_collision.nd rfl (L1 rfl)) z1o)))
   (z06 (ps_if (PW.pt (pw_or (pt_cmp (z87 (hu_of c) (pe_ix ix_seq (pv 4) pe_int (λ _ _=>rfl)) (pv 2)) (by with_unfolding_all rfl)) (pw_or1 (z09 op_lt (pe_ix ix_seq (pv 4) pe_int (λ _ _=>rfl)) (pe_ix ix_seq (zbm (hu_of c) (pv 2) (pe_ix ix_seq (pv 4) pe_int (λ _ _=>rfl)) (λ _ _=>rfl)) pe_int (λ _ _=>rfl)) (nomark _)))))
   (z06 (ps_ret (pe_tup (z00 pe_str (z00 (pv 3) pa_nil)))))
   z0d)))
   (z06 (ps_ret (pe_cal c4 (c.mono (by decide)) rfl (z00 (pe_cal c3 (c.mono (by decide)) rfl (z00 (pv 0) pa_nil)) pa_nil))))))),?_⟩
  have ps:=PosI.all G PosI.nil;have nd:=M.tw.nd;have n0:=M.tw.n0;have b2:(dAll 0 [] G).length<=62:=L0 z5l (by simpa using M.ln);refine z0b ⟨_,rfl,t,nm,O,G,ys,rfl,M,λ l zs H1 s1 X=>g_name ?_⟩;generalize hrs:dAll 0 [] G=rs at X nd n0 q b2 ps;have a7:=z44 nd n0;refine z0b ⟨_,rfl,l,zs,rs,O,rfl,X,nd,n0,λ d Y H2 s2 hd ed wk=>g_name ?_⟩;have u2:=s1.trans s2;have a6:=X.same s2;refine ⟨_,rfl,l,zs,rs,O,rfl,a6,λ la ws H3 U a2 aw=>⟨la,rfl,⟨_,SqL.of a2⟩,?_⟩⟩;have u3:=u2.trans U;have a1:=a6.same U;have b0:All2 (EntAt (kx w) H3) (ents rs) Y:=z02 (λ _ _ z=>z.tups (Tups.of U)) wk;have b1:=U _ _ ed;refine z1v (K:=KX w.params) (a:=la) (xs:=ws) (λ k σ B=>Same H3 B/\(∀(f i:Nat),f < k->((N1 rs.length).filter λ i=>isRE (rs[i]?.getD r00))[f]? = some i->¬ LosB rs (rs[i]?.getD r00))/\∃x3 x4,σ=[some (.ref t),some (.ref l),some (.ref d),x3,x4]) ⟨Same.refl _,λ f i h=>absurd h (W5 _),_,_,rfl⟩ (λ _ σ B _ h=>SqL.of (h.1 _ _ a2)) ?_ ?_;rotate_left
  ·rintro σ I ⟨s4,nl,x3,x4,rfl⟩;have no:NoL rs:=λ r c F=>by obtain ⟨i,C⟩:=List.mem_iff_getElem?.mp c;obtain ⟨k,J⟩:=List.mem_iff_getElem?.mp ((List.mem_filter (p:=λ i=>isRE (rs[i]?.getD r00))).mpr ⟨List.mem_range.mpr (z0j C),show isRE (rs[i]?.getD r00)=true by rw [getD_some C];exact F.1⟩);refine nl k i (by rw [z03 aw];exact z0j J) J ?_;rw [getD_some C];exact F
   have L:=u3.trans s4;refine ⟨_,rfl,t,nm,O,G,ys,rfl,M.same L,LamH.same L lm,λ D b5 zl H5 sb a9 nD eD S az=>?_⟩;rw [hrs] at S;have b7:=zgp S;refine ⟨D,zl,b5,rfl,eD,az,by omega,zon_lt ps nd n0 S,λ o v H6 s6 pr ov=>q o v H6 (SameB.trans (SameB.of L) (SameB.trans sb (SameB.of s6))) (LamH.same s6 a9) (oc_of no S pr) ov⟩
  rintro k y σ I hy ⟨s4,nl,x3,x4,rfl⟩;obtain ⟨i,C,p,z,rfl,ep,hz⟩:=z08 aw hy;obtain ⟨r,c,pz,rfl,b6⟩:=z08 a1.a hz;have hm:=List.mem_filter.mp (d0 C);have Z:isRE r=true:=by have:=hm.2;rw [getD_some c] at this;exact this
  obtain ⟨rv,a3⟩:=re_end Z;have ra:r.a=.int (intV r.a):=by
   rcases a1.g r (d0 c) with g|g
   ·exact g.2.2 _ a3
   ·exact absurd (rv.symm.trans g.1) z11
  have L:=u3.trans s4;have a0:=s4.seqT b6;have a5:=s4 _ _ b1;have a8:LosB rs r->∀B,Same I B->∀u,B u=none->Q (.ref u) (upd B u (.tup [.str "lost",.int (i:Nat)])):=λ F B s' u N=>by have v:=s'.trans (Same.upd (o:=.tup [.str "lost",.int (i:Nat)]) N);refine q (.lost i) (.ref u) _ (SameB.of (L.trans v)) (LamH.same (L.trans v) lm) ⟨r,c,F,λ m q' b4 hq lq=>?_⟩ ⟨u,rfl,z01⟩;obtain ⟨f,h1,h2⟩:=idx_lt C b4 (show isRE (rs[m]?.getD r00)=true by rw [getD_some hq];exact lq.1);refine nl f m h1 h2 ?_;rw [getD_some hq];exact lq
  have next:¬ LosB rs r->∀(f R:Nat),f < k + 1->((N1 rs.length).filter λ i=>isRE (rs[i]?.getD r00))[f]? = some R->¬ LosB rs (rs[R]?.getD r00):=λ nb f R h J=>by
   rcases Nat.lt_succ_iff_lt_or_eq.mp h with h|rfl
   ·exact nl f R h J
   ·rw [C] at J;cases J;rw [getD_some c];exact nb
  refine ⟨p,_,rfl,SqT.of (s4 _ _ ep),rfl,_,_,rfl,_,_,rfl,rfl,?_⟩;have b3:All2 (EntAt (kx w) I) (ents rs) Y:=z02 (λ _ _ z=>z.tups (Tups.of s4)) b0;have a4:atI [V.int r.h,r.n,r.v,r.x,r.a,.int r.b,endV r.e] 4=some (.int (intV r.a)):=by rw [<-ra];exact z04 (j:=4) rfl
  have e6:atI [V.int r.h,r.n,r.v,r.x,r.a,.int r.b,endV r.e] 6=some (.int ((r.e.getD 0:Nat):Int)):=by rw [a3];exact z04 (j:=6) rfl
  refine z12 (t_or ⟨_,rfl,.inr (.inl ⟨pz,_,4,.int (intV r.a),rfl,rfl,a0,a4,_,rfl,d,_,rfl,DGet.k (k:=.inl (intV r.a)) a5,_,rfl,?_⟩)⟩);rcases zgz b3 a7 (intV r.a) with ⟨W,hn⟩|⟨te,pw,hte,hx,W,sw⟩
  ·rw [W];exact iteP rfl ⟨_,rfl,w_2,λ u N=>a8 (zg3 Z hn) I (Same.refl _) u N⟩
  ·have dg:DGet I d (.int (intV r.a)) (some (.ref pw)):=.inl ⟨Y,.inl (intV r.a),.inl a5,rfl,W.symm⟩;have li:=zf7 (r:=r) a7 Z hte hx;rw [W];refine iteN (λ z=>N0 z) ⟨_,rfl,.inr (.inl ⟨pz,_,6,_,rfl,rfl,a0,e6,_,rfl,_,rfl,.inr (.inl ⟨pz,_,4,.int (intV r.a),rfl,rfl,a0,a4,d,_,rfl,dg,.inr (.inl ⟨pw,_,0,.int te.b,rfl,rfl,sw,z04 (j:=0) rfl,_,_,rfl,rfl,_,rfl,ite2 (λ z=>?_) λ z=>?_⟩)⟩)⟩)⟩
   ·exact ⟨_,rfl,w_2,λ u N=>a8 (li.mpr (of_decide_eq_true z)) I (Same.refl _) u N⟩
   ·exact ⟨s4,next λ F=>z (decide_eq_true (li.mp F)),_,_,rfl⟩
end
section
def Cvx (l:List Int):Prop:=∀(i j k:Nat) (w:Int),i<=j->j<=k->l[i]? = some w->l[k]? = some w->l[j]? = some w
theorem z6s {α:Type} {l:List α} {c x:α} {i:Nat}:(l++[c])[i]? = some x->l[i]? = some x\/(i=l.length/\x=c):=λ q=>by
 rw [y8] at q;split at q
 ·exact .inl q
 ·rename_i z;obtain ⟨y,_⟩:=List.getElem?_eq_some_iff.mp q;rw [T3] at y;have:i - l.length=0:=by omega
  rw [this] at q;cases q;exact .inr ⟨by omega,rfl⟩
theorem z3l {α:Type} {l:List α} {c x:α} {i:Nat} (h:l[i]? = some x):(l++[c])[i]? = some x:=by rw [X2 (z0j h)];exact h
theorem at_end {α:Type} {l:List α} {c:α}:(l++[c])[l.length]? = some c:=by rw [V2 (C0 _),Nat.sub_self];rfl
theorem Cvx.snoc {l:List Int} {n:Nat} {now c:Int} (v:Cvx l) (hn:l.length=n + 1) (h:l[n]? = some now) (hc:c=now\/c∉l):Cvx (l++[c]):=λ i j k w d f a b=>by
 rcases z6s b with b|⟨rfl,rfl⟩
 ·have g:=z0j b;rcases z6s a with a|⟨rfl,rfl⟩
  ·exact z3l (v i j k w d f a b)
  ·omega
 ·by_cases e:j=l.length
  ·subst e;exact at_end
  ·rcases z6s a with a|⟨rfl,_⟩
   ·rcases hc with rfl|hc
    ·exact z3l (v i j n w d (by omega) a h)
    ·exact absurd (d0 a) hc
   ·omega
noncomputable def wth (r:Rc):Int:=if isW r=true then intV r.x else intV r.a
structure StH (fb fe:Int->Int) (l:List Int) (rs:List Rc):Prop where
 z:l[0]? = some 0
 cv:Cvx l
 m :∀i j:Int,i<=j->fe i<=fe j
 eb :∀i j:Int,i < j->fe i < fb j
 b2:fb (-2)<=0
 e1:0<=fe (-1)
 tk :∀(p:Nat) (w:Int),l[p]? = some w->w=0\/∃r∈rs,isW r=true/\intV r.x=w/\fb (r.b:Int)<=(p:Int)
 en :∀r∈rs,∀e:Nat,r.e=some e->∃p:Nat,fb (r.b:Int)<=(p:Int)/\(p:Int)<=fe (e:Int)/\l[p]? = some (wth r)
theorem zeo {fb fe:Int->Int} {l:List Int} {rs:List Rc} (st:StH fb fe l rs) (nd:((ents rs).map λ t=>(Sum.inl t.x:Key)).Nodup) {t:Ent} (ht:t∈ents rs) (hc:(spans rs t).filterMap (·.2)≠[]) {s:Int×Option Int} (hs:s∈spans rs t) :∃q:Nat,fb s.1<=q/\(∀e,s.2=some e->(q:Int)<=fe e)/\l[q]? = some t.x:=by
 have o :∀r∈rdsF rs t.x,∃q:Nat,fb (r.b:Int)<=q/\(∀e,(spR r).2=some e->(q:Int)<=fe e)/\l[q]? = some t.x:=λ r k=>by
  obtain ⟨y,D⟩:=List.mem_filter.mp k;obtain ⟨v,A⟩:=List.mem_filter.mp y;obtain ⟨u,c⟩:=re_end A;obtain ⟨p,j,h,d⟩:=st.en r v _ c;have i:wth r=t.x:=by unfold wth;rw [if_neg (by unfold isW;rw [u,decide_eq_false z11];decide)];exact of_decide_eq_true D
  rw [i] at d;refine ⟨p,j,λ e f=>?_,d⟩;unfold spR at f;rw [c] at f;have f:some ((r.e.getD 0:Nat):Int)=some e:=f;cases f;exact h
 rcases List.mem_cons.mp hs with rfl|hs
 ·rcases ents_mem.mp ht with rfl|⟨w,hw,wi,rfl⟩
  ·exact ⟨0,st.b2,λ e c=>by cases c;exact st.e1,st.z⟩
  ·cases c:w.e with
   | some e=>
    obtain ⟨p,j,h,d⟩:=st.en w hw e c;have i:wth w=intV w.x:=by unfold wth;rw [if_pos wi]
    rw [i] at d;refine ⟨p,j,λ g a=>?_,d⟩;have a:w.e.map (λ n=>(n:Int))=some g:=a;rw [c] at a;have a:(e:Int)=g:=C1 a;rw [<-a];exact h
   | none=>
    rw [zh5] at hc;have B:(entW w).e.toList=[]:=by show (w.e.map λ n=>(n:Int)).toList=[];rw [c];rfl
    rw [B,List.nil_append] at hc;obtain ⟨r,E,C⟩:=B5 (λ z=>hc (by rw [z];rfl):rdsF rs (entW w).x≠[]);obtain ⟨q,_,_,m⟩:=o r (by rw [C];exact .head _);refine ⟨q,?_,λ g a=>?_,m⟩
    ·rcases st.tk q _ m with z|⟨r',k1,k2,k3,k4⟩
     ·have:=ents_x nd ht (ents_mem.mpr (.inl rfl)) z;rw [this];have F:=st.b2;show fb (-2)<=q;omega
     ·have:=ents_x nd ht (ents_mem.mpr (.inr ⟨r',k1,k2,rfl⟩)) k3.symm;rw [this];exact k4
    ·have a:w.e.map (λ n=>(n:Int))=some g:=a;rw [c] at a;cases a
 ·obtain ⟨r,k,rfl⟩:=List.mem_map.mp hs;exact o r k
theorem z8w {fb fe:Int->Int} {l:List Int} {rs:List Rc} (st:StH fb fe l rs) (nd:((ents rs).map λ t=>(Sum.inl t.x:Key)).Nodup) {t:Ent} (ht:t∈ents rs) (hc:(spans rs t).filterMap (·.2)≠[]) {z:Zt} (hz:ZnR rs t z) :
  z.x=t.x/\((z.on=true/\0<=fe z.lo/\z.lo < z.hi/\∀q:Nat,fe z.lo<=q->(q:Int)<=fb z.hi->l[q]? = some t.x)\/(z.on=false/\∃q q':Nat,q<=q'/\(q:Int)<=fe z.hi/\fb z.lo<=q'/\∀k,q<=k->k<=q'->l[k]? = some t.x)):=by
 obtain ⟨lo,g,⟨v,w⟩,⟨p,A⟩,rfl⟩:=hz;obtain ⟨B,s,o⟩:=List.mem_filterMap.mp v;obtain ⟨C,r,n⟩:=List.mem_map.mp p;obtain ⟨b,_,c,h⟩:=zeo st nd ht hc s;obtain ⟨a,e,_,d⟩:=zeo st nd ht hc r;have c:=c lo o;rw [n] at e;unfold zOf;by_cases y:lo < g
 ·rw [if_pos y];refine ⟨rfl,.inl ⟨rfl,by show 0<=fe lo;omega,y,λ q f i=>?_⟩⟩;have f:fe lo<=q:=f;have i:(q:Int)<=fb g:=i;exact st.cv b q a _ (by omega) (by omega) h d
 ·rw [if_neg y];refine ⟨rfl,.inr ⟨rfl,?_⟩⟩;show∃q q':Nat,q<=q'/\(q:Int)<=fe lo/\fb g<=q'/\_;rcases Nat.lt_or_ge a b with u|u
  ·exact ⟨a,a,C0 _,by omega,e,λ k m j=>by rw [show k=a by omega];exact d⟩
  ·exact ⟨b,a,u,c,e,λ k m j=>st.cv b k a _ m j h d⟩
theorem z1r {rs:List Rc} {zl:List Zt} (h:ZonS rs zl) {z:Zt} (hz:z∈zl) :∃t,t∈ents rs/\(spans rs t).filterMap (·.2)≠[]/\ZnR rs t z:=by obtain ⟨a,g,e,i⟩:=h;obtain ⟨t,d,f⟩:=z97 g z (e.mem_iff.mp hz);obtain ⟨b,c⟩:=List.mem_filter.mp d;exact ⟨t,b,of_decide_eq_true c,f⟩
theorem zon_of {rs:List Rc} {zl:List Zt} (h:ZonS rs zl) {t:Ent} (ht:t∈ents rs) (hc:(spans rs t).filterMap (·.2)≠[]) :∃z∈zl,ZnR rs t z:=by obtain ⟨a,b,c,f⟩:=h;obtain ⟨i,d⟩:=List.mem_iff_getElem?.mp (List.mem_filter.mpr ⟨ht,decide_eq_true hc⟩:t∈(ents rs).filter (cntB rs));obtain ⟨z,e,r⟩:=z25 b d;exact ⟨z,c.mem_iff.mpr (d0 e),r⟩
theorem no_col {fb fe:Int->Int} {l:List Int} {rs:List Rc} (st:StH fb fe l rs) (nd:((rs.filter isW).map (λ r=>intV r.x)).Nodup) (n0:(0:Int)∉(rs.filter isW).map (λ r=>intV r.x)) {o:Oc} (h:OcOk rs o):o=.non:=by
 have w:=z44 nd n0;have one :∀{c:List Zt},ZonS rs c->∀{z g:Zt},z∈c->g∈c->z.x=g.x->z=g:=λ {c} d {z g} n i e=>by obtain ⟨t,A,C,s⟩:=z1r d n;obtain ⟨J,v,B,u⟩:=z1r d i;have:=ents_x w A v (by rw [<-zn_x s,<-zn_x u];exact e);subst this;exact zbg s u
 have W:NoL rs:=λ r V ⟨l1,l2⟩=>by
  obtain ⟨K,O⟩:=re_end l1;obtain ⟨p,Z,X,I⟩:=st.en r V _ O;have N:wth r=intV r.a:=by unfold wth;rw [if_neg (by unfold isW;rw [K,decide_eq_false z11];decide)]
  rw [N] at I;rcases st.tk p _ I with z|⟨q,q1,q2,q3,q4⟩
  ·have:=l2 ent0 (ents_mem.mpr (.inl rfl)) z.symm;have:((r.e.getD 0:Nat):Int) < -2:=this;omega
  ·have:=l2 (entW q) (ents_mem.mpr (.inr ⟨q,q1,q2,rfl⟩)) q3;have:=st.eb _ _ (show ((r.e.getD 0:Nat):Int) < q.b from this);omega
 have U :∀c,ZonS rs c->NoP onP c:=λ c d z g n i ⟨o1,o2,o3,o4⟩=>by
  obtain ⟨t,A,C,s⟩:=z1r d n;obtain ⟨J,v,B,u⟩:=z1r d i;obtain ⟨F,⟨_,S,R,G⟩|⟨k,_⟩⟩:=z8w st w A C s
  ·obtain ⟨H,⟨_,M,D,E⟩|⟨j,_⟩⟩:=z8w st w v B u
   ·have T:=st.m _ _ (Int.le_of_lt o3);have L:=st.eb _ _ o4;have Q:=st.eb _ _ D;have a:=G (fe g.lo).toNat (by omega) (by omega);have b:=E (fe g.lo).toNat (by omega) (by omega);rw [a] at b;cases one d n i (by rw [F,H];exact C1 b);omega
   ·rw [o2] at j;cases j
  ·rw [o1] at k;cases k
 have P :∀c,ZonS rs c->NoP inP c:=λ c d z g n i ⟨o1,o2,o3,o4⟩=>by
  obtain ⟨t,A,C,s⟩:=z1r d n;obtain ⟨J,v,B,u⟩:=z1r d i;obtain ⟨F,⟨k,_⟩|⟨_,q,Y,k0,S,R,G⟩⟩:=z8w st w A C s
  ·rw [o1] at k;cases k
  ·obtain ⟨H,⟨_,M,D,E⟩|⟨j,_⟩⟩:=z8w st w v B u
   ·have T:=st.eb _ _ o3;have L:=st.eb _ _ o4;have Q:=st.eb _ _ D;have b:=E (max q (fe g.lo).toNat) (by omega) (by omega);rw [G (max q (fe g.lo).toNat) (by omega) (by omega)] at b;cases one d n i (by rw [F,H];exact C1 b);rw [o1] at o2;cases o2
   ·rw [o2] at j;cases j
 match o,h with
 | .lost k,f=>exact (zgj f W).elim
 | .pr true x y,⟨_,c,d,z,g,f,_,_⟩=>exact (fst_no f (U c d)).elim
 | .pr false x y,⟨_,c,d,_,z,g,f,_,_⟩=>exact (fst_no f (P c d)).elim
 | .non,_=>rfl
end
section
theorem zdk {α γ:Type} (f:α->γ) {l:List α} (nd:(l.map f).Nodup) {x y:α} (hx:x∈l) (hy:y∈l) (e:f x=f y):x=y:=by
 induction l with
 | nil=>exact absurd hx B0
 | cons a l ih=>
  rw [X0,G9] at nd;rcases List.mem_cons.mp hx with hx|hx
  ·rcases List.mem_cons.mp hy with hy|hy
   ·rw [hx,hy]
   ·exact absurd (List.mem_map.mpr ⟨y,hy,by rw [<-e,hx]⟩) nd.1
  ·rcases List.mem_cons.mp hy with hy|hy
   ·exact absurd (List.mem_map.mpr ⟨x,hx,by rw [e,hy]⟩) nd.1
   ·exact ih nd.2 hx hy
theorem rd_wth {r:Rc} (h:isW r=false):wth r=intV r.a:=by unfold wth;rw [if_neg (by rw [h];decide)]
theorem wr_wth {r:Rc} (h:isW r=true):wth r=intV r.x:=by unfold wth;rw [if_pos h]
theorem w_uniq {rs:List Rc} (nd:((rs.filter isW).map (λ r=>intV r.x)).Nodup) {w w':Rc} (h:w∈rs) (hi:isW w=true) (h':w'∈rs) (hi':isW w'=true) (e:intV w.x=intV w'.x):w=w':=zdk _ nd (List.mem_filter.mpr ⟨h,hi⟩) (List.mem_filter.mpr ⟨h',hi'⟩) e
theorem w_n0 {rs:List Rc} (n0:(0:Int)∉(rs.filter isW).map (λ r=>intV r.x)) {w:Rc} (h:w∈rs) (hi:isW w=true):intV w.x≠0:=λ e=>n0 (List.mem_map.mpr ⟨w,List.mem_filter.mpr ⟨h,hi⟩,e⟩)
inductive Go (rs:List Rc):List Nat->Int->Prop
 | nil:Go rs [] 0
 | snoc {ks:List Nat} {now:Int} {k:Nat} {r:Rc}:Go rs ks now->rs[k]? = some r->k∉ks->(isW r=false->r.e≠none/\intV r.a=now)->(∀(j:Nat) (q:Rc) (e:Nat),rs[j]? = some q->q.e=some e->e < r.b->j∈ks)->Go rs (ks++[k]) (if isW r=true then intV r.x else now)
def AllE (rs:List Rc) (ks:List Nat):Prop:=∀(j:Nat) (q:Rc) (e:Nat),rs[j]? = some q->q.e=some e->j∈ks
def Strict (rs:List Rc):Prop:=∃ks now,Go rs ks now/\AllE rs ks
structure GoI (rs:List Rc) (ks:List Nat) (now:Int) (ts:List Nat) (l:List Int):Prop where
 n:ts.length=ks.length
 s:ts.Pairwise (·<=·)
 ll:l.length=ks.length + 1
 z:l[0]? = some 0
 nw:l[ks.length]? = some now
 cv:Cvx l
 bg :∀t∈ts,∃k r,k∈ks/\rs[k]? = some r/\t=r.b
 at_ :∀(i k:Nat) (r:Rc),ks[i]? = some k->rs[k]? = some r->∃t,ts[i]? = some t/\r.b<=t/\(∀e,r.e=some e->t<=e)/\l[i + 1]? = some (wth r)
 tk :∀(p:Nat) (w:Int),l[p]? = some w->w=0\/∃(i k:Nat) (r:Rc),ks[i]? = some k/\rs[k]? = some r/\isW r=true/\intV r.x=w/\i + 1<=p
 dp :∀k∈ks,∀r,rs[k]? = some r->∀(j:Nat) (q:Rc) (e:Nat),rs[j]? = some q->q.e=some e->e < r.b->j∈ks
theorem zbo :∀(ts:List Nat) (b:Nat),(∀t∈ts,t<=ts.foldl max b)/\b<=ts.foldl max b/\(ts.foldl max b=b\/ts.foldl max b∈ts)
 | [],b=>⟨λ _ h=>absurd h B0,C0 _,.inl rfl⟩
 | t :: ts,b=>by
  obtain ⟨c,e,a⟩:=zbo ts (max b t);rw [a8];refine ⟨λ u d=>?_,by omega,?_⟩
  ·rcases List.mem_cons.mp d with z|z
   ·rw [z];omega
   ·exact c u z
  ·rcases a with z|z
   ·rcases Nat.le_total b t with y|y
    ·exact .inr (by rw [z,Nat.max_eq_right y];exact .head _)
    ·exact .inl (by rw [z,Nat.max_eq_left y])
   ·exact .inr (.tail _ z)
theorem Go.inv {rs:List Rc} {n:Nat} (ps:PosI n rs) (eb :∀r∈rs,∀e,r.e=some e->r.b<=e) (nd:((rs.filter isW).map (λ r=>intV r.x)).Nodup) (n0:(0:Int)∉(rs.filter isW).map (λ r=>intV r.x)) {ks:List Nat} {now:Int} (h:Go rs ks now) :∃ts l,GoI rs ks now ts l:=by
 induction h with
 | nil=>
  refine ⟨[],[0],rfl,.nil,rfl,rfl,rfl,λ i j k w g d K o=>?_,λ _ h=>absurd h B0,λ i k r h=>by simp at h,λ p w h=>?_,λ _ h=>absurd h B0⟩
  ·have:=z0j o;have e:k=0:=by rw [T3] at this;omega
   subst e;have e:j=0:=by omega
   subst e;exact o
  ·have:=z0j h;have e:p=0:=by rw [T3] at this;omega
   subst e;cases h;exact .inl rfl
 | @snoc ks now k r _ hr o C hd ih=>
  obtain ⟨ts,l,I⟩:=ih;obtain ⟨L,J,F⟩:=zbo ts r.b;have G:=d0 hr;generalize ts.foldl max r.b=t at L J F;have N:(if isW r=true then intV r.x else now)=wth r:=by
   cases w:isW r with
   | true=>rw [if_pos rfl,wr_wth w]
   | false=>rw [if_neg (by decide),rd_wth w,(C w).2]
  rw [N];have D:=I.ll;have M :∀e,r.e=some e->t<=e:=λ e B=>by
   rcases F with z|z
   ·rw [z];exact eb r G e B
   ·obtain ⟨f,c,g,d,rfl⟩:=I.bg t z;exact K7 λ lt=>o (I.dp f g c d k r e hr B lt)
  refine ⟨ts++[t],l++[wth r],by rw [J0,J0,I.n];rfl,List.pairwise_append.mpr ⟨I.s,j0f _ _,λ a C b S=>by rw [List.mem_singleton.mp S];exact L a C⟩,by rw [J0,J0,D];rfl,z3l I.z,?_,I.cv.snoc D I.nw ?_,λ u Q=>?_,λ i f c K m=>?_,λ p w E=>?_,λ f R c m j q e H B lt=>?_⟩
  ·rw [J0,T3,<-D];exact at_end
  ·cases w:isW r with
   | false=>exact .inl (by rw [rd_wth w,(C w).2])
   | true=>
    refine .inr λ z=>?_;rw [wr_wth w] at z;obtain ⟨p,E⟩:=List.mem_iff_getElem?.mp z;rcases I.tk p _ E with y|⟨i,f,c,g,d,v,A,_⟩
    ·exact w_n0 n0 G w y
    ·have O:=w_uniq nd (d0 d) v G w A;subst O;rw [ps.bb k f c c hr d rfl] at o;exact o (d0 g)
  ·rcases List.mem_append.mp Q with z|z
   ·obtain ⟨f,c,g,d⟩:=I.bg u z;exact ⟨f,c,List.mem_append.mpr (.inl g),d⟩
   ·rw [List.mem_singleton.mp z];rcases F with y|y
    ·exact ⟨k,r,List.mem_append.mpr (.inr (.head _)),hr,y⟩
    ·obtain ⟨f,c,g,d⟩:=I.bg t y;exact ⟨f,c,List.mem_append.mpr (.inl g),d⟩
  ·rcases z6s K with z|⟨rfl,rfl⟩
   ·obtain ⟨P,g,d,v,A⟩:=I.at_ i f c z m;exact ⟨P,z3l g,d,v,z3l A⟩
   ·rw [hr] at m;cases m;exact ⟨t,by rw [<-I.n];exact at_end,J,M,by rw [<-D];exact at_end⟩
  ·rcases z6s E with z|⟨e1,e2⟩
   ·rcases I.tk p w z with y|⟨i,f,c,g,d⟩
    ·exact .inl y
    ·exact .inr ⟨i,f,c,z3l g,d⟩
   ·cases w':isW r with
    | true=>exact .inr ⟨ks.length,k,r,at_end,hr,w',by rw [e2,wr_wth w'],by omega⟩
    | false=>
     have T:w=now:=by rw [e2,rd_wth w',(C w').2]
     rcases I.tk ks.length w (by rw [T];exact I.nw) with y|⟨i,f,c,g,d,v,A,h5⟩
     ·exact .inl y
     ·exact .inr ⟨i,f,c,z3l g,d,v,A,by omega⟩
  ·rcases List.mem_append.mp R with z|z
   ·exact List.mem_append.mpr (.inl (I.dp f z c m j q e H B lt))
   ·rw [List.mem_singleton.mp z] at m;rw [hr] at m;cases m;exact List.mem_append.mpr (.inl (hd j q e H B lt))
theorem z96 {ts:List Nat} (s:ts.Pairwise (·<=·)) {i j t u:Nat} (hi:ts[i]? = some t) (hj:ts[j]? = some u) (h:i<=j):t<=u:=by
 rcases T4 h with z|z
 ·obtain ⟨a,rfl⟩:=List.getElem?_eq_some_iff.mp hi;obtain ⟨b,rfl⟩:=List.getElem?_eq_some_iff.mp hj;exact List.pairwise_iff_getElem.mp s i j a b z
 ·subst z;rw [hi] at hj;cases hj;exact C0 _
theorem cnt_lt {ts:List Nat} (s:ts.Pairwise (·<=·)) {i t:Nat} {x:Int} (hi:ts[i]? = some t) (h:x<=t):ts.countP (λ u:Nat=>decide ((u:Int) < x))<=i:=by
 rw [<-f8 i ts,List.countP_append];have:(ts.drop i).countP (λ u:Nat=>decide ((u:Int) < x))=0:=List.countP_eq_zero.mpr λ u b z=>by obtain ⟨j,a⟩:=List.mem_iff_getElem?.mp b;rw [List.getElem?_drop] at a;have:=z96 s hi a (by omega);have:=of_decide_eq_true z;omega
 rw [this];have:=List.countP_le_length (p:=λ u:Nat=>decide ((u:Int) < x)) (l:=ts.take i);rw [F3] at this;omega
theorem cnt_le {ts:List Nat} (s:ts.Pairwise (·<=·)) {i t:Nat} {x:Int} (hi:ts[i]? = some t) (h:(t:Int)<=x):i + 1<=ts.countP (λ u:Nat=>decide ((u:Int)<=x)):=by
 rw [<-f8 (i + 1) ts,List.countP_append];have:(ts.take (i + 1)).countP (λ u:Nat=>decide ((u:Int)<=x))=(ts.take (i + 1)).length:=List.countP_eq_length.mpr λ u b=>by
  obtain ⟨j,a⟩:=List.mem_iff_getElem?.mp b;rw [U8] at a;split at a
  ·have:=z96 s a hi (by omega);exact decide_eq_true (by omega)
  ·cases a
 rw [this,F3];have:=z0j hi;omega
theorem zej {rs:List Rc} {n:Nat} (ps:PosI n rs) (eb :∀r∈rs,∀e,r.e=some e->r.b<=e) (nd:((rs.filter isW).map (λ r=>intV r.x)).Nodup) (n0:(0:Int)∉(rs.filter isW).map (λ r=>intV r.x)) (h:Strict rs) {o:Oc} (ho:OcOk rs o):o=.non:=by
 obtain ⟨J,H,g,A⟩:=h;obtain ⟨a,l,I⟩:=g.inv ps eb nd n0;refine no_col (fb:=λ j=>if j < 0 then j + 1 else (a.countP (λ u:Nat=>decide ((u:Int) < j)):Nat) + 1) (fe:=λ i=>if i < -1 then i else (a.countP (λ u:Nat=>decide ((u:Int)<=i)):Nat)) (l:=l) ⟨I.z,I.cv,λ i j le=>?_,λ i j lt=>?_,by show (if (-2:Int) < 0 then (-2:Int) + 1 else _)<=0;rw [if_pos (by decide)];decide,?_,λ p w y=>?_,λ r D e f=>?_⟩ nd n0 ho
 ·show (if i < -1 then i else _)<=(if j < -1 then j else _);have v:a.countP (λ u:Nat=>decide ((u:Int)<=i))<=a.countP (λ u:Nat=>decide ((u:Int)<=j)):=j1f λ u _ z=>decide_eq_true (by have:=of_decide_eq_true z;omega);split<;>split<;>omega
 ·show (if i < -1 then i else _) < (if j < 0 then j + 1 else _);have v:a.countP (λ u:Nat=>decide ((u:Int)<=i))<=a.countP (λ u:Nat=>decide ((u:Int) < j)):=j1f λ u _ z=>decide_eq_true (by have:=of_decide_eq_true z;omega);split<;>split<;>omega
 ·show (0:Int)<=(if (-1:Int) < -1 then (-1:Int) else _);rw [if_neg (by decide)];omega
 ·rcases I.tk p w y with z|⟨i,k,r,h1,h2,h3,h4,h5⟩
  ·exact .inl z
  ·refine .inr ⟨r,d0 h2,h3,h4,?_⟩;obtain ⟨t,c,q,_⟩:=I.at_ i k r h1 h2;have:=cnt_lt I.s c (x:=(r.b:Int)) (by omega);show (if (r.b:Int) < 0 then _ else _)<=(p:Int);rw [if_neg (by omega)];omega
 ·obtain ⟨j,d⟩:=List.mem_iff_getElem?.mp D;obtain ⟨i,B⟩:=List.mem_iff_getElem?.mp (A j r e d f);obtain ⟨t,c,q,m,C⟩:=I.at_ i j r B d;have G:=cnt_lt I.s c (x:=(r.b:Int)) (by omega);have F:=m e f;have E:=cnt_le I.s c (x:=(e:Int)) (by omega);refine ⟨i + 1,?_,?_,C⟩
  ·show (if (r.b:Int) < 0 then _ else _)<=_;rw [if_neg (by omega)];omega
  ·show _<=(if (e:Int) < -1 then _ else _);rw [if_neg (by omega)];omega
end
section
noncomputable def gz (z:Zt):Int:=if z.on=true then z.hi else z.lo
noncomputable def lz (z:Zt):Int:=if z.on=true then z.lo else z.hi
def inD (rs:List Rc) (r:Rc):Prop:=r.e≠none\/(isW r=true/\∃q∈rs,isRE q=true/\intV q.a=intV r.x)
theorem zof_gl (x l g:Int):(zOf x l g).x=x/\gz (zOf x l g)=g/\lz (zOf x l g)=l/\((zOf x l g).on=true↔l < g):=by
 unfold zOf;by_cases h:l < g
 ·rw [if_pos h];exact ⟨rfl,rfl,rfl,λ _=>h,λ _=>rfl⟩
 ·rw [if_neg h];exact ⟨rfl,rfl,rfl,⟨(λ z=>Bool.noConfusion (show false=true from z)),λ z=>absurd z h⟩⟩
theorem zet {P:Prop} {w:Rc} {e:Int} (h:w.e.map (λ n=>(n:Int))=some e):-1<=e/\(P->0<=e):=by
 cases o:w.e with
 | none=>rw [o] at h;cases h
 | some k=>rw [o] at h;have h:((k:Nat):Int)=e:=C1 h;exact ⟨by omega,λ _=>by omega⟩
theorem zf5 {rs:List Rc} {t:Ent} (ht:t∈ents rs) {s:Int×Option Int} (hs:s∈spans rs t):(t=ent0\/0<=t.b)/\∀e,s.2=some e->-1<=e/\(t≠ent0->0<=e):=by
 have tb:t=ent0\/0<=t.b:=by
  rcases ents_mem.mp ht with z|⟨w,_,_,rfl⟩
  ·exact .inl z
  ·exact .inr (Int.natCast_nonneg _)
 refine ⟨tb,λ e a=>?_⟩;rcases List.mem_cons.mp hs with rfl|hs
 ·rcases ents_mem.mp ht with rfl|⟨w,_,_,rfl⟩
  ·cases a;exact ⟨by decide,λ n=>absurd rfl n⟩
  ·have a:w.e.map (λ n=>(n:Int))=some e:=a;exact zet a
 ·obtain ⟨r,_,rfl⟩:=List.mem_map.mp hs;have a:r.e.map (λ n=>(n:Int))=some e:=a;exact zet a
theorem pos_lt {n:Nat} {rs:List Rc} (ps:PosI n rs) {x p:Int} (h:PosOf rs x p):p < n:=by
 rcases h with ⟨_,z⟩|⟨i,r,hi,z|⟨e,he,z⟩,_⟩
 ·omega
 ·have:=ps.b r (d0 hi);omega
 ·have:=ps.e r (d0 hi) e he;omega
structure ZD (rs:List Rc) (n:Nat) (z:Zt):Prop where
 on:z.on=true↔lz z < gz z
 pg:PosOf rs z.x (gz z)
 pl:PosOf rs z.x (lz z)
 g2:-2<=gz z
 l1:-1<=lz z
 gn:gz z < n
 ln:lz z < n
 x0:z.x≠0->0<=gz z/\0<=lz z
 z0:z.x=0->lz z=-1
theorem zd_of {n:Nat} {rs:List Rc} (ps:PosI n rs) (n0:(0:Int)∉(rs.filter isW).map (λ r=>intV r.x)) {zl:List Zt} (zs:ZonS rs zl) {z:Zt} (hz:z∈zl):ZD rs n z:=by
 obtain ⟨t,d,F,l,g,⟨C,p⟩,⟨A,u⟩,rfl⟩:=z1r zs hz;obtain ⟨f,c,a,v⟩:=zof_gl t.x l g;obtain ⟨G,m,o⟩:=List.mem_filterMap.mp C;obtain ⟨I,B,s⟩:=List.mem_map.mp A;have k:=(z52 d m).2 l o;have i:=(z52 d B).1;rw [s] at i;obtain ⟨tb,D⟩:=zf5 d m;obtain ⟨y,q⟩:=D l o;have H:t.b<=g:=u _ (List.mem_map.mpr ⟨(t.b,t.e),.head _,rfl⟩);have j:t.x=0↔t=ent0:=by
  rcases ents_mem.mp d with rfl|⟨w,hw,wi,rfl⟩
  ·exact ⟨λ _=>rfl,λ _=>rfl⟩
  ·refine ⟨λ e=>absurd e (w_n0 n0 hw wi),λ e=>?_⟩;have:=congrArg Ent.x e;exact this
 have J:-2<=t.b:=by
  rcases tb with rfl|z
  ·exact L9 _
  ·omega
 refine ⟨by rw [c,a];exact v,by rw [f,c];exact i,by rw [f,a];exact k,by rw [c];omega,by rw [a];exact y,by rw [c];exact pos_lt ps i,by rw [a];exact pos_lt ps k,λ h=>?_,λ h=>?_⟩
 ·rw [f] at h;have ne:t≠ent0:=λ e=>h (j.mpr e);rw [c,a];refine ⟨?_,q ne⟩;rcases tb with z|z
  ·exact absurd z ne
  ·omega
 ·rw [f] at h;have E:=j.mp h;rw [a];have:=p (-1) (List.mem_filterMap.mpr ⟨(t.b,t.e),.head _,by rw [E];rfl⟩);omega
theorem zone_d {rs:List Rc} {zl:List Zt} (zs:ZonS rs zl) (noL:NoL rs) (ps0 :∀r∈rs,RdG r\/WrG 0 r) {r:Rc} (hr:r∈rs) (h:inD rs r) :∃z∈zl,z.x=wth r/\(r.b:Int)<=gz z/\∀e:Nat,r.e=some e->lz z<=e:=by
 have key :∃t∈ents rs,t.x=wth r/\((r.b:Int),r.e.map λ n=>(n:Int))∈spans rs t/\(spans rs t).filterMap (·.2)≠[]:=by
  cases w:isW r with
  | true=>
   refine ⟨entW r,ents_mem.mpr (.inr ⟨r,hr,w,rfl⟩),(wr_wth w).symm,.head _,?_⟩;rcases h with h|⟨_,q,hq,qr,qa⟩
   ·obtain ⟨e,c⟩:=Option.ne_none_iff_exists'.mp h;exact R4 (List.mem_filterMap.mpr ⟨_,.head _,by show r.e.map (λ n=>(n:Int))=some (e:Int);rw [c];rfl⟩)
   ·obtain ⟨_,D⟩:=re_end qr;exact R4 (List.mem_filterMap.mpr ⟨spR q,.tail _ (List.mem_map.mpr ⟨q,List.mem_filter.mpr ⟨List.mem_filter.mpr ⟨hq,qr⟩,decide_eq_true qa⟩,rfl⟩),by show q.e.map (λ n=>(n:Int))=some ((q.e.getD 0:Nat):Int);rw [D];rfl⟩)
  | false=>
   have C:r.e≠none:=h.elim id λ z=>by rw [w] at z;cases z.1
   obtain ⟨e,c⟩:=Option.ne_none_iff_exists'.mp C;have y:r.v=.str "read":=by
    rcases ps0 r hr with g|g
    ·exact g.1
    ·have:=g.w;rw [w] at this;cases this
   have i:isRE r=true:=by unfold isRE;rw [decide_eq_true y,c];rfl
   have E :∃t∈ents rs,t.x=intV r.a:=by refine Q6 λ B=>noL r hr ⟨i,λ t f d=>absurd ⟨t,f,d⟩ B⟩
   obtain ⟨t,f,d⟩:=E;have k:spR r∈spans rs t:=.tail _ (List.mem_map.mpr ⟨r,List.mem_filter.mpr ⟨List.mem_filter.mpr ⟨hr,i⟩,decide_eq_true d.symm⟩,rfl⟩);exact ⟨t,f,by rw [d,rd_wth w],k,R4 (List.mem_filterMap.mpr ⟨spR r,k,by show r.e.map (λ n=>(n:Int))=some (e:Int);rw [c];rfl⟩)⟩
 obtain ⟨t,f,d,j,p⟩:=key;obtain ⟨z,F,l,g,⟨_,m⟩,⟨_,s⟩,rfl⟩:=zon_of zs f p;obtain ⟨u,o,A,_⟩:=zof_gl t.x l g;refine ⟨_,F,by rw [u];exact d,by rw [o];exact s _ (List.mem_map.mpr ⟨_,j,rfl⟩),λ e c=>?_⟩;rw [A];exact m _ (List.mem_filterMap.mpr ⟨_,j,by show r.e.map (λ n=>(n:Int))=some (e:Int);rw [c];rfl⟩)
def Kap (zl:List Zt) (z:Zt) (k:Int):Prop:=(z.on=true/\k=z.lo)\/(z.on=false/\(k=z.lo\/∃z'∈zl,z'.on=true/\z'.lo < z.lo/\z.lo < z'.hi/\k=z'.hi))
theorem zon_x {n:Nat} {rs:List Rc} (ps:PosI n rs) (nd:((rs.filter isW).map (λ r=>intV r.x)).Nodup) (n0:(0:Int)∉(rs.filter isW).map (λ r=>intV r.x)) {zl:List Zt} (zs:ZonS rs zl) {z z':Zt} (hz:z∈zl) (hz':z'∈zl) (e:z.x=z'.x):z=z':=by obtain ⟨t,d,g,a⟩:=z1r zs hz;obtain ⟨f,c,h,b⟩:=z1r zs hz';have:=ents_x (z44 nd n0) d c (by rw [<-zn_x a,<-zn_x b];exact e);subst this;exact zbg a b
theorem kap_lt {n:Nat} {rs:List Rc} (ps:PosI n rs) (nd:((rs.filter isW).map (λ r=>intV r.x)).Nodup) (n0:(0:Int)∉(rs.filter isW).map (λ r=>intV r.x)) {zl:List Zt} (zs:ZonS rs zl) (no1:NoP onP zl) (no2:NoP inP zl) {zd zq:Zt} {kd kq:Int} (hd:zd∈zl) (hq:zq∈zl) (ne:zd.x≠zq.x) (Kd:Kap zl zd kd) (Kq:Kap zl zq kq) (h:lz zq < gz zd):kq < kd:=by
 refine Int.lt_of_not_ge λ le=>?_;have g:=zon_lo ps nd n0 zs;have k:zd.lo≠zq.lo:=λ e=>ne (by rw [g zd hd zq hq e]);have i:=(zd_of ps n0 zs hd).on;have c:=(zd_of ps n0 zs hq).on;unfold gz lz at i c h;rcases Kd with ⟨b,rfl⟩|⟨b,Kd⟩
 ·rw [if_pos b] at h;rcases Kq with ⟨a,rfl⟩|⟨a,Kq⟩
  ·rw [if_pos a] at h;exact no1 zd zq hd hq ⟨b,a,by omega,h⟩
  ·rw [if_neg (show ¬ zq.on=true by rw [a];decide)] at h;by_cases y:zd.lo < zq.lo
   ·exact no2 zq zd hq hd ⟨a,b,y,h⟩
   ·rcases Kq with rfl|⟨z',hz',oz,a1,a2,rfl⟩
    ·omega
    ·by_cases y2:zd.lo < z'.hi
     ·exact no1 z' zd hz' hd ⟨oz,b,by omega,y2⟩
     ·have e:zd.lo=z'.hi:=by omega
      have d:=(zd_of ps n0 zs hd).pl;have f:=(zd_of ps n0 zs hz').pg;unfold lz at d;unfold gz at f;rw [if_pos b,e] at d;rw [if_pos oz] at f;have:=zon_x ps nd n0 zs hd hz' (z74 ps d f);rw [this] at y;omega
 ·rw [if_neg (show ¬ zd.on=true by rw [b];decide)] at h;have j:zd.lo<=kd:=by rcases Kd with rfl|⟨z',_,_,_,a2,rfl⟩<;>omega
  rcases Kq with ⟨a,rfl⟩|⟨a,Kq⟩
  ·rw [if_pos a] at h;omega
  ·rw [if_neg (show ¬ zq.on=true by rw [a];decide)] at h;rw [if_neg (show ¬ zq.on=true by rw [a];decide),if_neg (show ¬ zq.on=true by rw [a];decide)] at c;have l:zq.lo<=zq.hi:=Int.le_of_not_gt λ z=>by rw [c.mpr z] at a;cases a
   rcases Kq with rfl|⟨z',hz',oz,a1,a2,rfl⟩
   ·omega
   ·have:¬ zq.hi < z'.hi:=λ z=>no2 zq z' hq hz' ⟨a,oz,a1,z⟩;omega
theorem zf1 (f:Nat->Int) (x:Nat) :∀l:List Nat,l.Pairwise (λ a b=>f a<=f b)->∃l':List Nat,l'.Perm (x :: l)/\l'.Pairwise (λ a b=>f a<=f b)
 | [],_=>⟨[x],.refl _,j0f _ _⟩
 | y :: ys,h=>by
  have d:=List.pairwise_cons.mp h;by_cases z:f x<=f y
  ·refine ⟨x :: y :: ys,.refl _,List.pairwise_cons.mpr ⟨λ b c=>?_,h⟩⟩;rcases List.mem_cons.mp c with rfl|c
   ·exact z
   ·exact Int.le_trans z (d.1 b c)
  ·obtain ⟨l',p,s⟩:=zf1 f x ys d.2;refine ⟨y :: l',(p.cons y).trans (.swap x y ys),List.pairwise_cons.mpr ⟨λ b c=>?_,s⟩⟩;rcases List.mem_cons.mp (p.mem_iff.mp c) with rfl|c
   ·omega
   ·exact d.1 b c
theorem zes (f:Nat->Int) :∀l:List Nat,∃l':List Nat,l'.Perm l/\l'.Pairwise (λ a b=>f a<=f b)
 | []=>⟨[],.refl _,.nil⟩
 | x :: l=>by obtain ⟨l',p,s⟩:=zes f l;obtain ⟨c,e,d⟩:=zf1 f x l' s;exact ⟨c,e.trans (p.cons x),d⟩
theorem zd2 {rs:List Rc} {n:Nat} (ps:PosI n rs) (hn:n<=100) (eb :∀r∈rs,∀e,r.e=some e->r.b < e) (gg :∀r∈rs,RdG r\/WrG 0 r) (nd:((rs.filter isW).map (λ r=>intV r.x)).Nodup) (n0:(0:Int)∉(rs.filter isW).map (λ r=>intV r.x)) (h:OcOk rs .non):Strict rs:=by
 obtain ⟨b4,zl,J,b7,b5⟩:=h;have c2 :∀r:Rc,∃y:Zt×Int,r∈rs->inD rs r->(y.1∈zl/\y.1.x=wth r/\(r.b:Int)<=gz y.1/\∀e:Nat,r.e=some e->lz y.1<=e):=λ r=>by
  by_cases h:r∈rs/\inD rs r
  ·obtain ⟨z,hz⟩:=zone_d J b4 gg h.1 h.2;exact ⟨(z,0),λ _ _=>hz⟩
  ·exact ⟨(⟨0,0,0,true⟩,0),λ a b=>absurd ⟨a,b⟩ h⟩
 obtain ⟨c,Q⟩:=M9 c2;have c1 :∀z:Zt,∃k:Int,Kap zl z k:=λ z=>by
  cases o:z.on with
  | true=>exact ⟨_,.inl ⟨o,rfl⟩⟩
  | false=>exact ⟨_,.inr ⟨o,.inl rfl⟩⟩
 obtain ⟨s,a6⟩:=M9 c1
 let K:Rc->Int:=λ r=>(s (c r).1 + 10) * 1000000 + (gz (c r).1 + 10) * 1000 + (if isW r=true then 0 else (r.b:Int) + 1)
 have S :∀r,r∈rs->inD rs r->0<=gz (c r).1 + 10/\gz (c r).1 + 10 < 1000/\0<=(if isW r=true then 0 else (r.b:Int) + 1)/\(if isW r=true then 0 else (r.b:Int) + 1) < 1000:=λ r f N=>by obtain ⟨R,_⟩:=Q r f N;have D:=zd_of ps n0 J R;have:=D.g2;have:=D.gn;have:=ps.b r f;split<;>omega
 have b0 :∀z∈zl,(z.x≠0->0<=s z)/\(z.x=0->0<=gz z->s z=-1):=λ z hz=>by
  have D:=zd_of ps n0 J hz;have on:=D.on;have U:=D.x0;have M:=D.z0;unfold gz lz at on U M;rcases a6 z with ⟨o,e⟩|⟨o,e⟩
  ·rw [if_pos o,if_pos o] at on U;rw [if_pos o] at M;exact ⟨λ h=>by rw [e];exact (U h).2,λ h _=>by rw [e];exact M h⟩
  ·rw [if_neg (by rw [o];decide),if_neg (by rw [o];decide)] at on U;rw [if_neg (by rw [o];decide)] at M;refine ⟨λ h=>?_,λ h g=>?_⟩
   ·have:=(U h).1;rcases e with e|⟨z',_,_,_,a2,e⟩<;>omega
   ·unfold gz at g;rw [if_neg (by rw [o];decide)] at g;have:=M h;have:=on.mpr (by omega);rw [o] at this;cases this
 -- what ends a3 comes a3
 have b8 :∀q r e,q∈rs->r∈rs->inD rs r->q.e=some e->e < r.b->K q < K r:=λ q r e I f N u lt=>by
  have Y:inD rs q:=.inl (by rw [u];exact λ z=>by cases z);obtain ⟨q1,q2,q3,q4⟩:=Q q I Y;obtain ⟨r1,r2,r3,r4⟩:=Q r f N;have bq:=S q I Y;have br:=S r f N;have q4:=q4 e u;have qb:=eb q I e u;show (s (c q).1 + 10) * 1000000 + (gz (c q).1 + 10) * 1000 + (if isW q=true then 0 else (q.b:Int) + 1) < (s (c r).1 + 10) * 1000000 + (gz (c r).1 + 10) * 1000 + (if isW r=true then 0 else (r.b:Int) + 1);by_cases ex:(c r).1.x=(c q).1.x
  ·have ez:=zon_x ps nd n0 J r1 q1 ex;rw [ez];have:(if isW q=true then 0 else (q.b:Int) + 1) < (if isW r=true then 0 else (r.b:Int) + 1):=by
    cases F:isW r with
    | false=>rw [if_neg (show ¬ false=true by decide)];split<;>omega
    | true=>
     exfalso;rw [r2,q2,wr_wth F] at ex;cases wq:isW q with
     | true=>rw [wr_wth wq] at ex;have:=w_uniq nd f F I wq ex;rw [this] at lt;omega
     | false=>
      rw [rd_wth wq] at ex;have rv:q.v=.str "read":=by
       rcases gg q I with g|g
       ·exact g.1
       ·have:=g.w;rw [wq] at this;cases this
      refine b4 q I ⟨by unfold isRE;rw [decide_eq_true rv,u];rfl,λ t ht hx=>?_⟩;have:=ents_x (z44 nd n0) ht (ents_mem.mpr (.inr ⟨r,f,F,rfl⟩)) (by rw [hx];exact ex.symm);rw [this,u];show ((e:Nat):Int) < (r.b:Int);omega
   omega
  ·have:=kap_lt ps nd n0 J b7 b5 r1 q1 ex (a6 _) (a6 _) (by omega);omega
 obtain ⟨D,pm,so⟩:=zes (λ j=>K (rs[j]?.getD r00)) ((N1 rs.length).filter λ j=>@decide (inD rs (rs[j]?.getD r00)) (P5 _));have c0:D.Nodup:=pm.nodup_iff.mpr (List.nodup_range.filter _);have a5 :∀{j:Nat} {r:Rc},rs[j]? = some r->inD rs r->j∈D:=λ {j r} l N=>pm.mem_iff.mpr (List.mem_filter.mpr ⟨List.mem_range.mpr (z0j l),@decide_eq_true _ (P5 _) (by rw [getD_some l];exact N)⟩);have a4 :∀{j:Nat},j∈D->∃r,rs[j]? = some r/\inD rs r:=λ {j} l=>by
  obtain ⟨B,C⟩:=List.mem_filter.mp (pm.mem_iff.mp l);have e:=D0 (List.mem_range.mp B);refine ⟨_,e,?_⟩;have:=@of_decide_eq_true _ (P5 _) C
  rwa [getD_some e] at this
 have a3 :∀{i k j:Nat} {r q:Rc},D[i]? = some k->rs[k]? = some r->j∈D->rs[j]? = some q->K q < K r->∃m,m < i/\D[m]? = some j:=λ {i k j r q} E f l I lt=>by
  obtain ⟨m,G⟩:=List.mem_iff_getElem?.mp l;refine ⟨m,Nat.lt_of_not_le λ le=>?_,G⟩;rcases T4 le with z|z
  ·obtain ⟨B,P⟩:=List.getElem?_eq_some_iff.mp E;obtain ⟨C,L⟩:=List.getElem?_eq_some_iff.mp G;have:=List.pairwise_iff_getElem.mp so i m B C z;rw [P,L,getD_some f,getD_some I] at this;omega
  ·subst z;rw [E] at G;cases G;rw [f] at I;cases I;omega
 have b9 :∀i,i<=D.length->∃O,Go rs (D.take i) O/\(i=0->O=0)/\∀(j k:Nat) (r:Rc),i=j + 1->D[j]? = some k->rs[k]? = some r->O=wth r:=λ i=>by
  induction i with
  | zero=>exact λ _=>⟨0,.nil,λ _=>rfl,λ j k r e=>by omega⟩
  | succ i ih=>
   intro N;obtain ⟨O,g,M,nx⟩:=ih (by omega);have E:D[i]? = some (D[i]'(by omega)):=D0 (by omega);generalize D[i]'(by omega)=k at E;obtain ⟨r,f,V⟩:=a4 (d0 E);have G:=d0 f;have tk:D.take (i + 1)=D.take i++[k]:=by rw [z5,E];rfl
   have b6 :∀{m j:Nat},m < i->D[m]? = some j->j∈D.take i:=λ {m j} lt l=>d0 (i:=m) (by rw [U8,if_pos lt];exact l);have a7:isW r=false->O=intV r.a:=λ F=>by
    obtain ⟨R,T,z3,z4⟩:=Q r G V;rw [rd_wth F] at T;have br:=S r G V;have b3 :∀(j H:Nat) (p:Rc),i=j + 1->D[j]? = some H->rs[H]? = some p->p∈rs/\inD rs p/\K p<=K r:=λ j H p ej d A=>by obtain ⟨p',a8,ip⟩:=a4 (d0 d);rw [A] at a8;cases a8;refine ⟨d0 A,ip,?_⟩;obtain ⟨B,P⟩:=List.getElem?_eq_some_iff.mp d;obtain ⟨C,L⟩:=List.getElem?_eq_some_iff.mp E;have:=List.pairwise_iff_getElem.mp so j i B C (by omega);rw [P,L,getD_some A,getD_some f] at this;exact this
    by_cases a0:intV r.a=0
    ·rcases Nat.eq_zero_or_pos i with e|e
     ·rw [M e,a0]
     ·obtain ⟨j,rfl⟩ :∃j,i=j + 1:=⟨i - 1,by omega⟩
      have d:D[j]? = some (D[j]'(by omega)):=D0 (by omega);generalize D[j]'(by omega)=H at d;obtain ⟨p,A,_⟩:=a4 (d0 d);obtain ⟨X,W,le⟩:=b3 j H p rfl d A;rw [nx j H p rfl d A];obtain ⟨y1,y2,y3,y4⟩:=Q p X W;have bp:=S p X W;have kr:=(b0 _ R).2 (by rw [T];exact a0) (by omega);have kp:=(b0 _ y1).1;refine Q6 λ ne=>?_;have:=kp (by rw [y2];rw [a0] at ne;exact ne);have le:(s (c p).1 + 10) * 1000000 + (gz (c p).1 + 10) * 1000 + (if isW p=true then 0 else (p.b:Int) + 1)<=(s (c r).1 + 10) * 1000000 + (gz (c r).1 + 10) * 1000 + (if isW r=true then 0 else (r.b:Int) + 1):=le;omega
    ·-- its write is there
     obtain ⟨t,ht,_,b2⟩:=z1r J R;rcases ents_mem.mp ht with rfl|⟨w,hw,wi,rfl⟩
     ·exact absurd ((zn_x b2).symm.trans T).symm a0
     ·have wx:intV w.x=intV r.a:=(zn_x b2).symm.trans T;obtain ⟨e,u⟩:=Option.ne_none_iff_exists'.mp (show r.e≠none from V.elim id λ z=>by rw [F] at z;cases z.1);have rv:r.v=.str "read":=by
       rcases gg r G with g|g
       ·exact g.1
       ·have:=g.w;rw [F] at this;cases this
      have iw:inD rs w:=.inr ⟨wi,r,G,by unfold isRE;rw [decide_eq_true rv,u];rfl,wx.symm⟩;obtain ⟨jw,Z⟩:=List.mem_iff_getElem?.mp hw;obtain ⟨w1,w2,w3,w4⟩:=Q w hw iw;rw [wr_wth wi] at w2;have ez:=zon_x ps nd n0 J w1 R (by rw [w2,T,wx]);have bw:=S w hw iw;have lt:(s (c w).1 + 10) * 1000000 + (gz (c w).1 + 10) * 1000 + (if isW w=true then 0 else (w.b:Int) + 1) < (s (c r).1 + 10) * 1000000 + (gz (c r).1 + 10) * 1000 + (if isW r=true then 0 else (r.b:Int) + 1):=by rw [ez,if_pos wi,if_neg (show ¬ isW r=true by rw [F];decide)];omega
      obtain ⟨m,ml,a9⟩:=a3 E f (a5 Z iw) Z lt;obtain ⟨j,rfl⟩ :∃j,i=j + 1:=⟨i - 1,by omega⟩
      have d:D[j]? = some (D[j]'(by omega)):=D0 (by omega);generalize D[j]'(by omega)=H at d;obtain ⟨p,A,_⟩:=a4 (d0 d);obtain ⟨X,W,le⟩:=b3 j H p rfl d A;rw [nx j H p rfl d A];obtain ⟨y1,y2,y3,y4⟩:=Q p X W;have bp:=S p X W;have le:(s (c p).1 + 10) * 1000000 + (gz (c p).1 + 10) * 1000 + (if isW p=true then 0 else (p.b:Int) + 1)<=(s (c r).1 + 10) * 1000000 + (gz (c r).1 + 10) * 1000 + (if isW r=true then 0 else (r.b:Int) + 1):=le;have ge:(s (c w).1 + 10) * 1000000 + (gz (c w).1 + 10) * 1000 + (if isW w=true then 0 else (w.b:Int) + 1)<=(s (c p).1 + 10) * 1000000 + (gz (c p).1 + 10) * 1000 + (if isW p=true then 0 else (p.b:Int) + 1):=by
       rcases T4 (show m<=j by omega) with z|z
       ·obtain ⟨B,P⟩:=List.getElem?_eq_some_iff.mp a9;obtain ⟨C,L⟩:=List.getElem?_eq_some_iff.mp d;have:=List.pairwise_iff_getElem.mp so m j B C z;rw [P,L,getD_some A,getD_some Z] at this;exact this
       ·subst z;rw [a9] at d;cases d;rw [Z] at A;cases A;exact L9 _
      rw [ez] at ge;have eg:gz (c p).1=gz (c r).1:=by omega
      have D1:=(zd_of ps n0 J y1).pg;have D2:=(zd_of ps n0 J R).pg;rw [eg] at D1;have:=z74 ps D1 D2;rw [<-y2,this,T]
   have step:=Go.snoc g f (λ z=>?_) (λ F=>?_) (λ j q e l u lt=>?_)
   ·rw [tk];refine ⟨_,step,λ e=>by omega,λ j H r' ej d b1=>?_⟩;have:j=i:=by omega
    subst this;rw [E] at d;cases d;rw [f] at b1;cases b1;cases w:isW r with
    | true=>rw [if_pos rfl,wr_wth w]
    | false=>rw [if_neg (by decide),rd_wth w];exact a7 w
   ·obtain ⟨m,a1⟩:=List.mem_iff_getElem?.mp z;rw [U8] at a1;split at a1
    ·rename_i lt;obtain ⟨B,P⟩:=List.getElem?_eq_some_iff.mp a1;obtain ⟨C,L⟩:=List.getElem?_eq_some_iff.mp E;exact List.pairwise_iff_getElem.mp c0 m i B C lt (by rw [P,L])
    ·cases a1
   ·exact ⟨V.elim id (λ z=>by rw [F] at z;cases z.1),(a7 F).symm⟩
   ·have Y:inD rs q:=.inl (by rw [u];exact λ z=>by cases z);obtain ⟨m,B,C⟩:=a3 E f (a5 l Y) l (b8 q r e (d0 l) G V u lt);exact b6 B C
 obtain ⟨O,g,_⟩:=b9 D.length (C0 _);rw [v4] at g;exact ⟨D,O,g,λ j q e l u=>a5 l (.inl (by rw [u];exact λ z=>by cases z))⟩
end
section
def NxtK (rs:List Rc) (pl:List Bool×Int) (k:Nat) (pl':List Bool×Int):Prop:=∃r,rs[k]? = some r/\pl.1[k]? = some false/\(isW r=false->r.e≠none/\intV r.a=pl.2)/\(∀(j:Nat) (q:Rc) (e:Nat),rs[j]? = some q->q.e=some e->e < r.b->pl.1[j]? = some true)/\pl'=(pl.1.set k true,if isW r=true then intV r.x else pl.2)
def Nxt (rs:List Rc) (pl pl':List Bool×Int):Prop:=∃k,NxtK rs pl k pl'
def PlV (K:c0) (H:Hp) (pl:List Bool×Int) (y:V):Prop:=∃p d,y=.ref p/\SqT K H p [.ref d,.int pl.2]/\SqT K H d (pl.1.map V.bl)
theorem PlV.same {K:c0} {H H':Hp} {pl:List Bool×Int} {y:V} (s:Same H H') (h:PlV K H pl y):PlV K H' pl y:=by obtain ⟨p,d,b,c,a⟩:=h;exact ⟨p,d,b,s.seqT c,s.seqT a⟩
theorem PlV.tups {K:c0} {H H':Hp} {pl:List Bool×Int} {y:V} (s:Tups K H H') (h:PlV K H pl y):PlV K H' pl y:=by obtain ⟨p,d,b,c,a⟩:=h;exact ⟨p,d,b,s _ _ c,s _ _ a⟩
theorem zgi (ds:List Bool) (i:Nat) (h:i < ds.length):cutV (ds.map V.bl) none (some (i:Int))++[V.bl true]++cutV (ds.map V.bl) (some ((i:Int) + 1)) none=(ds.set i true).map V.bl:=by
 have b:cutV (ds.map V.bl) none (some (i:Int))=(ds.map V.bl).take i:=by have:=HT.sIx_nat (ds.map V.bl).length (ds.map V.bl).length i;unfold cutV;rw [this,HT.sIx_none,G0,Nat.min_eq_left (by omega),C5,Nat.sub_zero]
 have a:cutV (ds.map V.bl) (some ((i:Int) + 1)) none=(ds.map V.bl).drop (i + 1):=by have:=HT.sIx_nat (ds.map V.bl).length 0 (i + 1);unfold cutV;rw [show ((i:Int) + 1)=(((i + 1:Nat)):Int) by omega,this,HT.sIx_none,G0];rw [Nat.min_eq_left (by omega),N7 (by rw [J5,G0];omega)]
 rw [b,a,List.append_assoc];rw [List.map_set,List.set_eq_take_append_cons_drop,if_pos (by rw [G0];exact h)];rfl
variable {P:Program} {w:S0} {mg:Str->Option Value} {base:Heap}
theorem if_op {rd:R2} {ta tb:TE} {a b:TS} {D:Ends} {σ:L2.St} {H:Hp} (h:ta σ H λ x H1=>tb σ H1 λ y H2=>rd x y H2 λ v H3=>∃k,v=.bl k/\if k=true then a D σ H3 else b D σ H3):tIfS (tTest (tOp rd ta tb)) a b D σ H:=h
def z2o (K:c0):Sp:=λ vs H Q _=>∃(lr dt:Addr) (now:Int) (ds:List Bool) (rs:List Rc) (zs:List V),vs=[.ref lr,.ref dt,.int now]/\RwsA H lr rs zs/\SqT K H dt (ds.map V.bl)/\ds.length=rs.length/\
 ∀l ys nl H',Same H H'->H l=none->H' l=some (.lst ys)->All2 (PlV K H') nl ys->(∀pl,pl∈nl↔Nxt rs (ds,now) pl)->nl.length<=rs.length->Q (.ref l) H'
theorem z5w (T:TX (kx w) mg):Fo P w mg base CX0 1 357 y0c ["rows","done","now"] (z2o (kx w)):=by
 refine (z1t w.params).ok sc__law_nexts (λ vs H Q E h=>?_) (λ e7 A e6 s H vs Q E hr h=>?_)
 ·obtain ⟨B,C,now,c,d,O,rfl,_⟩:=h;rfl
 ·obtain ⟨B,C,now,c,d,O,rfl,I,sd,ld,q⟩:=h;refine q_of (z0e (QS.mk (ps_set (i:=3) sc__law_nexts.nd rfl (L1 rfl) (pe_lst pa_nil)))
   (z0e (QS.mk (ps_for i3 rfl (z4r rfl (T.no (zby _)) (z00 (z0a z0o rfl (T.no (n_len _)) R3 (z00 (pv 0) pa_nil)) pa_nil)) (z0p (i:=4) sc__law_nexts.nd rfl (L1 rfl))
   (z05 (ps_set (i:=5) sc__law_nexts.nd rfl (G1 rfl) (pe_ix ix_seq (pv 0) (pv 4) (λ _ _=>rfl)))
   (z05 (ps_if (PW.pt (pw_or (pt_val (pe_ix ix_seq (pv 1) (pv 4) (λ _ _=>rfl)) (λ _=>rfl)) (pw_or1 (PW.pt (pw_and (z09 opEq (pe_ix ix_seq (pv 5) pe_int (λ _ _=>rfl)) pe_str (nomark _)) (z2r (PW.pt (pw_or (z09 op_isN (pe_ix ix_seq (pv 5) pe_int (λ _ _=>rfl)) pe_non (nomark _)) (pw_or1 (z09 opNe (pe_ix ix_seq (pv 5) pe_int (λ _ _=>rfl)) (pv 2) (nomark _)))))))))))
   (z06 z49)
   z0d)
   (z05 (ps_if (z09 (z8i hr) (z7c (xs:=["k"]) (g:=gName 0) (fr:=[(1,"done"),(5,"one"),(0,"rows")]) rfl (z4r rfl (T.no (zby _)) (z00 (z0a z0o rfl (T.no (n_len _)) R3 (z00 (pv 0) pa_nil)) pa_nil)) (by intro p J;simp only [O2,B0,or_false] at J;rcases J with rfl|rfl|rfl<;>first|exact ⟨rfl,.inl rfl⟩|exact ⟨rfl,.inr rfl⟩) (zev (ns:=["done","one","rows"]) (by decide +kernel) (by intro n L k;simp only [O2,B0,or_false] at L;rcases L with rfl|rfl|rfl<;>first|exact .inl rfl|exact .inr rfl)) (by intro p J;simp only [O2,B0,or_false] at J;rcases J with rfl|rfl|rfl<;>exact ⟨by decide +kernel,by first|exact .inl rfl|exact .inr rfl⟩) (by decide +kernel) rfl (by decide +kernel) (λ _ _ _ _ _=>(pg_cn (N:=["k","done","one","rows"]) 0)) (λ _ _ _ _ _=>(pf_one (PW.pt (pw_and (pt_not (pt_val (pe_ix (z0m (K:=KX w.params) rfl) (pv 1) (pv 0) (λ _ _=>rfl)) (λ _=>rfl))) (pw_and (z09 z4c (pe_ix (z0m (K:=KX w.params) rfl) (pe_ix (z0m (K:=KX w.params) rfl) (pv 3) (pv 0) (λ _ _=>rfl)) pe_int (λ _ _=>rfl)) pe_non (nomark _)) (z2r (z09 op_lt (pe_ix (z0m (K:=KX w.params) rfl) (pe_ix (z0m (K:=KX w.params) rfl) (pv 3) (pv 0) (λ _ _=>rfl)) pe_int (λ _ _=>rfl)) (pe_ix (z0m (K:=KX w.params) rfl) (pv 2) pe_int (λ _ _=>rfl)) (nomark _)))))))) (λ _ _ _ _ _=>(pv 0))) (pe_lst pa_nil) (nomark _))
   (z06 z49)
   z0d)
   (z05 (ps_set (i:=6) sc__law_nexts.nd rfl (L1 rfl) (pv 2))
   (z05 (ps_if (z09 opEq (pe_ix ix_seq (pv 5) pe_int (λ _ _=>rfl)) pe_str (nomark _))
   (z06 (ps_set (i:=6) sc__law_nexts.nd rfl (L1 rfl) (pe_ix ix_seq (pv 5) pe_int (λ _ _=>rfl))))
   z0d)
   (z06 (z2t (z15 (pv 3) (z00 (pe_tup (z00 (pe_op zew (pe_op zew (z1z slSeq (pv 1) z45 (z2u (pv 4))) (pe_tup (z00 pe_bl pa_nil))) (z1z slSeq (pv 1) (z2u (pe_op opAdd (pv 4) pe_int)) z45)) (z00 (pv 6) pa_nil))) pa_nil)))))))))))
   (z2n (QS.mk (ps_ret (pv 3)))))) ?_
  have lz:O.length=d.length:=z03 I.a;have c1:=I.n;refine z0b ⟨w_0,λ lt a4=>g_name ?_⟩;obtain ⟨H1,v_,u1,e1⟩:=newA (.lst []) a4;rw [<-v_];refine z28 (λ σ t=>∃nl ys x4 x5 x6,Same H t/\t lt=some (.lst ys)/\All2 (PlV (kx w) t) nl ys/\(∀f,f∈nl↔Nxt d (c,now) f)/\nl.length<=d.length/\σ=[some (.ref B),some (.ref C),some (.int now),some (.ref lt),x4,x5,x6]) ?_ λ go=>?_
  ·rintro σ t ⟨nl,ys,x4,x5,x6,s,e,al,iff,ln,rfl⟩;exact ⟨_,rfl,q lt ys nl t s a4 e al iff ln⟩
  refine ⟨_,rfl,.inl ⟨B,O,rfl,.inl (SqL.of (u1 _ _ I.l)),_,rfl,by omega,by omega,?_⟩⟩;rw [lz];refine zd9 (lo:=0) (n:=d.length) (λ i σ t=>∃nl ys x4 x5 x6,Same H t/\t lt=some (.lst ys)/\All2 (PlV (kx w) t) nl ys/\(∀f,f∈nl↔∃k,k < i/\NxtK d (c,now) k f)/\nl.length<=i/\σ=[some (.ref B),some (.ref C),some (.int now),some (.ref lt),x4,x5,x6]) ⟨[],[],_,_,_,u1,e1,.nil,λ f=>⟨λ h=>absurd h B0,λ ⟨k,h,_⟩=>by omega⟩,C0 _,rfl⟩ ?_ ?_;rotate_left
  ·rintro σ t ⟨nl,ys,x4,x5,x6,s,e,al,iff,ln,rfl⟩;refine go _ _ ⟨nl,ys,_,_,_,s,e,al,λ f=>(iff f).trans ⟨λ ⟨k,_,h⟩=>⟨k,h⟩,λ ⟨k,h⟩=>⟨k,?_,h⟩⟩,ln,rfl⟩;obtain ⟨r,d2,_⟩:=h;exact z0j d2
  rintro i σ H2 hi ⟨nl,ys,x4,x5,x6,s2,e2,al,iff,ln,rfl⟩;rw [Int.zero_add];have F:d[i]? = some (d[i]'(by omega)):=D0 hi;generalize d[i]'(by omega)=r at F;have a1:c[i]? = some (c[i]'(by omega)):=D0 (by omega);generalize c[i]'(by omega)=b at a1;obtain ⟨y,hy,p,e5,rfl,ep,_⟩:=z25 I.a F;have X:=s2 _ _ ep;have a2:=s2.seqT sd;have a3:=s2 _ _ I.l;refine g_name ?_;refine z0b ⟨_,rfl,_,rfl,.inl ⟨B,O,i,_,rfl,rfl,SqL.of a3,z04 hy,g_name ?_⟩⟩;have c3:(c.map V.bl)[i]? = some (V.bl b):=by rw [V0,a1];rfl
  have skip:(∀f,¬ NxtK d (c,now) i f)->∀{x5 x6:Option V} {W:Hp},Same H2 W->∃nl ys x4' x5' x6',Same H W/\W lt=some (.lst ys)/\All2 (PlV (kx w) W) nl ys/\(∀f,f∈nl↔∃k,k < i + 1/\NxtK d (c,now) k f)/\nl.length<=i + 1/\[some (.ref B),some (.ref C),some (.int now),some (.ref lt),some (.int (i:Nat)),x5,x6]=[some (.ref B),some (.ref C),some (.int now),some (.ref lt),x4',x5',x6']:=λ no {x5 x6 W} G=>⟨nl,ys,_,_,_,s2.trans G,G _ _ e2,z02 (λ _ _ z=>z.same G) al,λ f=>(iff f).trans ⟨λ ⟨k,a,h⟩=>⟨k,by omega,h⟩,λ ⟨k,a,h⟩=>⟨k,by
   rcases T4 (Nat.le_of_lt_succ a) with z|z
   ·exact z
   ·subst z;exact absurd h (no f),h⟩⟩,by omega,rfl⟩
  refine z28 (λ σ t=>H2=t/\b=false/\(isW r=false->r.e≠none/\intV r.a=now)/\σ=[some (.ref B),some (.ref C),some (.int now),some (.ref lt),some (.int (i:Nat)),some (.ref p),x6]) ?_ λ b7=>?_;rotate_left
  ·refine ⟨_,rfl,_,rfl,.inr (.inl ⟨C,_,i,.bl b,rfl,rfl,a2,z04 c3,_,rfl,?_⟩)⟩;cases b with
   | true=>exact iteP rfl (iteP rfl (skip (λ f ⟨r',_,h,_⟩=>by rw [a1] at h;cases h) (Same.refl _)))
   | false=>
    refine iteN N0 ?_;rcases I.g r (d0 F) with g|g
    ·have wr:=g.w;refine ⟨_,rfl,.inl ⟨p,_,1,r.v,rfl,rfl,SqL.of X,z04 (j:=1) rfl,?_⟩⟩;rw [g.1];refine ⟨rfl,_,rfl,iteP (by decide +kernel) ?_⟩;refine ⟨_,rfl,.inl ⟨p,_,5,endV r.e,rfl,rfl,SqL.of X,z04 (j:=5) rfl,rfl,_,rfl,?_⟩⟩;cases u:r.e with
     | none=>exact iteP rfl (iteP rfl (skip (λ f ⟨r',D,_,h,_⟩=>by rw [F] at D;cases D;exact (h wr).1 u) (Same.refl _)))
     | some e=>
      refine iteN (λ z=>by cases z) ?_;have ea:=g.2.2 e u;refine ⟨_,rfl,.inl ⟨p,_,3,.int (intV r.a),rfl,rfl,SqL.of X,by rw [ea];exact z04 (j:=3) rfl,_,rfl,rfl,_,rfl,?_⟩⟩;by_cases L:intV r.a=now
      ·exact iteN (by rw [L,decide_eq_true rfl];exact λ z=>N0 z) (b7 _ _ ⟨rfl,rfl,λ _=>⟨(λ z=>by rw [u] at z;cases z),L⟩,rfl⟩)
      ·exact iteP (by rw [decide_eq_false (λ z=>L (by injection z))];rfl) (skip (λ f ⟨r',D,_,h,_⟩=>by rw [F] at D;cases D;exact L (h wr).2) (Same.refl _))
    ·have wr:=g.w;refine ⟨_,rfl,.inl ⟨p,_,1,r.v,rfl,rfl,SqL.of X,z04 (j:=1) rfl,?_⟩⟩;rw [g.1];exact ⟨rfl,_,rfl,iteK (iteN (λ z=>by cases z) (b7 _ _ ⟨rfl,rfl,λ z=>(by rw [wr] at z;cases z),rfl⟩))⟩
  rintro σ t ⟨rfl,rfl,hc,rfl⟩;refine z28 (λ σ t=>Same H2 t/\(∀(j:Nat) (q:Rc) (e:Nat),d[j]? = some q->q.e=some e->e < r.b->c[j]? = some true)/\σ=[some (.ref B),some (.ref C),some (.int now),some (.ref lt),some (.int (i:Nat)),some (.ref p),x6]) ?_ λ c8=>?_;rotate_left
  ·refine if_op (z6g (S:=Same) (n:=d.length) (λ j=>decide (c[j]? = some false) && (match (d[j]?.getD r00).e with|none=>false|some e=>decide (e < r.b))) (λ _ _ _=>True) (Same.refl _) (λ _ _ _ a b=>a.trans b) (λ _ _=>Same.refl _) (λ _ _ _ _ _ _=>trivial) (λ T h=>⟨_,rfl,.inl ⟨B,O,rfl,.inl (SqL.of a3),by rw [lz];exact h⟩⟩) (L0 c1 (by decide)) ?_ ?_)
   ·intro j U W G KT KF g1 Z;have Y:d[j]? = some (d[j]'(by omega)):=D0 U;generalize d[j]'(by omega)=q' at Y;have R:c[j]? = some (c[j]'(by omega)):=D0 (by omega);generalize c[j]'(by omega)=bj at R;obtain ⟨yj,a9,pj,e8,rfl,d9,_⟩:=z25 I.a Y;have b8:=G _ _ (s2 _ _ d9);have a7:=G _ _ a3;rw [R,getD_some Y] at g1 Z;refine ⟨[some (.int (j:Nat))],rfl,rfl,_,rfl,_,rfl,.inr (.inl ⟨C,_,j,.bl bj,rfl,rfl,G.seqT a2,z04 (by rw [V0,R];rfl),_,rfl,?_⟩)⟩;cases bj with
    | true=>exact iteN N0 (iteN N0 (Z rfl _ (Same.refl _)))
    | false=>
     refine iteP rfl ?_;refine ⟨_,rfl,_,rfl,.inl ⟨B,O,j,_,rfl,rfl,SqL.of a7,z04 a9,.inl ⟨pj,_,5,endV q'.e,rfl,rfl,SqL.of b8,z04 (j:=5) rfl,rfl,_,rfl,?_⟩⟩⟩;cases u:q'.e with
     | none=>exact iteN (λ z=>by cases z) (iteN N0 (Z (by rw [u];rfl) _ (Same.refl _)))
     | some e=>
      rw [u] at g1 Z;refine iteP rfl ?_;refine ⟨_,rfl,_,rfl,.inl ⟨B,O,j,_,rfl,rfl,SqL.of a7,z04 a9,.inl ⟨pj,_,5,.int (e:Nat),rfl,rfl,SqL.of b8,z04 (j:=5) (by rw [u];rfl),?_⟩⟩⟩;refine ⟨_,rfl,.inl ⟨p,_,4,.int (r.b:Nat),rfl,rfl,SqL.of (G _ _ X),z04 (j:=4) rfl,_,_,rfl,rfl,_,rfl,?_⟩⟩;by_cases lt:e < r.b
      ·exact iteP (decide_eq_true (by omega)) ⟨_,rfl,g1 (by simp [lt]) _ _ (Same.refl _) trivial⟩
      ·exact iteN (λ z=>lt (by have:=of_decide_eq_true z;omega)) (Z (by simp [lt]) _ (Same.refl _))
   intro l3 H3 ws M d3 a6;have u4:=Same.upd (o:=.lst ws) d3;refine ⟨w_0,λ l4 d1=>?_⟩;have u5:=Same.upd (o:=.lst []) d1;have b5:=(M.trans u4).trans u5;refine ⟨l3,l4,ws,rfl,rfl,SqL.of (u5 _ _ z01),SqL.of z01,_,rfl,ite2 (λ z=>?_) λ z=>?_⟩
   ·have c9:ws≠[]:=of_decide_eq_true z;obtain ⟨w0,e4,ew⟩:=B5 c9;obtain ⟨j,U,_⟩:=z08 a6 (show ws[0]? = some w0 by rw [ew];rfl);have hf:=(List.mem_filter.mp (d0 U)).2;obtain ⟨f1,f2⟩:=Bool.and_eq_true_iff.mp hf;have f1:=of_decide_eq_true f1;refine skip (λ f ⟨r',D,_,_,h,_⟩=>?_) b5;rw [F] at D;cases D;have jl:j < d.length:=by have:=z0j f1;omega
    have Y:=D0 jl;rw [getD_some Y] at f2;cases u:(d[j]'(by omega)).e with
    | none=>rw [u] at f2;cases f2
    | some e=>rw [u] at f2;have:=h j _ e Y u (of_decide_eq_true f2);have this:c[j]? = some true:=this;rw [f1] at this;cases this
   ·have d6:ws=[]:=Q6 λ y=>z (decide_eq_true y);refine c8 _ _ ⟨b5,λ j q' e U u lt=>?_,rfl⟩;have jl:=z0j U;have R:c[j]? = some (c[j]'(by omega)):=D0 (by omega);rw [R];cases hb:c[j]'(by omega) with
    | true=>rfl
    | false=>exfalso;have hm:j∈(N1 d.length).filter λ j=>decide (c[j]? = some false) && (match (d[j]?.getD r00).e with|none=>false|some e=>decide (e < r.b)):=List.mem_filter.mpr ⟨List.mem_range.mpr jl,by rw [R,hb,getD_some U,u,decide_eq_true rfl];exact decide_eq_true lt⟩;have:=z03 a6;rw [d6] at this;exact R4 hm (List.eq_nil_of_length_eq_zero this.symm)
  rintro σ H3 ⟨M,J,rfl⟩;have b9:=M _ _ X;refine z0b ⟨_,rfl,g_name ?_⟩;refine z28 (λ σ t=>H3=t/\σ=[some (.ref B),some (.ref C),some (.int now),some (.ref lt),some (.int (i:Nat)),some (.ref p),some (.int (if isW r=true then intV r.x else now))]) ?_ λ b0=>?_;rotate_left
  ·refine ⟨_,rfl,.inl ⟨p,_,1,r.v,rfl,rfl,SqL.of b9,z04 (j:=1) rfl,?_⟩⟩;rcases I.g r (d0 F) with g|g
   ·rw [g.1];refine ⟨rfl,_,rfl,iteK (b0 _ _ ⟨rfl,?_⟩)⟩;rw [if_neg (by rw [g.w];decide)];rfl
   ·rw [g.1];refine ⟨rfl,_,rfl,iteP (by decide +kernel) ⟨_,rfl,.inl ⟨p,_,2,.int (intV r.x),rfl,rfl,SqL.of b9,by rw [g.2.2.1];exact z04 (j:=2) rfl,g_name (b0 _ _ ⟨rfl,?_⟩)⟩⟩⟩;rw [if_pos g.w];rfl
  rintro σ t ⟨rfl,rfl⟩;have d5:=s2.trans M;have e3:=M _ _ e2;have b6:=M.seqT a2;have d4:=z02 (λ _ _ z=>z.same M) al;have ly:=z03 al;have b2:(c.map V.bl).length=d.length:=by rw [G0];exact ld
  have d8:¬ (HT.sIx (c.map V.bl).length 0 none=0/\HT.sIx (c.map V.bl).length (c.map V.bl).length (some (i:Int))=(c.map V.bl).length):=λ z=>by have:=HT.sIx_nat (c.map V.bl).length (c.map V.bl).length i;rw [this,b2] at z;omega
  have c2:¬ (HT.sIx (c.map V.bl).length 0 (some ((i:Int) + 1))=0/\HT.sIx (c.map V.bl).length (c.map V.bl).length none=(c.map V.bl).length):=λ z=>by have:=HT.sIx_nat (c.map V.bl).length 0 (i + 1);rw [show ((i:Int) + 1)=(((i + 1:Nat)):Int) by omega,this,b2] at z;omega
  have c5:=zgi c i (by omega);have lc :∀a b,(cutV (c.map V.bl) a b).length<=24:=λ a b=>by unfold cutV;rw [F3,J5];omega
  refine ⟨_,rfl,.inl ⟨rfl,_,SqL.of e3⟩,?_⟩;refine ⟨_,rfl,_,rfl,(i:Int),rfl,.inr (.inl ⟨C,_,rfl,b6,d8,λ p5 c6=>⟨w_1,λ p6 c4=>?_⟩⟩)⟩;have v5:=Same.upd (o:=.tup (cutV (c.map V.bl) none (some (i:Int)))) c6;have v6:=Same.upd (o:=.tup [.bl true]) c4;have f5:=v6 _ _ (z01 (H:=H3) (a:=p5) (o:=.tup (cutV (c.map V.bl) none (some (i:Int)))));have s6:=v5.trans v6;have l1:=lc none (some (i:Int));have l2:=lc (some ((i:Int) + 1)) none;refine ⟨p5,p6,_,_,rfl,rfl,SqT.of f5,SqT.of z01,L0 (m:=100) (by show _ + 1<=100;omega) (by decide),λ p7 H7 s7 q7=>?_⟩;have b3:=s6.trans s7;refine ⟨_,rfl,_,rfl,.inl ⟨_,_,rfl,rfl,(i:Int) + 1,rfl,.inr (.inl ⟨C,_,rfl,b3.seqT b6,c2,λ p8 c0=>?_⟩)⟩⟩;have v8:=Same.upd (o:=.tup (cutV (c.map V.bl) (some ((i:Int) + 1)) none)) c0;refine ⟨p7,p8,_,_,rfl,rfl,v8.seqT q7,SqT.of z01,L0 (m:=100) (by rw [J0];show _ + 1 + _<=100;omega) (by decide),λ p9 H9 s9 q9=>?_⟩;rw [c5] at q9;have e0:=(b3.trans v8).trans s9;refine ⟨_,rfl,w_2,λ pt d7=>?_⟩;have b4:=Same.upd (o:=.tup [.ref p9,.int (if isW r=true then intV r.x else now)]) d7;have a0:=e0.trans b4;have a5:=a0 _ _ e3;refine ⟨lt,ys,.ref pt,rfl,rfl,a5,P1 (m:=100) (by omega) (by decide),?_⟩;have b1:PlV (kx w) (upd H9 pt (.tup [.ref p9,.int (if isW r=true then intV r.x else now)])) (c.set i true,if isW r=true then intV r.x else now) (.ref pt):=⟨pt,p9,rfl,SqT.of z01,b4.seqT q9⟩
  have a8:=z02 (λ _ _ z=>z.same a0) d4;generalize upd H9 pt (.tup [.ref p9,.int (if isW r=true then intV r.x else now)])=H10 at a0 a5 b1 a8⊢;have ty:Tups (kx w) H10 (upd H10 lt (.lst (ys++[.ref pt]))):=Tups.lst a5;refine ⟨nl++[(c.set i true,if isW r=true then intV r.x else now)],ys++[.ref pt],_,_,_,Same.keep (d5.trans a0) a4,z01,z0q (z02 (λ _ _ z=>z.tups ty) a8) (b1.tups ty),λ f=>?_,by rw [J0];show nl.length + 1<=i + 1;omega,rfl⟩;rw [J9,c7,iff f];constructor
  ·rintro (⟨k,a,h⟩|rfl)
   ·exact ⟨k,by omega,h⟩
   ·exact ⟨i,A2 i,r,F,a1,hc,J,rfl⟩
  ·rintro ⟨k,a,h⟩;rcases T4 (Nat.le_of_lt_succ a) with z|z
   ·exact .inl ⟨k,z,h⟩
   ·subst z;obtain ⟨r',D,_,_,_,h5⟩:=h;rw [F] at D;cases D;exact .inr h5
end
section
noncomputable abbrev Plc:=List Bool×Int
inductive Rch (rs:List Rc):Plc->Prop
 | first:Rch rs (Q0 rs.length false,0)
 | step {pl pl':Plc}:Rch rs pl->Nxt rs pl pl'->Rch rs pl'
def FinP (rs:List Rc) (pl:Plc):Prop:=∀(j:Nat) (q:Rc) (e:Nat),rs[j]? = some q->q.e=some e->pl.1[j]? = some true
theorem zbu {ds:List Bool} {k:Nat} (h:k < ds.length) (j:Nat):(ds.set k true)[j]? = some true↔ds[j]? = some true\/j=k:=by
 rw [List.getElem?_set];by_cases e:k=j
 ·subst e;rw [if_pos rfl,if_pos h];exact ⟨λ _=>.inr rfl,λ _=>rfl⟩
 ·rw [if_neg e];exact ⟨.inl,λ z=>z.elim id λ y=>absurd y.symm e⟩
theorem rch_go {rs:List Rc} {pl:Plc} (h:Rch rs pl) :∃ks,Go rs ks pl.2/\pl.1.length=rs.length/\∀j,pl.1[j]? = some true↔j∈ks:=by
 induction h with
 | first=>
  refine ⟨[],.nil,Z2,λ j=>⟨λ h=>?_,λ h=>absurd h B0⟩⟩;have h:(Q0 rs.length false)[j]? = some true:=h;rw [n4] at h;split at h
  ·cases h
  ·cases h
 | step _ hn ih=>
  obtain ⟨ks,g,c,a⟩:=ih;obtain ⟨k,r,l,b,m,f,rfl⟩:=hn;refine ⟨ks++[k],g.snoc l (λ z=>?_) m (λ j q e d i lt=>(a j).mp (f j q e d i lt)),by rw [Z7];exact c,λ j=>?_⟩
  ·rw [(a k).mpr z] at b;cases b
  ·rw [zbu (z0j b),a,J9,c7]
theorem go_rch {rs:List Rc} {ks:List Nat} {now:Int} (h:Go rs ks now) :∃ds,Rch rs (ds,now)/\ds.length=rs.length/\∀j,ds[j]? = some true↔j∈ks:=by
 induction h with
 | nil=>
  refine ⟨_,.first,Z2,λ j=>⟨λ h=>?_,λ h=>absurd h B0⟩⟩;rw [n4] at h;split at h
  ·cases h
  ·cases h
 | @snoc ks now k r _ hr hk hc hp ih=>
  obtain ⟨ds,g,c,b⟩:=ih;have a:k < ds.length:=by rw [c];exact z0j hr
  have hd:ds[k]? = some false:=by
   rw [D0 a];cases e:ds[k] with
   | false=>rfl
   | true=>exact absurd ((b k).mp (by rw [D0 a,e])) hk
  refine ⟨ds.set k true,g.step ⟨k,r,hr,hd,hc,λ j q e d f lt=>(b j).mpr (hp j q e d f lt),rfl⟩,by rw [Z7];exact c,λ j=>?_⟩;rw [zbu a,b,J9,c7]
theorem strict_iff {rs:List Rc}:Strict rs↔∃pl,Rch rs pl/\FinP rs pl:=by
 constructor
 ·rintro ⟨d,now,g,al⟩;obtain ⟨i,h,_,b⟩:=go_rch g;exact ⟨_,h,λ j q e a c=>(b j).mpr (al j q e a c)⟩
 ·rintro ⟨pl,h,f⟩;obtain ⟨d,g,_,b⟩:=rch_go h;exact ⟨d,_,g,λ j q e a c=>(b j).mp (f j q e a c)⟩
noncomputable def allB:Nat->List (List Bool)
 | 0=>[[]]
 | n + 1=>(allB n).map (true :: ·)++(allB n).map (false :: ·)
theorem zai :∀n,(allB n).length=2 ^ n
 | 0=>rfl
 | n + 1=>by show ((allB n).map _++(allB n).map _).length=_;rw [J0,G0,G0,zai n,Nat.pow_succ];omega
theorem zb1 :∀{n:Nat} {l:List Bool},l.length=n->l∈allB n
 | 0,[],_=>.head _
 | n + 1,b :: l,h=>by
  have:=zb1 (n:=n) (l:=l) (by simpa using h);cases b with
  | true=>exact List.mem_append.mpr (.inl (List.mem_map.mpr ⟨l,this,rfl⟩))
  | false=>exact List.mem_append.mpr (.inr (List.mem_map.mpr ⟨l,this,rfl⟩))
noncomputable def univ (rs:List Rc):List Plc:=(allB rs.length).flatMap λ ds=>(0 :: rs.map λ r=>intV r.x).map λ x=>(ds,x)
theorem zca {α β:Type} {f:α->List β} {c:Nat} :∀(l:List α),(∀x∈l,(f x).length=c)->(l.flatMap f).length=l.length * c
 | [],_=>by simp
 | x :: l,h=>by rw [List.flatMap_cons,J0,h x (.head _),zca l λ y a=>h y (.tail _ a),Z0,Nat.succ_mul];omega
theorem zak {rs:List Rc} (h:rs.length<=9):(univ rs).length<=5120:=by unfold univ;rw [zca (c:=rs.length + 1) _ λ x _=>by rw [G0,Z0,G0],zai];have a:2 ^ rs.length<=2 ^ 9:=Nat.pow_le_pow_right (by decide) h;exact L0 (Nat.mul_le_mul a (show rs.length + 1<=10 by omega)) (by decide)
theorem zah {rs:List Rc} {pl:Plc} (h:Rch rs pl):pl∈univ rs:=by
 have b:pl.2∈(0:Int) :: rs.map λ r=>intV r.x:=by
  induction h with
  | first=>exact .head _
  | step _ hn ih=>
   obtain ⟨k,r,a,_,_,_,rfl⟩:=hn;show (if isW r=true then intV r.x else _)∈_;split
   ·exact .tail _ (List.mem_map.mpr ⟨r,d0 a,rfl⟩)
   ·exact ih
 obtain ⟨_,_,c,_⟩:=rch_go h;exact List.mem_flatMap.mpr ⟨pl.1,zb1 c,List.mem_map.mpr ⟨pl.2,b,rfl⟩⟩
theorem nd_le {α:Type} [DecidableEq α] :∀{xs ys:List α},xs.Nodup->(∀x∈xs,x∈ys)->xs.length<=ys.length
 | [],_,_,_=>R1 _
 | x :: xs,ys,nd,h=>by have nd:=List.nodup_cons.mp nd;have:=nd_le (ys:=ys.erase x) nd.2 λ y a=>(List.mem_erase_of_ne (show y≠x from λ e=>nd.1 (by rw [<-e];exact a))).mpr (h y (.tail _ a));rw [List.length_erase_of_mem (h x (.head _))] at this;have:0 < ys.length:=List.length_pos_of_mem (h x (.head _));rw [Z0];omega
structure DfI (rs:List Rc) (kn wt:List Plc):Prop where
 a :∀pl∈kn,Rch rs pl
 f:((Q0 rs.length false,0):Plc)∈kn
 w :∀pl∈wt,pl∈kn
 c :∀pl∈kn,pl∈wt\/(¬ FinP rs pl/\∀pl',Nxt rs pl pl'->pl'∈kn)
 nd:kn.Nodup
theorem DfI.done {rs:List Rc} {kn:List Plc} (h:DfI rs kn []):¬ Strict rs:=λ z=>by
 obtain ⟨a,r,f⟩:=strict_iff.mp z;have mem :∀a,Rch rs a->a∈kn:=λ a r=>by
  induction r with
  | first=>exact h.f
  | step _ hn ih=>exact ((h.c _ ih).resolve_left B0).2 _ hn
 exact ((h.c a (mem a r)).resolve_left B0).1 f
theorem DfI.le {rs:List Rc} {kn wt:List Plc} (h:DfI rs kn wt) (n9:rs.length<=9):kn.length<=5120:=L0 (nd_le h.nd λ c b=>zah (h.a c b)) (zak n9)
structure DfJ (rs:List Rc) (pl:Plc) (nl:List Plc) (i:Nat) (kn wt:List Plc):Prop where
 a :∀x∈kn,Rch rs x
 f:((Q0 rs.length false,0):Plc)∈kn
 w :∀x∈wt,x∈kn
 p:pl∈kn
 c :∀x∈kn,x=pl\/x∈wt\/(¬ FinP rs x/\∀x',Nxt rs x x'->x'∈kn)
 t :∀x∈nl.take i,x∈kn
 nd:kn.Nodup
theorem DfJ.start {rs:List Rc} {pl:Plc} {nl kn wt:List Plc} (h:DfI rs kn (wt++[pl])):DfJ rs pl nl 0 kn wt:=⟨h.a,h.f,λ x b=>h.w x (List.mem_append.mpr (.inl b)),h.w pl (List.mem_append.mpr (.inr (.head _))),λ x b=>by
 rcases h.c x b with z|z
 ·rcases List.mem_append.mp z with y|y
  ·exact .inr (.inl y)
  ·exact .inl (List.mem_singleton.mp y)
 ·exact .inr (.inr z),λ x b=>by rw [List.take_zero] at b;exact absurd b B0,h.nd⟩
theorem DfJ.old {rs:List Rc} {pl x:Plc} {nl kn wt:List Plc} {i:Nat} (h:DfJ rs pl nl i kn wt) (hx:nl[i]? = some x) (hk:x∈kn):DfJ rs pl nl (i + 1) kn wt:=⟨h.a,h.f,h.w,h.p,h.c,λ y b=>by
 rw [z5,hx] at b;rcases List.mem_append.mp b with z|z
 ·exact h.t y z
 ·have z:y∈[x]:=z;rw [List.mem_singleton.mp z];exact hk,h.nd⟩
theorem DfJ.add {rs:List Rc} {pl x:Plc} {nl kn wt:List Plc} {i:Nat} (h:DfJ rs pl nl i kn wt) (hx:nl[i]? = some x) (hn:Nxt rs pl x) (hk:x∉kn):DfJ rs pl nl (i + 1) (kn++[x]) (wt++[x]):=by
 have l :∀{y:Plc},y∈kn->y∈kn++[x]:=λ z=>List.mem_append.mpr (.inl z);refine ⟨λ y b=>?_,l h.f,λ y b=>?_,l h.p,λ y b=>?_,λ y b=>?_,?_⟩
 ·rcases List.mem_append.mp b with z|z
  ·exact h.a y z
  ·rw [List.mem_singleton.mp z];exact (h.a pl h.p).step hn
 ·rcases List.mem_append.mp b with z|z
  ·exact l (h.w y z)
  ·exact List.mem_append.mpr (.inr z)
 ·rcases List.mem_append.mp b with z|z
  ·rcases h.c y z with u|u|⟨u1,u2⟩
   ·exact .inl u
   ·exact .inr (.inl (List.mem_append.mpr (.inl u)))
   ·exact .inr (.inr ⟨u1,λ d j=>l (u2 d j)⟩)
  ·exact .inr (.inl (List.mem_append.mpr (.inr z)))
 ·rw [z5,hx] at b;rcases List.mem_append.mp b with z|z
  ·exact l (h.t y z)
  ·exact List.mem_append.mpr (.inr z)
 ·exact List.nodup_append.mpr ⟨h.nd,List.nodup_cons.mpr ⟨B0,.nil⟩,λ y b z g e=>hk (by rw [<-List.mem_singleton.mp g,<-e];exact b)⟩
theorem DfJ.fin {rs:List Rc} {pl:Plc} {nl kn wt:List Plc} (h:DfJ rs pl nl nl.length kn wt) (nf:¬ FinP rs pl) (iff :∀x,x∈nl↔Nxt rs pl x):DfI rs kn wt:=⟨h.a,h.f,h.w,λ x d=>by
 rcases h.c x d with u|u|u
 ·subst u;exact .inr ⟨nf,λ y b=>h.t y (by rw [v4];exact (iff y).mpr b)⟩
 ·exact .inl u
 ·exact .inr u,h.nd⟩
noncomputable def plQ (pl:Plc):PyData:=.tuple [.tuple (pl.1.map .bool),.int pl.2]
theorem zh4 {x y:Plc} (h:plQ x=plQ y):x=y:=by obtain ⟨a,b⟩:=x;obtain ⟨c,d⟩:=y;unfold plQ at h;injection h with h;injection h with e f;injection e with e;injection f with f _;injection f with f;have e:=z8c e;have f:b=d:=f;have e:a=c:=e;rw [e,f]
theorem plQ_pl (x:Plc):plD (plQ x):=⟨x.1,x.2,rfl⟩
theorem z4g :∀bs:List Bool,L3 (bs.map .bool)<=1
 | []=>by simp [L3]
 | b :: bs=>by have:=z4g bs;simp only [X0,L3,PyData.depth];omega
theorem z32 (x:Plc):(plQ x).depth<=7:=by have:=z4g x.1;unfold plQ;simp only [PyData.depth,L3];omega
theorem z8s {K:c0} {H:Hp} :∀bs:List Bool,IsPds K H (bs.map .bool) (bs.map V.bl)
 | []=>rfl
 | _ :: bs=>⟨_,_,rfl,rfl,z8s bs⟩
theorem PlV.pd {K:c0} {H:Hp} {x:Plc} {b:Addr} (h:PlV K H x (.ref b)):IsPd K H (plQ x) (.ref b):=by obtain ⟨p,d,e,c,a⟩:=h;cases e;exact ⟨_,_,rfl,c,_,_,rfl,⟨_,_,rfl,a,z8s _⟩,_,_,rfl,rfl,rfl⟩
theorem Tups.ext {K:c0} {H:Hp} {l:Addr} {o:HO} {ks:List (PyData×Addr)} (e:H l=some (NsO l ks)):Tups K H (upd H l o):=λ a b h=>by
 rcases h with (h|⟨ob,h⟩)|h
 ·exact .inl (.inl (by rw [upd_ne (ne_of h e (by intro z;cases z))];exact h))
 ·exact .inl (.inr ⟨ob,by rw [upd_ne (ne_of h e (by intro z;cases z))];exact h⟩)
 ·exact .inr h
structure DfH (K:c0) (H0 H:Hp) (kd lw:Addr) (ks:List (PyData×Addr)) (kn wt:List Plc) (ys:List V):Prop where
 s:Same H0 H
 fk:H0 kd=none
 fw:H0 lw=none
 k:H kd=some (NsO kd ks)
 q :∀k∈ks,∃x,k.1=plQ x/\PlV K H x (.ref k.2)
 m:ks.map (·.1)=kn.map plQ
 w:H lw=some (.lst ys)
 a:All2 (PlV K H) wt ys
variable {K:c0} {H0 H H':Hp} {kd lw:Addr} {ks:List (PyData×Addr)} {kn wt:List Plc} {ys:List V}
theorem DfH.ne (h:DfH K H0 H kd lw ks kn wt ys):kd≠lw:=λ z=>by have:=h.w;rw [<-z,h.k] at this;cases this
theorem DfH.same (h:DfH K H0 H kd lw ks kn wt ys) (s:Same H H'):DfH K H0 H' kd lw ks kn wt ys:=⟨h.s.trans s,h.fk,h.fw,s _ _ h.k,λ k b=>(h.q k b).elim λ x z=>⟨x,z.1,z.2.same s⟩,h.m,s _ _ h.w,z02 (λ _ _ z=>z.same s) h.a⟩
theorem DfH.at_ (h:DfH K H0 H kd lw ks kn wt ys):NsAt K H kd ks:=⟨.inl h.k,λ k a=>by obtain ⟨x,e,z⟩:=h.q k a;rw [e];exact ⟨plQ_pl x,z32 x,z.pd⟩⟩
theorem DfH.mem (h:DfH K H0 H kd lw ks kn wt ys) (x:Plc):plQ x∈ks.map (·.1)↔x∈kn:=by rw [h.m];exact ⟨λ z=>by obtain ⟨y,a,e⟩:=List.mem_map.mp z;exact zh4 e ▸ a,λ z=>List.mem_map.mpr ⟨x,z,rfl⟩⟩
theorem DfH.lst (h:DfH K H0 H kd lw ks kn wt ys) {wt':List Plc} {ys':List V} (a:All2 (PlV K H) wt' ys'):DfH K H0 (upd H lw (.lst ys')) kd lw ks kn wt' ys':=by have ty:Tups K H (upd H lw (.lst ys')):=Tups.lst h.w;exact ⟨Same.keep h.s h.fw,h.fk,h.fw,by rw [upd_ne h.ne];exact h.k,λ k b=>(h.q k b).elim λ x z=>⟨x,z.1,z.2.tups ty⟩,h.m,z01,z02 (λ _ _ z=>z.tups ty) a⟩
theorem DfH.put (h:DfH K H0 H kd lw ks kn wt ys) {x:Plc} {b:Addr} (hx:x∉kn) (pv:PlV K H x (.ref b)):putN ks (plQ x) b=ks++[(plQ x,b)]/\DfH K H0 (upd H kd (NsO kd (ks++[(plQ x,b)]))) kd lw (ks++[(plQ x,b)]) (kn++[x]) wt ys:=by
 have ty:Tups K H (upd H kd (NsO kd (ks++[(plQ x,b)]))):=Tups.ext h.k;refine ⟨?_,Same.keep h.s h.fk,h.fk,h.fw,z01,λ k c=>?_,?_,by rw [upd_ne h.ne.symm];exact h.w,z02 (λ _ _ z=>z.tups ty) h.a⟩
 ·exact zfm λ z=>hx ((h.mem x).mp z)
 ·rcases List.mem_append.mp c with z|z
  ·exact (h.q k z).elim λ y u=>⟨y,u.1,u.2.tups ty⟩
  ·rw [List.mem_singleton.mp z];exact ⟨x,rfl,pv.tups ty⟩
 ·rw [C2,C2,h.m];rfl
end
section
variable {P:Program} {w:S0} {mg:Str->Option Value} {base:Heap}
theorem tup_of {ta:TA} {σ:L2.St} {H:Hp} {Q:VK} (h:ta σ H λ xs H1=>xs.length<=sizeLine/\∀p,H1 p=none->Q (.ref p) (upd H1 p (.tup xs))):tTup ta σ H Q:=h
theorem if_op2 {rd:R2} {ta tb:TE} {a b:TS} {D:Ends} {σ:L2.St} {H:Hp} {rest:TS} (h:ta σ H λ x H1=>tb σ H1 λ y H2=>rd x y H2 λ v H3=>∃k,v=.bl k/\if k=true then a { D with nx:=rest D } σ H3 else b { D with nx:=rest D } σ H3):tSeq (tIfS (tTest (tOp rd ta tb)) a b) rest D σ H:=h
def z20 (K:c0):Sp:=λ vs H Q _=>∃(lr:Addr) (rs:List Rc) (zs:List V),vs=[.ref lr]/\RwsA H lr rs zs/\zs.length<=9/\∀b H',Same H H'->(b=true↔Strict rs)->Q (.bl b) H'
theorem z5o (T:TX (kx w) mg) (c0:Ca P w mg base "_law_nexts" ["rows","done","now"] 1 (z2o (kx w))):Fo P w mg base CX0 2 362 y0a ["rows"] (z20 (kx w)):=by
 refine (z1f w.params).ok sc__law_strict (λ vs H Q E h=>?_) (λ g4 A g0 s H vs Q E hr h=>?_)
 ·obtain ⟨I,c,O,rfl,_⟩:=h;rfl
 ·obtain ⟨I,c,O,rfl,ra,l9,q⟩:=h;refine ⟨_,(z05 (ps_set (i:=1) sc__law_strict.nd rfl (L1 rfl) (pe_tup (z00 (z31 z1i rfl (T.no (z8o _)) j18 (z00 (pe_cg (xs:=["one"]) (g:=gName 0) (fr:=[]) (z0n (pv 0)) (λ _ _ _ _ _=>(pg_cn (N:=["one"]) 0)) (λ _ _ _ _ _=>pf_nil) (λ _ _ _ _ _=>pe_bl)) pa_nil)) (z00 pe_int pa_nil))))
   (z05 (ps_set (i:=2) sc__law_strict.nd rfl (L1 rfl) (ze1 hr (pv 1) pe_bl))
   (z05 (ps_set (i:=3) sc__law_strict.nd rfl (L1 rfl) (pe_lst (z00 (pv 1) pa_nil)))
   (z05 (zft i3 (z09 (z8i hr) (pv 3) (pe_lst pa_nil) (nomark _))
   (z05 (ps_asg (zhh (pv 3)) (pg_tup rfl (z0i (z0p (i:=4) sc__law_strict.nd rfl (G1 rfl)) (z0i (z0p (i:=5) sc__law_strict.nd rfl (L1 rfl)) z1o))))
   (z05 (ps_if (z09 (zhd hr) (z7c (xs:=["k"]) (g:=gName 0) (fr:=[(4,"done"),(0,"rows")]) rfl (z4r rfl (T.no (zby _)) (z00 (z0a z0o rfl (T.no (n_len _)) R3 (z00 (pv 0) pa_nil)) pa_nil)) (by intro p D;simp only [O2,B0,or_false] at D;rcases D with rfl|rfl<;>first|exact ⟨rfl,.inl rfl⟩|exact ⟨rfl,.inr rfl⟩) (zev (ns:=["done","rows"]) (by decide +kernel) (by intro n hn k;simp only [O2,B0,or_false] at hn;rcases hn with rfl|rfl<;>first|exact .inl rfl|exact .inr rfl)) (by intro p D;simp only [O2,B0,or_false] at D;rcases D with rfl|rfl<;>exact ⟨by decide +kernel,by first|exact .inl rfl|exact .inr rfl⟩) (by decide +kernel) rfl (by decide +kernel) (λ _ _ _ _ _=>(pg_cn (N:=["k","done","rows"]) 0)) (λ _ _ _ _ _=>(pf_one (PW.pt (pw_and (pt_not (pt_val (pe_ix (z0m (K:=KX w.params) rfl) (pv 1) (pv 0) (λ _ _=>rfl)) (λ _=>rfl))) (z2r (z09 z4c (pe_ix (z0m (K:=KX w.params) rfl) (pe_ix (z0m (K:=KX w.params) rfl) (pv 2) (pv 0) (λ _ _=>rfl)) pe_int (λ _ _=>rfl)) pe_non (nomark _))))))) (λ _ _ _ _ _=>(pv 0))) (pe_lst pa_nil) (nomark _))
   (z06 (ps_ret pe_bl))
   z0d)
   (z06 (ps_for i3 rfl (z0n (pe_cal c0 (hr.mono (by decide)) rfl (z00 (pv 0) (z00 (pv 4) (z00 (pv 5) pa_nil))))) (z0p (i:=6) sc__law_strict.nd rfl (L1 rfl))
   (z06 (ps_if (z09 (zdx hr) (pv 6) (pv 2) (by with_unfolding_all rfl))
   (z05 (zgf hr (pv 2) (pv 6) pe_bl rfl)
   (z06 (z2t (z15 (pv 3) (z00 (pv 6) pa_nil)))))
   z0d)))))))
   (z06 (ps_ret pe_bl)))))),?_⟩
  have lz:O.length=c.length:=z03 ra.a;have n9:c.length<=9:=by omega
  refine z0b (tup_of (zg4 (z0s (K:=KX w.params) (a:=I) (xs:=O) (H1:=H) (λ _=>true) (λ _ y _=>y=.bl false) (λ _ _ _ _ _ z=>z) (λ R h=>⟨_,rfl,h⟩) (SqL.of ra.l) (L0 (m:=100) (by omega) (by decide)) ?_ ?_)))
  ·intro i hi v H2 s2 hv KT KF g1 g2;exact ⟨[some v],rfl,rfl,iteP rfl (g1 rfl _ _ (Same.refl _) rfl)⟩
  intro l1 H1 L s1 c1 al;have f0:L=(Q0 c.length false).map V.bl:=by
   have ft:(N1 O.length).filter (λ _=>true)=N1 O.length:=List.filter_eq_self.mpr λ _ _=>rfl;rw [ft] at al;have ll:=z03 al;rw [Y4] at ll;apply Z4;intro j;rw [V0,n4];by_cases M:j < L.length
   ·have e:=D0 M;obtain ⟨_,_,z⟩:=z08 al e;rw [e,z,if_pos (by omega)];rfl
   ·rw [B4 (by omega),if_neg (by omega)];rfl
  subst f0;have u1:=Same.upd (o:=.lst ((Q0 c.length false).map V.bl)) c1;refine ⟨l1,_,rfl,.inl ⟨SqL.of z01,λ F c4=>⟨w_2,λ u c3=>g_name ?_⟩⟩⟩;have u2:=Same.upd (o:=.tup ((Q0 c.length false).map V.bl)) c4;have u3:=Same.upd (o:=.tup [.ref F,.int 0]) c3;have f2:=u3 _ _ (z01 (H:=upd H1 l1 (.lst ((Q0 c.length false).map V.bl))) (a:=F) (o:=.tup ((Q0 c.length false).map V.bl)));have f3:upd (upd (upd H1 l1 (.lst ((Q0 c.length false).map V.bl))) F (.tup ((Q0 c.length false).map V.bl))) u (.tup [.ref F,.int 0]) u=some (.tup [.ref F,.int 0]):=z01;have U:=((s1.trans u1).trans u2).trans u3;have pv:PlV (kx w) (upd (upd (upd H1 l1 (.lst ((Q0 c.length false).map V.bl))) F (.tup ((Q0 c.length false).map V.bl))) u (.tup [.ref F,.int 0])) (Q0 c.length false,0) (.ref u):=⟨u,F,rfl,SqT.of f3,SqT.of f2⟩
  generalize upd (upd (upd H1 l1 (.lst ((Q0 c.length false).map V.bl))) F (.tup ((Q0 c.length false).map V.bl))) u (.tup [.ref F,.int 0])=H3 at U pv⊢;clear u1 u2 u3 f2 f3 s1 c1 c4 c3 al;refine z0b λ f b1=>?_;have u4:=Same.upd (o:=NsO f []) b1;have b7:=pv.same u4;refine ⟨_,rfl,u,plQ (Q0 c.length false,0),rfl,rfl,z01,plQ_pl _,z32 _,b7.pd,g_name ?_⟩;have fk:H f=none:=U.free b1;have s5:Same H (upd (upd H3 f (NsO f [])) f (NsO f [(plQ (Q0 c.length false,0),u)])):=Same.keep (U.trans u4) fk;have k5:upd (upd H3 f (NsO f [])) f (NsO f [(plQ (Q0 c.length false,0),u)]) f=some (NsO f [(plQ (Q0 c.length false,0),u)]):=z01;have b5:=b7.tups (Tups.ext (o:=NsO f [(plQ (Q0 c.length false,0),u)]) (z01 (H:=H3) (a:=f) (o:=NsO f [])));generalize upd (upd H3 f (NsO f [])) f (NsO f [(plQ (Q0 c.length false,0),u)])=H5 at s5 k5 b5⊢;refine z0b ⟨_,rfl,w_1,λ B b6=>g_name ?_⟩;have u6:=Same.upd (o:=.lst [.ref u]) b6;have b4:=b5.same u6;have r:DfH (kx w) H (upd H5 B (.lst [.ref u])) f B [(plQ (Q0 c.length false,0),u)] [(Q0 c.length false,0)] [(Q0 c.length false,0)] [.ref u]:=⟨s5.trans u6,fk,s5.free b6,u6 _ _ k5,λ k hk=>by rw [List.mem_singleton.mp hk];exact ⟨_,rfl,b4⟩,rfl,z01,.cons b4 .nil⟩
  have G:DfI c [(Q0 c.length false,0)] [(Q0 c.length false,0)]:=⟨λ pl D=>by rw [List.mem_singleton.mp D];exact .first,.head _,λ pl D=>D,λ pl D=>.inl D,List.nodup_cons.mpr ⟨B0,.nil⟩⟩
  generalize upd H5 B (.lst [.ref u])=H6 at r⊢;clear u6 b4 b5 s5 k5 u4 b7 pv U b1 b6;refine z28 (λ σ C=>Same H C/\¬ Strict c) (λ σ C h=>q _ _ h.1 ⟨(λ z=>by cases z),λ z=>absurd z h.2⟩) λ go=>?_;refine ⟨λ m σ C=>∃ks kn wt ys x1 x4 x5 x6,DfH (kx w) H C f B ks kn wt ys/\DfI c kn wt/\m + 2 * kn.length=10240 + wt.length/\wt.length<=kn.length/\σ=[some (.ref I),x1,some (.ref f),some (.ref B),x4,x5,x6],⟨10239,_,_,_,_,_,_,_,_,r,G,rfl,C0 _,rfl⟩,?_⟩;rintro m σ H7 ⟨ks,kn,wt,ys,x1,x4,x5,x6,r,G,hm,b2,rfl⟩;have e2:=G.le n9;have d1:=z03 r.a;refine ⟨_,rfl,w_0,λ le f4=>?_⟩;have u8:=Same.upd (o:=.lst []) f4;refine ⟨B,le,ys,rfl,rfl,SqL.of (u8 _ _ r.w),SqL.of z01,_,rfl,?_⟩;have W:=r.same u8;generalize upd H7 le (.lst [])=H8 at u8 W⊢;rcases List.eq_nil_or_concat wt with rfl|⟨wt0,pl,ew⟩
  ·have:ys=[]:=List.eq_nil_of_length_eq_zero d1;exact iteN (λ z=>of_decide_eq_true z this) (go [some (.ref I),x1,some (.ref f),some (.ref B),x4,x5,x6] _ ⟨W.s,G.done⟩)
  ·rw [List.concat_eq_append] at ew;subst ew;obtain ⟨b0,y,rfl,a0,py⟩:=z22 W.a;refine iteP (decide_eq_true (by simp)) ?_;obtain ⟨t,now⟩:=pl;obtain ⟨p,d,rfl,sp,sd⟩:=py;obtain ⟨_,_,b8,_⟩:=rch_go (G.a (t,now) (G.w _ (List.mem_append.mpr (.inr (.head _)))));have b8:t.length=c.length:=b8;rw [J0] at hm b2;have hm:m + 2 * kn.length=10240 + (wt0.length + 1):=hm;have b2:wt0.length + 1<=kn.length:=b2;refine ⟨λ σ' C=>∃ks' kn' wt' ys' x1 x4 x5 x6,DfH (kx w) H C f B ks' kn' wt' ys'/\DfI c kn' wt'/\kn'.length + wt0.length=kn.length + wt'.length/\wt'.length<=kn'.length/\kn.length<=kn'.length/\σ'=[some (.ref I),x1,some (.ref f),some (.ref B),x4,x5,x6],?_,?_⟩
   ·rintro σ' C ⟨ks',kn',wt',ys',x1,x4,x5,x6,dh',df',hl,hw,hk,rfl⟩;have:=df'.le n9;exact ⟨10240 + wt'.length - 2 * kn'.length,by omega,ks',kn',wt',ys',_,_,_,_,dh',df',by omega,hw,rfl⟩
   have e8:=W.w;refine z0b ⟨_,rfl,.inl ⟨rfl,_,SqL.of e8⟩,B,_,.ref p,rfl,rfl,e8,by simp,?_⟩;rw [List.dropLast_concat];have a4:=W.lst a0;have ty:Tups (kx w) H8 (upd H8 B (.lst b0)):=Tups.lst e8;have b3:=ty _ _ sp;have a8:=ty _ _ sd;generalize upd H8 B (.lst b0)=H9 at a4 b3 a8⊢;refine ⟨p,_,rfl,b3,rfl,_,_,rfl,_,_,rfl,rfl,?_⟩;have a5:=ra.same a4.s;have f9:DfJ c (t,now) [] 0 kn wt0:=DfJ.start G;have e3:=G.a (t,now) (G.w _ (List.mem_append.mpr (.inr (.head _))));clear r W a0 ty sp sd e8 u8 d1 e2;refine if_op2 (z6g (S:=Same) (n:=c.length) (λ j=>decide (t[j]? = some false) && (c[j]?.getD r00).e.isSome) (λ _ _ _=>True) (Same.refl _) (λ _ _ _ a b=>a.trans b) (λ _ _=>Same.refl _) (λ _ _ _ _ _ _=>trivial) (λ T h=>⟨_,rfl,.inl ⟨I,O,rfl,.inl (SqL.of a5.l),by rw [lz];exact h⟩⟩) (L0 (m:=100) (by omega) (by decide)) ?_ ?_)
   ·intro j M Hx sx KT KF g1 g2;have a2:c[j]? = some (c[j]'(by omega)):=D0 M;generalize c[j]'(by omega)=q' at a2;have a1:t[j]? = some (t[j]'(by omega)):=D0 (by omega);generalize t[j]'(by omega)=bj at a1;obtain ⟨yj,d7,pj,g5,rfl,f5,_⟩:=z25 a5.a a2;have f6:=sx _ _ f5;have d6:=sx _ _ a5.l;rw [a1,getD_some a2] at g1 g2;refine ⟨[some (.int (j:Nat))],rfl,rfl,_,rfl,_,rfl,.inr (.inl ⟨d,_,j,.bl bj,rfl,rfl,sx.seqT a8,z04 (by rw [V0,a1];rfl),_,rfl,?_⟩)⟩;cases bj with
    | true=>exact iteN N0 (iteN N0 (g2 rfl _ (Same.refl _)))
    | false=>
     refine iteP rfl ?_;refine ⟨_,rfl,_,rfl,.inl ⟨I,O,j,_,rfl,rfl,SqL.of d6,z04 d7,.inl ⟨pj,_,5,endV q'.e,rfl,rfl,SqL.of f6,z04 (j:=5) rfl,rfl,_,rfl,?_⟩⟩⟩;cases X:q'.e with
     | none=>exact iteN (λ z=>by cases z) (g2 (by rw [X];rfl) _ (Same.refl _))
     | some e=>exact iteP rfl ⟨_,rfl,g1 (by rw [X];rfl) _ _ (Same.refl _) trivial⟩
   intro l3 H3 L U d3 a9;have u4:=Same.upd (o:=.lst L) d3;refine ⟨w_0,λ l4 e7=>?_⟩;have u5:=Same.upd (o:=.lst []) e7;have a3:=(U.trans u4).trans u5;refine ⟨l3,l4,L,rfl,rfl,SqL.of (u5 _ _ z01),SqL.of z01,_,rfl,ite2 (λ z=>?_) λ z=>t_nx ?_⟩
   ·have e9:L=[]:=of_decide_eq_true z;refine q _ _ (a4.s.trans a3) ⟨λ _=>strict_iff.mpr ⟨(t,now),e3,λ j q' e M X=>?_⟩,λ _=>rfl⟩;have jl:=z0j M;have a1:t[j]? = some (t[j]'(by omega)):=D0 (by omega);show t[j]? = some true;rw [a1];cases hb:t[j]'(by omega) with
    | true=>rfl
    | false=>exfalso;have e4:j∈(N1 c.length).filter λ j=>decide (t[j]? = some false) && (c[j]?.getD r00).e.isSome:=List.mem_filter.mpr ⟨List.mem_range.mpr jl,by rw [a1,hb,getD_some M,X,decide_eq_true rfl];rfl⟩;have:=z03 a9;rw [e9] at this;exact R4 e4 (List.eq_nil_of_length_eq_zero this.symm)
   ·have e6:L≠[]:=λ y=>z (decide_eq_true y);have nf:¬ FinP c (t,now):=λ fp=>by
     obtain ⟨w0,f7,ew⟩:=B5 e6;obtain ⟨j,M,_⟩:=z08 a9 (show L[0]? = some w0 by rw [ew];rfl);have hf:=(List.mem_filter.mp (d0 M)).2;obtain ⟨f1,f2⟩:=Bool.and_eq_true_iff.mp hf;have f1:=of_decide_eq_true f1;have jl:j < c.length:=by have:=z0j f1;omega
     have a2:=D0 jl;rw [getD_some a2] at f2;obtain ⟨e,X⟩:=Option.isSome_iff_exists.mp f2;have this:t[j]? = some true:=fp j _ e a2 X;rw [f1] at this;cases this
    have a7:=a4.same a3;have c5:=a5.same a3;have c8:=a3.seqT a8;generalize upd (upd H3 l3 (.lst L)) l4 (.lst [])=HA at a7 c5 c8⊢;clear a4 a5 a8 b3 a3 u5 u4 U a9 d3;refine ⟨_,rfl,_,rfl,_,rfl,I,d,now,t,c,O,rfl,c5,c8,b8,λ l a6 nl HB sB fl eB c6 c7 ln=>⟨l,rfl,⟨_,SqL.of eB⟩,?_⟩⟩;have e1:l≠B:=λ z=>by rw [z,a7.w] at fl;cases fl
    have e5:l≠f:=λ z=>by rw [z,a7.k] at fl;cases fl
    have d8:=z03 c6;refine z1v (K:=KX w.params) (a:=l) (xs:=a6) (λ i σ C=>∃ks' kn' wt' ys' x6,DfH (kx w) H C f B ks' kn' wt' ys'/\DfJ c (t,now) nl i kn' wt'/\kn'.length + wt0.length=kn.length + wt'.length/\wt'.length<=kn'.length/\kn.length<=kn'.length/\C l=some (.lst a6)/\All2 (PlV (kx w) C) nl a6/\σ=[some (.ref I),x1,some (.ref f),some (.ref B),some (.ref d),some (.int now),x6]) ⟨ks,kn,wt0,b0,_,a7.same sB,DfJ.start G,rfl,by omega,C0 _,eB,c6,rfl⟩ (λ i σ C _ h=>?_) ?_ ?_
    ·obtain ⟨_,_,_,_,_,_,_,_,_,_,e,_⟩:=h;exact SqL.of e
    ·rintro i y σ Y hy ⟨ks',kn',wt',ys',x6,r,J,hl,hw,hk,eC,alC,rfl⟩;obtain ⟨x,hx,pv⟩:=z08 alC hy;obtain ⟨b,d2,rfl,sb,d5⟩:=pv;have pv:PlV (kx w) Y x (.ref b):=⟨b,d2,rfl,sb,d5⟩
     have kl:kn'.length<=5120:=L0 (nd_le J.nd λ z hz=>zah (J.a z hz)) (zak n9);have g3:ks'.length=kn'.length:=by have:=congrArg j24 r.m;rwa [G0,G0] at this
     have f8:=z03 r.a;refine g_name ?_;refine ⟨_,rfl,_,rfl,f,b,ks',plQ x,rfl,rfl,r.at_,plQ_pl x,z32 x,pv.pd,_,rfl,?_⟩;by_cases hxk:x∈kn'
     ·rw [decide_eq_true ((r.mem x).mpr hxk)];exact iteN (by decide) ⟨ks',kn',wt',ys',_,r,J.old hx hxk,hl,hw,hk,eC,alC,rfl⟩
     ·rw [decide_eq_false (λ z=>hxk ((r.mem x).mp z))];refine iteP rfl ?_;obtain ⟨ep,Z⟩:=r.put hxk pv;refine ⟨_,rfl,_,rfl,f,b,ks',plQ x,rfl,rfl,rfl,r.k,r.at_,P1 (m:=5120) (by omega) (by decide),plQ_pl x,z32 x,pv.pd,?_⟩;rw [ep];have d4:Tups (kx w) Y (upd Y f (NsO f (ks'++[(plQ x,b)]))):=Tups.ext r.k;have c9:=pv.tups d4;have b9:upd Y f (NsO f (ks'++[(plQ x,b)])) l=some (.lst a6):=by rw [upd_ne e5];exact eC
      have c2:=z02 (λ _ _ z=>z.tups d4) alC;generalize upd Y f (NsO f (ks'++[(plQ x,b)]))=HD at Z c9 b9 c2⊢;refine ⟨_,rfl,.inl ⟨rfl,_,SqL.of Z.w⟩,_,rfl,B,ys',.ref b,rfl,rfl,Z.w,P1 (m:=5120) (by omega) (by decide),?_⟩;have d9:=Z.lst (z0q Z.a c9);have e0:Tups (kx w) HD (upd HD B (.lst (ys'++[.ref b]))):=Tups.lst Z.w;exact ⟨_,kn'++[x],wt'++[x],_,_,d9,J.add hx ((c7 x).mp (d0 hx)) hxk,by rw [J0,J0];show kn'.length + 1 + _=_ + (wt'.length + 1);omega,by rw [J0,J0];exact Nat.succ_le_succ hw,by rw [J0];omega,by rw [upd_ne e1];exact b9,z02 (λ _ _ z=>z.tups e0) c2,rfl⟩
    ·rintro σ Y ⟨ks',kn',wt',ys',x6,r,J,hl,hw,hk,eC,alC,rfl⟩;rw [d8] at J;exact ⟨ks',kn',wt',ys',_,_,_,_,r,J.fin nf c7,hl,hw,hk,rfl⟩
def EndsB (rs:List Rc):Prop:=∀r∈rs,∀e,r.e=some e->r.b < e
theorem EndsB.all :∀{es:List Ev} {i:Nat} {rs:List Rc},EndsB rs->(∀r∈rs,r.b < i)->EndsB (dAll i rs es)/\∀r∈dAll i rs es,r.b < i + es.length
 | [],i,rs,h,hb=>⟨h,hb⟩
 | e :: es,i,rs,h,hb=>by
  have key:EndsB (dstep i rs e)/\∀r∈dstep i rs e,r.b < i + 1:=by
   cases e with
   | beg k n v x=>
    have l:dstep i rs (.beg k n v x)=rs++[⟨k,n,v,x,.non,i,none⟩]:=rfl;rw [l];refine ⟨λ r c e d=>?_,λ r c=>?_⟩
    ·rcases List.mem_append.mp c with z|z
     ·exact h r z e d
     ·rw [List.mem_singleton.mp z] at d;cases d
    ·rcases List.mem_append.mp c with z|z
     ·have:=hb r z;omega
     ·rw [List.mem_singleton.mp z];exact A2 i
   | fin k a=>
    cases hl:lastI k (rs.map Rc.h) with
    | none=>
     have hd:dstep i rs (.fin k a)=rs:=by unfold dstep;dsimp only;rw [hl]
     rw [hd];exact ⟨h,λ r c=>E1 (hb r c)⟩
    | some j=>
     have hd:dstep i rs (.fin k a)=rs.modify j (λ r=>{ r with a:=a,e:=some i }):=by unfold dstep;dsimp only;rw [hl]
     rw [hd];have get :∀q∈rs.modify j (λ r=>{ r with a:=a,e:=some i }),∃r∈rs,q.b=r.b/\(q.e=some i\/q.e=r.e):=λ q g=>by
      obtain ⟨m,l⟩:=List.mem_iff_getElem?.mp g;rw [B2] at l;obtain ⟨r,c,e⟩:=Option.map_eq_some_iff.mp l;refine ⟨r,d0 c,?_⟩;by_cases z:j=m
      ·rw [if_pos z] at e;rw [<-e];exact ⟨rfl,.inl rfl⟩
      ·rw [if_neg z] at e;rw [<-e];exact ⟨rfl,.inr rfl⟩
     refine ⟨λ q g e d=>?_,λ q g=>?_⟩
     ·obtain ⟨r,c,o,f⟩:=get q g;rcases f with f|f
      ·rw [f] at d;cases d;rw [o];exact hb r c
      ·rw [o];exact h r c e (by rw [<-f];exact d)
     ·obtain ⟨r,c,o,_⟩:=get q g;have:=hb r c;omega
  obtain ⟨s,p⟩:=EndsB.all (es:=es) key.1 key.2;refine ⟨s,λ r c=>?_⟩;have:=p r c;rw [Z0];omega
theorem zfc (ns:List Int) (a b:Option Int) :∃ms:List Int,cutV (ns.map V.int) a b=ms.map V.int/\ms.length<=ns.length:=by
 refine ⟨(ns.drop (HT.sIx (ns.map V.int).length 0 a)).take (HT.sIx (ns.map V.int).length (ns.map V.int).length b - HT.sIx (ns.map V.int).length 0 a),?_,?_⟩
 ·unfold cutV;rw [List.map_take,List.map_drop]
 ·rw [F3,J5];omega
theorem RwsA.sb {H H':Hp} {lr:Addr} {rs:List Rc} {zs:List V} (s:SameB tbT H H') (h :∃ps,H tbT=some (.tbl ps)) (r:RwsA H lr rs zs):RwsA H' lr rs zs:=by obtain ⟨ps,z⟩:=h;have k :∀{b:Addr} {xs:List V},H b=some (.lst xs)->H' b=some (.lst xs):=λ e=>s _ _ (λ q=>by rw [q,z] at e;cases e) e;exact ⟨k r.l,z02 (λ _ _ z=>by obtain ⟨p,c,f,i,d⟩:=z;exact ⟨p,c,f,k i,d⟩) r.a,r.g,r.x,r.n⟩
theorem cut_41 (xs:List V):(cutV xs (some 1) (some 41)).length<=40:=by have a:HT.sIx xs.length 0 (some 1)=min 1 xs.length:=HT.sIx_nat xs.length 0 1;have b:HT.sIx xs.length xs.length (some 41)=min 41 xs.length:=HT.sIx_nat xs.length xs.length 41;unfold cutV;rw [a,b,F3,J5];omega
def sp_law (K:c0):Sp:=λ vs H Q _=>∃(sc:Addr) (ns:List Int),vs=[.ref sc]/\SqL K H sc (ns.map V.int)/\ns.length<=63/\H tbT=some (.tbl #[])/\∀H',Q (.bl true) H'
theorem ok_law (T:TX (kx w) mg) (c0:Ca P w mg base "_law_cell_at" ["script","k"] 1 (z1p (kx w))) (c1:Ca P w mg base "_law_made" ["cells","most","spoilt"] 8 (z39 (kx w))) (c2:Ca P w mg base "collision" ["tale"] 7 (z33 (kx w))) (c3:Ca P w mg base "_law_strict" ["rows"] 2 (z20 (kx w))):Fo P w mg base CX0 9 369 fd_law ["script"] (sp_law (kx w)):=by
 refine (F_law w.params).ok sc_law (λ K H Q E h=>?_) (λ a4 A a2 s H K Q E c h=>?_)
 ·obtain ⟨t,d,rfl,_⟩:=h;rfl
 ·obtain ⟨t,d,rfl,u,hn,J,q⟩:=h;refine ⟨_,(z05 (ps_asg (pe_cal c1 (c.mono (by decide)) rfl (z00 (z1z slSeq (pv 0) (z2u pe_int) (z2u pe_int)) (z00 pe_int (z00 (z10 op_gt (pe_op op_mod (pe_cal c0 (c.mono (by decide)) rfl (z00 (pv 0) (z00 pe_int pa_nil))) pe_int) pe_int (nomark _)) pa_nil)))) (pg_tup rfl (z0i (z0p (i:=1) sc_law.nd rfl (L1 rfl)) (z0i (z0p (i:=2) sc_law.nd rfl (L1 rfl)) z1o))))
   (z06 (ps_ret (z10 opEq (z10 op_isN (pe_cal c2 (c.mono (by decide)) rfl (z00 (pv 1) pa_nil)) pe_non (nomark _)) (pe_cal c3 (c.mono (by decide)) rfl (z00 (pv 2) pa_nil)) (nomark _))))),?_⟩
  have S:LamH H:=.inl J;refine z0b ⟨_,rfl,1,rfl,41,rfl,.inl ⟨t,_,rfl,u,λ Y I=>?_⟩⟩;obtain ⟨G,N,_⟩:=zfc d (some 1) (some 41);have x:=cut_41 (d.map V.int);rw [N] at x⊢;rw [G0] at x;obtain ⟨H1,W,y,R⟩:=newA (.lst (G.map V.int)) I;rw [<-W];refine ⟨_,rfl,t,d,0,rfl,y.seq u,λ z=>⟨_,_,rfl,rfl,(show (0:Int) < 3 by decide),_,_,rfl,rfl,Y,_,G,rfl,SqL.of R,by omega,λ M U Z zs es ys H2 s2 a0 f l z9=>?_⟩⟩;refine ⟨M,_,rfl,SqT.of a0,rfl,_,_,rfl,_,_,rfl,rfl,?_⟩;have nd:=f.tw.nd;have n0:=f.tw.n0;have B:=PosI.all es PosI.nil;have D:=LamH.same (y.trans s2) S;have lz:=z03 l.a;have a3:=f.ln;have C:EndsB (dAll 0 [] es):=(EndsB.all (es:=es) (i:=0) (rs:=[]) (λ _ h=>absurd h B0) (λ _ h=>absurd h B0)).1;refine ⟨_,rfl,U,"r",0,es,ys,rfl,f,D,λ o v H3 sb a1 m j=>?_⟩;have X:=l.sb sb D.tb;refine ⟨rfl,_,rfl,Z,dAll 0 [] es,zs,rfl,X,z9,λ b H4 s4 hb=>?_⟩;have O:v=.non↔o=.non:=by
   cases o with
   | non=>exact ⟨λ _=>rfl,λ _=>j⟩
   | lost n=>obtain ⟨p,rfl,_⟩:=j;exact ⟨(λ z=>by cases z),(λ z=>by cases z)⟩
   | pr k a b=>obtain ⟨p,rfl,_⟩:=j;exact ⟨(λ z=>by cases z),(λ z=>by cases z)⟩
  have F:b=true↔v=.non:=by rw [hb,O];refine ⟨λ st=>zej B (λ r c e L=>X6 (C r c e L)) nd n0 st m,λ e=>?_⟩;rw [e] at m;exact zd2 B (by omega) C l.g nd n0 m
  have eq:decide (v=.non)=b:=by
   by_cases h:v=.non
   ·rw [decide_eq_true h,F.mpr h]
   ·rw [decide_eq_false h];cases b with
    | false=>rfl
    | true=>exact absurd (F.mp rfl) h
  refine ⟨rfl,?_⟩;rw [eq,decide_eq_true rfl];exact q _
end
theorem ky_in {w:S0} {h:Heap} (Y:(KY w.params).In h):(kx w).In h/\h.get? tbT=some (U7 #[]):=by
 have n0:B9 tbT (kx w)=none:=by kernel_rfl
 refine ⟨λ b o e=>Y b o ?_,Y tbT _ ?_⟩
 ·have e:B9 b (kx w)=some o:=e;show B9 b ((tbT,_) :: KX w.params)=some o;rw [Y3,beq_eq_false_iff_ne.mpr λ z=>by rw [z,n0] at e;cases e];exact e
 ·show B9 tbT ((tbT,_) :: KX w.params)=some _;rw [Y3,beq_self_eq_true]
theorem all_law {P:Program} {w:S0} {mg:Str->Option Value} {base:Heap} (T:TX (kx w) mg) (B:BtMain base mg):Fo P w mg base CX0 9 369 fd_law ["script"] (sp_law (kx w)):=by have m:=@cal_mk P w (kx w) mg base;have c:=m T (z3h _) (zaj _) (zac _) (z9y T );have d:=m T (z2k _) (z9n _) (z9h _) (z7u T c);have N:=m T (z38 _) (zcl _) (zbs _) (z9q T d);have a:=m T (z1d _) (z6a _) (z5x _) (z4l T );have h:=m T (z4p _) (zdr _) (zef _) (zb2 T );have p:=m T (z5c _) (zd5 _) (ze2 _) (zc3 T h N a);have G:=m T (zb0 _) (zgw _) (zgl _) (zfr T );have i:=m T (z4t _) (zem _) (zdg _) (zb9 T );have l:=m T (z3u _) (zcp _) (zb5 _) (z9c T a i h);have J:=m T (z1b _) (z66 _) (z5u _) (z4m T l);have k:=m T (z51 _) (zdn _) (zdo _) (zcm T c);have j:=m T (z3i _) (zc8 _) (zam _) (z9d T a k);have M:=m T (z2h _) (z9a _) (z9i _) (z7g T d);have q:=m T (z3g _) (zcg _) (zcr _) (z9v T j i p);have n:=m T (z7q _) (zfn _) (zfu _) (zeg T j M);have z:=m T (z1j _) (z65 _) (z6d _) (z5h T );have E:=m T (z1e _) (z63 _) (z70 _) (z5s T q n z);have r:=m T (z2g _) (z9f _) (z9l _) (z7x T J E);have H:=m T (z1h _) (z5z _) (z6v _) (z4q T c);have I:=m T (z2f _) (z9r _) (za3 _) (z7j T H);have g:=m T (z1a _) (z6w _) (z6h _) (z4y T G I);have f:=m T (z5j _) (zdi _) (zds _) (zce T );have e:=m T (z1g _) (z6l _) (z6u _) (z5m T );have s:=m T (z4s _) (zeh _) (ze7 _) (zb3 T );have D:=m T (zbt _) (zh3 _) (zhb _) (zf9 T B g f e s);have F:=m T (z14 _) (z4n _) (z4v _) (z3w T );have y:=m T (z3n _) (zbr _) (zbk _) (za0 T );have b:=m T (z2e _) (z9s _) (z9b _) (z78 T );have K:=m T (z1c _) (z6k _) (z6o _) (z5f T b);have v:=m T (z0x _) (z3r _) (z36 _) (z2y T b);have t:=m T (z2l _) (z9w _) (za1 _) (z79 T y b K v r);have A:=m T (z56 _) (zcx _) (zdl _) (zc5 T );have C:=m T (z5e _) (zdh _) (zd0 _) (zbd T );have u:=m T (z1w _) (z7n _) (z7m _) (z6n T C A);have o:=m T (z2m _) (z9u _) (z9j _) (z7l T g f e D u);have x:=m T (z1t _) (z76 _) (z7b _) (z5w T );have L:=m T (z1f _) (z6c _) (z68 _) (z5o T x);exact ok_law T F t o L
end K16
open PySem PySem.W PyProof.Rows
set_option maxRecDepth 100000 in
set_option maxHeartbeats 0 in
theorem PySem.Challenge.cw_talejudge_k16_whole_zones_judge_holds : PySem.Challenge.rw_talejudge_k16_whole_zones_judge.Holds := by
 w_on;o_law
 refine holds_open (q:=K16.viewX) (loose:=K16.looseX) (Xt:=K16.XtX) (XP:=XL K16.viewX []) (Yf:=Hook.obs K16.HX) (Ya:=Hook.val K16.HX) (YP:=Hook.says K16.HX) (N:=200000) K16.leftX (Hook.of K16.HX) (Hook.keeps K16.HX) (λ s e=>xl_of s (Bool.and_eq_true_iff.mp e).1) XL.keeps (by rfl) (by rfl) (by rfl) (λ s e=>recFacts_of (Bool.and_eq_true_iff.mp e).2) (by rfl) (by assumption) (by decide +kernel) ⟨rfl,rfl,rfl,rfl,rfl,by decide +kernel⟩ ?hw ?hc
 case hw=>w_witness2
 case hc=>
  refine L2.walk_ofT (T:=K16.tbT) (c:=K16.cdT) (l:=PySem.Challenge.rw_talejudge_k16_whole_zones_judge) (n:=63) (k:=9) (x:="script") (K:=K16.KX) (CX:=λ _=>L2.CX0) (sp:=λ w=>K16.sp_law (K16.KX w.params)) rfl (by decide) rfl ⟨rfl,by decide,by decide,rfl⟩ (λ w h Y=>K16.ky_in (PySem.W.kIn_of Y)) (λ P=>by kernel_rfl) K16.ck_T ?F ?S ?C
  case F=>intro w p r h KX G b;have T:=L2.TX.mk' KX G;have d:=b.symm.trans (T.of (K16.g_law _));cases d;exact ⟨K16.fd_law,λ s u=>.of_eq rfl,λ t o m B=>K16.all_law T B⟩
  case S=>exact λ w H a i g f j=>⟨a,i,rfl,j,g,f,λ _=>rfl⟩
  case C=>exact λ _ _ _ _ _ z=>z
