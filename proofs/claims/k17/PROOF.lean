import PyProof.Rows.All
import Wide.All
import OpenK.AllK
import Wide.FinOn
import Lean
import PyProof.EqAt
import PyProof.EqKinds
import PyProof.TupleCall
import Open.Tops
import KE.KIntText
import PyProof.ZipIter
import PyProof.ReprRoads
import PyProof.Draws
import KE.KDictSum
import KE.KSortedM
import OpenK.KRaise
import OpenK.KOwn
import PyProof.ExcBaseAll.ValueError
import KE.KTryMore
import PyProof.NsDelKeeps
import KE.KDictOf
import KE.KEqDict
import PyProof.DictWalks
import PyProof.TupleKey
import PyProof.MinMaxWalk
import KE.KSortTup
import PyProof.StrWalks
import KE.KRevIter
import KE.KListMore
import PyProof.StrLawsTight
import PyProof.StrLawsChain
import KE.KSortKey
import KE.KLam
import PyProof.DictItems
import PySem.Challenge.RW_talejudge_k17_whole_made_strictly
open PySem.PyData renaming keyHash->b0
open PySem.W renaming Frag->c0,kia_one->Y2,nsIn->D3,keepIn->Y3,kla_obj->Y4,fnOf->k5,findIn->W5,cellsFrom_some->F6,tabObj->X6,codeIn->Y6,CodeHd->Z6,methodObj->T7,instObj->k8,lookIn->E8,specialIn->W9,kitx_list->X9,kitx_dict->Y9
open PySem.Builtin.Tuple renaming tupleHashOf->d0,tupleExact->F4
open List renaming mem_of_getElem?->o0,not_mem_nil->B0,length_append->F0,length_map->G0,size_toArray->L0,mem_append_right->M0,map_cons->T0,getElem?_eq_getElem->Y0,getElem?_map->Z0,length_cons->i1,getElem?_cons_succ->B1,getElem?_modify->C1,forall_mem_cons->O1,getElem?_cons_zero->R1,range->V1,mem_cons_self->W1,length_filter_le->X1,filter_cons_of_pos->Z1,filter_cons_of_neg->i2,getElem?_append_right->E2,mem_cons_of_mem->G2,getElem?_append_left->N2,map_append->P2,replicate->V2,filter_append->W2,append_nil->i3,length_replicate->B3,lookup_cons->G3,length_take->K3,mem_cons->L3,take_of_length_le->Q3,map_map->R3,length_singleton->U3,find?_cons->V3,getElem_map->n4,length_nil->A4,getElem?_eq_none->D4,mem_append_left->P4,drop_zero->Q4,take_length->T4,length_drop->U4,length_modify->i5,pairwise_map->w5,ext_getElem?->z5,getElem_mem->M5,filter_cons->N5,of_mem_zip->U5,filter_nil->V5,zip_nil_right->i6,drop_eq_getElem_cons->w6,filterMap_cons_some->B6,any_cons->C6,getElem?_replicate->G6,pairwise_lt_range->P6,map_nil->Q6,take_succ->B7,getElem?_append->C7,map_congr_left->Q7,filterMap_cons->R7,ne_nil_of_mem->X7,length_range->f8,foldl_append->g8,lookup->J8,range_succ->M8,forIn_cons->N8,foldl_cons->O8,dropLast_concat_getLast->P8,forIn_nil->a9,exists_cons_of_ne_nil->b9,pairwise_iff_getElem->g9,take_nil->t9,filterMap_cons_none->v9,getElem?_set_self->D9,drop_of_length_le->E9,getElem?_set_ne->j00
open PySem renaming wpAny_bind->v0,Shared->y0,wpAny_pure->C0,World->N0,wpAny->P0,Params->R0,model->V0,reduceHash->X0,starEach->F1,mainGlobals->Q1,Around->B2,wpAny_holding->D2,OsState->T2,compareOp->U2,wpAny_truthy_bool->g3,treeTable->m3,wpAny_mono->y3,wpAny_Call_Name_kw->O3,eval->P3,boot_len->T3,strKind->X3,codeAny_builtin->Z3,wpAny_newObj_type->d4,foldedSetIterable->g4,bootBuiltins->i4,sysModules->v4,wpAny_pyIter_tuple->E4,rawInt->R4,intKind->S4,mem_of_lookup->W4,binaryOp->Z4,codeAny_mono->a5,backTo->j5,codeAny->v5,tupleKind_room_in1->D5,tupleKind->J5,sizeLine_eq->K5,eqIsQuiet->L5,placesWithHash->O5,NameKind->Q5,wpAny_field->a6,sliceBounds->c6,callSpecialIfBoundUnlessNone?->d6,wpAny_passesOwn->m6,importedModules->n6,PyData->p6,SetTable->E6,wpAny_pyIter_list->M6,wpAny_pyIter_enum->N6,relabel->O6,Builtin->T6,behindInMarks->V6,attributeBase->W6,Paired->a7,wpAny_call_entry->o7,wpAny_callSpecial?_slot->p7,Fin->A7,wpAny_pyNext_list_item->F7,strKind_is->G7,assignEach->J7,Keyword->N7,letOwnedTupleGo->O7,wpAny_pyNext_list_end->S7,codeAny_call_builtin->Z7,valueAt->b8,swapsWith->c8,getItem->d8,wpAny_newList->o8,atKey->p8,wpAny_rule->B8,pyNext->C8,builtinsNs->D8,IsPart->K8,wpAny_typeOf->Q8,callerA->R8,call_meetsIn->S8,wpAny_of_eq->j9,subscripted->m9,keywordEach->o9,IsRangeIter->w9,wpAny_execs_nil->z9,spliced->B9,holding->C9,wpAny_seqItems->J9,wpAny_newFunctionEnv_cells->K9,wpAny_letOwnedTupleGo_enum->L9,wpAny_call->M9,relayAll->N9,closureFor->O9,Thread->S9
open PySem.Heap renaming get?_push_of_some->x0,lt_size->D0,get?_push_size->I0,size_push->p4,DictOf->m5,SameBut->Z5,SetOf->j6,get?_update_other->R6,get?_update_self->m7
open Nat renaming le_refl->A0,le_trans->J0,ne_of_lt->Q0,lt_of_lt_of_le->S0,lt_succ_of_lt->A1,zero_le->D1,lt_of_le_of_lt->U1,ne_of_gt->Y1,lt_succ_self->F2,lt_irrefl->Z2,zero_add->E5,lt_trichotomy->F5,lt_trans->G5,le_succ->T5,le_of_lt->c7,le_of_eq->d7,not_lt_zero->j7,mul_le_mul_right->M7,le_of_not_lt->F8,le_add_right->G8,min_self->T9
open Bool renaming false_ne_true->O0,and_eq_true->S3,false_and->C5,false_eq_true->k6,true_and->D6,and_eq_true_iff->E7,or_false->W7,not_eq_true->A8,and_false->c9
open Array renaming length_toList->U0,getElem?_eq_getElem->V4,getElem?_eq_none->o5,mem_of_getElem?->G9
open Option.some renaming inj->W0
open PySem.Value renaming ref->E1,type->M4,none->c5,int->Y5,isStrOf->z6,str->i8,bool->T8,isInt->R9
open PySem.Obj renaming mapSeq->G1,mapDictKeys->i7,putSet->a8
open Or renaming inr->J1,inl->L1
open PySem.Builtin.Range renaming rangeSize->N1,small->B5
open PySem.NameKind renaming free->P1
open PySem.SetTable renaming below->A2,grown->C4,insertAt->P7,advance->V9
open PySem.PassesOwn renaming never->C2
open PyProof.Rows renaming callWith_type1->O2,seqObj->Q2,IntsAre->A3,boot_isinstance->F3,callWith_builtin1->d5,listUpdate_at->X5,get?_update_seq->o6,AllBare->U6,slot_tuple_getitem->v7,envOfC->Y7,arrOf->t8,seqEpoch_at->n9,boot_str->P9,boot_all->Q9
open PySem.Heap.SameBut renaming update->X2
open Ne renaming symm->n3
open Pure renaming pure->C3,pure->A9
open PySem.Calls renaming spliced_cons->E3,spliced_nil->W3,callWith_builtin->n5,evalArgs_plain->z7,Name_function_global->W8
open PySem.Str renaming ofString->M3
open ForInStep renaming yield->N3
open Sum.inl renaming inj->j4
open PySem.Builtin.SmallTypes renaming nextOf->y4,ownedTupleFields->z4
open PySem.Builtin.Slice renaming slicePlaces->B4,sliceAdjust->S5,sliceApplied->V7
open PySem.W.Fast renaming tw16697807410369149715->G4,tw13926502685295537346->J4,tw13383273872528276517->K4,te14364793385576792824->L4,tw4214721358667687652->O4,tw14364793385576792824->J6
open False renaming elim->N4
open PySem.F renaming slot_tuple_iterator_next->X4,plainAttrs_dict->A6,slot_dict_get->K6,args_tuple_add_2->V8,slot_dict_items->X8,entry_tuple_add->Y8,args_dict_get_3->Z8,slot_tuple_add->d9,entry_dict_get->f9,args_tuple_iterator_next_1->i9,slot_dict_pop->r9,entry_tuple_iterator_next->y9
open PyProof.Rows.F renaming entry_set_update_loop->A5
open PySem.SetTable.below renaming go->P5
open PySem.Builtin renaming divisionGoesByPylong->R5
open PySem.Builtin.Str renaming occurrences->g6
open Option renaming isSome_map->r6,map_some->L6
open Int renaming emod_lt_of_pos->v6,emod_nonneg->k7,toNat_natCast->m8
open PySem.Code renaming builtin->S6
open List.Pairwise renaming nil->f7
open PySem.Builtin.Frozenset renaming updateFrom->g7
open PySem.Data renaming fields->D7,cell->y8
open PySem.Shared renaming TypeIs->K7
open PySem.Paired renaming length->L7
open PUnit renaming unit->U7
open Sum renaming inr->j8
open PySem.Builtin.Dict renaming updateFrom->n8,pairItems->z8
open PyProof.Rows.SortSt renaming mk'->L8
open PySem.SetTable.probe renaming go->U8
open PySem.SeqAt.EqAt renaming str_int->p9,int_str->q9
open PySem.Heap.DictOf renaming new->F9
open Array.Perm renaming refl->U9
open Prod renaming fst->Z9
open PySem.Around renaming under_plain->j01
set_option maxRecDepth 100000
set_option maxHeartbeats 0
namespace PySem.W.Fast
noncomputable def tw2767257753968539546:=0
noncomputable def tw8208158585175194315:=0
noncomputable def tw2427201119524604051:=0
noncomputable def tw5678170356157159661:=0
noncomputable def tw12679979282088957880:=0
noncomputable def tw12180074304983874754:=0
noncomputable def tw10340350461702898500:=0
noncomputable def tw18440749005429991207:=0
noncomputable def tw17744618821465728196:=0
noncomputable def tw5063653100943925352:=0
noncomputable def tw11452249202729685935:=0
noncomputable def tw18263086547575222965:=0
noncomputable def tw5698642218325811835:=0
noncomputable def tw7201515279106598720:=0
noncomputable def tw10061186462497665125:=0
end PySem.W.Fast
namespace K17
open_shared pre for PySem.Challenge.pw_talejudge_k17_whole_made_strictly leaving 42
end K17
set_option maxHeartbeats 200000
-- CHANGE: your row's module here,as the last of these rows
set_option Elab.async false
set_option linter.all false
namespace L2
open PySem PySem.Spec PyProof.Rows
noncomputable abbrev Key:=Sum Int Str
noncomputable def keyIs:Key->Value->Bool
 | .inl k,v=>R9 k v
 | .inr x,v=>z6 x v
noncomputable def keyH (w:N0):Key->Int
 | .inl k=>hashInt k
 | .inr x=>hashStr w x
theorem z0j :∀{k:Key} {v:Value},keyIs k v=true->(∃i t,k=Sum.inl i/\v=Y5 i t)\/(∃x t,k=j8 x/\v=i8 x t)
 | .inl i,v,h=>by obtain ⟨t,e⟩:=Value.isInt_shape (k:=i) (v:=v) h;exact .inl ⟨i,t,rfl,e⟩
 | .inr x,v,h=>by obtain ⟨t,e⟩:=Value.isStrOf_shape (x:=x) (v:=v) h;exact .inr ⟨x,t,rfl,e⟩
theorem zbn (i:Int) (t:Tok):keyIs (.inl i) (.int i t)=true:=by simp [keyIs,R9]
theorem zcm (x:Str) (t:Tok):keyIs (.inr x) (.str x t)=true:=by simp [keyIs,z6]
theorem key_ll (a b:Int):decide ((Sum.inl a:Key)=Sum.inl b)=(a == b):=by
 by_cases e:a=b
 ·subst e;simp
 ·have h:¬ (Sum.inl a:Key)=Sum.inl b:=λ q=>e (j4 q);rw [decide_eq_false h];exact (beq_eq_false_iff_ne.mpr e).symm
theorem key_rr (a b:Str):decide ((j8 a:Key)=j8 b)=decide (a=b):=by
 by_cases e:a=b
 ·subst e;simp
 ·have h:¬ (j8 a:Key)=j8 b:=λ q=>e (Sum.inr.inj q);rw [decide_eq_false h,decide_eq_false e]
theorem key_lr (a:Int) (b:Str):decide ((Sum.inl a:Key)=j8 b)=false:=decide_eq_false (λ q=>nomatch q)
theorem key_rl (a:Str) (b:Int):decide ((j8 a:Key)=Sum.inl b)=false:=decide_eq_false (λ q=>nomatch q)
noncomputable def z0g (prog:Program) (w:N0):PySem.KeyKind prog w Key where
 is:=keyIs
 hash:=keyH w
 inj:=λ v a b ha hb=>by
  rcases z0j ha with ⟨i,t,rfl,rfl⟩|⟨x,t,rfl,rfl⟩
  ·rcases z0j hb with ⟨j,u,rfl,e⟩|⟨y,u,rfl,e⟩
   ·injection e with e1 _;rw [e1]
   ·exact nomatch e
  ·rcases z0j hb with ⟨j,u,rfl,e⟩|⟨y,u,rfl,e⟩
   ·exact nomatch e
   ·injection e with e1 _;rw [e1]
 byValue:=λ k v h=>by rcases z0j h with ⟨i,t,rfl,rfl⟩|⟨x,t,rfl,rfl⟩<;>rfl
 pyHash:=λ hv h=>by
  rcases z0j hv with ⟨i,t,rfl,rfl⟩|⟨x,t,rfl,rfl⟩
  ·exact wpAny_pyHash_int h
  ·exact wpAny_pyHash_str h
 eqBool:=λ hu hv h=>by
  rcases z0j hu with ⟨i,t,rfl,rfl⟩|⟨x,t,rfl,rfl⟩
  ·rcases z0j hv with ⟨j,u,rfl,rfl⟩|⟨y,u,rfl,rfl⟩
   ·rw [key_ll] at h;exact wpAny_eqBool_int h
   ·rw [key_lr] at h;exact q9 i t y u _ _ _ _ h
  ·rcases z0j hv with ⟨j,u,rfl,rfl⟩|⟨y,u,rfl,rfl⟩
   ·rw [key_rl] at h;exact p9 x t j u _ _ _ _ h
   ·rw [key_rr] at h;exact wpAny_eqBool_str h
 «strs»:=λ k x t v h=>by
  rcases z0j h with ⟨i,u,rfl,e⟩|⟨y,u,rfl,e⟩
  ·exact nomatch e
  ·injection e with e1 _;subst e1;cases v<;>rfl
theorem z97 (prog:Program) (w:N0) (i:Int) (t:Tok):(z0g prog w).is (.inl i) (.int i t)=true:=zbn i t
theorem z8g (prog:Program) (w:N0) (x:Str) (t:Tok):(z0g prog w).is (.inr x) (.str x t)=true:=zcm x t
inductive V where
 | non|bl (b:Bool)|int (i:Int)|str (x:Str)|byt (b:Array UInt8)|flt (b:UInt64)|ref (a:Addr)|ty (n:String)
 deriving DecidableEq
noncomputable def RelV:V->Value->Prop
 | .non,u=>u=c5
 | .bl b,u=>u=T8 b
 | .int i,u=>∃t,u=Y5 i t
 | .str x,u=>∃t,u=i8 x t
 | .byt b,u=>∃t,u=Value.bytes b t
 | .flt b,u=>∃t,u=Value.float b t
 | .ref a,u=>u=E1 a
 | .ty n,u=>u=M4 n
abbrev Vals:List V->List Value->Prop:=a7 RelV
theorem Vals.length {xs:List V} {us:List Value} (r:Vals xs us):xs.length=us.length:=L7 r
theorem Vals.get :∀{xs:List V} {us:List Value} {i:Nat} {x:V},Vals xs us->xs[i]? = some x->∃u,us[i]? = some u/\RelV x u
 | _,_,_,_,.nil,e=>by simp at e
 | _,_,0,_,.cons r _,e=>by simp at e;subst e;exact ⟨_,rfl,r⟩
 | _,_,i + 1,x,.cons _ t,e=>by obtain ⟨u,b,a⟩:=Vals.get (i:=i) (x:=x) t (by simpa using e);exact ⟨u,by simpa using b,a⟩
theorem Vals.set {x:V} {u:Value} (r:RelV x u) :∀{xs:List V} {us:List Value} (i:Nat),Vals xs us->Vals (xs.set i x) (us.set i u)
 | _,_,_,.nil=>.nil
 | _,_,0,.cons _ t=>.cons r t
 | _,_,i + 1,.cons q t=>.cons q (Vals.set r i t)
theorem Vals.append :∀{xs ys:List V} {us ws:List Value},Vals xs us->Vals ys ws->Vals (xs++ys) (us++ws)
 | _,_,_,_,.nil,s=>s
 | _,_,_,_,.cons r t,s=>.cons r (Vals.append t s)
theorem Vals.take :∀{xs:List V} {us:List Value} (n:Nat),Vals xs us->Vals (xs.take n) (us.take n)
 | _,_,0,_=>.nil
 | _,_,_ + 1,.nil=>.nil
 | _,_,n + 1,.cons r t=>.cons r (Vals.take n t)
theorem Vals.drop :∀{xs:List V} {us:List Value} (n:Nat),Vals xs us->Vals (xs.drop n) (us.drop n)
 | _,_,0,r=>r
 | _,_,_ + 1,.nil=>.nil
 | _,_,n + 1,.cons _ t=>Vals.drop n t
noncomputable def RelO:Option V->Option Value->Prop
 | some v,some u=>RelV v u
 | none,none=>True
 | _,_=>False
def KV {κ:Type}:List (κ×V)->List (κ×Value)->Prop:=a7 λ (p:κ×V) (q:κ×Value)=>p.1=q.1/\RelV p.2 q.2
noncomputable def kV:Key->V
 | .inl i=>.int i
 | .inr x=>.str x
inductive HO where
 | lst (xs:List V)
 | tup (xs:List V)
 | dK (kvs:List (Key×V))|dT (kvs:List (List Key×V))
 | set (S:Int->Bool) (n:Nat)
 | ins (C dx:Addr) (fs:List (Str×V))
 | own (x:Addr)
 | xd (fs:List (Str×V))
 | met (f x:Addr)
 | rng (lo hi:Int)
 | frz (o:Obj) (u:HO)
 | tbl (ps:Array Value)
 | ext (φ:Heap->Prop)
noncomputable abbrev Hp:=Addr->Option HO
noncomputable def upd (H:Hp) (a:Addr) (o:HO):Hp:=λ b=>if b=a then some o else H b
theorem z01 {H:Hp} {a:Addr} {o:HO}:upd H a o a=some o:=by unfold upd;rw [if_pos rfl]
theorem upd_ne {H:Hp} {a b:Addr} {o:HO} (h:b≠a):upd H a o b=H b:=by unfold upd;rw [if_neg h]
theorem ne_of {H:Hp} {a b:Addr} {o u:HO} (h:H a=some o) (h':H b=some u) (d:o≠u):a≠b:=by intro e;subst e;rw [h] at h';exact d (W0 h')
theorem z0e {H:Hp} {a b:Addr} {o:HO} (h:H a=some o) (h':H b=none):a≠b:=by intro e;subst e;rw [h] at h';cases h'
section
variable (P:Program) (w:N0)
def IsTupN (h:Heap) (a:Addr) (items:Array Value):Prop:=IsTup h a items/\∃o,h.get? a=some o/\o.dict=none
theorem IsTupN.new (h:Heap) (items:Array Value):IsTupN (h.push { cls:=.type "tuple",data:=.seq items }) h.objs.size items:=⟨IsTup.new _ _,_,I0 _ rfl,rfl⟩
noncomputable def ObjOk (H:Hp) (h:Heap) (a:Addr):HO->Prop
 | .lst xs=>xs.length<=sizeLine/\∃(its:List Value) (n:Nat),Vals xs its/\h.get? a=some { cls:=.type "list",data:=.seq its.toArray n }
 | .tup xs=>xs.length<=sizeLine/\∃its:List Value,Vals xs its/\IsTupN h a its.toArray
 | .dK kvs=>kvs.length<=sizeLine/\(a == v4)=false/\∃vs,KV kvs vs/\h.DictOf (z0g P w) a vs
 | .dT kvs=>kvs.length<=sizeLine/\(a == v4)=false/\∃xs:List (List Key×Addr×Value),
   a7 (λ (p:List Key×V) (q:List Key×Addr×Value)=>p.1=q.1/\H q.2.1=some (.tup (p.1.map kV))/\RelV p.2 q.2.2) kvs xs/\
   ∃o es ep,h.get? a=some o/\o.ExactDict/\o.data=.dict es ep/\es.toList=xs.map (entryOfKey (J5 (z0g P w)))/\(xs.map (·.1)).Nodup
 | .set S n=>h.SetOf (S4 P w) a S n
 | .ins C dx fs=>H dx=some (.own a)/\fs.length<=1000/\dx≠a/\h.get? a=some (k8 C dx)/\
   ∃mA,h.Ns1 dx mA/\(∀f,RelO (fs.lookup f) (mA f))/\PySem.Within mA (fs.map (·.1))
 | .own _=>∃o,h.get? a=some o
 | .xd fs=>∃mA,h.Ns1 a mA/\∀f,RelO (fs.lookup f) (mA f)
 | .rng lo hi=>∃t u v,h.get? a=some { cls:=.type "range",data:=.fields #[.int lo t,.int hi u,.int 1 v] }
 | .frz o u=>h.get? a=some o/\ObjOk H h a u
 | .tbl ps=>h.get? a=some { cls:=.none,data:=.fields ps }
 | .met f x=>h.get? a=some (T7 (.ref f) (.ref x))
 | .ext φ=>φ h/\(∃o,h.get? a=some o)/\∀h1 h2:Heap,φ h1->(∀o,h1.get? a=some o->h2.get? a=some o)->φ h2
def HOk (H:Hp) (h:Heap):Prop:=∀a o,H a=some o->ObjOk P w H h a o
end
section
variable {P:Program} {w:N0} {H H':Hp} {h h':Heap} {a:Addr} {o:HO}
theorem ObjOk.lt (x:ObjOk P w H h a o):a < h.objs.size:=by
 cases o with
 | lst xs=>obtain ⟨_,_,_,_,e⟩:=x;exact D0 e
 | tup xs=>obtain ⟨_,_,_,p⟩:=x;exact p.1.lt
 | dK kvs=>obtain ⟨_,_,_,_,o,_,_,e,_⟩:=x;exact D0 e
 | dT kvs=>obtain ⟨_,_,_,_,o,_,_,e,_⟩:=x;exact D0 e
 | set S n=>obtain ⟨o,_,_,_,e,_⟩:=x;exact D0 e
 | ins C dx fs=>obtain ⟨_,_,_,e,_⟩:=x;exact D0 e
 | own y=>obtain ⟨_,e⟩:=x;exact D0 e
 | xd fs=>obtain ⟨_,⟨_,_,_,e,_⟩,_⟩:=x;exact D0 e
 | rng lo hi=>obtain ⟨_,_,_,e⟩:=x;exact D0 e
 | frz ob u=>obtain ⟨e,_⟩:=x;exact D0 e
 | tbl ps=>exact D0 (show h.get? a=some _ from x)
 | met f y=>exact D0 (show h.get? a=some _ from x)
 | ext φ=>obtain ⟨_,⟨_,e⟩,_⟩:=x;exact D0 e
theorem Paired.mapP {α β:Type} {F G:α->β->Prop} :∀{l₁:List α} {l₂:List β},a7 F l₁ l₂->(∀a b,F a b->G a b)->a7 G l₁ l₂
 | _,_,.nil,_=>.nil
 | _,_,.cons r t,f=>.cons (f _ _ r) (Paired.mapP t f)
theorem ObjOk.stay (x:ObjOk P w H h a o) (k :∀b u,(b=a\/H b=some (.own a))->h.get? b=some u->h'.get? b=some u)
  (ho :∀b,H b=some (.own a)->H' b=some (.own a)) (ht :∀b xs,H b=some (.tup xs)->H' b=some (.tup xs)):ObjOk P w H' h' a o:=by
 induction o with
 | lst xs=>obtain ⟨z,A,n,r,e⟩:=x;exact ⟨z,A,n,r,k _ _ (.inl rfl) e⟩
 | tup xs=>obtain ⟨z,A,r,⟨g,e,c⟩,E,s,G⟩:=x;exact ⟨z,A,r,⟨g,k _ _ (.inl rfl) e,c⟩,E,k _ _ (.inl rfl) s,G⟩
 | dK kvs=>obtain ⟨z,y,D,r,g,j,i,e,c⟩:=x;exact ⟨z,y,D,r,g,j,i,k _ _ (.inl rfl) e,c⟩
 | dT kvs=>obtain ⟨z,y,xs,r,g,j,i,e,c⟩:=x;exact ⟨z,y,xs,Paired.mapP r λ p q z=>⟨z.1,ht _ _ z.2.1,z.2.2⟩,g,j,i,k _ _ (.inl rfl) e,c⟩
 | set S n=>obtain ⟨g,j,i,t,e,c⟩:=x;exact ⟨g,j,i,t,k _ _ (.inl rfl) e,c⟩
 | ins C dx fs=>obtain ⟨d,z,F,e,m,⟨l,j,i,s,c⟩,r⟩:=x;exact ⟨ho _ d,z,F,k _ _ (.inl rfl) e,m,⟨l,j,i,k _ _ (.inr d) s,c⟩,r⟩
 | own y=>obtain ⟨g,e⟩:=x;exact ⟨g,k _ _ (.inl rfl) e⟩
 | xd fs=>obtain ⟨m,⟨l,j,i,e,c⟩,r⟩:=x;exact ⟨m,⟨l,j,i,k _ _ (.inl rfl) e,c⟩,r⟩
 | rng lo hi=>obtain ⟨t,u,v,e⟩:=x;exact ⟨t,u,v,k _ _ (.inl rfl) e⟩
 | frz g u ih=>obtain ⟨e,q⟩:=x;exact ⟨k _ _ (.inl rfl) e,ih q⟩
 | tbl ps=>have e:h.get? a=some { cls:=.none,data:=.fields ps }:=x;show h'.get? a=some { cls:=.none,data:=.fields ps };exact k a _ (.inl rfl) e
 | met f y=>have e:h.get? a=some (T7 (.ref f) (.ref y)):=x;show h'.get? a=some (T7 (.ref f) (.ref y));exact k a _ (.inl rfl) e
 | ext φ=>obtain ⟨p,⟨o,e⟩,B⟩:=x;exact ⟨B _ _ p λ o q=>k _ _ (.inl rfl) q,⟨o,k _ _ (.inl rfl) e⟩,B⟩
theorem HOk.lt (x:HOk P w H h) (e:H a=some o):a < h.objs.size:=(x a o e).lt
theorem HOk.fresh (x:HOk P w H h) (e:h.objs.size<=a):H a=none:=by
 cases q:H a with
 | none=>rfl
 | some u=>exact absurd (S0 (x.lt q) e) (Z2 _)
theorem HOk.kept (x:HOk P w H h) (k :∀b u,h.get? b=some u->h'.get? b=some u):HOk P w H h':=λ a o e=>(x a o e).stay (λ b u _ q=>k b u q) (λ _ q=>q) λ _ _ q=>q
theorem HOk.laid (x:HOk P w H h) (k :∀b u,h.get? b=some u->h'.get? b=some u) (hp:h.objs.size<=a) (new:ObjOk P w (upd H a o) h' a o):HOk P w (upd H a o) h':=λ b u e=>by
 have d:=x.fresh hp;by_cases hb:b=a
 ·subst hb;rw [z01] at e;cases e;exact new
 ·rw [upd_ne hb] at e;exact (x b u e).stay (λ c v _ q=>k c v q) (λ c q=>by rw [upd_ne (z0e q d)];exact q) λ c f q=>by rw [upd_ne (z0e q d)];exact q
end
def Rd (H:Hp) (a:Addr) (u:HO):Prop:=H a=some u\/∃o,H a=some (.frz o u)
theorem Rd.ok {P:Program} {w:N0} {H:Hp} {h:Heap} {a:Addr} {u:HO} (r:Rd H a u) (x:HOk P w H h):ObjOk P w H h a u:=by
 rcases r with r|⟨o,r⟩
 ·exact x a u r
 ·obtain ⟨_,q⟩:=x a _ r;exact q
noncomputable def Mut:Option HO->Prop
 | some (.lst _)=>True
 | some (.dK _)=>True
 | some (.dT _)=>True
 | some (.set _ _)=>True
 | some (.ins _ _ _)=>True
 | some (.ext _)=>True
 | _=>False
section
variable {P:Program} {w:N0} {H:Hp} {h h':Heap} {x e:Addr} {o':HO}
theorem HOk.write (ok:HOk P w H h) (mu:Mut (H x)) (he:e=x\/H e=some (.own x)) (k :∀b u,b≠e->h.get? b=some u->h'.get? b=some u) (heo :∃u,h'.get? e=some u)
  (new:ObjOk P w (upd H x o') h' x o'):HOk P w (upd H x o') h':=λ b u q=>by
 have g :∀c y,H c=some (.own y)->c≠x:=λ c y r z=>by subst z;rw [r] at mu;exact mu
 have i :∀c d,H c=some (.tup d)->c≠x:=λ c d r z=>by subst z;rw [r] at mu;exact mu
 by_cases hb:b=x
 ·subst hb;rw [z01] at q;cases q;exact new
 ·rw [upd_ne hb] at q;by_cases hbe:b=e
  ·have f:H b=some (.own x):=by
    rcases he with z|z
    ·exact absurd (hbe.trans z) hb
    ·rw [hbe];exact z
   rw [q] at f;cases f;obtain ⟨v,j⟩:=heo;exact ⟨v,by rw [hbe];exact j⟩
  ·refine (ok b u q).stay (λ c v a r=>k c v ?_ r) (λ c r=>by rw [upd_ne (g c b r)];exact r) λ c d r=>by rw [upd_ne (i c d r)];exact r
   rcases a with rfl|a
   ·exact hbe
   ·rintro rfl;rcases he with z|z
    ·exact g c b a z
    ·rw [a] at z;cases z;exact hb rfl
end
structure Un (fs ex:List Addr) (H H':Hp) (h h':Heap):Prop where
 keep :∀b o,h.get? b=some o->H b=none->b∉fs->b∉ex->h'.get? b=some o
 slot :∀b o,h.get? b=some o->H b=none->b∈fs->b∉ex->∃sl,h'.get? b=some { o with slots:=sl }
 free :∀b o,h.get? b=some o->H b=none->b∉ex->H' b=none
 there :∀b o,h.get? b=some o->b∉ex->∃o',h'.get? b=some o'
 tups :∀b xs,H b=some (.tup xs)->H' b=some (.tup xs)
 frzs :∀b o u,H b=some (.frz o u)->H' b=some (.frz o u)
 tbls :∀b ps,H b=some (.tbl ps)->∃more,H' b=some (.tbl (ps++more))
section
variable {fs fs' ex ex':List Addr} {H H1 H2:Hp} {h h1 h2 h':Heap} {a x e:Addr} {o:HO}
theorem Un.any (u:Un fs ex H H1 h h1) {b:Addr} {ob:Obj} (q:h.get? b=some ob) (n:H b=none) (hx:b∉ex) :∃sl,h1.get? b=some { ob with slots:=sl }:=by
 by_cases hb:b∈fs
 ·exact u.slot b ob q n hb hx
 ·exact ⟨ob.slots,u.keep b ob q n hb hx⟩
theorem Un.kept (k :∀b u,h.get? b=some u->h'.get? b=some u):Un fs ex H H h h':=
 ⟨λ b a q _ _ _=>k b a q,λ b a q _ _ _=>⟨a.slots,k b a q⟩,λ _ _ _ n _=>n,λ b a q _=>⟨a,k b a q⟩,λ _ _ q=>q,λ _ _ _ q=>q,λ _ c q=>⟨#[],by rw [q];simp⟩⟩
theorem Un.refl:Un fs ex H H h h:=Un.kept λ _ _ q=>q
theorem Un.laid (k :∀b u,h.get? b=some u->h'.get? b=some u) (hp:h.objs.size<=a) (hn:H a=none):Un fs ex H (upd H a o) h h' where
 keep:=λ b u q _ _ _=>k b u q
 slot:=λ b u q _ _ _=>⟨u.slots,k b u q⟩
 free:=λ b u q n _=>by rw [upd_ne (Q0 (S0 (D0 q) hp))];exact n
 there:=λ b u q _=>⟨u,k b u q⟩
 tups:=λ b c q=>by rw [upd_ne (z0e q hn)];exact q
 frzs:=λ b u c q=>by rw [upd_ne (z0e q hn)];exact q
 tbls:=λ b d q=>⟨#[],by rw [upd_ne (z0e q hn),q];simp⟩
theorem Un.write (mu:Mut (H x)) (he:e=x\/H e=some (.own x)) (k :∀b u,b≠e->h.get? b=some u->h'.get? b=some u) (heo :∃u,h'.get? e=some u):Un fs ex H (upd H x o) h h':=by
 have c :∀b,H b=none->b≠x:=λ b n z=>by subst z;rw [n] at mu;exact mu
 have d :∀b,H b=none->b≠e:=λ b n z=>by
  subst z;rcases he with r|r
  ·exact c b n r
  ·rw [n] at r;cases r
 have a :∀b u,H b=some u->¬ Mut (some u)->b≠x:=λ b u q g z=>by subst z;rw [q] at mu;exact g mu
 refine ⟨λ b u q n _ _=>k b u (d b n) q,λ b u q n _ _=>⟨u.slots,k b u (d b n) q⟩,λ b u q n _=>by rw [upd_ne (c b n)];exact n,λ b u q _=>?_,
  λ b f q=>by rw [upd_ne (a b _ q λ z=>z)];exact q,λ b u f q=>by rw [upd_ne (a b _ q λ z=>z)];exact q,λ b i q=>⟨#[],by rw [upd_ne (a b _ q λ z=>z),q];simp⟩⟩
 by_cases hbe:b=e
 ·subst hbe;exact heo
 ·exact ⟨u,k b u hbe q⟩
end
noncomputable def trk (h:Heap) (H:Hp):List Addr:=(V1 h.objs.size).filter λ a=>(H a).isSome
noncomputable def hidT (h:Heap) (H:Hp):Heap:=PySem.W.hideAll h (trk h H)
theorem zct (h:Heap) (H:Hp):(hidT h H).objs.size=h.objs.size:=PySem.W.hideAll_size _ _
theorem zem {h:Heap} {H:Hp} {b:Addr} {o:Obj} (e:h.get? b=some o) (n:H b=none):(hidT h H).get? b=some o:=
 PySem.W.hideAll_get _ e λ a=>by have q:(H b).isSome=true:=(List.mem_filter.mp a).2;rw [n] at q;simp at q
theorem zf3 {h:Heap} {H:Hp} {b:Addr} {o:Obj} (e:(hidT h H).get? b=some o):h.get? b=some o/\H b=none:=by
 have a:h.get? b=some o:=PySem.W.of_hideAll (trk h H) e;refine ⟨a,?_⟩;cases q:H b with
 | none=>rfl
 | some x=>have c:b∈trk h H:=List.mem_filter.mpr ⟨List.mem_range.mpr (D0 a),by simp [q]⟩;have z:(hidT h H).get? b=none:=PySem.W.hideAll_none (trk h H) c;rw [z] at e;cases e
noncomputable def zfi (g h:Heap) (L:Addr):List (Addr×Obj):=(V1 h.objs.size).filterMap λ a=>if a=L\/(g.get? a).isSome=true then none else (h.get? a).map λ o=>(a,o)
noncomputable def rest (g h:Heap) (L d:Addr):List (Addr×Obj):=(zfi g h L).filter λ p=>decide (p.1≠d)
structure Mod (K:c0) (mg:Str->Option Value) (base:Heap):Prop where
 kin:K.In base
 glob:base.Ns Q1 mg
 blt :∃mb,base.Ns D8 mb/\∀x:Str,x≠"__name__"->mb x=i4 x
 nolimit:base.NoLimit
structure Cx where
 prog:Program
 w:N0
 K:c0
 mg:Str->Option Value
 base:Heap
 A:B2
 N:List Str
 s₀:y0
 H₀:Hp
 env:Env
 outer:List Env
 stack:List Env
 ex:List Addr
 fn:Str->Bool
 calm:Bool
 pn:List (Addr×Obj)
 xe:Value->y0->Prop
noncomputable def frs (l:List Env):List Addr:=l.filterMap (·.frame)
noncomputable abbrev Cx.fs (X:Cx):List Addr:=frs X.outer
def Vis (sc:Scope) (x:Str):Prop:=sc.names.lookup x=some .local\/sc.names.lookup x=some .cell\/sc.names.lookup x=some .free
def Loc (sc:Scope) (x:Str):Prop:=sc.names.lookup x=some .local\/sc.names.lookup x=some .cell
def Look (env:Env) (h:Heap) (m:Str->Option Value) (x:Str) (u:Value):Prop:=
 (env.kindOf x=some .local/\m x=some u)\/((env.kindOf x=some .cell\/env.kindOf x=some .free)/\∃c,env.cells.lookup x=some c/\h.IsCell c (some u))
structure Cx.Ok (X:Cx):Prop where
 mod:Mod X.K X.mg X.base
 kind:X.env.scope.kind=.function
 glob:X.env.globals=Q1
 blt:X.env.builtins=D8
 above:X.s₀.heap.objs.size<=X.env.locals
 inj :∀x y c,X.env.cells.lookup x=some c->X.env.cells.lookup y=some c->x=y
 has :∀x,(X.env.kindOf x=some .cell\/X.env.kindOf x=some .free)->∃c,X.env.cells.lookup x=some c
 cab :∀x c,X.fn x=true->X.env.cells.lookup x=some c->X.s₀.heap.objs.size<=c
 hd:X.calm=true->X.A.handled=none
 frames:X.A.frames=some X.stack
 stk:X.stack=X.outer\/(X.stack=X.env :: X.outer/\X.env.frame=some X.env.locals)
 exf :∀b∈X.ex,b≠X.env.locals/\∀x c,X.env.cells.lookup x=some c->c≠b
 bs :∀b o,X.base.get? b=some o->X.s₀.heap.get? b=some o/\X.H₀ b=none
 bsz:X.base.objs.size<=X.s₀.heap.objs.size
 noex :∀b o,X.base.get? b=some o->b∉X.ex
 exfs :∀b∈X.ex,b∉X.fs
 funs:X.s₀.heap.FunFrames X.base X.outer
 frf :∀b∈X.fs,X.H₀ b=none
structure Inv (X:Cx) (pins:List (Addr×Obj)) (σ:List (Option V)) (H:Hp) (s:y0):Prop where
 ok:X.Ok
 os:s.os=X.s₀.os
 bare:U6 s.gens
 base:Un X.fs X.ex X.H₀ H X.s₀.heap s.heap
 loc :∃m,s.heap.Ns X.env.locals m/\∀(i:Nat) (x:Str) (v:V),X.N[i]? = some x->σ[i]? = some (some v)->Vis X.env.scope x->∃u,RelV v u/\Look X.env s.heap m x u
 cell :∀x c,X.env.cells.lookup x=some c->∃v,s.heap.IsCell c v
 free:H X.env.locals=none
 freeC :∀x c,X.env.cells.lookup x=some c->H c=none
 pin :∀p∈X.pn++pins,s.heap.get? p.1=some p.2/\H p.1=none/\p.1≠X.env.locals/\p.1∉X.fs/\∀v,p.2.data≠.cell v
 hok:HOk X.prog X.w H s.heap
 len:σ.length=X.N.length
section
variable {X:Cx} {pins:List (Addr×Obj)} {σ:List (Option V)} {H H':Hp} {s:y0} {h':Heap}
theorem Cx.Ok.nofr (ok:X.Ok) {b:Addr} {o:Obj} (e:X.base.get? b=some o):b∉X.fs:=λ a=>by have:=(ok.funs.mem a).1;rw [e] at this;cases this
theorem Inv.bs (I:Inv X pins σ H s) :∀b o,X.base.get? b=some o->s.heap.get? b=some o/\H b=none:=λ b o e=>⟨I.base.keep b o (I.ok.bs b o e).1 (I.ok.bs b o e).2 (I.ok.nofr e) (I.ok.noex b o e),I.base.free b o (I.ok.bs b o e).1 (I.ok.bs b o e).2 (I.ok.noex b o e)⟩
theorem Inv.bk (I:Inv X pins σ H s) :∀b o,X.base.get? b=some o->s.heap.get? b=some o:=λ b o e=>(I.bs b o e).1
theorem Inv.mod (I:Inv X pins σ H s):Mod X.K X.mg X.base:=I.ok.mod
theorem Inv.kIn (I:Inv X pins σ H s):X.K.In s.heap:=I.ok.mod.kin.keeps I.bk
theorem Inv.lt (I:Inv X pins σ H s):X.env.locals < s.heap.objs.size:=let ⟨_,hn,_⟩:=I.loc;hn.lt
theorem Inv.sz (I:Inv X pins σ H s):X.s₀.heap.objs.size<=s.heap.objs.size:=J0 I.ok.above (c7 I.lt)
theorem Inv.nofs (I:Inv X pins σ H s) {a:Addr} (h:s.heap.objs.size<=a):a∉X.fs:=λ b=>by obtain ⟨_,o,c,_⟩:=I.ok.funs.mem b;exact absurd (S0 (D0 c) (J0 I.sz h)) (Z2 _)
theorem Inv.cne (I:Inv X pins σ H s) :∀x c,X.env.cells.lookup x=some c->c≠X.env.locals:=λ x c e z=>by obtain ⟨v,o,a,hd⟩:=I.cell x c e;obtain ⟨m,⟨h,f,g,b,d,_⟩,_⟩:=I.loc;rw [z,b] at a;cases a;rw [d] at hd;cases hd
theorem Inv.funs (I:Inv X pins σ H s):s.heap.FunFrames X.base X.outer:=by
 have all :∀(l:List Env),(∀b∈frs l,b∈X.fs)->X.s₀.heap.FunFrames X.base l->s.heap.FunFrames X.base l:=by
  intro l;induction l with
  | nil=>intro _ _;trivial
  | cons env r ih=>intro f i;obtain ⟨j,⟨L,o,c,k,h,hd⟩,g⟩:=i;have d:L∈X.fs:=f L (by unfold frs;rw [R7,c];exact W1);obtain ⟨m,e⟩:=I.base.slot L o h (I.ok.frf L d) d λ z=>I.ok.exfs L z d;exact ⟨j,⟨L,_,c,k,e,hd⟩,ih (λ b a=>f b (by unfold frs;rw [R7,c];exact G2 _ a)) g⟩
 exact all X.outer (λ _ a=>a) I.ok.funs
theorem Inv.stack (I:Inv X pins σ H s):s.heap.FunFrames X.base X.stack:=by
 rcases I.ok.stk with e|⟨e,hf⟩
 ·rw [e];exact I.funs
 ·rw [e];obtain ⟨m,a,_⟩:=I.loc;refine .cons (by rw [I.ok.kind];decide) hf a ?_ I.funs;exact Heap.get?_none_of_le (J0 I.ok.bsz I.ok.above)
theorem Inv.stkSub (I:Inv X pins σ H s) :∀b∈frs X.stack,b∈X.env.locals :: X.fs:=λ b a=>by
 rcases I.ok.stk with e|⟨e,hf⟩
 ·rw [e] at a;exact G2 _ a
 ·rw [e] at a;unfold frs at a;rw [R7,hf] at a;exact a
theorem Inv.stkFree (I:Inv X pins σ H s) :∀b∈frs X.stack,H b=none:=λ b a=>by
 rcases List.mem_cons.mp (I.stkSub b a) with e|a
 ·rw [e];exact I.free
 ·obtain ⟨_,o,c,_⟩:=I.ok.funs.mem a;exact I.base.free b o c (I.ok.frf b a) λ z=>I.ok.exfs b z a
theorem Inv.step {g':Array GenState} {t':Nat} {d':Drawn} {ch:List Addr} (I:Inv X pins σ H s)
  (hch :∀b∈ch,(b∈X.ex\/X.s₀.heap.objs.size<=b)/\b≠X.env.locals/\(∀x c,X.env.cells.lookup x=some c->c≠b)/\∀p∈X.pn++pins,p.1≠b)
  (keep :∀b o,b≠X.env.locals->b∉X.fs->b∉ch->s.heap.get? b=some o->H b=none->h'.get? b=some o)
  (slot :∀b o,b≠X.env.locals->b∈X.fs->b∉ch->s.heap.get? b=some o->H b=none->∃sl,h'.get? b=some { o with slots:=sl }) (free :∀b o,b∉ch->s.heap.get? b=some o->H b=none->H' b=none)
  (there :∀b o,b∉ch->s.heap.get? b=some o->∃o',h'.get? b=some o')
  (tups :∀b xs,H b=some (.tup xs)->H' b=some (.tup xs)) (frzs :∀b o u,H b=some (.frz o u)->H' b=some (.frz o u)) (tbls :∀b ps,H b=some (.tbl ps)->∃more,H' b=some (.tbl (ps++more)))
  (ns :∀m,s.heap.Ns X.env.locals m->h'.Ns X.env.locals m) (hok:HOk X.prog X.w H' h') (hg:U6 g') :
  Inv X pins σ H' { s with heap:=h',gens:=g',drawn:=d',toks:=t' }:=by
 have B :∀b o,X.s₀.heap.get? b=some o->b≠X.env.locals:=λ b o e=>Q0 (S0 (D0 e) I.ok.above);have y :∀b o,X.s₀.heap.get? b=some o->b∉X.ex->b∉ch:=λ b o e a g=>by
  rcases (hch b g).1 with z|z
  ·exact a z
  ·exact absurd (S0 (D0 e) z) (Z2 _)
 have A :∀x c,X.env.cells.lookup x=some c->∀v,s.heap.IsCell c v->h'.IsCell c v:=λ x c e v ⟨o,h,hd⟩=>by
  have j:c∉ch:=λ z=>(hch c z).2.2.1 x c e rfl;by_cases hc:c∈X.fs
  ·obtain ⟨sl,q⟩:=slot c o (I.cne x c e) hc j h (I.freeC x c e);exact ⟨_,q,hd⟩
  ·exact ⟨o,keep c o (I.cne x c e) hc j h (I.freeC x c e),hd⟩
 refine ⟨I.ok,I.os,hg,⟨λ b o e n g a=>?_,λ b o e n g a=>?_,λ b o e n a=>?_,λ b o e a=>?_,λ b xs e=>tups b xs (I.base.tups b xs e),λ b o xs e=>frzs b o xs (I.base.frzs b o xs e),λ b ps e=>?_⟩,?_,λ x c e=>?_,?_,λ x c e=>?_,λ p C=>?_,hok,I.len⟩
 ·exact keep b o (B b o e) g (y b o e a) (I.base.keep b o e n g a) (I.base.free b o e n a)
 ·obtain ⟨sl,f⟩:=I.base.slot b o e n g a;obtain ⟨F,t⟩:=slot b _ (B b o e) g (y b o e a) f (I.base.free b o e n a);exact ⟨F,t⟩
 ·obtain ⟨o',f⟩:=I.base.there b o e a;exact free b o' (y b o e a) f (I.base.free b o e n a)
 ·obtain ⟨o',f⟩:=I.base.there b o e a;exact there b o' (y b o e a) f
 ·obtain ⟨M,f⟩:=I.base.tbls b ps e;obtain ⟨K,t⟩:=tbls b _ f;exact ⟨M++K,by rw [t,Array.append_assoc]⟩
 ·obtain ⟨m,L,J⟩:=I.loc;refine ⟨m,ns m L,λ i x v f t G=>?_⟩;obtain ⟨u,r,l⟩:=J i x v f t G;refine ⟨u,r,?_⟩;rcases l with l|⟨k,c,e,z⟩
  ·exact .inl l
  ·exact .inr ⟨k,c,e,A x c e _ z⟩
 ·obtain ⟨v,z⟩:=I.cell x c e;exact ⟨v,A x c e v z⟩
 ·obtain ⟨m,⟨o,_,_,h,_⟩,_⟩:=I.loc;exact free _ o (λ z=>(hch _ z).2.1 rfl) h I.free
 ·obtain ⟨v,o,h,hd⟩:=I.cell x c e;exact free c o (λ z=>(hch c z).2.2.1 x c e rfl) h (I.freeC x c e)
 ·obtain ⟨e,n,E,D,d⟩:=I.pin p C;have j:p.1∉ch:=λ z=>(hch p.1 z).2.2.2 p C rfl;exact ⟨keep p.1 p.2 E D j e n,free p.1 p.2 j e n,E,D,d⟩
theorem Inv.un {t':Nat} (I:Inv X pins σ H s) (u:Un X.fs [] H H' s.heap h') (hok:HOk X.prog X.w H' h'):Inv X pins σ H' { s with heap:=h',toks:=t' }:=by obtain ⟨m,⟨o,q,l,d,r⟩,_⟩:=id I.loc;obtain ⟨k,f⟩:=u.any d I.free (by simp);exact I.step (g':=s.gens) (d':=s.drawn) (ch:=[]) (λ _ z=>nomatch z) (λ b o _ a _ e n=>u.keep b o e n a (by simp)) (λ b o _ a _ e n=>u.slot b o e n a (by simp)) (λ b o _ e n=>u.free b o e n (by simp)) (λ b o _ e=>u.there b o e (by simp)) u.tups u.frzs u.tbls (λ t g=>by obtain ⟨p,h,i,c,j⟩:=g;rw [d] at c;cases c;exact ⟨_,h,i,f,j⟩) hok I.bare
theorem Inv.call {g':Array GenState} {t':Nat} {d':Drawn} {ch:List Addr} (I:Inv X pins σ H s) (u:Un (frs X.stack) ch H H' s.heap h') (hok:HOk X.prog X.w H' h') (hg:U6 g')
  (hch :∀b∈ch,(b∈X.ex\/X.s₀.heap.objs.size<=b)/\b≠X.env.locals/\(∀x c,X.env.cells.lookup x=some c->c≠b)/\∀p∈X.pn++pins,p.1≠b) :
  Inv X pins σ H' { s with heap:=h',gens:=g',drawn:=d',toks:=t' }:=by
 obtain ⟨m,⟨o,y,t,g,r⟩,_⟩:=id I.loc;obtain ⟨q,d⟩:=u.any g I.free λ z=>(hch _ z).2.1 rfl;exact I.step (ch:=ch) hch (λ b o d h a e n=>u.keep b o e n (λ z=>(List.mem_cons.mp (I.stkSub b z)).elim d h) a) (λ b o _ _ a e n=>u.any e n a) (λ b o a e n=>u.free b o e n a) (λ b o a e=>u.there b o e a) u.tups u.frzs u.tbls (λ A i=>by obtain ⟨v,j,k,f,l⟩:=i;rw [g] at f;cases f;exact ⟨_,j,k,d,l⟩) hok hg
theorem Inv.turned {t':Nat} {it:Addr} (I:Inv X pins σ H s) (k :∀b o,b≠it->s.heap.get? b=some o->h'.get? b=some o) (hn:H it=none) (hL:it≠X.env.locals)
  (h1:it∈X.ex\/X.s₀.heap.objs.size<=it) (h2 :∀x c,X.env.cells.lookup x=some c->c≠it) (h3 :∀p∈X.pn++pins,p.1≠it):Inv X pins σ H { s with heap:=h',toks:=t' }:=by
 have d :∀b u,H b=some u->b≠it:=λ b u e z=>by rw [z,hn] at e;cases e
 refine I.step (g':=s.gens) (d':=s.drawn) (ch:=[it]) (λ b f=>?_) (λ b o _ _ a e _=>k b o (λ z=>a (by simp [z])) e) (λ b o _ _ a e _=>⟨o.slots,k b o (λ z=>a (by simp [z])) e⟩) (λ _ _ _ _ n=>n)
  (λ b o a e=>⟨o,k b o (λ z=>a (by simp [z])) e⟩) (λ _ _ e=>e) (λ _ _ _ e=>e) (λ b l e=>⟨#[],by rw [e];simp⟩) (λ m j=>?_) (λ b u e=>?_) I.bare
 ·have e:b=it:=by simpa using f
  subst e;exact ⟨h1,hL,h2,h3⟩
 ·obtain ⟨o,g,h,i,r⟩:=j;exact ⟨o,g,h,k _ o (n3 hL) i,r⟩
 ·refine (I.hok b u e).stay (λ c v a q=>k c v ?_ q) (λ _ q=>q) λ _ _ q=>q;rcases a with z|z
  ·rw [z];exact d b u e
  ·exact d c _ z
theorem Inv.tok (I:Inv X pins σ H s) (t:Nat):Inv X pins σ H { s with toks:=t }:=I.un (h':=s.heap) (t':=t) Un.refl I.hok
theorem Inv.kept {t':Nat} (I:Inv X pins σ H s) (k :∀b u,s.heap.get? b=some u->h'.get? b=some u):Inv X pins σ H { s with heap:=h',toks:=t' }:=I.un (Un.kept k) (I.hok.kept k)
theorem Inv.laid {a:Addr} {o:HO} {t':Nat} (I:Inv X pins σ H s) (k :∀b u,s.heap.get? b=some u->h'.get? b=some u) (hp:s.heap.objs.size<=a) (new:ObjOk X.prog X.w (upd H a o) h' a o) :
  Inv X pins σ (upd H a o) { s with heap:=h',toks:=t' }:=I.un (Un.laid k hp (I.hok.fresh hp)) (I.hok.laid k hp new)
theorem Inv.write {x e:Addr} {o:HO} {t':Nat} (I:Inv X pins σ H s) (mu:Mut (H x)) (he:e=x\/H e=some (.own x)) (k :∀b u,b≠e->s.heap.get? b=some u->h'.get? b=some u) (heo :∃u,h'.get? e=some u)
  (new:ObjOk X.prog X.w (upd H x o) h' x o):Inv X pins σ (upd H x o) { s with heap:=h',toks:=t' }:=I.un (Un.write mu he k heo) (I.hok.write mu he k heo new)
theorem Inv.weak {σ':List (Option V)} (I:Inv X pins σ H s) (hl:σ'.length=σ.length) (w :∀(i:Nat) v,σ'[i]? = some (some v)->σ[i]? = some (some v)):Inv X pins σ' H s:=
 ⟨I.ok,I.os,I.bare,I.base,let ⟨m,hn,hl'⟩:=I.loc;⟨m,hn,λ i x v b a c=>hl' i x v b (w i v a) c⟩,I.cell,I.free,I.freeC,I.pin,I.hok,hl.trans I.len⟩
theorem Inv.pins_of {pins':List (Addr×Obj)} (I:Inv X pins σ H s) (h :∀p∈pins',s.heap.get? p.1=some p.2/\H p.1=none/\p.1≠X.env.locals/\p.1∉X.fs/\∀v,p.2.data≠.cell v):Inv X pins' σ H s:=
 ⟨I.ok,I.os,I.bare,I.base,I.loc,I.cell,I.free,I.freeC,λ p a=>(List.mem_append.mp a).elim (λ z=>I.pin p (P4 _ z)) (h p),I.hok,I.len⟩
theorem z9i {N:List Str} (hN:N.Nodup) {i j:Nat} {x:Str} (a:N[i]? = some x) (b:N[j]? = some x):i=j:=by obtain ⟨f,d⟩:=List.getElem?_eq_some_iff.mp a;obtain ⟨e,c⟩:=List.getElem?_eq_some_iff.mp b;exact (List.getElem_inj hN).mp (d.trans c.symm)
theorem zcu {M:Model} {A:B2} {E:Value->y0->Prop} {i:Nat} {x:Str} {v:V} {u:Value} {Q:Unit->y0->Prop} (I:Inv X pins σ H s) (hN:X.N.Nodup) (hi:X.N[i]? = some x) (hx:Loc X.env.scope x) (r:RelV v u)
  (h :∀s',Inv X pins (σ.set i (some v)) H s'->(∃a,Z5 a s.heap s'.heap/\(a=X.env.locals\/X.env.cells.lookup x=some a))->Q () s') (hf:X.fn x=true\/X.env.scope.names.lookup x=some .local:=by first|exact .inl rfl|exact .inr rfl|assumption):P0 M A (storeName X.env x u) Q E s:=by
 obtain ⟨m,T,Z⟩:=id I.loc;have a7:(X.env.scope.kind == .class || (X.env.scope.kind == .module && X.env.locals != X.env.globals))=false:=by rw [I.ok.kind];rfl
 have a2:i < σ.length:=by rw [I.len];exact (List.getElem?_eq_some_iff.mp hi).1
 have cne:=I.cne;have a0 :∀{a:Addr} {C:Heap},(∃o,s.heap.get? a=some o/\H a=none)->Z5 a s.heap C->HOk X.prog X.w H C:=λ {a C} ha f b ob e=>by
  obtain ⟨_,_,a3⟩:=ha;refine (I.hok b ob e).stay (λ c D l q=>(f.2 c ?_).trans q) (λ _ q=>q) λ _ _ q=>q;rintro rfl;rcases l with rfl|l
  ·rw [a3] at e;cases e
  ·rw [a3] at l;cases l
 rcases hx with hk|hk
 ·refine wpAny_storeName_local hk T (λ C a4 f=>?_) a7;obtain ⟨oL,_,_,a6,_⟩:=id T;refine h _ ⟨I.ok,I.os,I.bare,⟨λ b o e n B hx=>?_,λ b o e n B hx=>?_,I.base.free,λ b o e hx=>?_,I.base.tups,I.base.frzs,I.base.tbls⟩,⟨_,a4,λ j y K g t S=>?_⟩,λ y c e=>?_,I.free,I.freeC,λ p O=>?_,a0 ⟨oL,a6,I.free⟩ f,by simpa using I.len⟩ ⟨_,f,.inl rfl⟩
  ·exact (f.2 b (Q0 (S0 (D0 e) I.ok.above))).trans (I.base.keep b o e n B hx)
  ·obtain ⟨J,g⟩:=I.base.slot b o e n B hx;exact ⟨J,(f.2 b (Q0 (S0 (D0 e) I.ok.above))).trans g⟩
  ·obtain ⟨L,g⟩:=I.base.there b o e hx;exact ⟨L,(f.2 b (Q0 (S0 (D0 e) I.ok.above))).trans g⟩
  ·by_cases hj:j=i
   ·subst hj;rw [hi] at g;cases g;rw [D9 a2] at t;cases t;exact ⟨u,r,.inl ⟨hk,by simp⟩⟩
   ·rw [j00 (n3 hj)] at t;obtain ⟨W,U,q⟩:=Z j y K g t S;refine ⟨W,U,?_⟩;rcases q with ⟨k,e⟩|⟨k,c,e,z⟩
    ·refine .inl ⟨k,?_⟩;have:y≠x:=λ e=>hj (z9i hN g (e ▸ hi));simp [this,e]
    ·exact .inr ⟨k,c,e,z.sameBut f (cne y c e)⟩
  ·obtain ⟨D,z⟩:=I.cell y c e;exact ⟨D,z.sameBut f (cne y c e)⟩
  ·obtain ⟨e,n,G,R,d⟩:=I.pin p O;exact ⟨(f.2 p.1 G).trans e,n,G,R,d⟩
 ·have P:X.fn x=true:=by
   rcases hf with z|z
   ·exact z
   ·rw [z] at hk;cases hk
  obtain ⟨c,l⟩:=I.ok.has x (.inl hk);obtain ⟨D,z⟩:=I.cell x c l;refine wpAny_storeName_cell I.ok.kind hk l z (λ C Y f=>?_);obtain ⟨oc,a1,a5⟩:=id z;refine h { s with heap:=C } ⟨I.ok,I.os,I.bare,⟨λ b o e n B hx=>?_,λ b o e n B hx=>?_,I.base.free,λ b o e hx=>?_,I.base.tups,I.base.frzs,I.base.tbls⟩,⟨m,T.sameBut f (n3 (cne x c l)),λ j y K g t S=>?_⟩,λ y F e=>?_,I.free,I.freeC,λ p O=>?_,a0 ⟨oc,a1,I.freeC x c l⟩ f,by simpa using I.len⟩ ⟨c,f,.inr l⟩
  ·exact (f.2 b (Q0 (S0 (D0 e) (I.ok.cab x c P l)))).trans (I.base.keep b o e n B hx)
  ·obtain ⟨J,g⟩:=I.base.slot b o e n B hx;exact ⟨J,(f.2 b (Q0 (S0 (D0 e) (I.ok.cab x c P l)))).trans g⟩
  ·obtain ⟨L,g⟩:=I.base.there b o e hx;exact ⟨L,(f.2 b (Q0 (S0 (D0 e) (I.ok.cab x c P l)))).trans g⟩
  ·by_cases hj:j=i
   ·subst hj;rw [hi] at g;cases g;rw [D9 a2] at t;cases t;exact ⟨u,r,.inr ⟨.inl hk,c,l,Y⟩⟩
   ·rw [j00 (n3 hj)] at t;obtain ⟨W,U,q⟩:=Z j y K g t S;refine ⟨W,U,?_⟩;rcases q with q|⟨k,F,e,z'⟩
    ·exact .inl q
    ·refine .inr ⟨k,F,e,z'.sameBut f ?_⟩;rintro rfl;exact hj (z9i hN g (I.ok.inj _ _ _ e l ▸ hi))
  ·by_cases hcc:F=c
   ·subst hcc;exact ⟨_,Y⟩
   ·obtain ⟨w2,z2⟩:=I.cell y F e;exact ⟨w2,z2.sameBut f hcc⟩
  ·obtain ⟨e,n,G,R,d⟩:=I.pin p O;refine ⟨(f.2 p.1 ?_).trans e,n,G,R,d⟩;intro q;rw [q,a1] at e;have q':oc=p.2:=W0 e;exact d D (by rw [<-q'];exact a5)
theorem zb2 {M:Model} {A:B2} {E:Value->y0->Prop} {i:Nat} {x:Str} {v:V} {u:Value} {Q:Unit->y0->Prop} (I:Inv X pins σ H s) (hN:X.N.Nodup) (hi:X.N[i]? = some x) (hx:Loc X.env.scope x) (r:RelV v u)
  (h :∀s',Inv X pins (σ.set i (some v)) H s'->Q () s') (hf:X.fn x=true\/X.env.scope.names.lookup x=some .local:=by first|exact .inl rfl|exact .inr rfl|assumption):P0 M A (storeName X.env x u) Q E s:=
 zcu I hN hi hx r (λ s' a _=>h s' a) hf
theorem Inv.call' {s':y0} {ch:List Addr} (I:Inv X pins σ H s) (ho:s'.os=s.os) (u:Un (frs X.stack) ch H H' s.heap s'.heap) (hok:HOk X.prog X.w H' s'.heap) (hg:U6 s'.gens)
  (hch :∀b∈ch,(b∈X.ex\/X.s₀.heap.objs.size<=b)/\b≠X.env.locals/\(∀x c,X.env.cells.lookup x=some c->c≠b)/\∀p∈X.pn++pins,p.1≠b):Inv X pins σ H' s':=by
 obtain ⟨d,g',d',t',a⟩:=s';have e:a=s.os:=ho;subst e;exact I.call (g':=g') (t':=t') (d':=d') u hok hg hch
end
noncomputable abbrev XK:=Value->Option Addr->Hp->Prop
noncomputable abbrev St:=List (Option V)
noncomputable abbrev VK:=V->Hp->Prop
noncomputable abbrev TE:=St->Hp->VK->Prop
noncomputable abbrev TT:=St->Hp->(Bool->Hp->Prop)->Prop
noncomputable abbrev TA:=St->Hp->(List V->Hp->Prop)->Prop
structure Ends where
 nx:St->Hp->Prop
 rt:VK
 bk:St->Hp->Prop:=λ _ _=>False
 ct:St->Hp->Prop:=λ _ _=>False
noncomputable abbrev TS:=Ends->St->Hp->Prop
def EP (X:Cx) (pins:List (Addr×Obj)) (σ:St) (Q:VK) (u:Value) (s':y0):Prop:=∃v H',Inv X pins σ H' s'/\RelV v u/\Q v H'
def TP (X:Cx) (pins:List (Addr×Obj)) (σ:St) (Q:Bool->Hp->Prop) (b:Bool) (s':y0):Prop:=∃H',Inv X pins σ H' s'/\Q b H'
def AP (X:Cx) (pins:List (Addr×Obj)) (σ:St) (Q:List V->Hp->Prop) (us:List Value) (s':y0):Prop:=∃vs H',Inv X pins σ H' s'/\Vals vs us/\Q vs H'
def SP (X:Cx) (pins:List (Addr×Obj)) (D:Ends) (f:Flow) (s':y0):Prop:=
 match f with
 | .next=>∃σ' H',Inv X pins σ' H' s'/\D.nx σ' H'
 | .brk=>∃σ' H',Inv X pins σ' H' s'/\D.bk σ' H'
 | .cont=>∃σ' H',Inv X pins σ' H' s'/\D.ct σ' H'
 | .ret u=>∃v σ' H',Inv X pins σ' H' s'/\RelV v u/\D.rt v H'
def PE (X:Cx) (e:Expr) (t:TE):Prop:=
 ∀(pins:List (Addr×Obj)) (s:y0) (σ:St) (H:Hp) (Q:VK),Inv X pins σ H s->t σ H Q->P0 (V0 X.prog X.w) X.A (P3 e X.env) (EP X pins σ Q) X.xe s
def PT (X:Cx) (e:Expr) (t:TT):Prop:=
 ∀(pins:List (Addr×Obj)) (s:y0) (σ:St) (H:Hp) (Q:Bool->Hp->Prop),Inv X pins σ H s->t σ H Q->P0 (V0 X.prog X.w) X.A (isTrue e X.env (P3 e X.env)) (TP X pins σ Q) X.xe s
def PW (X:Cx) (e:Expr) (t:TT):Prop:=
 ∀(whole:Sem Value) (pins:List (Addr×Obj)) (s:y0) (σ:St) (H:Hp) (Q:Bool->Hp->Prop),Inv X pins σ H s->t σ H Q->P0 (V0 X.prog X.w) X.A (isTrue e X.env whole) (TP X pins σ Q) X.xe s
theorem PW.pt {X:Cx} {e:Expr} {t:TT} (h:PW X e t):PT X e t:=h _
def PA (X:Cx) (es:List Expr) (t:TA):Prop:=
 ∀(pos:Pos) (pins:List (Addr×Obj)) (s:y0) (σ:St) (H:Hp) (Q:List V->Hp->Prop),Inv X pins σ H s->t σ H Q->P0 (V0 X.prog X.w) X.A (B9 (j5 pos (F1 es X.env))) (AP X pins σ Q) X.xe s
def PS (X:Cx) (st:Stmt) (t:TS):Prop:=
 ∀(pins:List (Addr×Obj)) (s:y0) (σ:St) (H:Hp) (D:Ends),Inv X pins σ H s->t D σ H->P0 (V0 X.prog X.w) X.A (exec st X.env) (SP X pins D) X.xe s
def PSs (X:Cx) (st:List Stmt) (t:TS):Prop:=
 ∀(pins:List (Addr×Obj)) (s:y0) (σ:St) (H:Hp) (D:Ends),Inv X pins σ H s->t D σ H->P0 (V0 X.prog X.w) X.A (execs st X.env) (SP X pins D) X.xe s
theorem thn {α:Type} {t:Sem α} {Q Q':α->y0->Prop} {M:Model} {A:B2} {E:Value->y0->Prop} {s:y0} (h:P0 M A t Q E s) (hQ :∀a s,Q a s->Q' a s):P0 M A t Q' E s:=y3 h hQ λ _ _ x=>x
section
variable {X:Cx}
noncomputable def tVar (i:Nat):TE:=λ σ H Q=>∃v,σ[i]? = some (some v)/\Q v H
noncomputable def tC (v:V):TE:=λ _ H Q=>Q v H
theorem pe_var {i:Nat} {x:Str} {pos:Pos} (hN:X.N[i]? = some x) (hv:Vis X.env.scope x) (hd:(x == ("__debug__" : Str))=false:=by decide) (hcd:(x == ("__classdict__" : Str))=false:=by decide):PE X (.Name x pos) (tVar i):=by
 intro f s σ H Q I h;obtain ⟨v,e,h⟩:=h;obtain ⟨m,g,b⟩:=I.loc;obtain ⟨u,r,l⟩:=b i x v hN e hv;have fin:EP X f σ Q u s:=⟨v,H,I,r,h⟩
 rcases l with ⟨a,d⟩|⟨a,c,hc,hcell⟩
 ·exact wpAny_Name (wpAny_loadName_local I.ok.kind a g d fin) hd
 ·rcases a with a|a
  ·exact wpAny_Name (wpAny_loadName_cell I.ok.kind a hc hcell fin) hd
  ·exact wpAny_Name (wpAny_loadName_free I.ok.kind a hc hcell fin hcd) hd
theorem pe_int {i j pos}:PE X (.Constant (.int i) j pos) (tC (.int i)):=λ _ _ _ H _ I h=>wpAny_Constant_int ⟨.int i,H,I.tok _,⟨_,rfl⟩,h⟩
theorem pe_bl {b j pos}:PE X (.Constant (.bool b) j pos) (tC (.bl b)):=λ _ _ _ H _ I h=>Constant_bool ⟨.bl b,H,I,rfl,h⟩
theorem pe_non {j pos}:PE X (.Constant .none j pos) (tC .non):=λ _ _ _ H _ I h=>Constant_none ⟨.non,H,I,rfl,h⟩
theorem pe_str {x j pos}:PE X (.Constant (.str x) j pos) (tC (.str x)):=λ _ _ _ H _ I h=>Calls.Constant_str ⟨.str x,H,I.tok _,⟨_,rfl⟩,h⟩
def Gl (X:Cx) (x:Str):Prop:=X.env.kindOf x=some .globalImplicit
theorem zdi {E:Value->y0->Prop} {pins:List (Addr×Obj)} {s:y0} {σ:St} {H:Hp} {x:Str} {u:Value} {pos:Pos} {Q:Value->y0->Prop} (I:Inv X pins σ H s) (hg:Gl X x) (hm:X.mg x=some u) (h:Q u s)
  (hd:(x == ("__debug__" : Str))=false:=by decide):P0 (V0 X.prog X.w) X.A (P3 (.Name x pos) X.env) Q E s:=
 W8 I.ok.kind hg (Calls.loadGlobal_global (by rw [I.ok.glob];exact I.mod.glob.keeps I.bk) hm h) hd
theorem ld_blt {E:Value->y0->Prop} {pins:List (Addr×Obj)} {s:y0} {σ:St} {H:Hp} {x:Str} {u:Value} {pos:Pos} {Q:Value->y0->Prop} (I:Inv X pins σ H s) (hg:Gl X x) (hm:X.mg x=none) (hv:i4 x=some u) (h:Q u s)
  (hn:x≠"__name__":=by decide) (hd:(x == ("__debug__" : Str))=false:=by decide):P0 (V0 X.prog X.w) X.A (P3 (.Name x pos) X.env) Q E s:=by
 obtain ⟨c,b,a⟩:=I.mod.blt;exact W8 I.ok.kind hg (Calls.loadGlobal_builtin (by rw [I.ok.glob];exact I.mod.glob.keeps I.bk) hm (by rw [I.ok.blt];exact b.keeps I.bk) ((a x hn).trans hv) h) hd
theorem z18 {x:Str} {v:V} {u:Value} {pos:Pos} (hg:Gl X x) (hm:X.mg x=some u) (r:RelV v u) (hd:(x == ("__debug__" : Str))=false:=by decide):PE X (.Name x pos) (tC v):=
 λ _ _ _ H _ I h=>zdi I hg hm ⟨v,H,I,r,h⟩ hd
theorem z1r {x:Str} {v:V} {u:Value} {pos:Pos} (hg:Gl X x) (hm:X.mg x=none) (hv:i4 x=some u) (r:RelV v u) (hn:x≠"__name__":=by decide) (hd:(x == ("__debug__" : Str))=false:=by decide):PE X (.Name x pos) (tC v):=
 λ _ _ _ H _ I h=>ld_blt I hg hm hv ⟨v,H,I,r,h⟩ hn hd
variable {a b:Expr} {ta tb:TE} {pos:Pos}
def PC (X:Cx) (op:CmpOp) (a b:Expr) (t:TE):Prop:=
 ∀(pins:List (Addr×Obj)) (s:y0) (σ:St) (H:Hp) (Q:VK),Inv X pins σ H s->t σ H Q->
  P0 (V0 X.prog X.w) X.A (P3 a X.env) (λ v s₁=>P0 (V0 X.prog X.w) X.A (P3 b X.env) (λ u s₂=>P0 (V0 X.prog X.w) X.A (U2 op v u) (EP X pins σ Q) X.xe s₂) X.xe s₁) X.xe s
noncomputable def tB (t:TE):TT:=λ σ H Q=>t σ H λ x H1=>∃c,x=.bl c/\Q c H1
theorem pt_cmp {op:CmpOp} {t:TE} (h:PC X op a b t) (h1:V6 op b=false:=by first|exact nobehind _ (by decide) (by decide)|rfl):PT X (.Compare a [op] [b] pos) (tB t):=by intro f s σ H Q I g;refine wpAny_isTrue_Compare1 (thn (h f s σ H _ I g) λ v i h1=>thn h1 λ u k e=>thn e λ c j ⟨x,H1,I1,r1,q1⟩=>?_) h1;obtain ⟨d,rfl,q⟩:=q1;cases r1;exact g3 ⟨H1,I1,q⟩
theorem pt_val {e:Expr} {t:TE} (h:PE X e t) (he :∀whole,isTrue e X.env whole=(do let v <-whole;standAt e.pos;C9 [v] (truthy v)):=by intro _;rfl):PT X e (tB t):=by intro a s σ H Q I b;refine isTrue_plain (thn (h a s σ H _ I b) λ v c ⟨x,H1,I1,r1,q1⟩=>?_) (he _);obtain ⟨d,rfl,q⟩:=q1;cases r1;exact g3 ⟨H1,I1,q⟩
variable {tA tB':TT} {rest:List Expr}
noncomputable def tAnd (t u:TT):TT:=λ σ H Q=>t σ H λ c H1=>if c=true then u σ H1 Q else Q false H1
noncomputable def tOr (t u:TT):TT:=λ σ H Q=>t σ H λ c H1=>if c=true then Q true H1 else u σ H1 Q
noncomputable def tNot (t:TT):TT:=λ σ H Q=>t σ H λ c H1=>Q (!c) H1
theorem z5q (ha:PT X a tA):PW X (.BoolOp .And [a] pos) tA:=by
 intro d b s σ H Q I h;refine isTrue_and (thn (ha b s σ H Q I h) λ c f e=>?_);cases c with
 | true=>exact isTrue_and_nil e
 | false=>exact e
theorem pw_or1 (ha:PT X a tA):PW X (.BoolOp .Or [a] pos) tA:=by
 intro d b s σ H Q I h;refine isTrue_or (thn (ha b s σ H Q I h) λ c f e=>?_);cases c with
 | false=>exact isTrue_or_nil e
 | true=>exact e
theorem pw_and (ha:PT X a tA) (hb:PW X (.BoolOp .And (b :: rest) pos) tB'):PW X (.BoolOp .And (a :: b :: rest) pos) (tAnd tA tB'):=by
 intro e d s σ H Q I h;refine isTrue_and (thn (ha d s σ H _ I h) λ c f ⟨H1,I1,q1⟩=>?_);cases c with
 | true=>exact hb e d f σ H1 Q I1 q1
 | false=>exact ⟨H1,I1,q1⟩
theorem pw_or (ha:PT X a tA) (hb:PW X (.BoolOp .Or (b :: rest) pos) tB'):PW X (.BoolOp .Or (a :: b :: rest) pos) (tOr tA tB'):=by
 intro e d s σ H Q I h;refine isTrue_or (thn (ha d s σ H _ I h) λ c f ⟨H1,I1,q1⟩=>?_);cases c with
 | true=>exact ⟨H1,I1,q1⟩
 | false=>exact hb e d f σ H1 Q I1 q1
theorem pt_not (ha:PT X a tA):PT X (.UnaryOp .Not a pos) (tNot tA):=by intro b s σ H Q I h;exact isTrue_not (ha b s σ H (λ c d=>Q (!c) d) I h)
noncomputable def tAndV (ta tb:TE):TE:=λ σ H Q=>ta σ H λ x H1=>∃c,x=.bl c/\if c=true then tb σ H1 Q else Q (.bl false) H1
noncomputable def tOrV (ta tb:TE):TE:=λ σ H Q=>ta σ H λ x H1=>∃c,x=.bl c/\if c=true then Q (.bl true) H1 else tb σ H1 Q
noncomputable def tNotV (ta:TE):TE:=λ σ H Q=>ta σ H λ x H1=>∃c,x=.bl c/\Q (.bl (!c)) H1
theorem pe_one {op} {t:TE} (h:PE X a t):PE X (.BoolOp op [a] pos) t:=λ b s σ H Q I c=>BoolOp_one (h b s σ H Q I c)
theorem pe_and (ha:PE X a ta) (hb:PE X (.BoolOp .And (b :: rest) pos) tb):PE X (.BoolOp .And (a :: b :: rest) pos) (tAndV ta tb):=by
 intro e s σ H Q I h;refine BoolOp_and (thn (ha e s σ H _ I h) λ v f ⟨x,H1,I1,r1,d⟩=>?_);obtain ⟨c,rfl,d⟩:=d;cases r1;refine g3 ?_;cases c with
 | true=>exact hb e f σ H1 Q I1 d
 | false=>exact ⟨.bl false,H1,I1,rfl,d⟩
theorem pe_or (ha:PE X a ta) (hb:PE X (.BoolOp .Or (b :: rest) pos) tb):PE X (.BoolOp .Or (a :: b :: rest) pos) (tOrV ta tb):=by
 intro e s σ H Q I h;refine BoolOp_or (thn (ha e s σ H _ I h) λ v f ⟨x,H1,I1,r1,d⟩=>?_);obtain ⟨c,rfl,d⟩:=d;cases r1;refine g3 ?_;cases c with
 | false=>exact hb e f σ H1 Q I1 d
 | true=>exact ⟨.bl true,H1,I1,rfl,d⟩
theorem pe_not (ha:PE X a ta):PE X (.UnaryOp .Not a pos) (tNotV ta):=by intro d s σ H Q I h;refine UnaryOp_ (thn (ha d s σ H _ I h) λ v e ⟨x,H1,I1,r1,b⟩=>?_);obtain ⟨c,rfl,b⟩:=b;cases r1;exact not_of (g3 ⟨.bl (!c),H1,I1,rfl,b⟩)
end
def SqL (K:c0) (H:Hp) (a:Addr) (xs:List V):Prop:=
 Rd H a (.lst xs)\/
  ∃(o:Obj) (its:Array Value) (n:Nat),K.lookup a=some o/\o.cls=.type "list"/\o.dict=none/\o.data=.seq its n/\its.size<=sizeLine/\Vals xs its.toList
def SqT (K:c0) (H:Hp) (a:Addr) (xs:List V):Prop:=
 Rd H a (.tup xs)\/
  ∃(o:Obj) (its:Array Value) (n:Nat),K.lookup a=some o/\o.cls=.type "tuple"/\o.data=.seq its n/\its.size<=sizeLine/\Vals xs its.toList
noncomputable def absV:Value->Option V
 | .none=>some .non
 | .bool b=>some (.bl b)
 | .int i _=>some (.int i)
 | .str x _=>some (.str x)
 | .bytes b _=>some (.byt b)
 | .float b _=>some (.flt b)
 | .ref a=>some (.ref a)
 | .type n=>some (.ty n)
 | _=>none
theorem RelV.abs {x:V} {u:Value} (r:RelV x u):absV u=some x:=by
 cases x with
 | non=>cases r;rfl
 | bl _=>cases r;rfl
 | int _=>obtain ⟨t,rfl⟩:=r;rfl
 | str _=>obtain ⟨t,rfl⟩:=r;rfl
 | byt _=>obtain ⟨t,rfl⟩:=r;rfl
 | flt _=>obtain ⟨t,rfl⟩:=r;rfl
 | ref _=>cases r;rfl
 | ty _=>cases r;rfl
theorem RelV.inj {x y:V} {u:Value} (r:RelV x u) (q:RelV y u):x=y:=W0 (r.abs.symm.trans q.abs)
theorem Vals.inj :∀{xs ys:List V} {us:List Value},Vals xs us->Vals ys us->xs=ys
 | _,_,_,.nil,.nil=>rfl
 | _,_,_,.cons r t,.cons r' t'=>by rw [r.inj r',Vals.inj t t']
section
variable {X:Cx} {pins:List (Addr×Obj)} {σ:St} {H:Hp} {s:y0} {a:Addr} {xs ys:List V}
theorem SqL.of {K:c0} (h:H a=some (.lst xs)):SqL K H a xs:=.inl (.inl h)
theorem SqT.of {K:c0} (h:H a=some (.tup xs)):SqT K H a xs:=.inl (.inl h)
theorem Inv.list (I:Inv X pins σ H s) (h:SqL X.K H a xs) :∃its:List Value,Vals xs its/\PlainL s.heap a its.toArray/\xs.length<=sizeLine:=by
 rcases h with h|⟨o,its,n,hk,hc,hd,hs,hz,r⟩
 ·obtain ⟨z,its,n,r,e⟩:=h.ok I.hok;exact ⟨its,r,⟨_,n,e,rfl,rfl,rfl⟩,z⟩
 ·refine ⟨its.toList,r,⟨o,n,I.kIn a o hk,hc,hd,by simpa using hs⟩,?_⟩;have e:=r.length;simp only [U0] at e;omega
theorem Inv.tuple (I:Inv X pins σ H s) (h:SqT X.K H a xs) :∃its:List Value,Vals xs its/\IsTup s.heap a its.toArray/\xs.length<=sizeLine:=by
 rcases h with h|⟨o,its,n,hk,hc,hs,hz,r⟩
 ·obtain ⟨z,its,r,p⟩:=h.ok I.hok;exact ⟨its,r,p.1,z⟩
 ·refine ⟨its.toList,r,⟨o,I.kIn a o hk,hc,n,by simpa using hs⟩,?_⟩;have e:=r.length;simp only [U0] at e;omega
theorem Inv.list_inj (I:Inv X pins σ H s) (h:SqL X.K H a xs) (h':SqL X.K H a ys):xs=ys:=by
 obtain ⟨i,r,⟨o,n,e,_,_,d⟩,_⟩:=I.list h;obtain ⟨g,f,⟨k,j,c,_,_,b⟩,_⟩:=I.list h';rw [e] at c;cases c;rw [d] at b;injection b with d1 _;have:i=g:=by simpa using congrArg Array.toList d1
 subst this;exact r.inj f
theorem Inv.tuple_inj (I:Inv X pins σ H s) (h:SqT X.K H a xs) (h':SqT X.K H a ys):xs=ys:=by
 obtain ⟨i,r,⟨o,e,_,n,d⟩,_⟩:=I.tuple h;obtain ⟨g,f,⟨k,c,_,j,b⟩,_⟩:=I.tuple h';rw [e] at c;cases c;rw [d] at b;injection b with d1 _;have:i=g:=by simpa using congrArg Array.toList d1
 subst this;exact r.inj f
end
noncomputable abbrev Cx.wish (X:Cx) (E:Value->y0->Prop):Cx:={ X with xe:=E }
noncomputable abbrev Cx.nox (X:Cx):Cx:=X.wish λ _ _=>False
theorem Cx.Ok.wish {X:Cx} (ok:X.Ok) (E:Value->y0->Prop):(X.wish E).Ok:=
 ⟨ok.mod,ok.kind,ok.glob,ok.blt,ok.above,ok.inj,ok.has,ok.cab,ok.hd,ok.frames,ok.stk,ok.exf,ok.bs,ok.bsz,ok.noex,ok.exfs,ok.funs,ok.frf⟩
theorem Cx.Ok.unwish {X:Cx} {E:Value->y0->Prop} (ok:(X.wish E).Ok):X.Ok:=
 ⟨ok.mod,ok.kind,ok.glob,ok.blt,ok.above,ok.inj,ok.has,ok.cab,ok.hd,ok.frames,ok.stk,ok.exf,ok.bs,ok.bsz,ok.noex,ok.exfs,ok.funs,ok.frf⟩
section
variable {X:Cx} {pins:List (Addr×Obj)} {σ:St} {H:Hp} {s:y0} {E:Value->y0->Prop}
theorem Inv.wish (I:Inv X pins σ H s) (E:Value->y0->Prop):Inv (X.wish E) pins σ H s:=⟨I.ok.wish E,I.os,I.bare,I.base,I.loc,I.cell,I.free,I.freeC,I.pin,I.hok,I.len⟩
theorem Inv.unwish (I:Inv (X.wish E) pins σ H s):Inv X pins σ H s:=⟨I.ok.unwish,I.os,I.bare,I.base,I.loc,I.cell,I.free,I.freeC,I.pin,I.hok,I.len⟩
theorem SP.unwish {D:Ends} {f:Flow} {s':y0} (h:SP (X.wish E) pins D f s'):SP X pins D f s':=by
 cases f with
 | next=>obtain ⟨b,a,I,q⟩:=h;exact ⟨b,a,I.unwish,q⟩
 | brk=>obtain ⟨b,a,I,q⟩:=h;exact ⟨b,a,I.unwish,q⟩
 | cont=>obtain ⟨b,a,I,q⟩:=h;exact ⟨b,a,I.unwish,q⟩
 | ret u=>obtain ⟨v,b,a,I,r,q⟩:=h;exact ⟨v,b,a,I.unwish,r,q⟩
theorem PSs.nox {st:List Stmt} {t:TS} (h:PSs X.nox st t):PSs X st t:=λ a s σ H D I b=>y3 (h a s σ H D (I.wish _) b) (λ _ _ q=>q.unwish) λ _ _ z=>N4 z
end
section
variable {X:Cx} {st:Stmt} {rest:List Stmt} {t u:TS} {e:Expr} {te:TE} {pos:Pos}
noncomputable def tNext:TS:=λ D σ H=>D.nx σ H
noncomputable def tSeq (t u:TS):TS:=λ D σ H=>t { D with nx:=u D } σ H
theorem z0d:PSs X [] tNext:=λ _ _ σ H _ I h=>z9 ⟨σ,H,I,h⟩
theorem z06 (h1:PS X st t) (h2:PSs X rest u):PSs X (st :: rest) (tSeq t u):=by
 intro a s σ H D I h;refine wpAny_execs_cons (thn (h1 a s σ H { D with nx:=u D } I h) λ f b q=>?_);cases f with
 | next=>obtain ⟨e,d,c,q⟩:=q;exact h2 a b e d D c q
 | ret v=>exact q
 | brk=>exact q
 | cont=>exact q
theorem z05 (h1:PS X st t):PSs X [st] t:=by
 intro a s σ H D I h;refine wpAny_execs_cons (thn (h1 a s σ H D I h) λ f b q=>?_);cases f with
 | next=>exact z9 q
 | ret v=>exact q
 | brk=>exact q
 | cont=>exact q
noncomputable def tCont:TS:=λ D σ H=>D.ct σ H
theorem z8f:PS X (.Continue pos) tCont:=λ _ _ σ H _ I h=>wpAny_Continue ⟨σ,H,I,h⟩
theorem Inv.quiet {pins:List (Addr×Obj)} {σ:St} {H:Hp} {s:y0} (I:Inv X pins σ H s):interactive X.env=false:=by simp [interactive,I.ok.kind]
noncomputable def tDrop (te:TE):TS:=λ D σ H=>te σ H λ _ H1=>D.nx σ H1
theorem z3s (he:PE X e te) (hs:c8 e none pos.line X.env=C3 false:=by rfl):PS X (.Expr e pos) (tDrop te):=by intro a s σ H D I h;exact wpAny_Expr_any (thn (he a s σ H _ I h) λ v b ⟨x,H1,I1,r1,q1⟩=>⟨σ,H1,I1,q1⟩) I.quiet hs
noncomputable def tRet (te:TE):TS:=λ D σ H=>te σ H D.rt
theorem ps_ret (he:PE X e te):PS X (.Return (some e) pos) (tRet te):=by intro a s σ H D I h;exact wpAny_Return_some (thn (he a s σ H _ I h) λ v b ⟨x,H1,I1,r1,q1⟩=>⟨x,σ,H1,I1,r1,q1⟩)
noncomputable def tIfS (c:TT) (t u:TS):TS:=λ D σ H=>c σ H λ b H1=>if b=true then t D σ H1 else u D σ H1
theorem ps_if {c:Expr} {a b:List Stmt} {tc:TT} (hc:PT X c tc) (ha:PSs X a t) (hb:PSs X b u):PS X (.If c a b pos) (tIfS tc t u):=by
 intro e s σ H D I h;refine wpAny_If (thn (hc e s σ H _ I h) λ d f ⟨H1,I1,q1⟩=>?_);cases d with
 | true=>exact ha e f σ H1 D I1 q1
 | false=>exact hb e f σ H1 D I1 q1
noncomputable def tNever:TS:=λ _ _ _=>False
theorem z1w:PS X st tNever:=λ _ _ _ _ _ _ h=>h.elim
end
noncomputable abbrev TG:=V->St->Hp->(St->Hp->Prop)->Prop
noncomputable abbrev TGs:=List V->St->Hp->(St->Hp->Prop)->Prop
def PG (X:Cx) (target:Expr) (t:TG):Prop:=
 ∀(pins:List (Addr×Obj)) (s:y0) (σ:St) (H:Hp) (v:V) (u:Value) (Q:St->Hp->Prop),Inv X pins σ H s->RelV v u->t v σ H Q->
  P0 (V0 X.prog X.w) X.A (assign target X.env u) (λ _ s'=>∃σ' H',Inv X pins σ' H' s'/\Q σ' H') X.xe s
def PGs (X:Cx) (ts:List Expr) (t:TGs):Prop:=
 ∀(pins:List (Addr×Obj)) (s:y0) (σ:St) (H:Hp) (vs:List V) (us:List Value) (Q:St->Hp->Prop),Inv X pins σ H s->Vals vs us->t vs σ H Q->
  P0 (V0 X.prog X.w) X.A (assignInOrder ((J7 ts X.env).map (·.2)) us) (λ _ s'=>∃σ' H',Inv X pins σ' H' s'/\Q σ' H') X.xe s
noncomputable abbrev TSet:=V->V->V->Hp->(Hp->Prop)->Prop
def PSet (X:Cx) (t:TSet):Prop:=
 ∀(pins:List (Addr×Obj)) (s:y0) (σ:St) (H:Hp) (o i v:V) (ov iv u:Value) (Q:Hp->Prop),Inv X pins σ H s->RelV o ov->RelV i iv->RelV v u->t o i v H Q->
  P0 (V0 X.prog X.w) X.A (setItem ov iv u) (λ _ s'=>∃H',Inv X pins σ H' s'/\Q H') X.xe s
section
variable {X:Cx} {pos:Pos}
noncomputable def gName (i:Nat):TG:=λ v σ H Q=>Q (σ.set i (some v)) H
theorem z0m {i:Nat} {x:Str} (hN:X.N.Nodup) (hi:X.N[i]? = some x) (hx:Loc X.env.scope x) (hf:X.fn x=true\/X.env.scope.names.lookup x=some .local:=by first|exact .inl rfl|exact .inr rfl|assumption):PG X (.Name x pos) (gName i):=by intro c s σ H v u Q I r h;exact wpAny_assign_Name (zb2 I hN hi hx r (λ b a=>⟨_,H,a,h⟩) hf)
noncomputable def gNil:TGs:=λ vs σ H Q=>vs=[]/\Q σ H
noncomputable def gCons (t:TG) (u:TGs):TGs:=λ vs σ H Q=>∃v r,vs=v :: r/\t v σ H λ σ' H'=>u r σ' H' Q
theorem z26:PGs X [] gNil:=by intro a s σ H c b Q I r h;obtain ⟨e,h⟩:=h;subst e;cases r;exact assignInOrder_nil ⟨σ,H,I,h⟩
theorem z0l {e:Expr} {es:List Expr} {t:TG} {u:TGs} (h1:PG X e t) (h2:PGs X es u)
  (hs:(J7 (e :: es) X.env).map (·.2)=assign e X.env :: (J7 es X.env).map (·.2):=by rfl):PGs X (e :: es) (gCons t u):=by
 intro a s σ H g f Q I r h;obtain ⟨v,d,c,h⟩:=h;subst c;cases r with
 | cons r rr=>rw [hs];refine assignInOrder_cons (thn (h1 a s σ H _ _ _ I r h) λ _ b ⟨σ1,H1,I1,q1⟩=>?_);exact h2 a b σ1 H1 _ _ Q I1 rr q1
noncomputable def gTup (K:c0) (n:Nat) (t:TGs):TG:=λ v σ H Q=>∃a xs,v=.ref a/\SqT K H a xs/\xs.length=n/\t xs σ H Q
theorem pg_tup {es:List Expr} {k:Nat} {t:TGs} {n:Nat} (hc:X.calm=true) (h:PGs X es t)
  (hn:(J7 es X.env).length=n:=by rfl) (hst:(J7 es X.env).findIdx? (·.1)=none:=by rfl):PG X (.Tuple es k pos) (gTup X.K n t):=by
 intro f s σ H v u Q I r c;obtain ⟨a,i,q,p,m,c⟩:=c;subst q;cases r;obtain ⟨y,d,g,x⟩:=I.tuple p;refine assign_Tuple_tuple (I.ok.hd hc) g (by simp [hn,<-m,d.length]) hst λ j w=>?_;have l:Inv X f σ H { s with heap:=j }:=I.kept (t':=s.toks) λ b o e=>w b o (Q0 (D0 e)) e;exact h f _ σ H i _ Q l (by simpa using d) c
noncomputable def gSub (to ti:TE) (t:TSet):TG:=λ v σ H Q=>to σ H λ o H1=>ti σ H1 λ i H2=>t o i v H2 λ H3=>Q σ H3
theorem pg_sub {o i:Expr} {to ti:TE} {t:TSet} (ho:PE X o to) (hi:PE X i ti) (hs:PSet X t)
  (ha :∀v,assign (.Subscript o i pos) X.env v=(do
   let ov <-C9 [v] (P3 o X.env)
   let iv <-C9 [v,ov] (P3 i X.env)
   standAt pos
   C9 [v,ov,iv] (setItem ov iv v)
   release [v,ov,iv] []):=by intro _;rfl):PG X (.Subscript o i pos) (gSub to ti t):=by
 intro a s σ H v u Q I r h;rw [ha];refine v0 (D2 (thn (ho a s σ H _ I h) λ ov b ⟨x,H1,I1,r1,q1⟩=>?_));refine v0 (D2 (thn (hi a b σ H1 _ I1 q1) λ iv c ⟨y,H2,I2,r2,q2⟩=>?_));refine v0 (wpAny_standAt (v0 (D2 (thn (hs a c σ H2 x y v ov iv u _ I2 r1 r2 r q2) λ _ d ⟨H3,I3,q3⟩=>?_))));exact wpAny_release ⟨σ,H3,I3,q3⟩
noncomputable def tAsg (te:TE) (g:TG):TS:=λ D σ H=>te σ H λ x H1=>g x σ H1 D.nx
theorem ps_asg {tg e:Expr} {te:TE} {g:TG} (he:PE X e te) (hg:PG X tg g) (hs:swapsWithSole [tg] e pos.line X.env=C3 false:=by rfl) (hw:swappedStores [tg] e X.env=C3 none:=by rfl)
  (h1:(J7 [tg] X.env).map (·.2)=[assign tg X.env]:=by rfl):PS X (.Assign [tg] e pos) (tAsg te g):=by
 intro a s σ H D I h;refine wpAny_Assign_stores (thn (he a s σ H _ I h) λ v b ⟨x,H1,I1,r1,q1⟩=>?_) hs hw;rw [h1];exact thn (hg a b σ H1 x v _ I1 r1 q1) λ _ c q=>q
theorem ps_set {i:Nat} {x:Str} {e:Expr} {te:TE} {pos':Pos} (hN:X.N.Nodup) (hi:X.N[i]? = some x) (hx:Loc X.env.scope x) (he:PE X e te) (hs:c8 e (some (.Name x pos')) pos.line X.env=C3 false:=by rfl) (hf:X.fn x=true\/X.env.scope.names.lookup x=some .local:=by first|exact .inl rfl|exact .inr rfl|assumption) :
  PS X (.Assign [.Name x pos'] e pos) (tAsg te (gName i)):=by
 intro b s σ H D I h;refine wpAny_Assign_Name (thn (he b s σ H _ I h) λ v c ⟨y,H1,I1,r1,q1⟩=>?_) hs;exact zb2 I1 hN hi hx r1 (λ d a=>⟨_,H1,a,q1⟩) hf
end
structure It where
 go:Nat->Hp->Prop
 yld:Nat->Hp->V->Hp->Prop
 stop:Nat->Hp->Prop
def FpOk (X:Cx) (pins:List (Addr×Obj)) (H:Hp) (b:Addr):Prop:=
 H b=none/\b≠X.env.locals/\b∉X.fs/\(b∈X.ex\/X.s₀.heap.objs.size<=b)/\(∀x c,X.env.cells.lookup x=some c->c≠b)/\∀p∈X.pn++pins,p.1≠b
theorem Inv.fpOk {X:Cx} {pins:List (Addr×Obj)} {σ:St} {H H':Hp} {s:y0} {b:Addr} (I:Inv X pins σ H s) (hb:s.heap.objs.size<=b) (hn:H' b=none):FpOk X pins H' b:=by
 refine ⟨hn,Y1 (S0 I.lt hb),I.nofs hb,.inr (J0 I.sz hb),λ x c e z=>?_,λ p a z=>?_⟩
 ·obtain ⟨v,q⟩:=I.cell x c e;exact absurd (S0 q.lt (by rw [z];exact hb)) (Z2 _)
 ·exact absurd (S0 (D0 (I.pin p a).1) (by rw [z];exact hb)) (Z2 _)
structure Turn (P:Program) (w:N0) (K:c0) (tg:Expr) (J:It) (fp:List Addr) (it:Addr) (tn:Nat->Heap->Prop):Prop where
 mem:it∈fp
 obj :∀i h,tn i h->∀b∈fp,∃o,h.get? b=some o/\∀v,o.data≠.cell v
 keep :∀i h h',tn i h->(∀b∈fp,∀o,h.get? b=some o->h'.get? b=some o)->tn i h'
 item :∀(X:Cx),X.prog=P->X.w=w->X.K=K->X.calm=true->∀(i:Nat) (pins:List (Addr×Obj)) (s:y0) (σ:St) (H:Hp) (E:Value->y0->Prop),Inv X pins σ H s->(∀b∈fp,FpOk X pins H b)->tn i s.heap->J.go i H->
  P0 (V0 P w) X.A (C8 (.ref it)) (λ r s1=>∃u,r=some u/\
   P0 (V0 P w) X.A (O7 tg (.ref it) u) (λ _ s2=>∃x H',Inv X pins σ H' s2/\RelV x u/\J.yld i H x H'/\tn (i + 1) s2.heap/\∀b∈fp,H' b=none) E s1) E s
 done :∀(X:Cx),X.prog=P->X.w=w->X.K=K->X.calm=true->∀(i:Nat) (pins:List (Addr×Obj)) (s:y0) (σ:St) (H:Hp) (E:Value->y0->Prop),Inv X pins σ H s->(∀b∈fp,FpOk X pins H b)->tn i s.heap->J.stop i H->
  P0 (V0 P w) X.A (C8 (.ref it)) (λ r s1=>r=none/\Inv X pins σ H s1) E s
 self :∀(A:B2) (i:Nat) (s:y0) (Q:Value->y0->Prop) (E:Value->y0->Prop),tn i s.heap->Q (.ref it) s->P0 (V0 P w) A (pyIter (.ref it)) Q E s
noncomputable abbrev TI:=St->Hp->(It->Hp->Prop)->Prop
def PIE (X:Cx) (pins:List (Addr×Obj)) (σ:St) (tg:Expr) (R:It->Hp->Prop) (itv:Value) (s2:y0):Prop:=
 ∃(it:Addr) (fp:List Addr) (tn:Nat->Heap->Prop) (J:It) (H':Hp),itv=.ref it/\Inv X pins σ H' s2/\Turn X.prog X.w X.K tg J fp it tn/\tn 0 s2.heap/\(∀b∈fp,FpOk X pins H' b)/\R J H'
def PI (X:Cx) (tg iter:Expr) (wi:TI):Prop:=
 ∀(pins:List (Addr×Obj)) (s:y0) (σ:St) (H:Hp) (R:It->Hp->Prop),Inv X pins σ H s->wi σ H R->
  P0 (V0 X.prog X.w) X.A (P3 iter X.env) (λ v s1=>P0 (V0 X.prog X.w) X.A (pyIter v) (PIE X pins σ tg R) X.xe s1) X.xe s
theorem go_of {M:Model} {A:B2} {E:Value->y0->Prop} {s:y0} {tg:Expr} {it:Addr} {u:Value} {o:Obj} {n:String} {vs:Array Value} {Q:Unit->y0->Prop} (ho:s.heap.get? it=some o) (hc:o.cls=.type n) (hd:o.data=.fields vs)
    (hn:["enumerate","zip","dict_itemiterator","dict_reverseitemiterator","odict_iterator","itertools.zip_longest","itertools.pairwise"].contains n=false) (hQ:Q () s):P0 M A (O7 tg (.ref it) u) Q E s:=by
  unfold O7;cases tg<;>first
    | exact C0 hQ
    | (cases u<;>first
        | exact C0 hQ
        | (refine v0 (wpAny_load ho ?_)
           rw [hc,hd];show P0 M A (if (["enumerate","zip","dict_itemiterator","dict_reverseitemiterator","odict_iterator","itertools.zip_longest","itertools.pairwise"].contains n && vs[0]? == some (R4 _))=true then _ else _) Q E s;rw [if_neg (by intro h;rw [hn,C5] at h;cases h)];exact C0 hQ))
noncomputable def Itl (K:c0) (a:Addr):It:=
 ⟨λ i H=>∃xs x,SqL K H a xs/\xs[i]? = some x,λ i H x H'=>H'=H/\∀xs,SqL K H a xs->xs[i]? = some x,λ i H=>∃xs,SqL K H a xs/\xs.length<=i⟩
noncomputable def Itt (K:c0) (a:Addr):It:=
 ⟨λ i H=>∃xs x,SqT K H a xs/\xs[i]? = some x,λ i H x H'=>H'=H/\∀xs,SqT K H a xs->xs[i]? = some x,λ i H=>∃xs,SqT K H a xs/\xs.length<=i⟩
noncomputable def Itr (lo:Int) (n:Nat):It:=⟨λ i _=>i < n,λ i H x H'=>H'=H/\x=.int (lo + i),λ i _=>n<=i⟩
theorem zd3 {P:Program} {w:N0} {K:c0} {tg:Expr} (a it:Addr):Turn P w K tg (Itl K a) [it] it (λ i h=>h.IsListIter it a i) where
 mem:=by simp
 obj:=λ i h f b g=>by
  have e:b=it:=by simpa using g
  subst e;obtain ⟨o,e,c,d⟩:=f;exact ⟨o,e,λ v z=>by rw [d] at z;cases z⟩
 keep:=λ i h j f k=>f.at λ o e=>k it (by simp) o e
 item:=by intro X C D n L i M s σ H E I l f q;subst C D n;obtain ⟨N,x,m,G⟩:=q;obtain ⟨W,B,p,O⟩:=I.list m;obtain ⟨u,Q,R⟩:=B.get G;obtain ⟨t,r,T,y,A,F⟩:=l it (by simp);refine F7 f p.isList (x:=u) (by simpa using Q) λ j J sb=>?_;have S:Inv X M σ H { s with heap:=j }:=I.turned (t':=s.toks) (λ b o g e=>(sb.2 b g).trans e) t r y A F;obtain ⟨o,e,c,d⟩:=id J;exact ⟨u,rfl,go_of (s:={ s with heap:=j }) e c d (by decide) ⟨x,H,S,R,⟨rfl,λ Z U=>by rw [I.list_inj U m];exact G⟩,J,λ b g=>(l b g).1⟩⟩
 done:=by intro X C D n L i M s σ H E I l f q;subst C D n;obtain ⟨N,m,G⟩:=q;obtain ⟨W,B,p,O⟩:=I.list m;obtain ⟨t,r,T,y,A,F⟩:=l it (by simp);have Y:=B.length;exact S7 (I.ok.hd L) f p.isList (by simp;omega) λ j V=>⟨rfl,I.turned (t':=s.toks) (λ b o g e=>V b o g e) t r y A F⟩
 self:=λ _ _ _ _ _ f h=>wpAny_pyIter_listiter f h
theorem z9p {P:Program} {w:N0} {K:c0} {tg:Expr} (a it:Addr):Turn P w K tg (Itt K a) [it] it (λ i h=>h.IsTupleIter it a i) where
 mem:=by simp
 obj:=λ i h f b g=>by
  have e:b=it:=by simpa using g
  subst e;obtain ⟨o,e,c,d⟩:=f;exact ⟨o,e,λ v z=>by rw [d] at z;cases z⟩
 keep:=λ i h j f k=>f.at λ o e=>k it (by simp) o e
 item:=by intro X C F n M i N s σ H E I l f q;subst C F n;obtain ⟨O,x,m,J⟩:=q;obtain ⟨D,B,p,Q⟩:=I.tuple m;obtain ⟨u,R,S⟩:=B.get J;obtain ⟨t,r,U,y,A,G⟩:=l it (by simp);refine wpAny_pyNext_tuple_item f (show s.heap.IsTuple a D.toArray from p) (x:=u) (by simpa using R) λ j L sb=>?_;have T:Inv X N σ H { s with heap:=j }:=I.turned (t':=s.toks) (λ b o g e=>(sb.2 b g).trans e) t r y A G;obtain ⟨o,e,c,d⟩:=id L;exact ⟨u,rfl,go_of (s:={ s with heap:=j }) e c d (by decide) ⟨x,H,T,S,⟨rfl,λ Z V=>by rw [I.tuple_inj V m];exact J⟩,L,λ b g=>(l b g).1⟩⟩
 done:=by intro X C F n M i N s σ H E I l f q;subst C F n;obtain ⟨O,m,J⟩:=q;obtain ⟨D,B,p,Q⟩:=I.tuple m;obtain ⟨t,r,U,y,A,G⟩:=l it (by simp);have Y:=B.length;exact wpAny_pyNext_tuple_end (I.ok.hd M) f (show s.heap.IsTuple a D.toArray from p) (by simp;omega) λ j W=>⟨rfl,I.turned (t':=s.toks) (λ b o g e=>W b o g e) t r y A G⟩
 self:=λ _ _ _ _ _ f h=>wpAny_pyIter_tupleiter f h
theorem z9d {P:Program} {w:N0} {K:c0} {tg:Expr} (it:Addr) (lo:Int) (n:Nat):Turn P w K tg (Itr lo n) [it] it (λ i h=>w9 h it (lo + (i:Nat) * 1) ((n:Int) - (i:Nat)) 1) where
 mem:=by simp
 obj:=λ i h a b c=>by
  have e:b=it:=by simpa using c
  subst e;exact ⟨_,a,λ v z=>by have D:D7 _=y8 v:=z;cases D⟩
 keep:=λ i h d a k=>k it (by simp) _ a
 item:=by intro X u x g p i C s σ H E I f a j;subst u x g;obtain ⟨m,l,L,q,r,y⟩:=f it (by simp);have W:=Walks.range (prog:=X.prog) (w:=X.w) (I.ok.hd p) it lo 1 n;refine W.item i s _ _ j a λ v d B J A G=>?_;obtain ⟨t,rfl⟩:=J;have F:Inv X C σ H { s with heap:=d,toks:=B }:=I.turned (λ b o c e=>G b o (by simpa using c) e) m l q r y;refine ⟨_,rfl,go_of (s:={ s with heap:=d,toks:=B }) (n:="range_iterator") A rfl rfl (by decide) ⟨.int (lo + i),H,F,⟨t,?_⟩,⟨rfl,rfl⟩,A,λ b c=>(f b c).1⟩⟩;rw [Int.mul_one]
 done:=by intro X u x g p i C s σ H E I f a j;subst u x g;obtain ⟨m,l,L,q,r,y⟩:=f it (by simp);exact wpAny_pyNext_range_end (I.ok.hd p) a (by have:n<=i:=j;omega) λ d M=>⟨rfl,I.turned (t':=s.toks) (λ b o c e=>M b o c e) m l q r y⟩
 self:=λ _ _ _ _ _ a h=>wpAny_pyIter_rangeiter a h
section
variable {X:Cx} {tg:Expr}
noncomputable def iList (K:c0) (tl:TE):TI:=λ σ H R=>tl σ H λ x H1=>∃a,x=.ref a/\(∃xs,SqL K H1 a xs)/\R (Itl K a) H1
noncomputable def iTup (K:c0) (tl:TE):TI:=λ σ H R=>tl σ H λ x H1=>∃a,x=.ref a/\(∃xs,SqT K H1 a xs)/\R (Itt K a) H1
theorem z0n {l:Expr} {tl:TE} (hl:PE X l tl):PI X tg l (iList X.K tl):=by
 intro g s σ H R I h;refine thn (hl g s σ H _ I h) λ v c ⟨x,H1,I1,r1,q1⟩=>?_;obtain ⟨a,e,⟨i,f⟩,q⟩:=q1;subst e;cases r1;obtain ⟨m,k,p,j⟩:=I1.list f;refine M6 p.isList ?_;refine ⟨c.heap.objs.size,[c.heap.objs.size],_,_,H1,rfl,I1.kept (t':=c.toks) λ b o e=>x0 _ e,zd3 a _,⟨_,I0 _ rfl,rfl,rfl⟩,λ b d=>?_,q⟩;have e:b=c.heap.objs.size:=by simpa using d
 subst e;exact I1.fpOk (A0 _) (I1.hok.fresh (A0 _))
theorem pi_tup {l:Expr} {tl:TE} (hl:PE X l tl):PI X tg l (iTup X.K tl):=by
 intro g s σ H R I h;refine thn (hl g s σ H _ I h) λ v c ⟨x,H1,I1,r1,q1⟩=>?_;obtain ⟨a,e,⟨j,f⟩,q⟩:=q1;subst e;cases r1;obtain ⟨i,m,p,k⟩:=I1.tuple f;refine E4 (show c.heap.IsTuple a i.toArray from p) ?_;refine ⟨c.heap.objs.size,[c.heap.objs.size],_,_,H1,rfl,I1.kept (t':=c.toks) λ b o e=>x0 _ e,z9p a _,⟨_,I0 _ rfl,rfl,rfl⟩,λ b d=>?_,q⟩;have e:b=c.heap.objs.size:=by simpa using d
 subst e;exact I1.fpOk (A0 _) (I1.hok.fresh (A0 _))
theorem ze9 {pins:List (Addr×Obj)} {σ:St} {H:Hp} {s:y0} {R:It->Hp->Prop} {E:Value->y0->Prop} {lo hi:Int} {t u v:Tok} {tk:Nat} (I:Inv X pins σ H s) (h1:-(2 ^ 62)<=lo) (h2:lo < 2 ^ 62) (h3:-(2 ^ 62)<=hi) (h4:hi < 2 ^ 62)
  (q:R (Itr lo (hi - lo).toNat) H):P0 (V0 X.prog X.w) X.A (pyIter (.ref s.heap.objs.size)) (PIE X pins σ tg R) E { s with heap:=s.heap.push { cls:=.type "range",data:=.fields #[.int lo t,.int hi u,.int 1 v] },toks:=tk }:=by
 refine wpAny_pyIter_range (IsRange.new ..) (small_one h1 h2 h3 h4) ?_;have a:Inv X pins σ H { s with heap:=s.heap.push { cls:=.type "range",data:=.fields #[.int lo t,.int hi u,.int 1 v] },toks:=tk }:=I.kept λ b o e=>x0 _ e;refine ⟨(s.heap.push { cls:=.type "range",data:=.fields #[.int lo t,.int hi u,.int 1 v] }).objs.size,[(s.heap.push { cls:=.type "range",data:=.fields #[.int lo t,.int hi u,.int 1 v] }).objs.size],_,_,H,rfl,
  a.kept (t':=tk) λ b o e=>x0 _ e,z9d _ lo (hi - lo).toNat,?_,λ b c=>?_,q⟩
 ·have f:lo + ((0:Nat):Int) * 1=lo:=by simp
  have d:(((hi - lo).toNat:Nat):Int) - ((0:Nat):Int)=N1 lo hi 1:=by rw [rangeSize_one];split<;>omega
  show w9 _ _ (lo + ((0:Nat):Int) * 1) ((((hi - lo).toNat:Nat):Int) - ((0:Nat):Int)) 1;rw [f,d];exact I0 _ rfl
 ·have e:b=(s.heap.push { cls:=.type "range",data:=.fields #[.int lo t,.int hi u,.int 1 v] }).objs.size:=by simpa using c
  subst e;exact a.fpOk (A0 _) (a.hok.fresh (A0 _))
noncomputable def iRng1 (ta:TA):TI:=λ σ H R=>ta σ H λ vs H1=>∃j:Int,vs=[.int j]/\-(2 ^ 62)<=j/\j < 2 ^ 62/\R (Itr 0 j.toNat) H1
theorem zce {a:Expr} {ta:TA} {p pos:Pos} (hg:Gl X "range") (hm:X.mg "range" = none) (ha:PA X [a] ta) (hs:F1 [a] X.env=[(false,P3 a X.env)]:=by rfl):PI X tg (.Call (.Name "range" p) [a] [] pos) (iRng1 ta):=by
 intro d s σ H R I h;refine Call_ (ld_blt I hg hm boot_range (O2 (thn (ha pos d s σ H _ I h) λ g f ⟨vs,H1,I1,r1,b⟩=>?_) hs rfl));obtain ⟨j,e,b,c,q⟩:=b;subst e;cases r1 with
 | cons r rr=>cases rr;obtain ⟨t,rfl⟩:=r;exact call_range_1 (ze9 I1 (by omega) (by omega) b c (by simpa using q))
noncomputable def tFor (wi:TI) (g:TG) (tb:TS):TS:=λ D σ H=>wi σ H λ J H1=>∃W:Nat->Nat->St->Hp->Prop,(∃m,W 0 m σ H1)/\∀i m σ H,W i m σ H->
 (J.stop i H/\D.nx σ H)\/(J.go i H/\∃N:St->Hp->Prop,(∀σ' H',N σ' H'->∃m',m' < m/\W (i + 1) m' σ' H')/\∀x H',J.yld i H x H'->g x σ H' λ σ2 H2=>tb { D with nx:=N,ct:=N,bk:=D.nx } σ2 H2)
noncomputable def pinsAt (fp:List Addr) (h:Heap):List (Addr×Obj):=fp.filterMap λ b=>(h.get? b).map λ o=>(b,o)
theorem z0w {fp:List Addr} {h:Heap} {b:Addr} {o:Obj} (hb:b∈fp) (e:h.get? b=some o):(b,o)∈pinsAt fp h:=List.mem_filterMap.mpr ⟨b,hb,by rw [e];rfl⟩
theorem z7h {fp:List Addr} {h:Heap} {p:Addr×Obj} (hp:p∈pinsAt fp h):p.1∈fp/\h.get? p.1=some p.2:=by
 obtain ⟨b,a,e⟩:=List.mem_filterMap.mp hp;cases q:h.get? b with
 | none=>rw [q] at e;cases e
 | some o=>rw [q] at e;have c:(b,o)=p:=W0 e;subst c;exact ⟨a,q⟩
theorem Inv.pinned {pins:List (Addr×Obj)} {σ:St} {H:Hp} {s:y0} {fp:List Addr} (I:Inv X pins σ H s) (hf :∀b∈fp,FpOk X pins H b) (ho :∀b∈fp,∃o,s.heap.get? b=some o/\∀v,o.data≠.cell v):Inv X (pins++pinsAt fp s.heap) σ H s:=
 I.pins_of λ p g=>(List.mem_append.mp g).elim (λ z=>I.pin p (M0 _ z)) λ z=>by obtain ⟨a,e⟩:=z7h z;obtain ⟨i,f,h,_⟩:=hf p.1 a;obtain ⟨o,c,d⟩:=ho p.1 a;rw [e] at c;cases c;exact ⟨e,i,f,h,d⟩
theorem Inv.unpinned {pins pl:List (Addr×Obj)} {σ:St} {H:Hp} {s:y0} (I:Inv X (pins++pl) σ H s):Inv X pins σ H s:=I.pins_of λ p a=>I.pin p (M0 _ (P4 _ a))
theorem ps_for {iter:Expr} {body:List Stmt} {wi:TI} {g:TG} {tb:TS} {pos:Pos} (hp:PassesOwn (V0 X.prog X.w) X.A X.env X.xe) (hc:X.calm=true) (hi:PI X tg iter wi) (hg:PG X tg g) (hb:PSs X body tb)
  (hs :∀x,g4 iter X.env x=C3 x:=by intro _;rfl):PS X (.For tg iter body [] pos) (tFor wi g tb):=by
 intro l s σ H D I h;refine wpAny_For (thn (hi l s σ H _ I h) λ v s1 U=>thn U λ a1 s2 h2=>?_) hs;obtain ⟨it,p,F,J,H2,e,V,T,L,G,W,⟨S,Z⟩,M⟩:=h2;subst e
 -- what stays true of the iterator's objects through the loop
 have t :∀{H':Hp},(∀b∈p,H' b=none)->∀b∈p,FpOk X l H' b:=λ hn b hb=>⟨hn b hb,(G b hb).2⟩
 refine codeAny_forLoop_any (λ n E=>∃i σ' H',Inv X l σ' H' E/\F i E.heap/\(∀b∈p,H' b=none)/\W i n σ' H') ?_ S ⟨0,σ,H2,V,L,λ b hb=>(G b hb).1,Z⟩;rintro n z ⟨i,σ3,H3,I3,st3,fr3,w3⟩;rcases M i n σ3 H3 w3 with ⟨R,K⟩|⟨go,N,hN,step⟩
 ·refine m6 hp (thn (T.done X rfl rfl rfl hc i l z σ3 H3 X.xe I3 (t fr3) st3 R) λ r s4 ⟨hr,I4⟩=>?_);subst hr;exact z9 ⟨σ3,H3,I4,K⟩
 ·refine m6 hp (thn (T.item X rfl rfl rfl hc i l z σ3 H3 X.xe I3 (t fr3) st3 go) λ r s4 ⟨u,hr,h4⟩=>?_);subst hr;refine m6 hp (thn h4 λ _ C ⟨x,H5,I5,r5,y5,st5,fr5⟩=>?_);have a0:=I5.pinned (t fr5) (T.obj _ _ st5);refine m6 hp (thn (hg _ C σ3 H5 x u _ a0 r5 (step x H5 y5)) λ _ O ⟨σ6,H6,I6,q6⟩=>?_);refine m6 hp (thn (hb _ O σ6 H6 _ I6 q6) λ f y k=>?_);have B :∀{a:St} {c:Hp},Inv X (l++pinsAt p C.heap) a c y->N a c->∃m,m < n/\∃i σ' H',Inv X l σ' H' y/\F i y.heap/\(∀b∈p,H' b=none)/\W i m σ' H':=λ {a c} j q=>by obtain ⟨m',Y,P⟩:=hN a c q;refine ⟨m',Y,i + 1,a,c,j.unpinned,T.keep _ _ _ st5 λ b hb o e=>(j.pin (b,o) (M0 _ (M0 _ (z0w hb e)))).1,λ b hb=>?_,P⟩;obtain ⟨o,e,d⟩:=T.obj _ _ st5 b hb;exact (j.pin (b,o) (M0 _ (M0 _ (z0w hb e)))).2.1
  cases f with
  | next=>obtain ⟨a,c,j,q⟩:=k;exact B j q
  | cont=>obtain ⟨a,c,j,q⟩:=k;exact B j q
  | brk=>obtain ⟨a,c,j,k⟩:=k;exact ⟨a,c,j.unpinned,k⟩
  | ret v=>obtain ⟨Q,a,c,j,r7,k⟩:=k;exact ⟨Q,a,c,j.unpinned,r7,k⟩
end
theorem z15 {K:c0} {a:Addr} {xs:List V} {g:TG} {tb:TS} {D:Ends} {σ:St} {H:Hp} (Pv:Nat->St->Hp->Prop) (h0:Pv 0 σ H) (hl :∀i σ H,i<=xs.length->Pv i σ H->SqL K H a xs)
  (hs :∀i x σ H,xs[i]? = some x->Pv i σ H->g x σ H λ σ2 H2=>tb { D with nx:=Pv (i + 1),ct:=Pv (i + 1),bk:=D.nx } σ2 H2) (hd :∀σ H,Pv xs.length σ H->D.nx σ H) :
  ∃W:Nat->Nat->St->Hp->Prop,(∃m,W 0 m σ H)/\∀i m σ H,W i m σ H->
   ((Itl K a).stop i H/\D.nx σ H)\/((Itl K a).go i H/\∃N:St->Hp->Prop,(∀σ' H',N σ' H'->∃m',m' < m/\W (i + 1) m' σ' H')/\∀x H',(Itl K a).yld i H x H'->g x σ H' λ σ2 H2=>tb { D with nx:=N,ct:=N,bk:=D.nx } σ2 H2):=by
 refine ⟨λ i m σ H=>m=xs.length - i/\i<=xs.length/\Pv i σ H,⟨xs.length,by simp,D1 _,h0⟩,?_⟩;rintro i m σ H ⟨rfl,hi,p⟩;have q:=hl i σ H hi p;by_cases hlt:i < xs.length
 ·refine .inr ⟨⟨xs,xs[i],q,by simp [hlt]⟩,Pv (i + 1),λ σ' H' b=>⟨xs.length - (i + 1),by omega,rfl,hlt,b⟩,λ x H' y=>?_⟩;obtain ⟨e,y⟩:=y;subst e;exact hs i x σ _ (y xs q) p
 ·have e:i=xs.length:=by omega
  subst e;exact .inl ⟨⟨xs,q,A0 _⟩,hd σ H p⟩
theorem zes {K:c0} {a:Addr} {xs:List V} {g:TG} {tb:TS} {D:Ends} {σ:St} {H:Hp} (Pv:Nat->St->Hp->Prop) (h0:Pv 0 σ H) (hl :∀i σ H,i<=xs.length->Pv i σ H->SqT K H a xs)
  (hs :∀i x σ H,xs[i]? = some x->Pv i σ H->g x σ H λ σ2 H2=>tb { D with nx:=Pv (i + 1),ct:=Pv (i + 1),bk:=D.nx } σ2 H2) (hd :∀σ H,Pv xs.length σ H->D.nx σ H) :
  ∃W:Nat->Nat->St->Hp->Prop,(∃m,W 0 m σ H)/\∀i m σ H,W i m σ H->
   ((Itt K a).stop i H/\D.nx σ H)\/((Itt K a).go i H/\∃N:St->Hp->Prop,(∀σ' H',N σ' H'->∃m',m' < m/\W (i + 1) m' σ' H')/\∀x H',(Itt K a).yld i H x H'->g x σ H' λ σ2 H2=>tb { D with nx:=N,ct:=N,bk:=D.nx } σ2 H2):=by
 refine ⟨λ i m σ H=>m=xs.length - i/\i<=xs.length/\Pv i σ H,⟨xs.length,by simp,D1 _,h0⟩,?_⟩;rintro i m σ H ⟨rfl,hi,p⟩;have q:=hl i σ H hi p;by_cases hlt:i < xs.length
 ·refine .inr ⟨⟨xs,xs[i],q,by simp [hlt]⟩,Pv (i + 1),λ σ' H' b=>⟨xs.length - (i + 1),by omega,rfl,hlt,b⟩,λ x H' y=>?_⟩;obtain ⟨e,y⟩:=y;subst e;exact hs i x σ _ (y xs q) p
 ·have e:i=xs.length:=by omega
  subst e;exact .inl ⟨⟨xs,q,A0 _⟩,hd σ H p⟩
theorem zc4 {lo:Int} {n:Nat} {g:TG} {tb:TS} {D:Ends} {σ:St} {H:Hp} (Pv:Nat->St->Hp->Prop) (h0:Pv 0 σ H)
  (hs :∀i σ H,i < n->Pv i σ H->g (.int (lo + i)) σ H λ σ2 H2=>tb { D with nx:=Pv (i + 1),ct:=Pv (i + 1),bk:=D.nx } σ2 H2) (hd :∀σ H,Pv n σ H->D.nx σ H) :
  ∃W:Nat->Nat->St->Hp->Prop,(∃m,W 0 m σ H)/\∀i m σ H,W i m σ H->
   ((Itr lo n).stop i H/\D.nx σ H)\/((Itr lo n).go i H/\∃N:St->Hp->Prop,(∀σ' H',N σ' H'->∃m',m' < m/\W (i + 1) m' σ' H')/\∀x H',(Itr lo n).yld i H x H'->g x σ H' λ σ2 H2=>tb { D with nx:=N,ct:=N,bk:=D.nx } σ2 H2):=by
 refine ⟨λ i m σ H=>m=n - i/\i<=n/\Pv i σ H,⟨n,by simp,D1 _,h0⟩,?_⟩;rintro i m σ H ⟨rfl,hi,p⟩;by_cases hlt:i < n
 ·refine .inr ⟨hlt,Pv (i + 1),λ σ' H' a=>⟨n - (i + 1),by omega,rfl,hlt,a⟩,λ x H' y=>?_⟩;obtain ⟨e,y⟩:=y;subst e y;exact hs i σ _ hlt p
 ·have e:i=n:=by omega
  subst e;exact .inl ⟨A0 _,hd σ H p⟩
noncomputable abbrev R2:=V->V->Hp->VK->Prop
def OpR (X:Cx) (f:Value->Value->Sem Value) (r:R2):Prop:=
 ∀(pins:List (Addr×Obj)) (s:y0) (σ:St) (H:Hp) (x y:V) (v u:Value) (Q:VK),Inv X pins σ H s->RelV x v->RelV y u->r x y H Q->
  P0 (V0 X.prog X.w) X.A (f v u) (EP X pins σ Q) X.xe s
def UnR (X:Cx) (f:Value->Sem Value) (r:V->Hp->VK->Prop):Prop:=
 ∀(pins:List (Addr×Obj)) (s:y0) (σ:St) (H:Hp) (x:V) (v:Value) (Q:VK),Inv X pins σ H s->RelV x v->r x H Q->
  P0 (V0 X.prog X.w) X.A (f v) (EP X pins σ Q) X.xe s
def CallR (X:Cx) (f:Value) (r:List V->Hp->VK->Prop):Prop:=
 ∀(pins:List (Addr×Obj)) (s:y0) (σ:St) (H:Hp) (xs:List V) (us:List Value) (Q:VK),Inv X pins σ H s->Vals xs us->r xs H Q->
  P0 (V0 X.prog X.w) X.A (call f us) (EP X pins σ Q) X.xe s
noncomputable def tOp (r:R2) (ta tb:TE):TE:=λ σ H Q=>ta σ H λ x H1=>tb σ H1 λ y H2=>r x y H2 Q
noncomputable def tUn (r:V->Hp->VK->Prop) (ta:TE):TE:=λ σ H Q=>ta σ H λ x H1=>r x H1 Q
noncomputable def rI (C:Int->Int->Prop) (g:Int->Int->V):R2:=λ x y H Q=>∃i j,x=.int i/\y=.int j/\C i j/\Q (g i j) H
noncomputable def rI0 (g:Int->Int->V):R2:=λ x y H Q=>∃i j,x=.int i/\y=.int j/\Q (g i j) H
def rU (g:Int->V):V->Hp->VK->Prop:=λ x H Q=>∃i,x=.int i/\Q (g i) H
section
variable {X:Cx} {a b c:Expr} {ta tb tc:TE} {pos:Pos}
theorem binT (ha:PE X a ta) (hb:PE X b tb) {pins:List (Addr×Obj)} {s:y0} {σ:St} {H:Hp} {R:V->V->Hp->Prop} (I:Inv X pins σ H s)
  (h:ta σ H λ x H1=>tb σ H1 λ y H2=>R x y H2) {Q:Value->y0->Prop} {f:Value->Value->Sem Value}
  (hf :∀v u s2 x y H2,Inv X pins σ H2 s2->RelV x v->RelV y u->R x y H2->P0 (V0 X.prog X.w) X.A (f v u) Q X.xe s2) :
  P0 (V0 X.prog X.w) X.A (P3 a X.env) (λ v s₁=>P0 (V0 X.prog X.w) X.A (P3 b X.env) (λ u s₂=>P0 (V0 X.prog X.w) X.A (f v u) Q X.xe s₂) X.xe s₁) X.xe s:=by
 refine thn (ha pins s σ H _ I h) λ v c ⟨x,H1,I1,r1,q1⟩=>?_;refine thn (hb pins c σ H1 _ I1 q1) λ u s2 ⟨y,H2,I2,r2,q2⟩=>?_;exact hf v u s2 x y H2 I2 r1 r2 q2
theorem pe_op {op:Operator} {r:R2} (ho:OpR X (Z4 op) r) (ha:PE X a ta) (hb:PE X b tb):PE X (.BinOp a op b pos) (tOp r ta tb):=by intro g s σ H Q I h;exact wpAny_BinOp (binT ha hb I h λ v u d x y i c e f q=>ho g d σ i x y v u Q c e f q)
theorem pe_un {op:UnaryOp} {r:V->Hp->VK->Prop} (ho:UnR X (unaryOp op) r) (ha:PE X a ta):PE X (.UnaryOp op a pos) (tUn r ta):=by intro b s σ H Q I h;exact UnaryOp_ (thn (ha b s σ H _ I h) λ v c ⟨x,H1,I1,r1,q1⟩=>ho b c σ H1 x v Q I1 r1 q1)
theorem opI {f:Value->Value->Sem Value} {C:Int->Int->Prop} {g:Int->Int->Int}
  (rule :∀(i j:Int) (t u:Tok) (s:y0) (Q:Value->y0->Prop) (E:Value->y0->Prop),C i j->Q (.int (g i j) s.toks) { s with toks:=s.toks + 1 }->P0 (V0 X.prog X.w) X.A (f (.int i t) (.int j u)) Q E s) :
  OpR X f (rI C λ i j=>.int (g i j)):=by
 intro e s σ H x y v u Q I c d h;obtain ⟨i,j,rfl,rfl,a,q⟩:=h;obtain ⟨t,rfl⟩:=c;obtain ⟨b,rfl⟩:=d;exact rule i j t b s _ _ a ⟨.int (g i j),H,I.tok _,⟨_,rfl⟩,q⟩
theorem opI0 {f:Value->Value->Sem Value} {g:Int->Int->Int}
  (rule :∀(i j:Int) (t u:Tok) (s:y0) (Q:Value->y0->Prop) (E:Value->y0->Prop),Q (.int (g i j) s.toks) { s with toks:=s.toks + 1 }->P0 (V0 X.prog X.w) X.A (f (.int i t) (.int j u)) Q E s) :
  OpR X f (rI0 λ i j=>.int (g i j)):=by
 intro d s σ H x y v u Q I b c h;obtain ⟨i,j,rfl,rfl,q⟩:=h;obtain ⟨t,rfl⟩:=b;obtain ⟨a,rfl⟩:=c;exact rule i j t a s _ _ ⟨.int (g i j),H,I.tok _,⟨_,rfl⟩,q⟩
theorem opB0 {f:Value->Value->Sem Value} {g:Int->Int->Bool}
  (rule :∀(i j:Int) (t u:Tok) (s:y0) (Q:Value->y0->Prop) (E:Value->y0->Prop),Q (.bool (g i j)) s->P0 (V0 X.prog X.w) X.A (f (.int i t) (.int j u)) Q E s) :
  OpR X f (rI0 λ i j=>.bl (g i j)):=by
 intro d s σ H x y v u Q I b c h;obtain ⟨i,j,rfl,rfl,q⟩:=h;obtain ⟨t,rfl⟩:=b;obtain ⟨a,rfl⟩:=c;exact rule i j t a s _ _ ⟨.bl (g i j),H,I,rfl,q⟩
def CPow (i j:Int):Prop:=0<=j/\j<=1000000/\i.natAbs < 2 ^ 64
def CMul (i j:Int):Prop:=(-(2 ^ 64) < i/\i < 2 ^ 64)\/(-(2 ^ 64) < j/\j < 2 ^ 64)
theorem CMul.ok {i j:Int} (h:CMul i j):IntMulOk i j:=by
 rcases h with ⟨b,a⟩|⟨b,a⟩
 ·exact .of_left (intBits_le_64 b a)
 ·exact .of_right (intBits_le_64 b a)
theorem op_add:OpR X (Z4 .Add) (rI0 λ i j=>.int (i + j)):=opI0 λ _ _ _ _ _ _ _ q=>add_int q
theorem op_sub:OpR X (Z4 .Sub) (rI0 λ i j=>.int (i - j)):=opI0 λ _ _ _ _ _ _ _ q=>sub_int q
theorem op_mul:OpR X (Z4 .Mult) (rI CMul λ i j=>.int (i * j)):=opI λ _ _ _ _ _ _ _ a q=>mul_int q a.ok
theorem op_mod:OpR X (Z4 .Mod) (rI (λ _ j=>0 < j) λ i j=>.int (i % j)):=opI λ i j _ _ _ _ _ a q=>by have b:(0:Int) < j:=a;exact mod_int' (by omega) (by rw [Int.fmod_eq_emod_of_nonneg i (by omega)];exact q)
theorem op_pow:OpR X (Z4 .Pow) (rI CPow λ i j=>.int (i ^ j.toNat)):=opI λ _ _ _ _ _ _ _ a q=>pow_int_small a.1 a.2.1 a.2.2 q
theorem unI {f:Value->Sem Value} {g:Int->Int}
  (rule :∀(i:Int) (t:Tok) (s:y0) (Q:Value->y0->Prop) (E:Value->y0->Prop),Q (.int (g i) s.toks) { s with toks:=s.toks + 1 }->P0 (V0 X.prog X.w) X.A (f (.int i t)) Q E s) :
  UnR X f (rU λ i=>.int (g i)):=by
 intro b s σ H x v Q I a h;obtain ⟨i,rfl,q⟩:=h;obtain ⟨t,rfl⟩:=a;exact rule i t s _ _ ⟨.int (g i),H,I.tok _,⟨_,rfl⟩,q⟩
theorem un_neg:UnR X (unaryOp .USub) (rU λ i=>.int (-i)):=unI λ _ _ _ _ _ q=>neg_int q
end
noncomputable def scal:V->V->Bool
 | .non,.non=>true | .non,.int _=>true | .int _,.non=>true | .non,.bl _=>true | .bl _,.non=>true | .non,.str _=>true | .str _,.non=>true
 | .int _,.int _=>true | .bl _,.bl _=>true | .str _,.str _=>true | .byt _,.byt _=>true
 | .int _,.str _=>true | .str _,.int _=>true | .bl _,.str _=>true | .str _,.bl _=>true
 | _,_=>false
noncomputable def rEq:R2:=λ x y H Q=>scal x y=true/\Q (.bl (decide (x=y))) H
noncomputable def rNe:R2:=λ x y H Q=>scal x y=true/\Q (.bl (!decide (x=y))) H
theorem zdg {i j:Int}:decide (V.int i=V.int j)=(i == j):=by rw [Bool.eq_iff_iff];simp
theorem dec_bl {i j:Bool}:decide (V.bl i=V.bl j)=(i == j):=by rw [Bool.eq_iff_iff];simp
theorem z84 {i j:Str}:decide (V.str i=V.str j)=(i == j):=by rw [Bool.eq_iff_iff];simp
theorem zdk {i j:Array UInt8}:decide (V.byt i=V.byt j)=(i.toList == j.toList):=by rw [Bool.eq_iff_iff];cases i;cases j;simp
section
variable {X:Cx} {a b c:Expr} {ta tb tc:TE} {pos:Pos}
theorem fin_bl {pins:List (Addr×Obj)} {σ:St} {H:Hp} {s:y0} {Q:VK} {k k':Bool} (I:Inv X pins σ H s) (q:Q (.bl k) H) (e:k=k'):EP X pins σ Q (.bool k') s:=by subst e;exact ⟨.bl k,H,I,rfl,q⟩
theorem op_eq:OpR X (U2 .Eq) rEq:=by
 intro e s σ H x y v u Q I d a h;obtain ⟨c,q⟩:=h;cases x with
 | non=>
  cases d;cases y with
  | non=>cases a;exact PySem.EqNone.eq_none_none (fin_bl I q (by simp))
  | bl j=>cases a;exact PySem.EqNone.eq_none_bool (fin_bl I q (by simp))
  | int j=>obtain ⟨b,rfl⟩:=a;exact PySem.EqNone.eq_none_int (fin_bl I q (by simp))
  | str j=>obtain ⟨b,rfl⟩:=a;exact PySem.EqNone.eq_none_str (fin_bl I q (by simp))
  | _=>exact absurd (show false=true from c) O0
 | bl i=>
  cases d;cases y with
  | non=>cases a;exact PySem.EqNone.eq_bool_none (fin_bl I q (by simp))
  | bl j=>cases a;exact eq_bool (fin_bl I q dec_bl)
  | str j=>obtain ⟨b,rfl⟩:=a;exact PySem.EqMixed.eq_bool_str (fin_bl I q (by simp))
  | _=>exact absurd (show false=true from c) O0
 | int i=>
  obtain ⟨t,rfl⟩:=d;cases y with
  | non=>cases a;exact PySem.EqNone.eq_int_none (fin_bl I q (by simp))
  | int j=>obtain ⟨b,rfl⟩:=a;exact eq_int (fin_bl I q zdg)
  | str j=>obtain ⟨b,rfl⟩:=a;exact PySem.EqMixed.eq_int_str (fin_bl I q (by simp))
  | _=>exact absurd (show false=true from c) O0
 | str i=>
  obtain ⟨t,rfl⟩:=d;cases y with
  | non=>cases a;exact PySem.EqNone.eq_str_none (fin_bl I q (by simp))
  | bl j=>cases a;exact PySem.EqMixed.eq_str_bool (fin_bl I q (by simp))
  | int j=>obtain ⟨b,rfl⟩:=a;exact PySem.EqMixed.eq_str_int (fin_bl I q (by simp))
  | str j=>obtain ⟨b,rfl⟩:=a;exact eq_str (fin_bl I q z84)
  | _=>exact absurd (show false=true from c) O0
 | byt i=>
  obtain ⟨t,rfl⟩:=d;cases y with
  | byt j=>obtain ⟨b,rfl⟩:=a;exact PySem.W.eq_bytes (fin_bl I q zdk)
  | _=>exact absurd (show false=true from c) O0
 | _=>cases y<;>exact absurd (show false=true from c) O0
theorem op_ne:OpR X (U2 .NotEq) rNe:=by
 intro e s σ H x y v u Q I d a h;obtain ⟨c,q⟩:=h;cases x with
 | non=>
  cases d;cases y with
  | non=>cases a;exact PySem.EqNone.ne_none_none (fin_bl I q (by simp))
  | bl j=>cases a;exact PySem.EqNone.ne_none_bool (fin_bl I q (by simp))
  | int j=>obtain ⟨b,rfl⟩:=a;exact PySem.EqNone.ne_none_int (fin_bl I q (by simp))
  | str j=>obtain ⟨b,rfl⟩:=a;exact PySem.EqNone.ne_none_str (fin_bl I q (by simp))
  | _=>exact absurd (show false=true from c) O0
 | bl i=>
  cases d;cases y with
  | non=>cases a;exact PySem.EqNone.ne_bool_none (fin_bl I q (by simp))
  | bl j=>cases a;exact ne_bool (fin_bl I q (congrArg not dec_bl))
  | str j=>obtain ⟨b,rfl⟩:=a;exact PySem.EqMixed.ne_bool_str (fin_bl I q (by simp))
  | _=>exact absurd (show false=true from c) O0
 | int i=>
  obtain ⟨t,rfl⟩:=d;cases y with
  | non=>cases a;exact PySem.EqNone.ne_int_none (fin_bl I q (by simp))
  | int j=>obtain ⟨b,rfl⟩:=a;exact ne_int (fin_bl I q (congrArg not zdg))
  | str j=>obtain ⟨b,rfl⟩:=a;exact PySem.EqMixed.ne_int_str (fin_bl I q (by simp))
  | _=>exact absurd (show false=true from c) O0
 | str i=>
  obtain ⟨t,rfl⟩:=d;cases y with
  | non=>cases a;exact PySem.EqNone.ne_str_none (fin_bl I q (by simp))
  | bl j=>cases a;exact PySem.EqMixed.ne_str_bool (fin_bl I q (by simp))
  | int j=>obtain ⟨b,rfl⟩:=a;exact PySem.EqMixed.ne_str_int (fin_bl I q (by simp))
  | str j=>obtain ⟨b,rfl⟩:=a;exact ne_str (fin_bl I q (congrArg not z84))
  | _=>exact absurd (show false=true from c) O0
 | byt i=>
  obtain ⟨t,rfl⟩:=d;cases y with
  | byt j=>obtain ⟨b,rfl⟩:=a;exact PySem.W.ne_bytes (fin_bl I q (congrArg not zdk))
  | _=>exact absurd (show false=true from c) O0
 | _=>cases y<;>exact absurd (show false=true from c) O0
theorem op_lt:OpR X (U2 .Lt) (rI0 λ i j=>.bl (decide (i < j))):=opB0 λ _ _ _ _ _ _ _ q=>lt_int q
theorem op_le:OpR X (U2 .LtE) (rI0 λ i j=>.bl (decide (i<=j))):=opB0 λ _ _ _ _ _ _ _ q=>le_int q
theorem op_gt:OpR X (U2 .Gt) (rI0 λ i j=>.bl (decide (j < i))):=opB0 λ _ _ _ _ _ _ _ q=>gt_int q
theorem zbw:OpR X (U2 .In) (λ x y H Q=>∃i j,x=.str i/\y=.str j/\Q (.bl (!(g6 j i 0 j.length 1).isEmpty)) H):=by intro d s σ H x y v u Q I a b h;obtain ⟨i,j,rfl,rfl,q⟩:=h;obtain ⟨t,rfl⟩:=a;obtain ⟨c,rfl⟩:=b;exact in_str (fin_bl I q rfl)
theorem op_isN:OpR X (U2 .Is) (λ x y H Q=>y=.non/\Q (.bl (decide (x=.non))) H):=by
 intro c s σ H x y v u Q I a b h;obtain ⟨rfl,q⟩:=h;cases b;refine is_none_gen (fin_bl I q ?_);cases x<;>first
  | (cases a;rfl)
  | (obtain ⟨t,rfl⟩:=a;rfl)
theorem z3j:OpR X (U2 .IsNot) (λ x y H Q=>y=.non/\Q (.bl (!decide (x=.non))) H):=by
 intro c s σ H x y v u Q I a b h;obtain ⟨rfl,q⟩:=h;cases b;refine isnot_none_gen (fin_bl I q ?_);cases x<;>first
  | (cases a;rfl)
  | (obtain ⟨t,rfl⟩:=a;rfl)
theorem OpR.or {f:Value->Value->Sem Value} {r r':R2} (h:OpR X f r) (h':OpR X f r'):OpR X f (λ x y H Q=>r x y H Q\/r' x y H Q):=by
 intro c s σ H x y v u Q I a b q;rcases q with q|q
 ·exact h c s σ H x y v u Q I a b q
 ·exact h' c s σ H x y v u Q I a b q
theorem nomark (b:Expr) {op:CmpOp} (h:op≠.In:=by decide) (h2:op≠.NotIn:=by decide):V6 op b=false:=by
 have c:(op == CmpOp.In)=false:=by cases op<;>first|rfl|exact absurd rfl h
 have a:(op == CmpOp.NotIn)=false:=by cases op<;>first|rfl|exact absurd rfl h2
 cases b<;>simp [V6,c,a]
theorem z1k {op:CmpOp} {r:R2} (ho:OpR X (U2 op) r) (ha:PE X a ta) (hb:PE X b tb) (hm:V6 op b=false):PE X (.Compare a [op] [b] pos) (tOp r ta tb):=by intro g s σ H Q I h;exact wpAny_Compare1 (binT ha hb I h λ v u d x y i c e f q=>ho g d σ i x y v u Q c e f q) hm
noncomputable def tTest (t:TE):TT:=λ σ H Q=>t σ H λ x H'=>∃k,x=.bl k/\Q k H'
theorem z08 {op:CmpOp} {r:R2} (ho:OpR X (U2 op) r) (ha:PE X a ta) (hb:PE X b tb) (hm:V6 op b=false):PT X (.Compare a [op] [b] pos) (tTest (tOp r ta tb)):=by
 intro d s σ H Q I h;refine wpAny_isTrue_Compare1 (thn (ha d s σ H _ I h) λ v f ⟨x,H1,I1,r1,q1⟩=>thn (hb d f σ H1 _ I1 q1) λ u g ⟨y,H2,I2,r2,q2⟩=>thn (ho d g σ H2 x y v u _ I2 r1 r2 q2) λ c i ⟨z,H3,I3,r3,k,e,q3⟩=>?_) hm;subst e;cases r3;exact g3 ⟨H3,I3,q3⟩
noncomputable def tChain (r r':R2) (ta tb tc:TE):TE:=λ σ H Q=>ta σ H λ x H1=>tb σ H1 λ y H2=>r x y H2 λ z H3=>∃k,z=.bl k/\
 (if k=true then tc σ H3 λ w' H4=>r' y w' H4 Q else Q (.bl false) H3)
theorem z6f {op op':CmpOp} {r r':R2} (ho:OpR X (U2 op) r) (ho':OpR X (U2 op') r') (ha:PE X a ta) (hb:PE X b tb) (hc:PE X c tc)
  (hm:lastMarks [op,op'] [b,c]=false:=by with_unfolding_all rfl):PE X (.Compare a [op,op'] [b,c] pos) (tChain r r' ta tb tc):=by
 intro f s σ H Q I h;refine Compare_chain (thn (ha f s σ H _ I h) λ v i ⟨x,H1,I1,r1,q1⟩=>chain_link (thn (hb f i σ H1 _ I1 q1) λ u l ⟨y,H2,I2,r2,q2⟩=>thn (ho f l σ H2 x y v u _ I2 r1 r2 q2) λ d j ⟨z,H3,I3,r3,k,e,q3⟩=>?_)) hm;subst e;cases r3;refine g3 ?_;cases k with
 | false=>exact ite_ff ⟨.bl false,H3,I3,rfl,q3⟩
 | true=>exact ite_tt (chain_last (thn (hc f j σ H3 _ I3 q3) λ g m ⟨z',H4,I4,r4,q4⟩=>ho' f m σ H4 y z' u g Q I4 r2 r4 q4))
theorem zdn {op op':CmpOp} {r r':R2} (ho:OpR X (U2 op) r) (ho':OpR X (U2 op') r') (ha:PE X a ta) (hb:PE X b tb) (hc:PE X c tc)
  (hm:lastMarks [op,op'] [b,c]=false:=by with_unfolding_all rfl):PT X (.Compare a [op,op'] [b,c] pos) (tTest (tChain r r' ta tb tc)):=by
 intro f s σ H Q I h;refine isTrue_chain (thn (ha f s σ H _ I h) λ v m ⟨x,H1,I1,r1,q1⟩=>test_link (thn (hb f m σ H1 _ I1 q1) λ u n ⟨y,H2,I2,r2,q2⟩=>thn (ho f n σ H2 x y v u _ I2 r1 r2 q2) λ d i ⟨z,H3,I3,r3,k,e,q3⟩=>?_)) hm;subst e;cases r3;refine g3 ?_;cases k with
 | false=>obtain ⟨p,j,g⟩:=q3;cases j;exact ite_ff ⟨H3,I3,g⟩
 | true=>refine ite_tt (test_last (thn (hc f i σ H3 _ I3 q3) λ l o ⟨z',H4,I4,r4,q4⟩=>thn (ho' f o σ H4 y z' u l _ I4 r2 r4 q4) λ t q ⟨z2,H5,I5,r5,k2,e2,q5⟩=>?_));subst e2;cases r5;exact g3 ⟨H5,I5,q5⟩
theorem line63:(sizeLine:Nat) < 2 ^ 63:=by rw [K5];decide
theorem op_add_str:OpR X (Z4 .Add) (λ x y H Q=>∃i j,x=.str i/\y=.str j/\i.length + j.length<=sizeLine/\Q (.str (i++j)) H):=by intro f s σ H x y v u Q I b d h;obtain ⟨i,j,rfl,rfl,c,q⟩:=h;obtain ⟨t,rfl⟩:=b;obtain ⟨a,rfl⟩:=d;exact add_str (λ a e=>⟨.str (i++j),H,I.tok _,⟨_,rfl⟩,q⟩) c
theorem vals1 {x:V} {us:List Value} (r:Vals [x] us) :∃u,us=[u]/\RelV x u:=by
 cases r with
 | cons r1 r2=>cases r2;exact ⟨_,rfl,r1⟩
theorem vals2 {x y:V} {us:List Value} (r:Vals [x,y] us) :∃u w',us=[u,w']/\RelV x u/\RelV y w':=by
 cases r with
 | cons r1 r2=>
  cases r2 with
  | cons r3 r4=>cases r4;exact ⟨_,_,rfl,r1,r3⟩
end
structure ObjM (h:Heap) (x dx C:Addr) (mA:Str->Option Value):Prop where
 obj:h.get? x=some (k8 C dx)
 ns:h.Ns1 dx mA
 ne:dx≠x
theorem zby {h:Heap} {dx:Addr} {mA:Str->Option Value} (n:h.Ns1 dx mA) :∃od,h.get? dx=some od/\∀name,E8 name od=some (mA name):=by
 obtain ⟨o,b,k,c,hd,j,_,g⟩:=n;refine ⟨o,c,λ name=>?_⟩;have e:=g name;unfold nsFind findBy at e;rw [<-Array.find?_toList] at e;unfold E8;rw [hd];dsimp only;split
 ·rename_i y q;rw [q] at e;exact congrArg some e
 ·rename_i q;rw [q] at e;have a:b.toList.any (·.refKey)=false:=by rw [List.any_eq_false];intro y f;obtain ⟨z,t,d⟩:=j y (Array.mem_toList_iff.mp f);simp [DictEntry.refKey,d]
  have i:¬ b.toList.any (·.refKey)=true:=by rw [a];exact O0
  rw [if_neg i];exact congrArg some e
theorem ObjM.look {h:Heap} {x dx C:Addr} {mA:Str->Option Value} (I:ObjM h x dx C mA) :∃od,PySem.W.InstAt h x (k8 C dx) C (some od)/\∀name,E8 name od=some (mA name):=
 let ⟨od,ho,hl⟩:=zby I.ns
 ⟨od,⟨I.obj,rfl,rfl,ho⟩,hl⟩
theorem RelO.some_of {v:V} {o:Option Value} (r:RelO (some v) o) :∃u,o=some u/\RelV v u:=by
 cases o with
 | none=>exact (show False from r).elim
 | some u=>exact ⟨u,rfl,r⟩
section
variable {P:Program} {w:N0} {H H':Hp} {h h':Heap} {a C dx:Addr} {fs fs':List (Str×V)}
theorem zez (hok:HOk P w H h) (e:H a=some (.ins C dx fs)) :∃mA,ObjM h a dx C mA/\(∀f,RelO (fs.lookup f) (mA f))/\PySem.Within mA (fs.map (·.1))/\fs.length<=1000/\H dx=some (.own a):=by
 obtain ⟨d,z,c,b,mA,n,r,q⟩:=(show ObjOk P w H h a (.ins C dx fs) from hok a _ e)
 exact ⟨mA,⟨b,n,c⟩,r,q,z,d⟩
end
structure Cls (K:c0) (C:Addr):Prop where
 pg:PySem.W.plainGet K C Str.empty=true
 hd:PySem.W.hasDictIn K C=true
 po:PySem.W.plainOver K C=true
 sa:W5 K (.ref C) "__setattr__" = some (some (.builtin "object.__setattr__"))
theorem Cls.get {K:c0} {C:Addr} (c:Cls K C) (f:Str):PySem.W.plainGet K C f=true:=c.pg
structure Con (K:c0) (C:Addr) (f:Str) (v:V) (u:Value):Prop where
 at_:W5 K (.ref C) f=some (some u)
 rel:RelV v u
 get:W9 K u "__get__" = some none
 cp:PySem.W.copiedNames.contains f=false
structure Meth (K:c0) (C:Addr) (m:Str) (f:Addr):Prop where
 at_:W5 K (.ref C) m=some (some (.ref f))
 fn:PySem.W.isFn K (.ref f)=true
 kp:Y3 K (.ref f)=true
section
variable {X:Cx} {pins:List (Addr×Obj)} {σ:St} {H:Hp} {s:y0} {A:B2} {E:Value->y0->Prop} {Q:Value->y0->Prop} {c:Value} {b:Bool}
inductive TyOf (K:c0) (H:Hp):V->Value->Prop where
 | non:TyOf K H .non (.type "NoneType")
 | bl (x:Bool):TyOf K H (.bl x) (.type "bool")
 | int (i:Int):TyOf K H (.int i) (.type "int")
 | str (x:Str):TyOf K H (.str x) (.type "str")
 | flt (x:UInt64):TyOf K H (.flt x) (.type "float")
 | lst {a:Addr} {xs:List V} (e:H a=some (.lst xs)):TyOf K H (.ref a) (.type "list")
 | frz {a:Addr} {o:Obj} {xs:List V} (e:H a=some (.frz o (.lst xs))):TyOf K H (.ref a) (.type "list")
 | tup {a:Addr} {xs:List V} (e:H a=some (.tup xs)):TyOf K H (.ref a) (.type "tuple")
 | dK {a:Addr} {kvs:List (Key×V)} (e:H a=some (.dK kvs)):TyOf K H (.ref a) (.type "dict")
 | dT {a:Addr} {kvs:List (List Key×V)} (e:H a=some (.dT kvs)):TyOf K H (.ref a) (.type "dict")
 | ins {a C dx:Addr} {fs:List (Str×V)} (e:H a=some (.ins C dx fs)) (cl:Cls K C) (ha:W5 K (.ref C) "__class__" = some (some (.builtin "object.__class__")))
   (hn:W9 K (.builtin "object.__class__") "__get__" = some (some (.builtin "getset_descriptor.__get__"))) (htk:PySem.W.takesIn K (.builtin "object.__class__")=some true)
   (hm:PySem.W.mroIn K C (.type "object")=some true):TyOf K H (.ref a) (.ref C)
theorem zc5 {x:V} {u t:Value} (I:Inv X pins σ H s) (rx:RelV x u) (ty:TyOf X.K H x t) (e:PySem.W.kitOne X.K t c=some b) (h :∀tk,Q (.bool b) { s with toks:=tk }) :
  P0 (V0 X.prog X.w) A (call (.builtin "isinstance") [u,c]) Q E s:=by
 cases ty with
 | non=>cases (show u=c5 from rx);exact Y2 PySem.W.kitx_none I.kIn True.intro e (λ z=>nomatch z) h
 | bl y=>cases (show u=T8 y from rx);exact Y2 PySem.W.kitx_bool I.kIn True.intro e (λ z=>nomatch z) h
 | int i=>obtain ⟨t,q⟩:=(show∃t,u=Y5 i t from rx);cases q;exact Y2 PySem.W.kitx_int I.kIn True.intro e (λ z=>nomatch z) h
 | str y=>obtain ⟨t,q⟩:=(show∃t,u=i8 y t from rx);cases q;exact Y2 PySem.W.kitx_str I.kIn True.intro e (λ z=>nomatch z) h
 | flt y=>obtain ⟨t,q⟩:=(show∃t,u=Value.float y t from rx);cases q;exact Y2 PySem.W.kitx_float I.kIn True.intro e (λ z=>nomatch z) h
 | @lst a f ea=>
  cases (show u=E1 a from rx);obtain ⟨_,_,n,_,d⟩:=(show ObjOk X.prog X.w H s.heap a (.lst f) from I.hok a _ ea)
  exact Y2 X9 I.kIn ⟨_,d,rfl⟩ e (λ z=>nomatch z) h
 | @frz a ob f ea=>
  cases (show u=E1 a from rx);obtain ⟨_,_,_,n,_,d⟩:=(show ObjOk X.prog X.w H s.heap a (.frz ob (.lst f)) from I.hok a _ ea)
  exact Y2 X9 I.kIn ⟨_,d,rfl⟩ e (λ z=>nomatch z) h
 | @tup a f ea=>
  cases (show u=E1 a from rx);obtain ⟨_,_,_,p,_⟩:=(show ObjOk X.prog X.w H s.heap a (.tup f) from I.hok a _ ea)
  obtain ⟨o,d,g,_⟩:=p;exact Y2 PySem.W.kitx_tuple I.kIn ⟨o,d,g⟩ e (λ z=>nomatch z) h
 | @dK a kvs ea=>
  cases (show u=E1 a from rx);obtain ⟨_,_,m,_,p⟩:=(show ObjOk X.prog X.w H s.heap a (.dK kvs) from I.hok a _ ea)
  obtain ⟨o,j,k,d,g,_⟩:=p;exact Y2 Y9 I.kIn ⟨o,d,g.1⟩ e (λ z=>nomatch z) h
 | @dT a kvs ea=>
  cases (show u=E1 a from rx);obtain ⟨_,_,f,_,o,j,k,d,g,_⟩:=(show ObjOk X.prog X.w H s.heap a (.dT kvs) from I.hok a _ ea)
  exact Y2 Y9 I.kIn ⟨o,d,g.1⟩ e (λ z=>nomatch z) h
 | @ins a C dx fs ea cl ha hn htk hm=>cases (show u=E1 a from rx);obtain ⟨l,O,_⟩:=zez I.hok ea;obtain ⟨r,J,_⟩:=O.look;exact Y2 (PySem.W.kitx_own (cl.get _) cl.hd ha hn htk hm) I.kIn J e (λ z=>nomatch z) h
end
structure Room (k:Nat) (A:B2):Prop where
 hd:A.handled=none
 dp:A.depth + 3 * k + 5 < recursionLimit
 un:A.units + 16 * k + 200 < cLine
 gd:A.guards=some []
theorem Room.mono {j k:Nat} {A:B2} (r:Room k A) (h:j<=k):Room j A:=⟨r.hd,by have:=r.dp;omega,by have:=r.un;omega,r.gd⟩
theorem Room.deeper {k:Nat} {A:B2} (r:Room (k + 1) A) (env:Env):Room k (A.deeper env):=
 ⟨r.hd,by have:=r.dp;show A.depth + 1 + 3 * k + 5 < _;omega,by have:=r.un;show A.units + 3 + 16 * k + 200 < _;omega,r.gd⟩
theorem Room.in1 {k:Nat} {A:B2} (r:Room (k + 1) A):Room k A.in1:=
 ⟨r.hd,by have:=r.dp;show A.depth + 3 * k + 5 < _;omega,by have:=r.un;show A.units + 1 + 16 * k + 200 < _;omega,r.gd⟩
theorem Room.depth {k:Nat} {A:B2} (r:Room k A):A.depth < recursionLimit:=by have:=r.dp;omega
theorem Room.units {k:Nat} {A:B2} (r:Room k A):A.units + 64 < cLine:=by have:=r.un;omega
noncomputable def tNil:TA:=λ _ H Q=>Q [] H
noncomputable def tCons (ta:TE) (tr:TA):TA:=λ σ H Q=>ta σ H λ x H1=>tr σ H1 λ xs H2=>Q (x :: xs) H2
section
variable {X:Cx} {e:Expr} {es:List Expr} {te:TE} {t:TA} {pos:Pos}
theorem pa_nil:PA X [] tNil:=λ _ _ _ _ H Q I h=>W3 ⟨[],H,I,.nil,h⟩
theorem z00 (ha:PE X e te) (hr:PA X es t) (hs:F1 (e :: es) X.env=(false,P3 e X.env) :: F1 es X.env:=by rfl):PA X (e :: es) (tCons te t):=by intro a b s σ H Q I h;rw [hs];show P0 _ _ (B9 ((false,P3 e X.env) :: j5 a (F1 es X.env))) _ _ s;refine E3 (thn (ha b s σ H _ I h) λ u c ⟨x,H1,I1,r1,q1⟩=>?_);exact thn (hr a b c σ H1 _ I1 q1) λ f d ⟨xs,H2,I2,r2,q2⟩=>⟨x :: xs,H2,I2,.cons r1 r2,q2⟩
noncomputable def tTup (t:TA):TE:=λ σ H Q=>t σ H λ xs H1=>xs.length<=sizeLine/\∀p,H1 p=none->Q (.ref p) (upd H1 p (.tup xs))
noncomputable def tLst (t:TA):TE:=λ σ H Q=>t σ H λ xs H1=>xs.length<=sizeLine/\∀p,H1 p=none->Q (.ref p) (upd H1 p (.lst xs))
theorem pe_tup {x1} (h:PA X es t):PE X (.Tuple es x1 pos) (tTup t):=by intro f s σ H Q I d;refine wpAny_Tuple_spliced (thn (h pos f s σ H _ I d) λ g a ⟨xs,H1,I1,r,z,q⟩=>⟨by rw [<-r.length];exact z,?_⟩);have c:H1 a.heap.objs.size=none:=I1.hok.fresh (A0 _);refine ⟨.ref a.heap.objs.size,upd H1 a.heap.objs.size (.tup xs),I1.laid (t':=a.toks) (λ b u e=>x0 _ e) (A0 _) ?_,rfl,q _ c⟩;exact ⟨z,g,r,IsTupN.new _ _⟩
theorem pe_lst (h:PA X es t):PE X (.List es pos) (tLst t):=by intro f s σ H Q I d;refine wpAny_List_spliced (thn (h pos f s σ H _ I d) λ g a ⟨xs,H1,I1,r,z,q⟩=>⟨by rw [<-r.length];exact z,?_⟩);have c:H1 a.heap.objs.size=none:=I1.hok.fresh (A0 _);refine ⟨.ref a.heap.objs.size,upd H1 a.heap.objs.size (.lst xs),I1.laid (t':=a.toks) (λ b u e=>x0 _ e) (A0 _) ?_,rfl,q _ c⟩;exact ⟨z,g,0,r,I0 _ rfl⟩
end
noncomputable abbrev Sp:=List V->Hp->VK->XK->Prop
noncomputable abbrev CXT:=List Env->Hp->y0->XK->Value->y0->Prop
structure Env0 (P:Program) (w:N0) (K:c0) (mg:Str->Option Value) (base:Heap) (A:B2) (outer:List Env) (s:y0) (H:Hp):Prop where
 frames:A.frames=some outer
 mod:Mod K mg base
 bs :∀b o,base.get? b=some o->s.heap.get? b=some o/\H b=none
 bsz:base.objs.size<=s.heap.objs.size
 funs:s.heap.FunFrames base outer
 frf :∀b∈frs outer,H b=none
 hok:HOk P w H s.heap
 bare:U6 s.gens
def CE (outer:List Env) (P:Program) (w:N0) (H:Hp) (s:y0) (Q:VK) (u:Value) (s':y0):Prop:=
 ∃v H',s'.os=s.os/\U6 s'.gens/\Un (frs outer) [] H H' s.heap s'.heap/\HOk P w H' s'.heap/\RelV v u/\Q v H'
def CR (CX:CXT) (outer:List Env) (P:Program) (w:N0) (H:Hp) (s:y0) (Q:VK) (E:XK) (r:Result) (s':y0):Prop:=
 match r with
 | .ok (.ret u)=>CE outer P w H s Q u s'
 | .ok _=>False
 | .error e=>CX outer H s E e s'
structure FnOk (P:Program) (w:N0) (K:c0) (mg:Str->Option Value) (base:Heap) (CX:CXT) (k:Nat) (f:Addr) (fd:FuncData) (ps:List Str) (sp:Sp):Prop where
 len :∀vs H Q E,sp vs H Q E->vs.length=ps.length
 run :∀(A:B2) (outer:List Env) (s:y0) (H:Hp) (args:Args) (us:List Value) (vs:List V) (Q:VK) (E:XK),Room k A->Env0 P w K mg base A outer s H->BindsTo s fd args (ps.zip us)->Vals vs us->sp vs H Q E->
  v5 (V0 P w) A (.call (.ref f) args) (CR CX outer P w H s Q E) s
theorem Env0.in1 {P:Program} {w:N0} {K:c0} {mg:Str->Option Value} {base:Heap} {A:B2} {outer:List Env} {s:y0} {H:Hp} (e:Env0 P w K mg base A outer s H) :
  Env0 P w K mg base A.in1 outer s H:=⟨e.frames,e.mod,e.bs,e.bsz,e.funs,e.frf,e.hok,e.bare⟩
section
variable {X:Cx} {pins:List (Addr×Obj)} {σ:St} {H:Hp} {s s':y0}
theorem Inv.env0 (I:Inv X pins σ H s):Env0 X.prog X.w X.K X.mg X.base X.A X.stack s H:=
 ⟨I.ok.frames,I.ok.mod,I.bs,J0 I.ok.bsz I.sz,I.stack,I.stkFree,I.hok,I.bare⟩
theorem Inv.after {Q:VK} {u:Value} (I:Inv X pins σ H s) (h:CE X.stack X.prog X.w H s Q u s'):EP X pins σ Q u s':=by obtain ⟨v,f,c,j,un,e,r,q⟩:=h;obtain ⟨a,g,d,t,i⟩:=s';obtain rfl:i=s.os:=c;exact ⟨v,f,I.call (h':=a) (g':=g) (d':=d) (t':=t) (ch:=[]) un e j (λ b z=>absurd z (by simp)),r,q⟩
end
noncomputable def tCall (sp:Sp) (dvs:List V) (E:XK) (t:TA):TE:=λ σ H Q=>t σ H λ vs H1=>sp (vs++dvs) H1 Q E
def Binds (K:c0) (fd:FuncData) (ps:List Str) (ds:List Value):Prop:=
 ∀(s:y0) (us:List Value),K.In s.heap->(us++ds).length=ps.length->BindsTo s fd ⟨us,[]⟩ (ps.zip (us++ds))
theorem Binds.all {K:c0} {fd:FuncData} {ps:List Str} (h :∀us:List Value,us.length=ps.length->bindArgs fd ⟨us,[]⟩=C3 (ps.zip us)):Binds K fd ps []:=λ s us _ a=>by rw [i3] at a⊢;exact .of_eq (h us a)
def Passes (CX:CXT) (X:Cx) (E:XK):Prop:=∀(pins:List (Addr×Obj)) (σ:St) (H:Hp) (s:y0) (e:Value) (s':y0),Inv X pins σ H s->CX X.stack H s E e s'->X.xe e s'
section
variable {X:Cx} {CX:CXT} {k:Nat} {f C:Addr} {fd:FuncData} {ps:List Str} {sp:Sp} {dvs:List V} {ds:List Value} {E:XK} {x m:Str} {p pos apos:Pos} {e o:Expr} {es:List Expr} {ta:TE} {t:TA}
theorem run_fn {pins:List (Addr×Obj)} {σ:St} {H:Hp} {s:y0} {Q:VK} {us:List Value} {vs:List V} (F:FnOk X.prog X.w X.K X.mg X.base CX k f fd ps sp) (hr:Room k X.A) (hb:Binds X.K fd ps ds) (hd:Vals dvs ds) (hx:Passes CX X E)
  (I:Inv X pins σ H s) (r:Vals vs us) (h:sp (vs++dvs) H Q E):P0 (V0 X.prog X.w) X.A (call (.ref f) us) (EP X pins σ Q) X.xe s:=by
 have b:Vals (vs++dvs) (us++ds):=r.append hd;have c:(us++ds).length=ps.length:=by rw [<-b.length];exact F.len _ _ _ _ h
 refine M9 (a5 (F.run X.A X.stack s H ⟨us,[]⟩ (us++ds) (vs++dvs) Q E hr I.env0 (hb s us I.kIn c) b h) λ r d a=>?_);cases r with
 | error e=>exact hx pins σ H s e d I a
 | ok fl=>
  cases fl with
  | ret u=>exact I.after a
  | next=>exact N4 a
  | brk=>exact N4 a
  | cont=>exact N4 a
theorem zfw (F:FnOk X.prog X.w X.K X.mg X.base CX k f fd ps sp) (hr:Room k X.A) (hg:Gl X x) (hm:X.mg x=some (.ref f)) (hk:Y3 X.K (.ref f)=true) (hb:Binds X.K fd ps ds) (hd:Vals dvs ds) (hx:Passes CX X E)
  (ha:PA X (e :: es) t) (hdb:(x == ("__debug__" : Str))=false:=by decide) (he:F1 (e :: es) X.env=(false,P3 e X.env) :: F1 es X.env:=by rfl) (hpl:(j5 pos (F1 es X.env)).any (·.1)=false:=by rfl) :
  PE X (.Call (.Name x p) (e :: es) [] pos) (tCall sp dvs E t):=by
 intro a s σ H Q I h;refine O3 (zdi I hg hm ?_ hdb);refine PySem.W.callWith_K (h₀:=X.base) I.ok.mod.kin hk (thn (ha pos a s σ H _ I h) λ c b ⟨vs,H1,I1,r,q⟩=>⟨I1.kIn,?_⟩) he hpl;exact run_fn F hr hb hd hx I1 r q
structure Mk (K:c0) (C f:Addr):Prop where
 makes:PySem.W.makesIn K C=true
 init:W5 K (.ref C) "__init__" = some (some (.ref f))
 fn:PySem.W.isFn K (.ref f)=true
 kp:Y3 K (.ref C)=true
end
section
variable {X:Cx} {CX:CXT} {k:Nat} {f C:Addr} {fd:FuncData} {ps ks:List Str} {sp:Sp} {E:XK} {x m:Str} {p pos apos kpos:Pos} {e o:Expr} {es:List Expr} {kws:List N7} {te ta:TE} {t tk:TA} {nm:Option Str}
structure KBinds (K:c0) (fd:FuncData) (ps ks:List Str) (g:List Value->List Value->List Value) (gV:List V->List V->List V):Prop where
 to :∀(s:y0) (us ws:List Value),K.In s.heap->(g us ws).length=ps.length->BindsTo s fd ⟨us,ks.zip ws⟩ (ps.zip (g us ws))
 rel :∀{vs:List V} {us:List Value} {zs:List V} {ws:List Value},Vals vs us->Vals zs ws->Vals (gV vs zs) (g us ws)
variable {g:List Value->List Value->List Value} {gV:List V->List V->List V}
end
structure FnScope (N P:List Str) (sc:Scope):Prop where
 kind:sc.kind=.function
 co:sc.isCoroutine=false
 gen:sc.isGenerator=false
 nd:N.Nodup
 pre:N.take P.length=P
 par :∀x∈P,sc.names.lookup x=some .local\/sc.names.lookup x=some .cell
 nofree :∀y∈sc.names,y.2≠.free
theorem z7m {kindOf:Str->Option Q5} {x:Str} :∀{binds:List (Str×Value)} {m:Str->Option Value},(∀v,(x,v)∉binds)->bindL kindOf binds m x=m x
 | [],_,_=>rfl
 | (n,v) :: r,m,h=>by
  unfold bindL;rw [z7m λ w a=>h w (G2 _ a)];split
  ·have:x≠n:=by rintro rfl;exact h v W1
   simp [this]
  ·rfl
theorem z7r {kindOf:Str->Option Q5} {x:Str} :∀{binds:List (Str×Value)} {m:Str->Option Value},(∀v,(x,v)∉binds)->bindC kindOf binds m x=m x
 | [],_,_=>rfl
 | (n,v) :: r,m,h=>by
  unfold bindC;rw [z7r λ w a=>h w (G2 _ a)];split
  ·rfl
  ·have:x≠n:=by rintro rfl;exact h v W1
   simp [this]
theorem z7u {kindOf:Str->Option Q5} {x:Str} {v:Value} :∀{P:List Str} {vs:List Value} {i:Nat} {m:Str->Option Value},P.Nodup->P[i]? = some x->vs[i]? = some v->kindOf x=some .local->
  bindL kindOf (P.zip vs) m x=some v
 | [],_,_,_,_,h,_,_=>by simp at h
 | _ :: _,[],_,_,_,_,h,_=>by simp at h
 | p :: P,w :: vs,0,m,nd,h1,h2,hk=>by simp at h1 h2;subst h1;subst h2;show bindL kindOf ((p,w) :: P.zip vs) m p=_;unfold bindL;rw [z7m λ v a=>(List.nodup_cons.mp nd).1 (U5 a).1,if_pos hk];simp
 | p :: P,w :: vs,i + 1,m,nd,h1,h2,hk=>by show bindL kindOf ((p,w) :: P.zip vs) m x=_;unfold bindL;exact z7u (i:=i) (List.nodup_cons.mp nd).2 (by simpa using h1) (by simpa using h2) hk
theorem z7c {kindOf:Str->Option Q5} {x:Str} {v:Value} :∀{P:List Str} {vs:List Value} {i:Nat} {m:Str->Option Value},P.Nodup->P[i]? = some x->vs[i]? = some v->kindOf x≠some .local->
  bindC kindOf (P.zip vs) m x=some v
 | [],_,_,_,_,h,_,_=>by simp at h
 | _ :: _,[],_,_,_,_,h,_=>by simp at h
 | p :: P,w :: vs,0,m,nd,h1,h2,hk=>by simp at h1 h2;subst h1;subst h2;show bindC kindOf ((p,w) :: P.zip vs) m p=_;unfold bindC;rw [z7r λ v a=>(List.nodup_cons.mp nd).1 (U5 a).1,if_neg hk];simp
 | p :: P,w :: vs,i + 1,m,nd,h1,h2,hk=>by show bindC kindOf ((p,w) :: P.zip vs) m x=_;unfold bindC;exact z7c (i:=i) (List.nodup_cons.mp nd).2 (by simpa using h1) (by simpa using h2) hk
noncomputable def start (N:List Str) (vs:List V):St:=vs.map some++V2 (N.length - vs.length) none
noncomputable def cxOf (CX:CXT) (P:Program) (w:N0) (K:c0) (mg:Str->Option Value) (base:Heap) (N:List Str) (qual:Str) (scope:Scope) (f:Addr) (cd:Value) (A:B2) (outer:List Env) (s:y0) (H:Hp) (E:XK):Cx where
 prog:=P
 w:=w
 K:=K
 mg:=mg
 base:=base
 A:=A.deeper (Y7 qual scope s.heap.objs.size f cd)
 N:=N
 s₀:=s
 H₀:=H
 env:=Y7 qual scope s.heap.objs.size f cd
 outer:=outer
 stack:=Y7 qual scope s.heap.objs.size f cd :: outer
 ex:=[]
 calm:=true
 fn:=λ _=>true
 pn:=[]
 xe:=λ e s'=>P0 (V0 P w) (A.deeper (Y7 qual scope s.heap.objs.size f cd)) («leaving» (Y7 qual scope s.heap.objs.size f cd) e) (λ _ s''=>CX outer H s E e s'') (λ e' s''=>CX outer H s E e' s'') s'
theorem zaq {sc:Scope} {n:Nat} {x:Str} (h:sc.names.lookup x=some .cell) :∃c,(cellsFrom n sc.names []).lookup x=some c:=by have q:=F6 sc.names n [] (.inl h);exact Option.isSome_iff_exists.mp q
theorem z7s {CX:CXT} {P:Program} {w:N0} {K:c0} {mg:Str->Option Value} {base:Heap} {N ps:List Str} {qual:Str} {scope:Scope} {f:Addr} {cd:Value} {A:B2} {outer:List Env} {s s1:y0} {H:Hp} {E:XK} {us:List Value} {vs:List V}
  (S:FnScope N ps scope) (hd:A.handled=none) (e0:Env0 P w K mg base A outer s H) (hl:vs.length=ps.length) (r:Vals vs us)
  (x:InCallC s s.heap.objs.size (bindL (Y7 qual scope s.heap.objs.size f cd).kindOf (ps.zip us) λ _=>none) (cellsFrom (s.heap.objs.size + 1) scope.names []) (bindC (Y7 qual scope s.heap.objs.size f cd).kindOf (ps.zip us) λ _=>none) s1) :
  Inv (cxOf CX P w K mg base N qual scope f cd A outer s H E) [] (start N vs) H s1:=by
 have I:ps.length<=N.length:=by have:=congrArg List.length S.pre;rw [K3] at this;omega
 obtain ⟨l,G,rfl,B⟩:=x.done;have o :∀b:Addr,b∉(cxOf CX P w K mg base N qual scope f cd A outer s H E).ex:=λ b z=>absurd (show b∈([]:List Addr) from z) (by simp);refine ⟨⟨e0.mod,S.kind,rfl,rfl,A0 _,λ y z c l d=>?_,λ y g=>?_,λ y c _ h=>?_,λ _=>hd,Around.frames_deeper e0.frames,.inr ⟨rfl,rfl⟩,λ b z=>absurd z (o b),e0.bs,e0.bsz,λ b _ _=>o b,λ b z=>absurd z (o b),e0.funs,e0.frf⟩,
  rfl,e0.bare,Un.kept B,⟨_,x.toInCall.ns,λ i y v l d J=>?_⟩,λ y c h=>⟨_,x.cell y c h⟩,e0.hok.fresh (A0 _),λ y c h=>?_,λ p j=>absurd (show p∈([]:List (Addr×Obj)) from j) (by simp),e0.hok.kept B,?_⟩
 ·exact name_of_addr x.apart (W4 l) (W4 d)
 ·have g:scope.names.lookup y=some .cell\/scope.names.lookup y=some .free:=g;rcases g with g|g
  ·exact zaq g
  ·exact absurd rfl (S.nofree _ (W4 g))
 ·exact c7 (x.above y c (W4 h))
 ·have m:i < vs.length:=by
   unfold start at d;by_cases m:i < vs.length
   ·exact m
   ·rw [E2 (by simpa using m)] at d;rw [G6] at d;split at d<;>cases d
  have D:vs[i]? = some v:=by
   unfold start at d;rw [N2 (by simpa using m),Z0] at d;cases e:vs[i]? with
   | none=>rw [e] at d;cases d
   | some a=>rw [e] at d;cases d;rfl
  obtain ⟨u,C,F⟩:=r.get D;have j:ps[i]? = some y:=by rw [<-S.pre,List.getElem?_take_of_lt (by omega)];exact l
  have t:ps.Nodup:=by rw [<-S.pre];exact S.nd.sublist (List.take_sublist _ _)
  refine ⟨u,F,?_⟩;rcases S.par y (o0 j) with k|k
  ·exact .inl ⟨k,z7u t j C k⟩
  ·obtain ⟨c,e⟩:=zaq (n:=s.heap.objs.size + 1) k;refine .inr ⟨.inl k,c,e,?_⟩;have q:=x.cell y c e;rw [z7c t j C (by show scope.names.lookup y≠_;rw [k];decide)] at q;exact q
 ·exact e0.hok.fresh (c7 (x.above y c (W4 h)))
 ·unfold start;show _=N.length;rw [F0,G0,B3];omega
theorem fn_of {CX:CXT} {P:Program} {w:N0} {K:c0} {mg:Str->Option Value} {base:Heap} {k:Nat} {f:Addr} {name qual:Str} {params:Arguments} {body:List Stmt} {scope:Scope} {dV kV doc pm cdv ct oc:Value} {an od:Option Addr}
  {osl:Array (Option Value)} {N ps:List Str} {sp:Sp} (lk:K.lookup f=some ⟨oc,od,.func (k5 name qual params body scope dV kV doc pm an cdv ct),osl⟩) (hcd:Y6 K cdv qual=true) (S:FnScope N ps scope)
  (len :∀vs H Q E,sp vs H Q E->vs.length=ps.length)
  (hbody :∀(A:B2) (outer:List Env) (s:y0) (H:Hp) (vs:List V) (Q:VK) (E:XK),Room k (A.deeper (Y7 qual scope s.heap.objs.size f cdv))->sp vs H Q E->
   ∃t,PSs (cxOf CX P w K mg base N qual scope f cdv A outer s H E) body t/\t { nx:=λ _ H'=>Q .non H',rt:=Q } (start N vs) H) :
  FnOk P w K mg base CX (k + 1) f (k5 name qual params body scope dV kV doc pm an cdv ct) ps sp:=by
 refine ⟨len,λ A outer s H M D vs Q E i c z r j=>?_⟩;have G:=len _ _ _ _ j;have KX:K.In s.heap:=c.mod.kin.keeps λ b o e=>(c.bs b o e).1;have p:s.heap.NoLimit:=c.mod.nolimit.keeps λ b o e=>(c.bs b o e).1;have C :∀y∈ps.zip D,scope.names.lookup y.1=some .local\/(scope.names.lookup y.1=some .cell/\((cellsFrom (s.heap.objs.size + 1) scope.names []).lookup y.1).isSome=true):=λ ⟨n,v⟩ hy=>by
  rcases S.par n (U5 hy).1 with q|q
  ·exact .inl q
  ·exact .inr ⟨q,F6 _ _ _ (.inl q)⟩
 refine codeAny_call_function i.depth (KX _ _ lk) rfl S.co S.gen rfl (PySem.W.codeRec_of KX hcd) (z _ _ _ _ ?_);refine K9 S.kind C λ O F l x=>?_;subst F;refine ⟨p.keeps x.toInCall.keep,codeAny_func ?_⟩;obtain ⟨t,m,L⟩:=hbody A outer s H vs Q E (i.deeper _) j;have I:Inv (cxOf CX P w K mg base N qual scope f cdv A outer s H E) [] (start N vs) H l:=z7s S i.hd c G r x;refine y3 (m [] l (start N vs) H _ I L) (λ B g a=>?_) λ e g a=>a;have fin :∀{d:St} {H':Hp} {v:V} {u:Value},Inv (cxOf CX P w K mg base N qual scope f cdv A outer s H E) [] d H' g->RelV v u->Q v H'->CE outer P w H s Q u g:=
  λ {d H' v u} J h q=>⟨v,H',J.os,J.bare,J.base,J.hok,h,q⟩
 cases B with
 | ret u=>obtain ⟨v,d,H',J,h,q⟩:=a;exact fin J h q
 | next=>obtain ⟨d,H',J,q⟩:=a;exact fin (v:=V.non) (u:=c5) J rfl q
 | brk=>obtain ⟨_,_,_,q⟩:=a;exact N4 q
 | cont=>obtain ⟨_,_,_,q⟩:=a;exact N4 q
section
variable {X:Cx} {x:Str} {p pos:Pos} {e:Expr} {es:List Expr} {t:TA} {id T:String} {r:List V->Hp->VK->Prop}
noncomputable def tCB (r:List V->Hp->VK->Prop) (t:TA):TE:=λ σ H Q=>t σ H λ vs H1=>r vs H1 Q
theorem z09 (hc:CallR X (.builtin id) r) (hg:Gl X x) (hm:X.mg x=none) (hv:i4 x=some (.builtin id)) (ha:PA X (e :: es) t) (hn:x≠"__name__":=by decide) (hdb:(x == ("__debug__" : Str))=false:=by decide)
  (he:F1 (e :: es) X.env=(false,P3 e X.env) :: F1 es X.env:=by rfl) (hpl:(j5 pos (F1 es X.env)).any (·.1)=false:=by rfl):PE X (.Call (.Name x p) (e :: es) [] pos) (tCB r t):=by
 intro a s σ H Q I h;refine O3 (ld_blt I hg hm hv ?_ hn hdb);exact d5 (thn (ha pos a s σ H _ I h) λ c b ⟨vs,H1,I1,r1,q1⟩=>hc a b σ H1 vs c Q I1 r1 q1) he hpl
theorem z2v (hc:CallR X (.type T) r) (hg:Gl X x) (hm:X.mg x=none) (hv:i4 x=some (.type T)) (ha:PA X (e :: es) t) (hn:x≠"__name__":=by decide) (hdb:(x == ("__debug__" : Str))=false:=by decide)
  (he:F1 (e :: es) X.env=(false,P3 e X.env) :: F1 es X.env:=by rfl) (hpl:(j5 pos (F1 es X.env)).any (·.1)=false:=by rfl):PE X (.Call (.Name x p) (e :: es) [] pos) (tCB r t):=by
 intro a s σ H Q I h;refine O3 (ld_blt I hg hm hv ?_ hn hdb);exact O2 (thn (ha pos a s σ H _ I h) λ c b ⟨vs,H1,I1,r1,q1⟩=>hc a b σ H1 vs c Q I1 r1 q1) he hpl
end
end L2
namespace HT
open PySem PyProof.Rows
section
variable {prog:Program} {w:N0} {A:B2} {E:Value->y0->Prop} {s:y0}
theorem cat_tup {t b:Addr} {vs ws:List Value} {Q:Value->y0->Prop} (ht:IsTup s.heap t vs.toArray) (hb:IsTup s.heap b ws.toArray) (hv:vs≠[])
  (h1:ws=[]->Q (.ref t) s) (h2:ws≠[]->Q (.ref s.heap.objs.size) { s with heap:=s.heap.push { cls:=.type "tuple",data:=.seq (vs++ws).toArray } })
  (hsz:vs.length + ws.length<=sizeLine):P0 (V0 prog w) A (Z4 .Add (.ref t) (.ref b)) Q E s:=by
 obtain ⟨⟨cls,l,data,g⟩,a,d,n,hd⟩:=id ht;obtain ⟨⟨m,j,o,f⟩,c,k,h,i⟩:=id hb;simp only at d hd k i;subst d hd k i;have e:vs.toArray++ws.toArray=(vs++ws).toArray:=by simp
 by_cases hw:ws=[]
 ·exact concat_meets ⟨_,a,rfl⟩ ⟨_,c,rfl⟩ noFill_tuple_add seq_tuple_add d9 Y8 (V8 _ _)
   (tuple_addW1 t b vs.toArray ws.toArray n h l j g f (by simpa using hv) (by simp [hw])) ⟨a,c,h1 hw⟩
 ·refine concat_meets ⟨_,a,rfl⟩ ⟨_,c,rfl⟩ noFill_tuple_add seq_tuple_add d9 Y8 (V8 _ _)
   (tuple_addW2 t b vs.toArray ws.toArray n h l j g f (by simpa using hv) (by simpa using hw) (by rw [L0,L0];exact hsz)) ⟨a,c,?_⟩
  rw [e];exact h2 hw
noncomputable def sIx (n d:Nat):Option Int->Nat
 | none=>d
 | some v=>if v < 0 then (v + (n:Int)).toNat else min v.toNat n
theorem sIx_nat (n d k:Nat):sIx n d (some (k:Int))=min k n:=by show (if (k:Int) < 0 then ((k:Int) + (n:Int)).toNat else min (k:Int).toNat n)=min k n;rw [if_neg (by omega),m8]
theorem sIx_le (n d:Nat) (hd:d<=n) (o:Option Int):sIx n d o<=n:=by
 cases o with
 | none=>exact hd
 | some v=>
  show (if v < 0 then (v + (n:Int)).toNat else min v.toNat n)<=n;by_cases hv:v < 0
  ·rw [if_pos hv];omega
  ·rw [if_neg hv];exact Nat.min_le_right _ _
theorem zda (v:Int) (n d:Nat):(if v < 0 then max (v + (n:Int)) 0 else min v (n:Int))=((sIx n d (some v):Nat):Int):=by
 show (if v < 0 then max (v + (n:Int)) 0 else min v (n:Int))=(((if v < 0 then (v + (n:Int)).toNat else min v.toNat n):Nat):Int);by_cases hv:v < 0
 ·simp only [if_pos hv];omega
 ·simp only [if_neg hv];omega
theorem z9y (lo hi:Option Int) (n:Nat):S5 lo hi 1 (n:Int)=(((sIx n 0 lo:Nat):Int),((sIx n n hi:Nat):Int)):=by
 have a:¬ ((1:Int) < 0):=by omega
 unfold S5;simp only [a,if_false];refine Prod.ext ?_ ?_
 ·cases lo with
  | none=>rfl
  | some v=>exact zda v n 0
 ·cases hi with
  | none=>rfl
  | some v=>exact zda v n n
theorem zax (i j:Nat):B4 (i:Int) (j:Int) 1=j - i:=by
 unfold B4;have a:(1:Int) > 0:=by omega
 simp only [a,if_true,Int.ediv_one];split<;>omega
theorem z5g {v:Value} {o:Option Int} {Q:Option Int->y0->Prop} (p:K8 v o) (h:Q o s):P0 (V0 prog w) A (Builtin.Slice.slicePartIndex v) Q E s:=by
 cases p with
 | none=>exact slicePart_none h
 | int i t=>exact slicePart_int h
theorem z36 {sl:Addr} {vl vu:Value} {lo hi:Option Int} {n:Nat} {Q:Int×Int×Nat->y0->Prop} (hs:s.heap.IsSliceOf sl vl vu .none) (pl:K8 vl lo) (pu:K8 vu hi)
  (h:Q (((sIx n 0 lo:Nat):Int),1,sIx n n hi - sIx n 0 lo) s):P0 (V0 prog w) A (V7 (.ref sl) (C3 (n:Int))) Q E s:=by
 obtain ⟨c,a,d,b⟩:=id hs;unfold V7 Builtin.Slice.sliceFields;refine v0 (v0 (a6 a b (x:=vl) rfl (v0 (a6 a b (x:=vu) rfl (v0 (a6 a b (x:=.none) rfl (C0 ?_)))))));refine v0 (slicePart_none ?_);show P0 _ _ (if ((1:Int) == 0)=true then _ else _) _ _ s;rw [if_neg (by decide)];refine v0 (z5g pl (v0 (z5g pu (v0 (C0 ?_)))));show P0 _ _ (match S5 lo hi 1 (n:Int) with|(lo,hi)=>C3 (lo,(1:Int),B4 lo hi 1)) _ _ s;rw [z9y lo hi n];show P0 _ _ (C3 (((sIx n 0 lo:Nat):Int),(1:Int),B4 ((sIx n 0 lo:Nat):Int) ((sIx n n hi:Nat):Int) 1)) _ _ s;rw [zax];exact C0 h
theorem zdx (xs:Array Value) (i k:Nat):((V1 k).filterMap λ (m:Nat)=>xs[((i:Int) + (m:Int) * 1).toNat]?).toArray=((xs.toList.drop i).take k).toArray:=by
 have e:(λ (m:Nat)=>xs[((i:Int) + (m:Int) * 1).toNat]?)=λ m=>xs[i + m]?:=by
  funext m;have:((i:Int) + (m:Int) * 1).toNat=i + m:=by omega
  rw [this]
 rw [e];have:=pick_run xs i k;rw [List.filterMap_map] at this;have a:((λ x=>xs[x]?) ∘ λ x=>i + x)=λ m=>xs[i + m]?:=rfl;rw [a] at this;rw [this]
theorem getItem_tuple_cut {t sl:Addr} {items:Array Value} {vl vu:Value} {lo hi:Option Int} {Q:Value->y0->Prop} (ht:IsTup s.heap t items) (hs:s.heap.IsSliceOf sl vl vu .none) (pl:K8 vl lo) (pu:K8 vu hi)
  (hw:¬ (sIx items.size 0 lo=0/\sIx items.size items.size hi=items.size))
  (h:Q (.ref s.heap.objs.size) { s with heap:=s.heap.push { cls:=.type "tuple",data:=.seq ((items.toList.drop (sIx items.size 0 lo)).take (sIx items.size items.size hi - sIx items.size 0 lo)).toArray } })
  (hsz:items.size<=sizeLine):P0 (V0 prog w) A (d8 (.ref t) (.ref sl)) Q E s:=by
 have a:sizeOk (.seq ((items.toList.drop (sIx items.size 0 lo)).take (sIx items.size items.size hi - sIx items.size 0 lo)).toArray):=by show ((items.toList.drop (sIx items.size 0 lo)).take (sIx items.size items.size hi - sIx items.size 0 lo)).toArray.size<=sizeLine;rw [L0,K3,U4,U0];omega
 have i:sIx items.size items.size hi<=items.size:=sIx_le _ _ (A0 _) hi;obtain ⟨c,b,e,k⟩:=id hs;have d:s.TypeIs (.ref sl) "slice":=⟨c,b,e⟩
 unfold d8
 try with_reducible refine D2 ?_
 first|refine v0 (C0 ?_)|skip
 refine v0 (wpAny_sequenceKey ht.typeIs (by decide) ?_);refine v0 (p7 (name:=M3 "__getitem__") ht.typeIs v7
  (o7 v7 ht.typeIs entry_tuple_getitem ?_ (args_tuple_getitem _ _)))
 show P0 _ _ (Builtin.Tuple.tupleItemsOf (.ref t) >>= _) _ _ s;refine v0 (tupleItemsOf_ ht ?_);refine v0 (Q8 d ?_);rw [if_pos (by decide)];refine v0 (z36 hs pl pu ?_);have f:¬ ((((sIx items.size 0 lo:Nat):Int) == 0 && (1:Int) == 1 && (sIx items.size items.size hi - sIx items.size 0 lo) == items.size)=true):=by intro q;rw [S3,S3] at q;have j:((sIx items.size 0 lo:Nat):Int)=0:=eq_of_beq q.1.1;have g:sIx items.size items.size hi - sIx items.size 0 lo=items.size:=eq_of_beq q.2;exact hw ⟨by omega,by omega⟩
 show P0 _ _ (if (((sIx items.size 0 lo:Nat):Int) == 0 && (1:Int) == 1 && (sIx items.size items.size hi - sIx items.size 0 lo) == items.size)=true then _ else _) _ _ s;rw [if_neg f,zdx];first
  | exact v0 (m:=F4 _) (d4 (C0 ⟨_,rfl,C0 h⟩) a)
  | exact v0 (m:=F4 _) (d4 (v0 (C0 (C0 ⟨_,rfl,C0 h⟩))) a)
  | exact v0 (v0 (m:=F4 _) (d4 (C0 (C0 ⟨_,rfl,C0 h⟩)) a))
  | exact v0 (v0 (m:=F4 _) (d4 (C0 ⟨_,rfl,C0 h⟩) a))
end
end HT
namespace L2
open PySem PySem.Spec PyProof.Rows
noncomputable abbrev TO:=St->Hp->(Option Int->Hp->Prop)->Prop
def PO (X:Cx) (e:Option Expr) (t:TO):Prop:=
 ∀(pins:List (Addr×Obj)) (s:y0) (σ:St) (H:Hp) (Q:Option Int->Hp->Prop),Inv X pins σ H s->t σ H Q->
  P0 (V0 X.prog X.w) X.A (evalPart e X.env) (λ u s'=>∃o H',Inv X pins σ H' s'/\K8 u o/\Q o H') X.xe s
noncomputable def zfo:TO:=λ _ H Q=>Q none H
noncomputable def tPart (t:TE):TO:=λ σ H Q=>t σ H λ x H1=>∃i,x=.int i/\Q (some i) H1
theorem z3d {ns:List Int} :∀{us:List Value},Vals (ns.map V.int) us->A3 us ns:=by
 induction ns with
 | nil=>intro us r;rw [Q6] at r;cases r;exact .nil
 | cons n ns ih=>
  intro us r;rw [T0] at r;cases r with
  | cons r1 r2=>obtain ⟨t,e⟩:=r1;subst e;exact .cons n t (ih r2)
section
variable {X:Cx} {e:Expr} {te:TE} {lo hi:Option Expr} {tl th:TO} {pos p2:Pos}
theorem z2r:PO X none zfo:=by intro a s σ H Q I h;rw [evalPart_none];exact C0 ⟨none,H,I,.none,h⟩
theorem z1s (h:PE X e te):PO X (some e) (tPart te):=by intro a s σ H Q I b;rw [evalPart_some];refine thn (h a s σ H _ I b) λ u c ⟨x,H1,I1,r1,q1⟩=>?_;obtain ⟨i,rfl,q⟩:=q1;obtain ⟨t,rfl⟩:=r1;exact ⟨some i,H1,I1,.int i t,q⟩
def SlR (X:Cx) (r:V->Option Int->Option Int->Hp->VK->Prop):Prop:=
 ∀(pins:List (Addr×Obj)) (s:y0) (σ:St) (H:Hp) (x:V) (v vl vu:Value) (lo hi:Option Int) (sl:Addr) (Q:VK),Inv X pins σ H s->RelV x v->s.heap.IsSliceOf sl vl vu .none->K8 vl lo->K8 vu hi->r x lo hi H Q->
  ∃T id,typeLookup (.type T) "__getitem__" = C3 (some (.builtin id))/\s.TypeIs v T/\P0 (V0 X.prog X.w) X.A (d8 v (.ref sl)) (EP X pins σ Q) X.xe s
theorem SlR.or {r r':V->Option Int->Option Int->Hp->VK->Prop} (h:SlR X r) (h':SlR X r'):SlR X (λ x lo hi H Q=>r x lo hi H Q\/r' x lo hi H Q):=by
 intro g s σ H x v c i lo hi a Q I e b f d q;rcases q with q|q
 ·exact h g s σ H x v c i lo hi a Q I e b f d q
 ·exact h' g s σ H x v c i lo hi a Q I e b f d q
noncomputable def tSl (r:V->Option Int->Option Int->Hp->VK->Prop) (te:TE) (tl th:TO):TE:=λ σ H Q=>te σ H λ x H1=>tl σ H1 λ l H2=>th σ H2 λ u H3=>r x l u H3 Q
theorem z14 {r:V->Option Int->Option Int->Hp->VK->Prop} (hr:SlR X r) (he:PE X e te) (hl:PO X lo tl) (hu:PO X hi th):PE X (.Subscript e (.Slice lo hi none p2) pos) (tSl r te tl th):=by intro c s σ H Q I h;refine Subscript_ (thn (he c s σ H _ I h) λ v k ⟨x,H1,I1,r1,q1⟩=>?_);refine wpAny_Slice (thn (hl c k σ H1 _ I1 q1) λ d m ⟨l,H2,I2,pl,q2⟩=>thn (hu c m σ H2 _ I2 q2) λ f a ⟨u,H3,I3,pu,q3⟩=>?_);rw [evalPart_none];refine C0 ?_;have n:Inv X c σ H3 { a with heap:=a.heap.push { cls:=.type "slice",data:=.fields #[d,f,.none] } }:=I3.kept (t':=a.toks) λ b o q=>x0 _ q;obtain ⟨T,id,j,g,i⟩:=hr c { a with heap:=a.heap.push { cls:=.type "slice",data:=.fields #[d,f,.none] } } σ H3 x v d f l u a.heap.objs.size Q n r1 (Heap.IsSliceOf.new ..) pl pu q3;show P0 (V0 X.prog X.w) X.A (subscriptTail e (.Slice lo hi none p2) v (.ref a.heap.objs.size)) (EP X c σ Q) X.xe { a with heap:=a.heap.push { cls:=.type "slice",data:=.fields #[d,f,.none] } };exact tail_any (ops:=[.ref a.heap.objs.size,v]) g j i (by with_unfolding_all rfl)
noncomputable def cutV (xs:List V) (lo hi:Option Int):List V:=(xs.drop (HT.sIx xs.length 0 lo)).take (HT.sIx xs.length xs.length hi - HT.sIx xs.length 0 lo)
theorem z3w (xs:List V) (lo hi:Option Int):(cutV xs lo hi).length<=xs.length:=by unfold cutV;rw [K3,U4];omega
def rSlT (K:c0):V->Option Int->Option Int->Hp->VK->Prop:=λ x lo hi H Q=>∃a xs,x=.ref a/\SqT K H a xs/\
 ¬ (HT.sIx xs.length 0 lo=0/\HT.sIx xs.length xs.length hi=xs.length)/\∀p,H p=none->Q (.ref p) (upd H p (.tup (cutV xs lo hi)))
theorem sl_tup:SlR X (rSlT X.K):=by
 intro z s σ H x v w A d f u Q I j l k m h;obtain ⟨a,c,rfl,t,p,q⟩:=h;cases j;obtain ⟨n,r,g,i⟩:=I.tuple t;have e:n.toArray.size=c.length:=by rw [L0];exact r.length.symm
 refine ⟨"tuple",_,PyProof.Rows.slot_tuple_getitem.lookup,g.typeIs,?_⟩;refine HT.getItem_tuple_cut g l k m (by rw [e];exact p) ?_ (by rw [e];exact i);rw [e];refine ⟨.ref s.heap.objs.size,_,I.laid (t':=s.toks) (o:=.tup (cutV c d f)) (λ b y q=>x0 _ q) (A0 _) ?_,rfl,q _ (I.hok.fresh (A0 _))⟩;exact ⟨J0 (z3w c d f) i,_,(r.drop (HT.sIx c.length 0 d)).take (HT.sIx c.length c.length f - HT.sIx c.length 0 d),IsTupN.new _ _⟩
noncomputable def rCatT (K:c0):R2:=λ x y H Q=>∃a b xs ys,x=.ref a/\y=.ref b/\SqT K H a xs/\SqT K H b ys/\xs≠[]/\xs.length + ys.length<=sizeLine/\
 (ys=[]->Q (.ref a) H)/\(ys≠[]->∀p,H p=none->Q (.ref p) (upd H p (.tup (xs++ys))))
theorem Vals.nil_iff {xs:List V} {us:List Value} (r:Vals xs us):us=[]↔xs=[]:=by
 cases r with
 | nil=>simp
 | cons _ _=>simp
theorem zfe:OpR X (Z4 .Add) (rCatT X.K):=by intro C s σ H x y v u Q I g l h;obtain ⟨a,b,f,p,rfl,rfl,k,i,r,e,m,j⟩:=h;cases g;cases l;obtain ⟨D,d,n,_⟩:=I.tuple k;obtain ⟨A,c,t,_⟩:=I.tuple i;refine HT.cat_tup n t (λ z=>r (d.nil_iff.mp z)) (λ z=>⟨.ref a,H,I,rfl,m (c.nil_iff.mp z)⟩) (λ z=>?_) (by rw [<-d.length,<-c.length];exact e);refine ⟨.ref s.heap.objs.size,_,I.laid (t':=s.toks) (o:=.tup (f++p)) (λ b B q=>x0 _ q) (A0 _) ?_,rfl,j (λ w=>z (c.nil_iff.mpr w)) _ (I.hok.fresh (A0 _))⟩;exact ⟨by rw [F0];exact e,_,d.append c,IsTupN.new _ _⟩
end
noncomputable def ixN (n:Nat) (i:Int):Option Nat:=if 0<=i then (if i < n then some i.toNat else none) else if -(n:Int)<=i then some (i + n).toNat else none
noncomputable def atI {α:Type} (xs:List α) (i:Int):Option α:=(ixN xs.length i).bind λ j=>xs[j]?
theorem zdb {n:Nat} {i:Int} {j:Nat} (h:ixN n i=some j):seqIndex? i n=some j/\j < n/\-(n:Int)<=i/\i < n:=by
 unfold ixN at h;by_cases h0:0<=i
 ·rw [if_pos h0] at h;by_cases h1:i < n
  ·rw [if_pos h1] at h;have e:i.toNat=j:=W0 h;exact ⟨by rw [seqIndex_of h0 h1,e],by omega,by omega,h1⟩
  ·rw [if_neg h1] at h;cases h
 ·rw [if_neg h0] at h;by_cases h1:-(n:Int)<=i
  ·rw [if_pos h1] at h;have e:(i + n).toNat=j:=W0 h;exact ⟨by rw [seqIndex_neg (by omega) h1,e],by omega,h1,by omega⟩
  ·rw [if_neg h1] at h;cases h
theorem za6 {α:Type} {xs:List α} {i:Int} {v:α} (h:atI xs i=some v) :∃j,seqIndex? i xs.length=some j/\xs[j]? = some v/\j < xs.length/\-(xs.length:Int)<=i/\i < xs.length:=by
 unfold atI at h;cases e:ixN xs.length i with
 | none=>rw [e] at h;cases h
 | some j=>rw [e] at h;obtain ⟨d,a,c,b⟩:=zdb e;exact ⟨j,d,h,a,c,b⟩
theorem z03 {α:Type} {xs:List α} {j:Nat} {v:α} (h:xs[j]? = some v):atI xs (j:Int)=some v:=by
 have a:j < xs.length:=(List.getElem?_eq_some_iff.mp h).1;have e:ixN xs.length (j:Int)=some j:=by unfold ixN;rw [if_pos (by omega),if_pos (by omega)];simp
 unfold atI;rw [e];exact h
def zdc (b:Expr):Prop:=∀o i,m9 b false o i=operate [o,i] (d8 o i)
def IxR (X:Cx) (r:R2):Prop:=
 ∀(value slice:Expr) (pins:List (Addr×Obj)) (s:y0) (σ:St) (H:Hp) (x y:V) (v u:Value) (Q:VK),Inv X pins σ H s->RelV x v->RelV y u->r x y H Q->
  m9 slice false v u=operate [v,u] (d8 v u)->P0 (V0 X.prog X.w) X.A (subscriptTail value slice v u) (EP X pins σ Q) X.xe s
def MtR (X:Cx) (id:String) (r:V->List V->Hp->VK->Prop):Prop:=
 ∀(pins:List (Addr×Obj)) (s:y0) (σ:St) (H:Hp) (x:V) (xs:List V) (v:Value) (us:List Value) (Q:VK),Inv X pins σ H s->RelV x v->Vals xs us->r x xs H Q->
  P0 (V0 X.prog X.w) X.A (call (.builtin id) (v :: us)) (EP X pins σ Q) X.xe s
section
variable {X:Cx} {a b:Expr} {ta tb:TE} {pos:Pos}
theorem IxR.or {r r':R2} (h:IxR X r) (h':IxR X r'):IxR X (λ x y H Q=>r x y H Q\/r' x y H Q):=by
 intro a d f s σ H x y v u Q I c e q b;rcases q with q|q
 ·exact h a d f s σ H x y v u Q I c e q b
 ·exact h' a d f s σ H x y v u Q I c e q b
theorem pe_ix {r:R2} (hr:IxR X r) (ha:PE X a ta) (hb:PE X b tb) (hs:zdc b):PE X (.Subscript a b pos) (tOp r ta tb):=by intro g s σ H Q I h;exact Subscript_ (binT ha hb I h λ v u d x y i c e f q=>hr a b g d σ i x y v u Q c e f q (hs _ _))
noncomputable def rIxL (K:c0):R2:=λ x y H Q=>∃p xs i v,x=.ref p/\y=.int i/\SqL K H p xs/\atI xs i=some v/\Q v H
noncomputable def rIxT (K:c0):R2:=λ x y H Q=>∃p xs i v,x=.ref p/\y=.int i/\SqT K H p xs/\atI xs i=some v/\Q v H
noncomputable def rIxS:R2:=λ x y H Q=>∃z i c,x=.str z/\y=.int i/\z.length<=sizeLine/\atI z.cps.toList i=some c/\Q (.str ⟨#[c]⟩) H
theorem ix_list:IxR X (rIxL X.K):=by
 intro M J e s σ H x y v u Q I g o h f;obtain ⟨p,F,i,z,rfl,rfl,B,m,q⟩:=h;cases g;obtain ⟨t,rfl⟩:=o;obtain ⟨E,r,b,G⟩:=I.list B;obtain ⟨j,a,C,N,A,k⟩:=za6 m;obtain ⟨w,d,D⟩:=r.get C;have n:=r.length;have L:=line63;have fin:EP X e σ Q w s:=⟨z,H,I,D,q⟩
 by_cases h0:0<=i
 ·have c:i.toNat=j:=by rw [seqIndex_of h0 k] at a;exact W0 a
  exact item_listR b.isList h0 (by omega) (by rw [c];simpa using d) fin f
 ·have c:(i + (E.toArray.size:Int)).toNat=j:=by rw [seqIndex_neg (by omega) A] at a;rw [L0,<-n];exact W0 a
  exact subscriptTail_builtinR (x:=w) b.isList.typeIs slot_list_getitem.lookup
   (wpAny_getItem_list_neg (Q:=λ r l=>r=w/\EP X e σ Q r l) b.isList (by omega) (by rw [L0]<;>omega) (by omega) (by rw [c];simpa using d) ⟨rfl,fin⟩) f
theorem ix_tup:IxR X (rIxT X.K):=by
 intro G E b s σ H x y v u Q I c l h A;obtain ⟨p,B,i,z,rfl,rfl,m,g,q⟩:=h;cases c;obtain ⟨t,rfl⟩:=l;obtain ⟨L,r,a,C⟩:=I.tuple m;obtain ⟨j,f,n,M,J,D⟩:=za6 g;obtain ⟨w,d,o⟩:=r.get n;have k:=r.length;have F:=line63;have fin:EP X b σ Q w s:=⟨z,H,I,o,q⟩
 exact subscriptTail_builtinR (x:=w) a.typeIs slot_tuple_getitem.lookup
  (getItem_tuple (j:=j) (Q:=λ r e=>r=w/\EP X b σ Q r e) a (by omega) (by omega) (by rw [L0,<-k];exact f) (by simpa using d) ⟨rfl,fin⟩) A
theorem ix_str:IxR X rIxS:=by
 intro B w C s σ H x y v u Q I b k h o;obtain ⟨z,i,c,rfl,rfl,p,e,q⟩:=h;obtain ⟨t,rfl⟩:=b;obtain ⟨r,rfl⟩:=k;obtain ⟨j,a,m,D,l,d⟩:=za6 e;have f:z.cps.toList.length=z.length:=by simp [Str.length]
 rw [f] at a l d;have A:=line63;exact tail_any (typeIs_str s z t) slot_str_getitem.lookup (getItem_str (c:=c) (by have n:decide (i < -(2 ^ 63:Int))=false:=decide_eq_false (by omega);have g:decide (i ≥ 2 ^ 63)=false:=decide_eq_false (by omega);rw [n,g,W7]) (by rw [a];simpa using m) ⟨.str ⟨#[c]⟩,H,I.tok _,⟨_,rfl⟩,q⟩) o
noncomputable def rIx (K:c0):R2:=λ x y H Q=>rIxL K x y H Q\/rIxT K x y H Q\/rIxS x y H Q
theorem ix_seq:IxR X (rIx X.K):=ix_list.or (ix_tup.or ix_str)
theorem zae (its:List Value) (n j:Nat) (u:Value):G1 (·.setIfInBounds j u) { cls:=.type "list",data:=.seq its.toArray n }={ cls:=.type "list",data:=.seq (its.set j u).toArray n }:=by simp [G1]
theorem Inv.lst {pins:List (Addr×Obj)} {σ:St} {H:Hp} {s:y0} {p:Addr} {xs:List V} (I:Inv X pins σ H s) (h:H p=some (.lst xs)) :
  ∃(its:List Value) (n:Nat),Vals xs its/\s.heap.get? p=some { cls:=.type "list",data:=.seq its.toArray n }/\xs.length<=sizeLine:=by
 obtain ⟨z,its,n,r,e⟩:=I.hok p _ h;exact ⟨its,n,r,e,z⟩
theorem Inv.lstUpd {pins:List (Addr×Obj)} {σ:St} {H:Hp} {s:y0} {p:Addr} {xs ys:List V} {its its':List Value} {n n':Nat} {f:Obj->Obj} (I:Inv X pins σ H s) (h:H p=some (.lst xs))
  (ho:s.heap.get? p=some { cls:=.type "list",data:=.seq its.toArray n }) (hf:f { cls:=.type "list",data:=.seq its.toArray n }={ cls:=.type "list",data:=.seq its'.toArray n' }) (r:Vals ys its') (hz:ys.length<=sizeLine) (t:Nat) :
  Inv X pins σ (upd H p (.lst ys)) { s with heap:=s.heap.update p f,toks:=t }:=by
 have e:(s.heap.update p f).get? p=some { cls:=.type "list",data:=.seq its'.toArray n' }:=by rw [m7 f ho (by rw [hf]<;>rfl),hf]
 refine I.write (x:=p) (e:=p) (by rw [h];trivial) (.inl rfl) (λ b u a q=>(R6 _ _ (n3 a)).trans q) ⟨_,e⟩ ?_;exact ⟨hz,its',n',r,e⟩
def rSetL:V->V->V->Hp->(Hp->Prop)->Prop:=λ o i v H Q=>∃p xs k j,o=.ref p/\i=.int k/\H p=some (.lst xs)/\ixN xs.length k=some j/\Q (upd H p (.lst (xs.set j v)))
theorem z3h:PSet X rSetL:=by
 intro B s σ H o i v D E u Q I C y z h;obtain ⟨p,w,k,j,rfl,rfl,e,A,q⟩:=h;cases C;obtain ⟨t,rfl⟩:=y;obtain ⟨l,n,r,c,x⟩:=I.lst e;obtain ⟨a,G,m,f⟩:=zdb A;have d:=r.length;have F:=line63;have g:Inv X B σ (upd H p (.lst (w.set j v))) { s with heap:=s.heap.update p (G1 (·.setIfInBounds j u)) }:=
  I.lstUpd e c (zae l n j u) (r.set z j) (by rw [List.length_set];exact x) s.toks
 by_cases h0:0<=k
 ·have b:k.toNat=j:=by rw [seqIndex_of h0 f] at a;exact W0 a
  exact PySem.W.ki_setAt c h0 (by omega) (by rw [L0,<-d];exact f) (by rw [b];exact ⟨_,g,q⟩)
 ·have b:(k + (l.toArray.size:Int)).toNat=j:=by rw [seqIndex_neg (by omega) m] at a;rw [L0,<-d];exact W0 a
  exact PySem.W.ki_setBack c (by omega) (by rw [L0,<-d];exact m) (by omega) (by rw [b];exact ⟨_,g,q⟩)
theorem z6n (lo hi:Option Int) (n:Nat):(c6 lo hi none n).1=((HT.sIx n 0 lo:Nat):Int)/\(c6 lo hi none n).2.1=((HT.sIx n n hi:Nat):Int)/\(c6 lo hi none n).2.2=1:=by
 refine ⟨?_,?_,rfl⟩
 ·cases lo with
  | none=>simp [c6,HT.sIx]
  | some i=>
   simp only [c6,HT.sIx,Option.getD_none,show (1:Int) > 0 by decide,if_true];by_cases h:i < 0
   ·simp only [h,if_true]<;>omega
   ·simp only [h,if_false]<;>omega
 ·cases hi with
  | none=>simp [c6,HT.sIx]
  | some i=>
   simp only [c6,HT.sIx,Option.getD_none,show (1:Int) > 0 by decide,if_true];by_cases h:i < 0
   ·simp only [h,if_true]<;>omega
   ·simp only [h,if_false]<;>omega
theorem z6d (its:List Value) (lo hi:Option Int):slicePick its.toArray lo hi none=((its.drop (HT.sIx its.length 0 lo)).take (HT.sIx its.length its.length hi - HT.sIx its.length 0 lo)).toArray:=by obtain ⟨c,a,b⟩:=z6n lo hi its.toArray.size;unfold slicePick;rw [c,a,b];simp only [sliceRange_one,pick_run,L0]<;>rfl
def rSlL (K:c0):V->Option Int->Option Int->Hp->VK->Prop:=λ x lo hi H Q=>∃a xs,x=.ref a/\SqL K H a xs/\∀p,H p=none->Q (.ref p) (upd H p (.lst (cutV xs lo hi)))
theorem sl_list:SlR X (rSlL X.K):=by intro w s σ H x v t z d e p Q I g k i m h;obtain ⟨a,c,rfl,n,q⟩:=h;cases g;obtain ⟨y,r,f,j⟩:=I.list n;have l:=r.length;refine ⟨"list",_,slot_list_getitem.lookup,f.isList.typeIs,?_⟩;refine wpAny_getItem_list_slice f.isList k i m .none (by simp) ?_ (by rw [L0]<;>omega);rw [z6d,<-l];refine ⟨.ref s.heap.objs.size,_,I.laid (t':=s.toks) (o:=.lst (cutV c d e)) (λ b u q=>x0 _ q) (A0 _) ?_,rfl,q _ (I.hok.fresh (A0 _))⟩;exact ⟨J0 (z3w c d e) j,_,0,(r.drop (HT.sIx c.length 0 d)).take (HT.sIx c.length c.length e - HT.sIx c.length 0 d),I0 _ rfl⟩
noncomputable def flatV:V->Bool
 | .non=>true
 | .bl _=>true
 | .int _=>true
 | .str _=>true
 | _=>false
noncomputable def eqV:V->V->Bool
 | .non,.non=>true
 | .bl a,.bl b=>a == b
 | .bl a,.int b=>(if a then 1 else 0) == b
 | .int a,.bl b=>a == (if b then 1 else 0)
 | .int a,.int b=>a == b
 | .str a,.str b=>a == b
 | _,_=>false
theorem eqAt_V {A:B2} {s:y0} {y x:V} {u v:Value} (ry:RelV y u) (rx:RelV x v) (fy:flatV y=true) (fx:flatV x=true):SeqAt.EqAt A s u v (eqV y x):=by
 cases y with
 | non=>
  cases ry;cases x with
  | non=>cases rx;exact SeqAt.EqAt.same _
  | bl b=>cases rx;exact SeqAt.EqAt.none_bool b
  | int b=>obtain ⟨t,rfl⟩:=rx;exact SeqAt.EqAt.none_int b t
  | str b=>obtain ⟨t,rfl⟩:=rx;exact SeqAt.EqAt.none_str b t
  | _=>exact absurd (show false=true from fx) O0
 | bl a=>
  cases ry;cases x with
  | non=>cases rx;exact SeqAt.EqAt.bool_none a
  | bl b=>cases rx;exact SeqAt.EqAt.bool_bool a b
  | int b=>obtain ⟨t,rfl⟩:=rx;exact SeqAt.EqAt.bool_int a b t
  | str b=>obtain ⟨t,rfl⟩:=rx;exact SeqAt.EqAt.bool_str a b t
  | _=>exact absurd (show false=true from fx) O0
 | int a=>
  obtain ⟨c,rfl⟩:=ry;cases x with
  | non=>cases rx;exact SeqAt.EqAt.int_none a c
  | bl b=>cases rx;exact SeqAt.EqAt.int_bool a c b
  | int b=>obtain ⟨t,rfl⟩:=rx;exact SeqAt.EqAt.int_int a c b t
  | str b=>obtain ⟨t,rfl⟩:=rx;exact q9 a c b t
  | _=>exact absurd (show false=true from fx) O0
 | str a=>
  obtain ⟨c,rfl⟩:=ry;cases x with
  | non=>cases rx;exact SeqAt.EqAt.str_none a c
  | bl b=>cases rx;exact SeqAt.EqAt.str_bool a c b
  | int b=>obtain ⟨t,rfl⟩:=rx;exact p9 a c b t
  | str b=>obtain ⟨t,rfl⟩:=rx;exact SeqAt.EqAt.str_str a c b t
  | _=>exact absurd (show false=true from fx) O0
 | _=>exact absurd (show false=true from fy) O0
noncomputable def eqU (x:V) (u:Value):Bool:=match u with
 | .none=>eqV .non x
 | .bool b=>eqV (.bl b) x
 | .int i _=>eqV (.int i) x
 | .str z _=>eqV (.str z) x
 | _=>false
theorem eqU_of {x y:V} {u:Value} (r:RelV y u) (f:flatV y=true):eqU x u=eqV y x:=by
 cases y with
 | non=>cases r;rfl
 | bl b=>cases r;rfl
 | int i=>obtain ⟨t,rfl⟩:=r;rfl
 | str z=>obtain ⟨t,rfl⟩:=r;rfl
 | _=>exact absurd (show false=true from f) O0
theorem zbj {x:V} :∀{xs:List V} {us:List Value},Vals xs us->xs.all flatV=true->us.any (eqU x)=xs.any λ y=>eqV y x
 | _,_,.nil,_=>rfl
 | y :: xs,u :: us,.cons r t,f=>by rw [List.all_cons,S3] at f;rw [C6,C6,eqU_of r f.1,zbj t f.2]
theorem z6w {A:B2} {s:y0} {x:V} {v:Value} (rx:RelV x v) (fx:flatV x=true) :∀{xs:List V} {us:List Value},Vals xs us->xs.all flatV=true->∀u∈us,SeqAt.EqAt A s u v (eqU x u)
 | _,_,.nil,_=>λ u a=>by cases a
 | y :: xs,u :: us,.cons r t,f=>λ b a=>by
  rw [List.all_cons,S3] at f;rcases List.mem_cons.mp a with rfl|a
  ·rw [eqU_of r f.1];exact eqAt_V r rx f.1 fx
  ·exact z6w rx fx t f.2 b a
noncomputable def inV (x:V) (xs:List V):Bool:=xs.any λ y=>eqV y x
noncomputable def rIn (K:c0) (neg:Bool):R2:=λ x y H Q=>∃p xs,y=.ref p/\(SqL K H p xs\/SqT K H p xs)/\flatV x=true/\xs.all flatV=true/\Q (.bl (if neg then !inV x xs else inV x xs)) H
theorem z86:OpR X (U2 .In) (rIn X.K false):=by
 intro k s σ H x y v u Q I e i h;obtain ⟨p,j,rfl,a,f,fs,q⟩:=h;cases i;rcases a with a|a
 ·obtain ⟨b,r,c,g⟩:=I.list a;refine SeqAt.in_listAt (eqU x) c.isList (λ w d=>z6w e f r fs w (by simpa using d)) ⟨.bl _,H,I,rfl,?_⟩;rw [show b.toArray.any (eqU x)=b.any (eqU x) by simp,zbj r fs];exact q
 ·obtain ⟨b,r,c,g⟩:=I.tuple a;refine SeqAt.in_tupleAt (eqU x) c (λ w d=>z6w e f r fs w (by simpa using d)) ⟨.bl _,H,I,rfl,?_⟩;rw [show b.toArray.any (eqU x)=b.any (eqU x) by simp,zbj r fs];exact q
theorem call_len_seq:CallR X (.builtin "len") (λ xs H Q=>∃p ys,xs=[.ref p]/\(SqL X.K H p ys\/SqT X.K H p ys)/\Q (.int ys.length) H):=by
 intro i s σ H xs k Q I r h;obtain ⟨p,ys,rfl,a,q⟩:=h;obtain ⟨u,rfl,e⟩:=vals1 r;cases e;have j:=line63;rcases a with a|a
 ·obtain ⟨g,b,d,f⟩:=I.list a;have c:=b.length;exact Calls.call_len_list d.isList (by simp only [L0]<;>omega) ⟨.int ys.length,H,I.tok _,⟨s.toks + 1,by rw [L0,c]⟩,q⟩
 ·obtain ⟨g,b,d,f⟩:=I.tuple a;have c:=b.length;exact len_tuple d (by simp only [L0]<;>omega) ⟨.int ys.length,H,I.tok _,⟨s.toks + 1,by rw [L0,c]⟩,q⟩
theorem z6u:CallR X (.builtin "len") (λ xs H Q=>∃z,xs=[.str z]/\z.length<=sizeLine/\Q (.int z.length) H):=by intro a s σ H xs d Q I r h;obtain ⟨z,rfl,b,q⟩:=h;obtain ⟨u,rfl,t,rfl⟩:=vals1 r;have c:=line63;exact len_str (by omega) ⟨.int z.length,H,I.tok _,⟨_,rfl⟩,q⟩
theorem CallR.or {f:Value} {r r':List V->Hp->VK->Prop} (h:CallR X f r) (h':CallR X f r'):CallR X f (λ xs H Q=>r xs H Q\/r' xs H Q):=by
 intro a s σ H xs b Q I c q;rcases q with q|q
 ·exact h a s σ H xs b Q I c q
 ·exact h' a s σ H xs b Q I c q
theorem z6s:CallR X (.type "list") (λ xs H Q=>∃p ys,xs=[.ref p]/\(SqL X.K H p ys\/SqT X.K H p ys)/\∀l,H l=none->Q (.ref l) (upd H l (.lst ys))):=by
 intro x s σ H xs y Q I r h;obtain ⟨p,ys,rfl,i,q⟩:=h;obtain ⟨u,rfl,t⟩:=vals1 r;cases t;have fin :∀(c:List Value),Vals ys c->ys.length<=sizeLine->∀(a:Heap) (d:Nat),(∀b o',s.heap.get? b=some o'->a.get? b=some o')->
   a.get? s.heap.objs.size=some { cls:=.type "list",dict:=none,data:=.seq c.toArray d,slots:=#[] }->EP X x σ Q (.ref s.heap.objs.size) { s with heap:=a }:=λ c f g a d kp e=>
  ⟨.ref s.heap.objs.size,_,I.laid (t':=s.toks) kp (A0 _) (show ObjOk X.prog X.w _ a _ (.lst ys) from ⟨g,c,d,f,e⟩),rfl,q _ (I.hok.fresh (A0 _))⟩
 rcases i with i|i
 ·obtain ⟨c,f,j,g⟩:=I.list i;have v:=f.length;obtain ⟨o,m,k,n,hd⟩:=j.isList;exact call_list_seq p (.inl rfl) m k hd (λ a d kp e=>fin c f g a d kp e) (by simp only [L0]<;>omega)
 ·obtain ⟨c,f,j,g⟩:=I.tuple i;have v:=f.length;obtain ⟨o,m,k,n,hd⟩:=j;exact call_list_seq p (.inr rfl) m k hd (λ a d kp e=>fin c f g a d kp e) (by simp only [L0]<;>omega)
theorem z2l:CallR X (.type "tuple") (λ xs H Q=>∃p ys,xs=[.ref p]/\((SqL X.K H p ys/\∀l,H l=none->Q (.ref l) (upd H l (.tup ys)))\/(SqT X.K H p ys/\Q (.ref p) H))):=by
 intro k s σ H xs v Q I r h;obtain ⟨p,ys,rfl,h⟩:=h;obtain ⟨u,rfl,m⟩:=vals1 r;cases m;rcases h with ⟨d,q⟩|⟨d,q⟩
 ·obtain ⟨g,f,c,i⟩:=I.list d;have t:=f.length;refine call_tuple_list c.isList (λ a kp=>?_) (by simp only [L0]<;>omega);have j:Inv X k σ H { s with heap:=a }:=I.kept (t':=s.toks) kp;have n:Inv X k σ (upd H a.objs.size (.tup ys)) { s with heap:=a.push { cls:=.type "tuple",data:=.seq g.toArray } }:=
   j.laid (t':=s.toks) (λ b o e=>x0 _ e) (A0 _) (show ObjOk X.prog X.w _ _ _ (.tup ys) from ⟨i,g,f,IsTupN.new _ _⟩)
  exact ⟨.ref a.objs.size,_,n,rfl,q _ (j.hok.fresh (A0 _))⟩
 ·obtain ⟨g,f,c,i⟩:=I.tuple d;exact call_tuple_same c ⟨.ref p,H,I,rfl,q⟩
def tyV (K:c0) (T:String) (x:V) (H:Hp):Prop:=match x with
 | .str _=>T = "str"
 | .int _=>T = "int"
 | .ref p=>(T = "list"/\∃xs,SqL K H p xs)\/(T = "tuple"/\∃o,K.lookup p=some o/\o.cls=.type "tuple"/\o.dict=none)\/
   (T = "dict"/\((∃kvs,H p=some (.dK kvs))\/∃kvs,H p=some (.dT kvs)))\/(T = "set"/\∃S n,H p=some (.set S n))
 | _=>False
theorem tyV_is {pins:List (Addr×Obj)} {σ:St} {H:Hp} {s:y0} {T:String} {x:V} {v:Value} (I:Inv X pins σ H s) (r:RelV x v) (ty:tyV X.K T x H) :
  s.TypeIs v T/\∀a,v=.ref a->∃ob,s.heap.get? a=some ob/\ob.dict=none:=by
 cases x with
 | str z=>obtain ⟨t,rfl⟩:=r;cases (show T = "str" from ty);exact ⟨typeIs_str s z t,λ _ e=>nomatch e⟩
 | int i=>obtain ⟨t,rfl⟩:=r;cases (show T = "int" from ty);exact ⟨typeIs_int s i t,λ _ e=>nomatch e⟩
 | ref p=>
  cases r;rcases ty with ⟨rfl,k,h⟩|⟨rfl,o,b,hc,hd⟩|⟨rfl,b⟩|⟨rfl,S,n,b⟩
  ·obtain ⟨l,_,g,_⟩:=I.list h;refine ⟨g.isList.typeIs,λ a e=>?_⟩;cases e;obtain ⟨o,n,e,c,hd,_⟩:=g;exact ⟨o,e,hd⟩
  ·refine ⟨⟨o,I.kIn p o b,hc⟩,λ a e=>?_⟩;cases e;exact ⟨o,I.kIn _ o b,hd⟩
  ·have z :∃o,s.heap.get? p=some o/\o.ExactDict:=by
    rcases b with ⟨j,b⟩|⟨j,b⟩
    ·obtain ⟨_,_,_,_,o,_,_,e,d,_⟩:=I.hok p _ b;exact ⟨o,e,d⟩
    ·obtain ⟨_,_,_,_,o,_,_,e,d,_⟩:=I.hok p _ b;exact ⟨o,e,d⟩
   obtain ⟨o,e,d⟩:=z;refine ⟨⟨o,e,d.1⟩,λ a f=>?_⟩;cases f;exact ⟨o,e,d.2.1⟩
  ·obtain ⟨o,_,_,_,e,d,_⟩:=I.hok p _ b;refine ⟨⟨o,e,d.1⟩,λ a f=>?_⟩;cases f;exact ⟨o,e,d.2.1⟩
 | _=>exact N4 ty
noncomputable def tBM (K:c0) (T:String) (r:V->List V->Hp->VK->Prop) (to:TE) (t:TA):TE:=λ σ H Q=>to σ H λ x H1=>tyV K T x H1/\t σ H1 λ xs H2=>r x xs H2 Q
variable {o e:Expr} {es:List Expr} {to:TE} {t:TA} {name:Str} {apos cpos:Pos} {T id:String} {r:V->List V->Hp->VK->Prop}
theorem pe_bm (pa:PlainAttrs T) (slot:Slot T name id) (hty:typeOf (.builtin id)=C3 (.type "method_descriptor")) (hm:MtR X id r) (ho:PE X o to) (ha:PA X (e :: es) t)
  (hbase:W6 o name X.env (P3 o X.env)=P3 o X.env:=by rfl)
  (hfew:((j5 cpos (F1 (e :: es) X.env)).all (λ x=>!x.1) && (backToKw cpos (o9 [] X.env)).all (λ x=>x.1.isSome)
   && decide ((e :: es).length + ([]:List N7).length + (if ([]:List N7).isEmpty then 0 else 1) < 30))=true:=by rfl)
  (hline:(apos.endLine == cpos.line)=true:=by rfl) (hs:F1 (e :: es) X.env=(false,P3 e X.env) :: F1 es X.env:=by rfl) (hplain:(j5 cpos (F1 es X.env)).any (·.1)=false:=by rfl) :
  PE X (.Call (.Attribute o name apos) (e :: es) [] cpos) (tBM X.K T r to t):=by
 intro a s σ H Q I h;refine wpAny_Call_method_late hbase hfew hline rfl (thn (ho a s σ H _ I h) λ v d ⟨x,H1,I1,r1,ty,q1⟩=>?_);obtain ⟨i,c⟩:=tyV_is I1 r1 ty;refine ⟨T,id,pa,slot,hty,i,c,?_⟩;have b:=ha cpos a d σ H1 _ I1 q1;rw [hs] at b⊢;refine n5 (by show (false || (j5 cpos (F1 es X.env)).any (·.1))=false;rw [hplain]<;>rfl) (z7 ?_);exact thn b λ g f ⟨vs,H2,I2,r2,q2⟩=>hm a f σ H2 x vs v g Q I2 r1 r2 q2
end
def MtM (X:Cx) (id:String) (r:V->List V->Hp->VK->Prop):Prop:=
 ∀(pins:List (Addr×Obj)) (s:y0) (σ:St) (H:Hp) (x:V) (xs:List V) (v:Value) (us:List Value) (Q:VK),Inv X pins σ H s->RelV x v->Vals xs us->r x xs H Q->
  P0 (V0 X.prog X.w) X.A (call (.builtin id) (v :: us)) (EP X pins σ Q) X.xe s
theorem Vals.one :∀{x:V} {us:List Value},Vals [x] us->∃u,us=[u]/\RelV x u
 | _,_,.cons r .nil=>⟨_,rfl,r⟩
section
variable {X:Cx} {pins:List (Addr×Obj)} {σ:St} {H:Hp} {s:y0} {l b:Addr} {xs ys zs:List V}
theorem Inv.lset {its its':List Value} {n:Nat} {f:Array Value->Array Value} {t':Nat} (I:Inv X pins σ H s) (hH:H l=some (.lst xs))
  (e:s.heap.get? l=some { cls:=.type "list",data:=.seq its.toArray n }) (hf:f its.toArray=its'.toArray) (hv:Vals ys its') (hz:ys.length<=sizeLine) :
  Inv X pins σ (upd H l (.lst ys)) { s with heap:=s.heap.update l (G1 f),toks:=t' }:=by
 have q:=PySem.IsL.update e f;rw [hf] at q;refine I.write (x:=l) (e:=l) (by rw [hH];exact trivial) (.inl rfl) (λ c u a b=>(R6 s.heap (G1 f) (n3 a)).trans b) ⟨_,q⟩ ?_;exact ⟨hz,its',_,hv,q⟩
theorem Inv.lnew {its:List Value} {t':Nat} (I:Inv X pins σ H s) (hv:Vals ys its) (hz:ys.length<=sizeLine) :
  Inv X pins σ (upd H s.heap.objs.size (.lst ys)) { s with heap:=s.heap.push { cls:=.type "list",data:=.seq its.toArray },toks:=t' }:=
 I.laid (λ _ _ q=>x0 _ q) (A0 _) ⟨hz,its,0,hv,I0 _ rfl⟩
theorem Inv.fresh (I:Inv X pins σ H s):H s.heap.objs.size=none:=I.hok.fresh (A0 _)
theorem Inv.lstM (I:Inv X pins σ H s) (hH:H l=some (.lst xs)):xs.length<=sizeLine/\∃(its:List Value) (n:Nat),Vals xs its/\xs.length=its.length/\s.heap.get? l=some { cls:=.type "list",data:=.seq its.toArray n }:=by obtain ⟨z,its,n,r,e⟩:=I.hok l _ hH;exact ⟨z,its,n,r,r.length,e⟩
end
section
variable {X:Cx}
def z9n:V->List V->Hp->VK->Prop:=λ x vs H Q=>∃l xs y,x=.ref l/\vs=[y]/\H l=some (.lst xs)/\xs.length < sizeLine/\Q .non (upd H l (.lst (xs++[y])))
theorem zcw:MtM X "list.append" z9n:=by intro o s σ H x j v k Q I c f h;obtain ⟨l,g,y,rfl,rfl,a,i,q⟩:=h;cases c;obtain ⟨u,rfl,d⟩:=f.one;obtain ⟨z,b,n,r,m,e⟩:=I.lstM a;refine call_meets F.slot_list_append ⟨_,e,rfl⟩ F.entry_list_append (F.args_list_append_2 _ _) (PySem.list_append l b.toArray n u (by rw [L0];omega)) ⟨e,?_⟩;refine ⟨.non,_,I.lset (its':=b++[u]) a e (by simp) (r.append (.cons d .nil)) ?_,rfl,q⟩;rw [F0,U3];omega
noncomputable def rCat:R2:=λ x y H Q=>∃l b xs zs,x=.ref l/\y=.ref b/\H l=some (.lst xs)/\H b=some (.lst zs)/\xs.length + zs.length<=sizeLine/\∀p,H p=none->Q (.ref p) (upd H p (.lst (xs++zs)))
theorem op_cat:OpR X (Z4 .Add) rCat:=by
 intro D s σ H x y v u Q I d j h;obtain ⟨l,b,o,w,rfl,rfl,f,g,p,q⟩:=h;cases d;cases j;obtain ⟨z,c,n,r,B,e⟩:=I.lstM f;obtain ⟨C,a,A,m,t,i⟩:=I.lstM g;refine PySem.P.add_list e i ?_ (by rw [L0,L0];omega);have k:c.toArray++a.toArray=(c++a).toArray:=by simp
 rw [k];exact ⟨.ref _,_,I.lnew (t':=s.toks) (r.append m) (by rw [F0];omega),rfl,q _ I.fresh⟩
end
section
variable {prog:Program} {w:N0} {A:B2} {E:Value->y0->Prop} {s:y0}
set_option maxRecDepth 100000 in
end
section
variable {κ:Type} [DecidableEq κ]
noncomputable def valV (kvs:List (κ×V)) (k:κ):Option V:=(kvs.find? λ kv=>decide (kv.1=k)).map (·.2)
noncomputable def putK (kvs:List (κ×V)) (k:κ) (v:V):List (κ×V):=
 if (kvs.any λ kv=>decide (kv.1=k))=true then kvs.map (λ kv=>if kv.1=k then (kv.1,v) else kv) else kvs++[(k,v)]
noncomputable def dropK (kvs:List (κ×V)) (k:κ):List (κ×V):=kvs.filter λ kv=>decide (kv.1≠k)
theorem z0o {p:κ×V} {r:List (κ×V)} {k:κ} (e:p.1=k):valV (p :: r) k=some p.2:=by simp [valV,V3,e]
theorem z0p {p:κ×V} {r:List (κ×V)} {k:κ} (e:¬ p.1=k):valV (p :: r) k=valV r k:=by simp [valV,V3,e]
theorem z4b (k:κ) :∀kvs:List (κ×V),(kvs.any λ kv=>decide (kv.1=k))=(valV kvs k).isSome
 | []=>rfl
 | p :: r=>by
  rw [C6];by_cases e:p.1=k
  ·simp only [z0o e,decide_eq_true e,Bool.true_or,Option.isSome_some]
  ·rw [z0p e,decide_eq_false e,Bool.false_or];exact z4b k r
theorem zb6 (k j:κ) (y:V) :∀kvs:List (κ×V),valV (kvs.map λ kv=>if kv.1=k then (kv.1,y) else kv) j=(valV kvs j).map λ x=>if j=k then y else x
 | []=>rfl
 | p :: r=>by
  have a:=zb6 k j y r;rw [T0];by_cases h:p.1=k
  ·rw [if_pos h];by_cases e:p.1=j
   ·rw [z0o (p:=(p.1,y)) e,z0o e,L6,if_pos (e.symm.trans h)]
   ·rw [z0p (p:=(p.1,y)) e,z0p e,a]
  ·rw [if_neg h];by_cases e:p.1=j
   ·rw [z0o (p:=p) e,z0o e,L6,if_neg (λ z=>h (e.trans z))]
   ·rw [z0p (p:=p) e,z0p e,a]
theorem z7l (k j:κ) (y:V) :∀kvs:List (κ×V),valV kvs k=none->valV (kvs++[(k,y)]) j=if j=k then some y else valV kvs j
 | [],_=>by
  by_cases e:k=j
  ·rw [if_pos e.symm];exact z0o (p:=(k,y)) e
  ·rw [if_neg (λ z=>e z.symm)];exact z0p (p:=(k,y)) e
 | p :: r,hn=>by
  rw [List.cons_append];have a:¬ p.1=k:=λ z=>by rw [z0o z] at hn;cases hn
  rw [z0p a] at hn;have b:=z7l k j y r hn;by_cases e:p.1=j
  ·rw [z0o e,z0o e,if_neg (λ z=>a (e.trans z))]
  ·rw [z0p e,z0p e,b]
theorem z6t (kvs:List (κ×V)) (k j:κ) (y:V):valV (putK kvs k y) j=if j=k then some y else valV kvs j:=by
 unfold putK;by_cases a:(kvs.any λ b=>decide (b.1=k))=true
 ·rw [if_pos a,zb6];rw [z4b] at a;by_cases e:j=k
  ·obtain ⟨x,c⟩:=Option.isSome_iff_exists.mp a;rw [if_pos e,e,c,L6,if_pos rfl]
  ·rw [if_neg e];cases valV kvs j with
   | none=>rfl
   | some x=>rw [L6,if_neg e]
 ·rw [if_neg a];refine z7l k j y kvs ?_;rw [z4b] at a;cases q:valV kvs k with
  | none=>rfl
  | some x=>rw [q] at a;exact (a rfl).elim
theorem z1n (kvs:List (κ×V)) (k:κ) (v:V):(putK kvs k v).length<=kvs.length + 1:=by
 unfold putK;split
 ·rw [G0];omega
 ·rw [F0,i1,A4];omega
theorem RelO.isSome_eq {o:Option V} {u:Option Value} (r:RelO o u):o.isSome=u.isSome:=by
 cases o with
 | none=>cases u with
  | none=>rfl
  | some _=>exact (show False from r).elim
 | some _=>cases u with
  | none=>exact (show False from r).elim
  | some _=>rfl
theorem RelO.getD {o:Option V} {u:Option Value} {d:V} {d':Value} (r:RelO o u) (rd:RelV d d'):RelV (o.getD d) (u.getD d'):=by
 cases o with
 | none=>cases u with
  | none=>exact rd
  | some _=>exact (show False from r).elim
 | some _=>cases u with
  | none=>exact (show False from r).elim
  | some _=>exact r
theorem KV.val {kvs:List (κ×V)} {vs:List (κ×Value)} (r:KV kvs vs) (k:κ):RelO (valV kvs k) (b8 vs k):=by
 unfold KV at r;induction r with
 | nil=>exact True.intro
 | @cons p q ps qs h t ih=>
  obtain ⟨c,d⟩:=h;by_cases e:p.1=k
  ·have a:q.1=k:=c.symm.trans e;have b:b8 (q :: qs) k=some q.2:=by simp [b8,V3,a]
   rw [z0o e,b];exact d
  ·have a:¬ q.1=k:=λ z=>e (c.trans z);have b:b8 (q :: qs) k=b8 qs k:=by simp [b8,V3,a]
   rw [z0p e,b];exact ih
theorem KV.any {kvs:List (κ×V)} {vs:List (κ×Value)} (r:KV kvs vs) (k:κ):(kvs.any λ kv=>decide (kv.1=k))=vs.any λ kv=>decide (kv.1=k):=by
 unfold KV at r;induction r with
 | nil=>rfl
 | cons h t ih=>rw [C6,C6,ih,h.1]
theorem KV.repl {kvs:List (κ×V)} {vs:List (κ×Value)} (r:KV kvs vs) (k:κ) {y:V} {u:Value} (ry:RelV y u) :
  KV (kvs.map λ kv=>if kv.1=k then (kv.1,y) else kv) (vs.map λ kv=>if kv.1=k then (kv.1,u) else kv):=by
 unfold KV at r⊢;induction r with
 | nil=>exact .nil
 | @cons p q ps qs h t ih=>
  rw [T0,T0];refine .cons ?_ ih;obtain ⟨a,b⟩:=h;by_cases e:p.1=k
  ·rw [if_pos e,if_pos (a.symm.trans e)];exact ⟨a,ry⟩
  ·rw [if_neg e,if_neg (λ z=>e (a.trans z))];exact ⟨a,b⟩
theorem KV.put {kvs:List (κ×V)} {vs:List (κ×Value)} (r:KV kvs vs) (k:κ) {y:V} {u:Value} (ry:RelV y u):KV (putK kvs k y) (stored vs k u):=by
 unfold putK stored;rw [r.any k];by_cases e:(vs.any λ a=>decide (a.1=k))=true
 ·rw [if_pos e,if_pos e];exact r.repl k ry
 ·rw [if_neg e,if_neg e];exact Paired.snoc r ⟨rfl,ry⟩
theorem KV.drop {kvs:List (κ×V)} {vs:List (κ×Value)} (r:KV kvs vs) (k:κ):KV (dropK kvs k) (without vs k):=by
 unfold KV at r⊢;unfold dropK without;induction r with
 | nil=>exact .nil
 | @cons p q ps qs h t ih=>
  obtain ⟨c,d⟩:=h;rw [N5,N5];by_cases e:p.1=k
  ·have a:¬ decide (p.1≠k)=true:=by simp [e]
   have b:¬ decide (q.1≠k)=true:=by simp [c.symm.trans e]
   rw [if_neg a,if_neg b];exact ih
  ·have f:¬ q.1=k:=λ z=>e (c.trans z);have a:decide (p.1≠k)=true:=by simp [e]
   have b:decide (q.1≠k)=true:=by simp [f]
   rw [if_pos a,if_pos b];exact .cons ⟨c,d⟩ ih
theorem KV.length {kvs:List (κ×V)} {vs:List (κ×Value)} (r:KV kvs vs):kvs.length=vs.length:=L7 r
theorem zea (kvs:List (κ×V)) (k:κ):(dropK kvs k).length<=kvs.length:=X1 _ _
end
theorem kV_is {P:Program} {w:N0} {k:Key} {u:Value} (r:RelV (kV k) u):(z0g P w).is k u=true:=by
 cases k with
 | inl i=>obtain ⟨t,e⟩:=(show∃t,u=Y5 i t from r);subst e;exact z97 P w i t
 | inr x=>obtain ⟨t,e⟩:=(show∃t,u=i8 x t from r);subst e;exact z8g P w x t
theorem z7g {P:Program} {w:N0} :∀{ks:List Key} {us:List Value},Vals (ks.map kV) us->ItemsAre (z0g P w) ks us
 | [],_,r=>by rw [Q6] at r;cases r;exact .nil
 | k :: ks,_,r=>by
  rw [T0] at r;cases r with
  | cons h t=>exact .cons (kV_is h) (z7g t)
abbrev KT (H:Hp):List (List Key×V)->List (List Key×Addr×Value)->Prop:=a7 λ p q=>p.1=q.1/\H q.2.1=some (.tup (p.1.map kV))/\RelV p.2 q.2.2
theorem KT.val {H:Hp} {kvs:List (List Key×V)} {xs:List (List Key×Addr×Value)} (r:KT H kvs xs) (k:List Key):RelO (valV kvs k) ((p8 xs k).map (·.2)):=by
 induction r with
 | nil=>exact True.intro
 | @cons p q ps qs h t ih=>
  obtain ⟨c,_,d⟩:=h;by_cases e:p.1=k
  ·have a:q.1=k:=c.symm.trans e;have b:p8 (q :: qs) k=some q.2:=by simp [p8,V3,a]
   rw [z0o e,b];exact d
  ·have a:¬ q.1=k:=λ z=>e (c.trans z);have b:p8 (q :: qs) k=p8 qs k:=by simp [p8,V3,a]
   rw [z0p e,b];exact ih
theorem KT.repl {H:Hp} {kvs:List (List Key×V)} {xs:List (List Key×Addr×Value)} (r:KT H kvs xs) (k:List Key) {y:V} {u:Value} (ry:RelV y u) :
  KT H (kvs.map λ kv=>if kv.1=k then (kv.1,y) else kv) (xs.map (putAt k u)):=by
 induction r with
 | nil=>exact .nil
 | @cons p q ps qs h t ih=>
  rw [T0,T0];refine .cons ?_ ih;obtain ⟨a,b,c⟩:=h;unfold putAt;by_cases e:p.1=k
  ·rw [if_pos e,if_pos (a.symm.trans e)];exact ⟨a,b,ry⟩
  ·rw [if_neg e,if_neg (λ z=>e (a.trans z))];exact ⟨a,b,c⟩
theorem KT.put {H:Hp} {kvs:List (List Key×V)} {xs:List (List Key×Addr×Value)} (r:KT H kvs xs) (k:List Key) {b:Addr} {y:V} {u:Value} (hb:H b=some (.tup (k.map kV))) (ry:RelV y u) :
  KT H (putK kvs k y) (storedH xs k b u):=by
 have e:(kvs.any λ a=>decide (a.1=k))=(p8 xs k).isSome:=by rw [z4b,(r.val k).isSome_eq,r6]
 unfold putK storedH;rw [e];by_cases q:(p8 xs k).isSome=true
 ·rw [if_pos q,if_pos q];exact r.repl k ry
 ·rw [if_neg q,if_neg q];exact Paired.snoc r ⟨rfl,hb,ry⟩
theorem KT.keeps {H H':Hp} {kvs:List (List Key×V)} {xs:List (List Key×Addr×Value)} (r:KT H kvs xs) (ht :∀b ys,H b=some (.tup ys)->H' b=some (.tup ys)):KT H' kvs xs:=
 Paired.mapP r λ _ _ z=>⟨z.1,ht _ _ z.2.1,z.2.2⟩
section
variable {P:Program} {w:N0} {H:Hp} {h:Heap} {a:Addr}
theorem rd_of {u:HO} (ok:HOk P w H h) (e:Rd H a u):ObjOk P w H h a u:=e.ok ok
theorem dk_rd {kvs:List (Key×V)} (ok:HOk P w H h) (e:Rd H a (.dK kvs)):kvs.length<=sizeLine/\(a == v4)=false/\∃vs,KV kvs vs/\h.DictOf (z0g P w) a vs:=
 show ObjOk P w H h a (.dK kvs) from rd_of ok e
theorem dk_of {kvs:List (Key×V)} (ok:HOk P w H h) (e:H a=some (.dK kvs)):kvs.length<=sizeLine/\(a == v4)=false/\∃vs,KV kvs vs/\h.DictOf (z0g P w) a vs:=dk_rd ok (.inl e)
theorem key_of {ks:List Key} (ok:HOk P w H h) (e:H a=some (.tup (ks.map kV))):(J5 (z0g P w)).is h ks a:=by
 obtain ⟨_,c,r,⟨o,f,b,n,d⟩,_⟩:=(show ObjOk P w H h a (.tup (ks.map kV)) from ok a _ e)
 exact ⟨o,c.toArray,n,f,b,d,by simpa using z7g r⟩
theorem dt_rd {kvs:List (List Key×V)} (ok:HOk P w H h) (e:Rd H a (.dT kvs)):kvs.length<=sizeLine/\(a == v4)=false/\
  ∃xs,KT H kvs xs/\h.DictOfH (J5 (z0g P w)) a xs:=by
 obtain ⟨z,y,xs,r,o,c,d,k,g,j,f,i⟩:=(show ObjOk P w H h a (.dT kvs) from rd_of ok e)
 refine ⟨z,y,xs,r,o,c,d,k,g,j,f,λ x b=>?_,i⟩;have all :∀{l:List (List Key×V)} {m:List (List Key×Addr×Value)},KT H l m->∀x∈m,(J5 (z0g P w)).is h x.1 x.2.1:=by
  intro l m q;induction q with
  | nil=>intro x b;exact nomatch b
  | @cons p q ps qs hq t ih=>
   intro x b;rcases List.mem_cons.mp b with e|b
   ·subst e;exact key_of ok (by rw [<-hq.1];exact hq.2.1)
   ·exact ih x b
 exact all r x b
theorem dt_of {kvs:List (List Key×V)} (ok:HOk P w H h) (e:H a=some (.dT kvs)):kvs.length<=sizeLine/\(a == v4)=false/\
  ∃xs,KT H kvs xs/\h.DictOfH (J5 (z0g P w)) a xs:=dt_rd ok (.inl e)
end
def DGet (H:Hp) (a:Addr) (y:V) (r:Option V):Prop:=
 (∃kvs k,Rd H a (.dK kvs)/\y=kV k/\r=valV kvs k)\/∃kvs k b,Rd H a (.dT kvs)/\y=.ref b/\H b=some (.tup (k.map kV))/\r=valV kvs k
def DPut (H:Hp) (a:Addr) (y v:V) (H':Hp):Prop:=
 (∃kvs k,H a=some (.dK kvs)/\y=kV k/\kvs.length < sizeLine/\H'=upd H a (.dK (putK kvs k v)))\/
 ∃kvs k b,H a=some (.dT kvs)/\y=.ref b/\H b=some (.tup (k.map kV))/\kvs.length < sizeLine/\H'=upd H a (.dT (putK kvs k v))
theorem DGet.k {H:Hp} {a:Addr} {kvs:List (Key×V)} {k:Key} (e:H a=some (.dK kvs)):DGet H a (kV k) (valV kvs k):=.inl ⟨kvs,k,.inl e,rfl,rfl⟩
theorem DPut.k {H:Hp} {a:Addr} {kvs:List (Key×V)} {k:Key} {v:V} (e:H a=some (.dK kvs)) (hl:kvs.length < sizeLine):DPut H a (kV k) v (upd H a (.dK (putK kvs k v))):=.inl ⟨kvs,k,e,rfl,hl,rfl⟩
section
variable {X:Cx} {pins:List (Addr×Obj)} {σ:St} {H:Hp} {s:y0} {a:Addr} {y v:V} {u r:Value} {o:Option V} {A:B2} {E:Value->y0->Prop}
theorem Inv.big (I:Inv X pins σ H s):v4 < s.heap.objs.size:=by have h:Q1 < s.heap.objs.size:=(I.mod.glob.keeps I.bk).lt;exact G5 (by decide) h
theorem zc8 {Q:Value->y0->Prop} (hu:A.units + 1 < cLine) (I:Inv X pins σ H s) (g:DGet H a y (some v)) (ry:RelV y u) (h :∀w' s',Inv X pins σ H s'->RelV v w'->Q w' s') :
  P0 (V0 X.prog X.w) A (d8 (.ref a) u) Q E s:=by
 rcases g with ⟨q,k,e,c,l⟩|⟨q,k,b,e,c,eb,l⟩
 ·subst c;obtain ⟨z,hd,r,i,j⟩:=dk_rd I.hok e;obtain ⟨w',f,d⟩:=RelO.some_of (v:=v) (o:=b8 r k) (by rw [l];exact i.val k);exact wpAny_getItem_of (kV_is ry) j.mapOf f (h w' _ (I.tok _) d)
 ·subst c;cases (show u=E1 b from ry);obtain ⟨z,hd,n,i,j⟩:=dt_rd I.hok e;obtain ⟨w',f,d⟩:=RelO.some_of (v:=v) (o:=(p8 n k).map (·.2)) (by rw [l];exact i.val k);obtain ⟨p,t,m⟩:=Option.map_eq_some_iff.mp f;refine wpAny_getItem_heap (D5 hu) (key_of I.hok eb) j t ?_;rw [m];exact h w' _ (I.tok _) d
theorem d_in {Q:Value->y0->Prop} (hu:A.units + 1 < cLine) (I:Inv X pins σ H s) (g:DGet H a y o) (ry:RelV y u) (h :∀s',Inv X pins σ H s'->Q (.bool o.isSome) s') :
  P0 (V0 X.prog X.w) A (U2 .In u (.ref a)) Q E s:=by
 rcases g with ⟨i,k,e,c,l⟩|⟨i,k,b,e,c,eb,l⟩
 ·subst c;obtain ⟨z,hd,m,d,f⟩:=dk_rd I.hok e;refine wpAny_in_of (kV_is ry) hd f.mapOf ?_;rw [<-(d.val k).isSome_eq,<-l];exact h _ (I.tok _)
 ·subst c;cases (show u=E1 b from ry);obtain ⟨z,hd,j,d,f⟩:=dt_rd I.hok e;refine wpAny_in_heap (D5 hu) (key_of I.hok eb) hd f ?_;have q:=(d.val k).isSome_eq;rw [r6] at q;rw [<-q,<-l];exact h _ (I.tok _)
theorem zfc {Q:Value->y0->Prop} (hu:A.units + 1 < cLine) (I:Inv X pins σ H s) (g:DGet H a y o) (ry:RelV y u) (h :∀s',Inv X pins σ H s'->Q (.bool (!o.isSome)) s') :
  P0 (V0 X.prog X.w) A (U2 .NotIn u (.ref a)) Q E s:=by
 rcases g with ⟨i,k,e,c,l⟩|⟨i,k,b,e,c,eb,l⟩
 ·subst c;obtain ⟨z,hd,m,d,f⟩:=dk_rd I.hok e;refine wpAny_notIn_of (kV_is ry) hd f.mapOf ?_;rw [<-(d.val k).isSome_eq,<-l];exact h _ (I.tok _)
 ·subst c;cases (show u=E1 b from ry);obtain ⟨z,hd,j,d,f⟩:=dt_rd I.hok e;refine wpAny_notIn_heap (D5 hu) (key_of I.hok eb) hd f ?_;have q:=(d.val k).isSome_eq;rw [r6] at q;rw [<-q,<-l];exact h _ (I.tok _)
theorem z7x {h':Heap} {t':Nat} {ob:HO} (I:Inv X pins σ H s) (mu:Mut (H a)) (hs:Z5 a s.heap h') (he :∃q,h'.get? a=some q) (new:ObjOk X.prog X.w (upd H a ob) h' a ob) :
  Inv X pins σ (upd H a ob) { s with heap:=h',toks:=t' }:=
 I.write (x:=a) (e:=a) mu (.inl rfl) (λ b q c z=>(hs.2 b c).trans z) he new
theorem dk_new {P:Program} {w:N0} {H':Hp} {h':Heap} {kvs:List (Key×V)} {vs:List (Key×Value)} (z:kvs.length<=sizeLine) (hd:(a == v4)=false) (rel:KV kvs vs) (dd:h'.DictOf (z0g P w) a vs) :
  ObjOk P w H' h' a (.dK kvs):=⟨z,hd,vs,rel,dd⟩
theorem zbv {H':Hp} {Q:Unit->y0->Prop} (hu:A.units + 1 < cLine) (I:Inv X pins σ H s) (g:DPut H a y v H') (ry:RelV y u) (rv:RelV v r) (h :∀s',Inv X pins σ H' s'->Q () s') :
  P0 (V0 X.prog X.w) A (setItem (.ref a) u r) Q E s:=by
 rcases g with ⟨d,k,e,n,l,t⟩|⟨d,k,b,e,n,eb,l,t⟩
 ·subst n t;obtain ⟨z,hd,G,f,p⟩:=dk_of I.hok e;have m:G.length<=sizeLine:=by rw [<-f.length];exact z
  have o:(putK d k v).length<=sizeLine:=by have:=z1n d k v;omega
  refine wpAny_setItem_pairs (hsz:=m) (kV_is ry) p λ B i x=>h _ ?_;have K :∃q,B.get? a=some q:=let ⟨q,_,_,j,_⟩:=i;⟨q,j⟩;exact z7x I (by rw [e];exact True.intro) x K (dk_new o hd (f.put k rv) i)
 ·subst n t;cases (show u=E1 b from ry);obtain ⟨z,hd,F,f,p⟩:=dt_of I.hok e;have m:F.length<=sizeLine:=by rw [<-L7 f];exact z
  have o:(putK d k v).length<=sizeLine:=by have:=z1n d k v;omega
  refine wpAny_setItem_heap (hsz:=m) (D5 hu) (key_of I.hok eb) p λ B i x=>h _ ?_;obtain ⟨q,L,D,j,N,O,M,_,J⟩:=i;refine z7x I (by rw [e];exact True.intro) x ⟨q,j⟩ ⟨o,hd,_,(f.put k eb rv).keeps λ c P C=>?_,q,L,D,j,N,O,M,J⟩;rw [upd_ne (ne_of C e (λ z=>nomatch z))];exact C
end
section
variable {X:Cx} {pins:List (Addr×Obj)} {σ:St} {H:Hp} {s:y0} {a:Addr} {kvs:List (Key×V)} {k:Key} {u:Value} {A:B2} {E:Value->y0->Prop}
theorem d_pop {v:V} {more:List Value} {Q:Value->y0->Prop} (I:Inv X pins σ H s) (e:H a=some (.dK kvs)) (ry:RelV (kV k) u) (l:valV kvs k=some v) (hm:more=[]\/∃x,more=[x])
  (h :∀w' s',Inv X pins σ (upd H a (.dK (dropK kvs k))) s'->RelV v w'->Q w' s'):P0 (V0 X.prog X.w) A (call (.builtin "dict.pop") (.ref a :: u :: more)) Q E s:=by
 obtain ⟨z,hd,d,b,f⟩:=dk_of I.hok e;obtain ⟨w',r,n⟩:=RelO.some_of (v:=v) (o:=b8 d k) (by rw [<-l];exact b.val k);have y:(keyPart u).isSome=true:=by
  cases k with
  | inl i=>obtain ⟨t,q⟩:=(show∃t,u=Y5 i t from ry);subst q;rfl
  | inr x=>obtain ⟨t,q⟩:=(show∃t,u=i8 x t from ry);subst q;rfl
 have p:argsOk "dict.pop" ⟨.ref a :: u :: more,[]⟩:=by
  rcases hm with q|⟨x,q⟩
  ·subst q;exact PySem.F.args_dict_pop_2 _ _
  ·subst q;exact PySem.F.args_dict_pop_3 _ _ _
 refine S8 r9 f.typeIs PySem.F.entry_dict_pop p (meets_dict_pop_there (z0g X.prog X.w) a (kV_is ry) more hm y)
  ⟨d,w',f,by rw [<-b.length];exact z,r,λ m c g=>h w' _ ?_ n⟩
 have j :∃q,m.get? a=some q:=let ⟨q,_,_,hq,_⟩:=c;⟨q,hq⟩;exact z7x I (by rw [e];exact True.intro) g j (dk_new (J0 (zea kvs k) z) hd (b.drop k) c)
end
def NoSl (i:Expr):Prop:=∀ov iv,m9 i false ov iv=operate [ov,iv] (d8 ov iv)
theorem zfm {prog:Program} {w:N0} {A:B2} {E:Value->y0->Prop} {s:y0} {env:Env} {value slice:Expr} {pos:Pos} {T id:String} {Q:Value->y0->Prop}
  (hl:typeLookup (.type T) "__getitem__" = C3 (some (.builtin id))) (hs:NoSl slice)
  (h:P0 (V0 prog w) A (P3 value env) (λ o s₁=>P0 (V0 prog w) A (P3 slice env) (λ i s₂=>s₂.TypeIs o T/\P0 (V0 prog w) A (d8 o i) Q E s₂) E s₁) E s) :
  P0 (V0 prog w) A (P3 (.Subscript value slice pos) env) Q E s:=by
 refine Subscript_ (y3 h (λ o s₁ d=>y3 d (λ i s₂ a=>?_) λ _ _ x=>x) λ _ _ x=>x);obtain ⟨b,a⟩:=a;unfold subscriptTail;refine v0 ?_;rw [getitemInPython_of_ne b.not_modules];refine v0 (wpAny_specialOf b hl ?_);have fin:P0 (V0 prog w) A (m9 slice false o i) (λ r c=>P0 (V0 prog w) A (letTemporaryGo value o r >>= λ _=>C3 r) Q E c) E s₂:=by rw [hs o i];exact wpAny_operating (y3 a (λ r c e=>v0 (wpAny_letTemporaryGo (C0 e))) λ _ _ x=>x)
 first
  | exact C0 (v0 fin)
  | exact v0 (C0 (v0 fin))
  | exact v0 fin
theorem z98 {X:Cx} {pins:List (Addr×Obj)} {σ:St} {H:Hp} {s:y0} {a:Addr} {y:V} {o:Option V} (I:Inv X pins σ H s) (g:DGet H a y o):s.TypeIs (.ref a) "dict":=by
 rcases g with ⟨d,k,e,_,_⟩|⟨d,k,b,e,_,_,_⟩
 ·obtain ⟨_,_,h,_,c⟩:=dk_rd I.hok e;exact c.typeIs
 ·obtain ⟨_,_,f,_,c⟩:=dt_rd I.hok e;exact c.typeIs
noncomputable def tDGet (td ty:TE):TE:=λ σ H Q=>td σ H λ x H1=>ty σ H1 λ y H2=>∃a v,x=.ref a/\DGet H2 a y (some v)/\Q v H2
noncomputable def tDIn (ty td:TE):TE:=λ σ H Q=>ty σ H λ y H1=>td σ H1 λ x H2=>∃a o,x=.ref a/\DGet H2 a y o/\Q (.bl o.isSome) H2
noncomputable def zfd (ty td:TE):TE:=λ σ H Q=>ty σ H λ y H1=>td σ H1 λ x H2=>∃a o,x=.ref a/\DGet H2 a y o/\Q (.bl (!o.isSome)) H2
noncomputable def sDPut (td ty tv:TE):TS:=λ D σ H=>tv σ H λ v H1=>td σ H1 λ x H2=>ty σ H2 λ y H3=>∃a H4,x=.ref a/\DPut H3 a y v H4/\D.nx σ H4
section
variable {X:Cx} {o i e value:Expr} {pos pos' tpos:Pos} {td ty tv:TE}
theorem zbg (hu:X.A.units + 1 < cLine) (ho:PE X o td) (hi:PE X i ty) (hs:NoSl i):PE X (.Subscript o i pos) (tDGet td ty):=by intro b s σ H Q I h;refine zfm PySem.F.slot_dict_getitem.lookup hs (thn (ho b s σ H _ I h) λ u c ⟨x,H1,I1,rx,q1⟩=>thn (hi b c σ H1 _ I1 q1) λ l k ⟨y,H2,I2,ry,a,v,ex,g,q2⟩=>?_);subst ex;obtain rfl:u=E1 a:=rx;exact ⟨z98 I2 g,zc8 hu I2 g ry λ f j e d=>⟨v,H2,e,d,q2⟩⟩
theorem pc_din (hu:X.A.units + 1 < cLine) (hi:PE X i ty) (ho:PE X o td):PC X .In i o (tDIn ty td):=by intro b s σ H Q I h;refine thn (hi b s σ H _ I h) λ j c ⟨y,H1,I1,ry,q1⟩=>thn (ho b c σ H1 _ I1 q1) λ u f ⟨x,H2,I2,rx,a,ov,ex,g,q2⟩=>?_;subst ex;obtain rfl:u=E1 a:=rx;exact d_in hu I2 g ry λ e d=>⟨.bl ov.isSome,H2,d,rfl,q2⟩
theorem z89 (hu:X.A.units + 1 < cLine) (hi:PE X i ty) (ho:PE X o td):PC X .NotIn i o (zfd ty td):=by intro b s σ H Q I h;refine thn (hi b s σ H _ I h) λ j c ⟨y,H1,I1,ry,q1⟩=>thn (ho b c σ H1 _ I1 q1) λ u f ⟨x,H2,I2,rx,a,ov,ex,g,q2⟩=>?_;subst ex;obtain rfl:u=E1 a:=rx;exact zfc hu I2 g ry λ e d=>⟨.bl (!ov.isSome),H2,d,rfl,q2⟩
theorem z88 (hu:X.A.units + 1 < cLine) (ho:PE X o td) (hi:PE X i ty) (hv:PE X value tv) (hs:c8 value (some (.Subscript o i pos')) pos.line X.env=C3 false) :
  PS X (.Assign [.Subscript o i pos'] value pos) (sDPut td ty tv):=by
 intro b s σ H D I h;refine wpAny_Assign_Subscript (thn (hv b s σ H _ I h) λ r c ⟨v,H1,I1,rv,q1⟩=>thn (ho b c σ H1 _ I1 q1) λ u e ⟨x,H2,I2,rx,q2⟩=>thn (hi b e σ H2 _ I2 q2) λ k f ⟨y,H3,I3,ry,a,H4,ex,g,q3⟩=>?_) hs;subst ex;obtain rfl:u=E1 a:=rx;exact zbv hu I3 g ry rv λ j d=>⟨σ,H4,d,q3⟩
end
theorem zad {P:Program} {w:N0} {H:Hp} (h:Heap) (hb:v4 < h.objs.size):ObjOk P w H (h.push { cls:=.type "dict",data:=.dict #[] }) h.objs.size (.dK []):=
 ⟨D1 _,beq_eq_false_iff_ne.mpr (n3 (Q0 hb)),[],.nil,F9 h⟩
noncomputable def tDNewK:TE:=λ _ H Q=>∀p,H p=none->Q (.ref p) (upd H p (.dK []))
section
variable {X:Cx} {pos:Pos}
theorem z6i:PE X (.Dict [] [] pos) tDNewK:=λ b s σ H Q I h=>wpAny_Dict_empty ⟨.ref s.heap.objs.size,_,I.laid (a:=s.heap.objs.size) (o:=.dK []) (t':=s.toks) (λ _ _ q=>x0 _ q) (A0 _) (zad s.heap I.big),rfl,h _ (I.hok.fresh (A0 _))⟩
end
noncomputable def tPairs:List (TE×TE)->St->Hp->(List (V×V)->Hp->Prop)->Prop
 | [],_,H,Q=>Q [] H
 | (tk,tv) :: r,σ,H,Q=>tk σ H λ x H1=>tv σ H1 λ y H2=>tPairs r σ H2 λ ps H3=>Q ((x,y) :: ps) H3
abbrev VV:List (V×V)->List (Value×Value)->Prop:=a7 λ p q=>RelV p.1 q.1/\RelV p.2 q.2
def PPs (X:Cx) (pos:Pos) (keys:List (Option Expr)) (values:List Expr) (trs:List (TE×TE)):Prop:=
 ∀(pins:List (Addr×Obj)) (s:y0) (σ:St) (H:Hp) (Q:List (V×V)->Hp->Prop),Inv X pins σ H s->tPairs trs σ H Q->
  P0 (V0 X.prog X.w) X.A (evalPairs (pairTrees keys values X.env pos)) (λ vs s'=>∃ps H',Inv X pins σ H' s'/\VV ps vs/\Q ps H') X.xe s
theorem zfa {X:Cx} {pos:Pos}:PPs X pos [] [] []:=λ a s σ H Q I h=>pairTrees_nil_walk ⟨[],H,I,.nil,h⟩
theorem zek {X:Cx} {pos:Pos} {k v:Expr} {ks:List (Option Expr)} {vs:List Expr} {tk tv:TE} {trs:List (TE×TE)} (hk:PE X k tk) (hv:PE X v tv) (hr:PPs X pos ks vs trs) :
  PPs X pos (some k :: ks) (v :: vs) ((tk,tv) :: trs):=λ a s σ H Q I h=>
 pairTrees_cons_walk (thn (hk a s σ H _ I h) λ u b ⟨x,H1,I1,rx,q1⟩=>thn (hv a b σ H1 _ I1 q1) λ f c ⟨y,H2,I2,ry,q2⟩=>thn (hr a c σ H2 _ I2 q2) λ d e ⟨ps,H3,I3,rel,q3⟩=>⟨(x,y) :: ps,H3,I3,.cons ⟨rx,ry⟩ rel,q3⟩)
noncomputable def mergeK (kvs more:List (Key×V)):List (Key×V):=more.foldl (λ acc kv=>putK acc kv.1 kv.2) kvs
theorem KV.merge :∀{more:List (Key×V)} {rs:List (Key×Value)} {kvs:List (Key×V)} {vs:List (Key×Value)},KV more rs->KV kvs vs->KV (mergeK kvs more) (merged vs rs):=by
 intro more rs kvs vs r;unfold KV at r;induction r generalizing kvs vs with
 | nil=>intro q;exact q
 | @cons p q ps qs h t ih=>
  intro a;have e:KV (putK kvs p.1 p.2) (stored vs q.1 q.2):=by have:=a.put p.1 h.2;rw [<-h.1];exact this
  exact ih e
theorem z2q :∀(more kvs:List (Key×V)),(mergeK kvs more).length<=kvs.length + more.length
 | [],kvs=>by show kvs.length<=kvs.length + 0;omega
 | p :: r,kvs=>by have b:=z2q r (putK kvs p.1 p.2);have a:=z1n kvs p.1 p.2;show (mergeK (putK kvs p.1 p.2) r).length<=_;rw [i1];omega
theorem z5f {P:Program} {w:N0} :∀{kvs:List (Key×V)} {ws:List (Value×Value)},VV (kvs.map λ kv=>(kV kv.1,kv.2)) ws->∃rs,Carries (z0g P w) ws rs/\KV kvs rs
 | [],_,r=>by rw [Q6] at r;cases r;exact ⟨[],True.intro,.nil⟩
 | p :: kvs,_,r=>by
  rw [T0] at r;cases r with
  | @cons a b as bs h t=>obtain ⟨rs,c,q⟩:=z5f (P:=P) (w:=w) t;obtain ⟨e,d⟩:=b;exact ⟨(p.1,d) :: rs,⟨kV_is h.1,rfl,c⟩,.cons ⟨rfl,h.2⟩ q⟩
noncomputable def tDisp (trs:List (TE×TE)):TE:=λ σ H Q=>∀p,H p=none->tPairs trs σ (upd H p (.dK [])) λ ps H2=>H2 p=some (.dK [])/\∃kvs:List (Key×V),ps=kvs.map (λ kv=>(kV kv.1,kv.2))/\kvs.length<=15/\Q (.ref p) (upd H2 p (.dK (mergeK [] kvs)))
theorem zf9 {X:Cx} {pos:Pos} {keys:List (Option Expr)} {values:List Expr} {trs:List (TE×TE)} (h:PPs X pos keys values trs) (hall:keys.all (·.isSome)=true) (hl:keys.length=values.length) (h0:keys≠[])
  (h15:keys.length<=15):PE X (.Dict keys values pos) (tDisp trs):=by
 intro p s σ H Q I q;have m:=I.hok.fresh (A0 s.heap.objs.size);have j:=I.laid (a:=s.heap.objs.size) (o:=.dK []) (h':=s.heap.push { cls:=.type "dict",data:=.dict #[] }) (t':=s.toks) (λ _ _ q=>x0 _ q) (A0 _) (zad s.heap I.big);refine wpAny_Dict_walk (knd:=z0g X.prog X.w) hall hl h0 h15 (thn (h p _ σ _ _ j (q _ m)) λ t u ⟨ps,H2,I2,rel,e,kvs,ep,lk,q2⟩=>?_);subst ep;obtain ⟨g,c,f⟩:=z5f (P:=X.prog) (w:=X.w) rel;obtain ⟨z,hd,v,l,n⟩:=dk_of I2.hok e;cases l;refine ⟨g,c,n,λ h' b r=>⟨.ref s.heap.objs.size,_,?_,rfl,q2⟩⟩;have d:(mergeK [] kvs).length<=sizeLine:=by have i:=z2q kvs [];rw [A4] at i;rw [K5];omega
 have k :∃q,h'.get? s.heap.objs.size=some q:=let ⟨q,_,_,hq,_⟩:=b;⟨q,hq⟩;exact z7x I2 (by rw [e];exact True.intro) r k (dk_new d hd (f.merge .nil) b)
structure M1 (X:Cx) (o:Expr) (m:Str) (apos:Pos) (e:Expr) (cpos:Pos):Prop where
 base:W6 o m X.env (P3 o X.env)=P3 o X.env
 few:((j5 cpos (F1 [e] X.env)).all (λ x=>!x.1) && (backToKw cpos (o9 [] X.env)).all (λ x=>x.1.isSome)
  && decide (([e]:List Expr).length + ([]:List N7).length + (if ([]:List N7).isEmpty then 0 else 1) < 30))=true
 line:(apos.endLine == cpos.line)=true
 trees:j5 cpos (F1 [e] X.env)=[(false,P3 e X.env)]
structure M2 (X:Cx) (o:Expr) (m:Str) (apos:Pos) (e f:Expr) (cpos:Pos):Prop where
 base:W6 o m X.env (P3 o X.env)=P3 o X.env
 few:((j5 cpos (F1 [e,f] X.env)).all (λ x=>!x.1) && (backToKw cpos (o9 [] X.env)).all (λ x=>x.1.isSome)
  && decide (([e,f]:List Expr).length + ([]:List N7).length + (if ([]:List N7).isEmpty then 0 else 1) < 30))=true
 line:(apos.endLine == cpos.line)=true
 trees:j5 cpos (F1 [e,f] X.env)=[(false,P3 e X.env),(false,P3 f X.env)]
def IsD (H:Hp) (a:Addr):Prop:=(∃kvs,Rd H a (.dK kvs))\/∃kvs,Rd H a (.dT kvs)
theorem isD_at {X:Cx} {pins:List (Addr×Obj)} {σ:St} {H:Hp} {s:y0} {a:Addr} (I:Inv X pins σ H s) (d:IsD H a) :
  s.TypeIs (.ref a) "dict"/\(∀b,E1 a=.ref b->∃ob,s.heap.get? b=some ob/\ob.dict=none)/\(a == v4)=false:=by
 rcases d with ⟨h,e⟩|⟨h,e⟩
 ·obtain ⟨_,hd,j,_,c⟩:=dk_rd I.hok e;refine ⟨c.typeIs,λ b q=>?_,hd⟩;cases q;obtain ⟨ob,_,_,g,f,_⟩:=c;exact ⟨ob,g,f.2.1⟩
 ·obtain ⟨_,hd,i,_,c⟩:=dt_rd I.hok e;refine ⟨c.typeIs,λ b q=>?_,hd⟩;cases q;obtain ⟨ob,_,_,g,f,_⟩:=c;exact ⟨ob,g,f.2.1⟩
section
variable {X:Cx} {pins:List (Addr×Obj)} {σ:St} {H:Hp} {s:y0} {a:Addr} {y d:V} {u r:Value} {o:Option V} {A:B2} {E:Value->y0->Prop}
theorem d_get2 {Q:Value->y0->Prop} (hu:A.units + 1 < cLine) (I:Inv X pins σ H s) (g:DGet H a y o) (ry:RelV y u) (rd:RelV d r) (h :∀w' s',Inv X pins σ H s'->RelV (o.getD d) w'->Q w' s') :
  P0 (V0 X.prog X.w) A (call (.builtin "dict.get") [.ref a,u,r]) Q E s:=by
 rcases g with ⟨m,k,e,f,l⟩|⟨m,k,b,e,f,eb,l⟩
 ·subst f;obtain ⟨z,hd,n,i,c⟩:=dk_rd I.hok e;refine S8 K6 c.typeIs f9 (Z8 _ _ _) (meets_dict_get_default (z0g X.prog X.w) a (kV_is ry) hd r) ⟨_,c.mapOf,h _ _ (I.tok _) ?_⟩;rw [l];exact (i.val k).getD rd
 ·subst f;cases (show u=E1 b from ry);obtain ⟨z,hd,j,i,c⟩:=dt_rd I.hok e;refine S8 K6 c.typeIs f9 (Z8 _ _ _) (meetsH_dict_get_default (J5 (z0g X.prog X.w)) a b hd r) ⟨D5 hu,k,j,key_of I.hok eb,c,h _ _ (I.tok _) ?_⟩;rw [l];exact (i.val k).getD rd
end
noncomputable def tDGet2 (td ty tx:TE):TE:=λ σ H Q=>td σ H λ x H1=>∃a,x=.ref a/\IsD H1 a/\ty σ H1 λ y H2=>tx σ H2 λ z H3=>∃o,DGet H3 a y o/\Q (o.getD z) H3
noncomputable def tDPop1 (td ty:TE):TE:=λ σ H Q=>td σ H λ x H1=>∃a,x=.ref a/\IsD H1 a/\ty σ H1 λ y H2=>∃kvs k v,H2 a=some (.dK kvs)/\y=kV k/\valV kvs k=some v/\Q v (upd H2 a (.dK (dropK kvs k)))
section
variable {X:Cx} {o e f:Expr} {apos cpos:Pos} {td ty tx:TE}
theorem zdv (hu:X.A.units + 1 < cLine) (ho:PE X o td) (he:PE X e ty) (hf:PE X f tx) (m:M2 X o "get" apos e f cpos):PE X (.Call (.Attribute o "get" apos) [e,f] [] cpos) (tDGet2 td ty tx):=by
 intro b s σ H Q I h;refine wpAny_Call_method m.base m.few m.line A6 K6 PySem.F.type_dict_get (thn (ho b s σ H _ I h) λ u i ⟨x,H1,I1,rx,a,ex,d,q1⟩=>?_);subst ex;obtain rfl:u=E1 a:=rx;obtain ⟨c,n,_⟩:=isD_at I1 d;refine ⟨c,n,?_⟩;rw [m.trees];refine n5 rfl (z7 (E3 (thn (he b i σ H1 _ I1 q1) λ r j ⟨y,H2,I2,ry,q2⟩=>E3 (thn (hf b j σ H2 _ I2 q2) λ q p ⟨z,H3,I3,rz,ov,g,q3⟩=>W3 ?_))));exact d_get2 hu I3 g ry rz λ t v k l=>⟨_,H3,k,l,q3⟩
theorem zdu (ho:PE X o td) (he:PE X e ty) (m:M1 X o "pop" apos e cpos):PE X (.Call (.Attribute o "pop" apos) [e] [] cpos) (tDPop1 td ty):=by intro b s σ H Q I h;refine wpAny_Call_method m.base m.few m.line A6 r9 PySem.F.type_dict_pop (thn (ho b s σ H _ I h) λ u f ⟨x,H1,I1,rx,a,ex,d,q1⟩=>?_);subst ex;obtain rfl:u=E1 a:=rx;obtain ⟨c,i,_⟩:=isD_at I1 d;refine ⟨c,i,?_⟩;rw [m.trees];refine n5 rfl (z7 (E3 (thn (he b f σ H1 _ I1 q1) λ r q ⟨y,H2,I2,ry,kvs,k,v,ea,ey,l,q2⟩=>W3 ?_)));subst ey;exact d_pop I2 ea ry l (.inl rfl) λ n p j g=>⟨v,_,j,g,q2⟩
end
end L2
namespace Att
open PySem PySem.W PySem.Calls PyProof.Rows
theorem z3q {P:R0} {h:Heap} :∀(ns:List Int) (vs:List Value),WellAll P h vs (ns.map WData.int)->A3 vs ns:=by
 intro ns;induction ns with
 | nil=>intro vs w;rw [Q6] at w;cases w;exact .nil
 | cons n ns ih=>
  intro vs w;rw [T0] at w;cases w with
  | cons a b=>cases a;exact .cons _ _ (ih _ b)
theorem zbl {l:OpenLaw} {n:Nat} (hn:l.most=some n) {P:R0} {h:Heap} {args:List WData} {vals:List Value}
  (hpre:l.row.toRowW.claim.pre args=true) (hwl:WellAll P h vals args) :
  ∃a vs ns,vals=[E1 a]/\args=[WData.list (ns.map WData.int)]/\h.get? a=some { cls:=.type "list",data:=.seq vs.toArray }/\A3 vs ns/\ns.length<=n:=by
 have g:WShape.hasAll [] args [.list .int]=true:=(pre_splitW hpre).1;have e:l.pre.holds [] { args:=args }=true:=(pre_splitW hpre).2;obtain ⟨d,r,rfl,m,i⟩:=hasAllW_cons g;obtain rfl:=hasAllW_nil i;obtain ⟨o,rfl,k⟩:=hasW_list m;obtain ⟨ns,rfl⟩:=items_int k;have j:ns.length<=n:=by
  unfold OpenLaw.pre at e;have b:(WTm.not (.lt (.lit (.int (n:Int))) (.len (.arg 0)))).holds [] { args:=[.list (ns.map .int)] }=true:=by have b:=(holds_andW e).1;rw [hn] at b;exact b
  have c:=condW_of b (w_not (w_lt w_lit (w_len_list (w_arg rfl))));rw [G0] at c;refine F8 λ q=>?_;have f:(n:Int) < ((ns.length:Nat):Int):=by omega
  first
   | (rw [decide_eq_true f] at c;exact absurd c (by decide))
   | (simp at c;omega)
 cases hwl with
 | cons w1 w2=>
  cases w2;cases w1 with
  | list ho hall=>exact ⟨_,_,ns,rfl,rfl,ho,z3q ns _ hall,j⟩
theorem zc6 (l:OpenLaw) (args:List WData):l.row.toRowW.claim.post args (.bool true) args=true:=
 postW_of (r:=l.row.toRowW) (X:=(true == true))
  (show WShape.has [] (.bool true) .bool=true by first|rfl|decide|simp [WShape.has,WShape.arms,WShape.armsAll])
  (show (WTm.eq .res (.lit (.bool true))).value [] { args:=args,res:=some (.bool true),after:=args }=some (.bool (true == true)) from w_eq_bool (w_res rfl) w_lit) rfl
theorem attach_call {l:OpenLaw} {n:Nat} {q:Program} {loose:List Str} {XP:(Str->Option Value)->Heap->Prop} {YP:N0->Heap->Prop} {d:DefRec}
  (hn:l.most=some n) (hdf:d.params.defaults=[])
  (call :∀(w:N0) (s₀ s₁:y0) (mg mb:Str->Option Value) (fa:Addr) (o:Obj) (pm cd doc:Value) (a:Addr) (vs:List Value) (ns:List Int),
   Ground q loose [] XP w s₀ mg mb s₁.heap->YP w s₁.heap->
   s₁.heap.get? fa=some o->o.data=.func (docDef d.name d.params d.body d.scope pm cd doc)->s₁.heap.CodeRec cd d.name->mg d.name=some (.ref fa)->
   s₁.heap.get? a=some { cls:=.type "list",data:=.seq vs.toArray }->A3 vs ns->ns.length<=n->s₁.gens = #[]->
   v5 (V0 l.prog w) R8 (.call (.ref fa) ⟨[.ref a],[]⟩) (λ r s'=>r=.ok (.ret (.bool true))/\OldK s₁.heap s'.heap/\s'.os=s₁.os/\U6 s'.gens) s₁) :
  WalkO q loose XP YP l.row.toRowW d [] (λ f vs=>PySem.call f vs):=by
 intro w s₀ s₁ mg mb G Y fa o pm cd doc m kV p hd h b j g D E C c B z t A;obtain rfl:m=.none:=Dflts.none b hdf;obtain rfl:kV=.none:=Dflts.noKw b;obtain ⟨a,vs,ns,rfl,rfl,e,i,k⟩:=zbl hn c t;refine enter_call (a5 (call w s₀ s₁ mg mb fa o pm cd doc a vs ns G Y p (fd_plain hd) h j e i k g) λ r s' v=>?_);obtain ⟨rfl,x,y,u⟩:=v;exact ⟨.inl ⟨.bool true,.bool true,[],rfl,λ _=>rfl,.bool true,zc6 l _,λ _=>⟨f7,λ _ s=>(nomatch s)⟩⟩,x,y,u⟩
end Att
namespace L2
open PySem PySem.Spec PyProof.Rows
theorem z7d :∀{vs:List Value} {ns:List Int},A3 vs ns->Vals (ns.map V.int) vs
 | _,_,.nil=>.nil
 | _,_,.cons n t h=>.cons ⟨t,rfl⟩ (z7d h)
noncomputable def z65 (s:Stmt):Arguments:=match s with
 | .FunctionDef _ a _ _ _ _ _ _ _ _=>a
 | _=>{ posonlyargs:=[],args:=[],vararg:=none,kwonlyargs:=[],kw_defaults:=[],kwarg:=none,defaults:=[] }
noncomputable def z2z (s:Stmt):List Stmt:=match s with
 | .FunctionDef _ _ b _ _ _ _ _ _ _=>b
 | _=>[]
noncomputable def z07 (s:Stmt):Scope:=match s with
 | .FunctionDef _ _ _ _ _ _ sc _ _ _=>sc
 | _=>{ kind:=.function,names:=[],isGenerator:=false,isCoroutine:=false }
noncomputable abbrev CX0:CXT:=λ _ _ _ _ _ _=>False
noncomputable abbrev E0:XK:=λ _ _ _=>False
theorem pass0 {X:Cx}:Passes CX0 X E0:=λ _ _ _ _ _ _ _ h=>h.elim
structure Fun (K:c0) (x qual:Str) (st:Stmt) (f:Addr) (fd:FuncData):Prop where
 ex :∃(oc:Value) (od:Option Addr) (kV doc pm:Value) (an:Option Addr) (cdv ct:Value) (osl:Array (Option Value)),
  fd=k5 x qual (z65 st) (z2z st) (z07 st) .none kV doc pm an cdv ct/\K.lookup f=some ⟨oc,od,.func fd,osl⟩/\Y6 K cdv qual=true
 kp:Y3 K (.ref f)=true
section
variable {P:Program} {w:N0} {K:c0} {mg:Str->Option Value} {base:Heap}
theorem Fun.ok {x qual:Str} {st:Stmt} {f:Addr} {fd:FuncData} {N ps:List Str} {k:Nat} {sp:Sp} (F:Fun K x qual st f fd) (S:FnScope N ps (z07 st)) (len :∀vs H Q E,sp vs H Q E->vs.length=ps.length)
  (hbody :∀(cdv:Value) (A:B2) (outer:List Env) (s:y0) (H:Hp) (vs:List V) (Q:VK) (E:XK),Room k (A.deeper (Y7 qual (z07 st) s.heap.objs.size f cdv))->sp vs H Q E->
   ∃t,PSs (cxOf CX0 P w K mg base N qual (z07 st) f cdv A outer s H E).nox (z2z st) t/\t { nx:=λ _ H'=>Q .non H',rt:=Q } (start N vs) H):FnOk P w K mg base CX0 (k + 1) f fd ps sp:=by
 obtain ⟨j,n,kV,e,m,l,cdv,g,i,rfl,b,d⟩:=F.ex;refine fn_of b d S len λ A outer s H vs Q E a c=>?_;obtain ⟨t,h,q⟩:=hbody cdv A outer s H vs Q E a c;exact ⟨t,h.nox,q⟩
theorem Fun.binds {x qual:Str} {st:Stmt} {f:Addr} {fd:FuncData} {ps:List Str} (F:Fun K x qual st f fd)
  (h :∀(kV doc pm:Value) (an:Option Addr) (cdv ct:Value) (us:List Value),us.length=ps.length->bindArgs (k5 x qual (z65 st) (z2z st) (z07 st) .none kV doc pm an cdv ct) ⟨us,[]⟩=C3 (ps.zip us)):Binds K fd ps []:=by
 obtain ⟨c,e,kV,doc,pm,an,cdv,ct,b,rfl,a,d⟩:=F.ex;exact .all (h kV doc pm an cdv ct)
theorem fun_mk {x qual:Str} {st:Stmt} {f:Addr} {oc:Value} {od an:Option Addr} {osl:Array (Option Value)} {kV doc pm cdv ct:Value} (l:K.lookup f=some ⟨oc,od,.func (k5 x qual (z65 st) (z2z st) (z07 st) .none kV doc pm an cdv ct),osl⟩)
  (c:Y6 K cdv qual=true) (k:Y3 K (.ref f)=true):Fun K x qual st f (k5 x qual (z65 st) (z2z st) (z07 st) .none kV doc pm an cdv ct):=⟨⟨oc,od,kV,doc,pm,an,cdv,ct,osl,rfl,l,c⟩,k⟩
end
theorem hu_of {A:B2} {k:Nat} (hr:Room k A):A.units + 1 < cLine:=U1 (Nat.add_le_add_left (by decide:1<=64) _) hr.units
section
variable {X:Cx}
theorem pv (i:Nat) {x:Str} {pos:Pos} (hN:X.N[i]? = some x:=by rfl) (hv:Vis X.env.scope x:=by first|exact L1 rfl|exact J1 (L1 rfl)|exact J1 (J1 rfl)) (hd:(x == ("__debug__" : Str))=false:=by decide)
  (hcd:(x == ("__classdict__" : Str))=false:=by decide):PE X (.Name x pos) (tVar i):=pe_var hN hv hd hcd
end
theorem iteF {A B:Prop} (h:B):if false=true then A else B:=by rw [if_neg O0];exact h
theorem iteT {A B:Prop} (h:A):if true=true then A else B:=by rw [if_pos rfl];exact h
theorem ite2 {c A B:Prop} [Decidable c] (h1:c->A) (h2:¬ c->B):if c then A else B:=by
 by_cases h:c
 ·rw [if_pos h];exact h1 h
 ·rw [if_neg h];exact h2 h
def Same (H H':Hp):Prop:=∀b o,H b=some o->H' b=some o
theorem Same.refl (H:Hp):Same H H:=λ _ _ h=>h
theorem Same.trans {H H1 H2:Hp} (a:Same H H1) (b:Same H1 H2):Same H H2:=λ c o h=>b c o (a c o h)
theorem Same.free {H H':Hp} (e:Same H H') {l:Addr} (h:H' l=Option.none):H l=Option.none:=by
 cases q:H l with
 | none=>rfl
 | some o=>rw [e l o q] at h;cases h
theorem Same.seq {K:c0} {H H':Hp} {a:Addr} {xs:List V} (e:Same H H') (h:SqL K H a xs):SqL K H' a xs:=by
 rcases h with (h|⟨o,h⟩)|h
 ·exact .inl (.inl (e _ _ h))
 ·exact .inl (.inr ⟨o,e _ _ h⟩)
 ·exact .inr h
section
variable {κ:Type} [DecidableEq κ]
theorem zbs {p:κ×V} {r:List (κ×V)} {k:κ} (e:p.1=k):dropK (p :: r) k=dropK r k:=by unfold dropK;rw [N5,if_neg (by simp [e])]
theorem zbu {p:κ×V} {r:List (κ×V)} {k:κ} (e:¬ p.1=k):dropK (p :: r) k=p :: dropK r k:=by unfold dropK;rw [N5,if_pos (by simp [e])]
end
end L2
set_option maxHeartbeats 4000000
namespace L2
open PySem PySem.Spec PyProof.Rows
section
variable {prog:Program} {w:N0} {A:B2} {R:Result->y0->Prop} {s:y0}
theorem zc3 {elt target iter:Expr} {ifs:List Expr} {scope:Scope} {pos:Pos} {it acc:Value} {env:Env} (J:Nat->y0->Prop)
  (turn :∀n s,J n s->P0 (V0 prog w) A (C8 it) (λ r s₁=>match r with
   | none=>R (.ok .next) s₁
   | some v=>P0 (V0 prog w) A (O7 target it v) (λ _ s₂=>P0 (V0 prog w) A (assign target env v) (λ _ s₃=>
     P0 (V0 prog w) A (forIn ifs true λ c r=>if r=true then do let ok <-isTrue c env (P3 c env);C3 (N3 ok) else C3 (N3 r)) (λ ok s₄=>
      if ok=true then P0 (V0 prog w) A (P3 elt env) (λ x s₅=>P0 (V0 prog w) A (call (.builtin "list.append") [acc,x]) (λ _ s₆=>∃m,m < n/\J m s₆) (λ _ _=>False) s₅) (λ _ _=>False) s₄
      else∃m,m < n/\J m s₄) (λ _ _=>False) s₃) (λ _ _=>False) s₂) (λ _ _=>False) s₁) (λ _ _=>False) s)
  (n:Nat) (h:J n s):v5 (V0 prog w) A (.compLoop (.ListComp elt [⟨target,iter,ifs,0⟩] scope pos) 0 it acc env) R s:=by
 refine codeAny_loop rfl J (λ n s e=>?_) n h;show P0 _ A ((compTurn (.ListComp elt [⟨target,iter,ifs,0⟩] scope pos) 0 it acc env).onRaise (λ x=>do noteFrame x env;theTreesLotGoes x)) _ _ s;refine wpAny_noted ?_;rw [compTurn_list];refine v0 (wpAny_standAt (v0 (y3 (turn n s e) (λ r s₁ b=>?_) λ _ _ f=>f.elim)));cases r with
 | none=>exact C0 b
 | some v=>
  refine v0 (y3 b (λ _ s₂ g=>v0 (y3 g (λ _ s₃ j=>v0 (y3 j (λ ok s₄ a=>?_) λ _ _ f=>f.elim)) λ _ _ f=>f.elim)) λ _ _ f=>f.elim);cases ok with
  | false=>exact C0 ⟨rfl,a⟩
  | true=>exact v0 (v0 (y3 a (λ x s₅ d=>v0 (y3 d (λ _ s₆ i=>C0 (C0 ⟨rfl,i⟩)) λ _ _ f=>f.elim)) λ _ _ f=>f.elim))
end
theorem z1y {env:Env} :∀(names:List (Str×Q5)) (acc:List (Str×Addr)),(∀y∈names,y.2=P1->∃c,env.cells.lookup y.1=some c)->(∀y c,acc.lookup y=some c->env.cells.lookup y=some c)->
  ∃cl,(forIn names acc λ (x:Str×Q5) (r:List (Str×Addr))=>(match x with
    | (name,kind)=>if (kind == P1)=true then do let c <-cellOf env name;C3 (N3 ((name,c) :: r)) else C3 (N3 r):Sem (ForInStep (List (Str×Addr)))))=C3 cl/\
   (∀y c,cl.lookup y=some c->env.cells.lookup y=some c)/\(∀y,((y,P1)∈names\/∃c,acc.lookup y=some c)->∃c,cl.lookup y=some c)
 | [],acc,_,ha=>⟨acc,by rw [a9],ha,λ y h=>h.elim (λ z=>nomatch z) id⟩
 | (n,k) :: r,acc,hf,ha=>by
  rw [N8];dsimp only;by_cases hk:k=P1
  ·subst hk;obtain ⟨c,i⟩:=hf (n,.free) W1 rfl;have e:cellOf env n=C3 c:=by unfold cellOf;rw [i]
   rw [if_pos (by rfl),e];obtain ⟨cl,g,b,f⟩:=z1y r ((n,c) :: acc) (λ y a=>hf y (G2 _ a)) (λ y d hd=>by
    rw [G3] at hd;by_cases a:(y == n)=true
    ·rw [a] at hd;have:=eq_of_beq a;subst this;cases hd;exact i
    ·rw [A8] at a;rw [a] at hd;exact ha y d hd)
   refine ⟨cl,g,b,λ y a=>f y ?_⟩;rcases a with a|⟨d,hd⟩
   ·rcases List.mem_cons.mp a with z|z
    ·cases z;exact .inr ⟨c,by rw [G3];simp⟩
    ·exact .inl z
   ·refine .inr ?_;rw [G3];by_cases a:(y == n)=true
    ·rw [a];exact ⟨c,rfl⟩
    ·rw [A8] at a;rw [a];exact ⟨d,hd⟩
  ·rw [if_neg (by simpa using hk)];obtain ⟨cl,g,b,f⟩:=z1y r acc (λ y a=>hf y (G2 _ a)) ha;refine ⟨cl,g,b,λ y a=>f y ?_⟩;rcases a with a|a
   ·rcases List.mem_cons.mp a with z|z
    ·cases z;exact absurd rfl hk
    ·exact .inl z
   ·exact .inr a
theorem za0 {scope:Scope} {env:Env} (hf :∀y∈scope.names,y.2=P1->∃c,env.cells.lookup y.1=some c) :
  ∃cl,O9 scope env=C3 cl/\(∀y c,cl.lookup y=some c->env.cells.lookup y=some c)/\(∀y,(y,P1)∈scope.names->∃c,cl.lookup y=some c):=by
 obtain ⟨cl,e,a,d⟩:=z1y (env:=env) scope.names [] hf (λ _ _ z=>nomatch z);refine ⟨cl,?_,a,λ y b=>d y (.inl b)⟩;simp only [O9];rw [e];rfl
theorem mem_of_lookup {κ:Type} {y:Str} {k:κ} :∀{l:List (Str×κ)},l.lookup y=some k->(y,k)∈l
 | (n,c) :: r,h=>by
  rw [G3] at h;by_cases hy:(y == n)=true
  ·rw [hy] at h;cases h;rw [eq_of_beq hy];exact W1
  ·rw [A8] at hy;rw [hy] at h;exact G2 _ (mem_of_lookup h)
theorem z3f {scope:Scope} {env:Env} (hcell :∀y∈scope.names,y.2≠NameKind.cell) {y:Str} {k:Q5} (h:(O6 scope env).names.lookup y=some k) (hk:k=.cell\/k=.free):(y,P1)∈scope.names:=by
 have m:=mem_of_lookup h;unfold O6 at m;obtain ⟨⟨n,c⟩,a,e⟩:=List.mem_map.mp m;dsimp only at e;by_cases hc:(c == P1)=true
 ·have:=eq_of_beq hc;subst this;split at e<;>(injection e with e1 e2;subst e1;exact a)
 ·rw [if_neg (by simp [hc])] at e;injection e with e1 e2;subst e1 e2;rcases hk with rfl|rfl
  ·exact absurd rfl (hcell _ a)
  ·exact absurd rfl hc
noncomputable abbrev cxComp (X:Cx) (scope:Scope) (cl:List (Str×Addr)) (N:List Str) (C:Addr) (s₂:y0) (H₂:Hp) (fp:List Addr):Cx:=
 { X with N:=N,s₀:=s₂,H₀:=H₂,env:=compEnvC scope cl C X.env,outer:=X.stack,stack:=X.stack,ex:=fp,fn:=λ _=>false,pn:=[],xe:=λ _ _=>False }
def PF (X:Cx) (ifs:List Expr) (t:TT):Prop:=
 ∀(pins:List (Addr×Obj)) (s:y0) (σ:St) (H:Hp) (Q:Bool->Hp->Prop),Inv X pins σ H s->t σ H Q->
  P0 (V0 X.prog X.w) X.A (forIn ifs true λ c r=>if r=true then do let ok <-isTrue c X.env (P3 c X.env);C3 (N3 ok) else C3 (N3 r)) (TP X pins σ Q) X.xe s
theorem pf_nil {X:Cx}:PF X [] (λ _ H Q=>Q true H):=λ _ _ _ H _ I h=>wpAny_tests_nil ⟨H,I,h⟩
theorem pf_one {X:Cx} {c:Expr} {t:TT} (h:PT X c t):PF X [c] t:=λ a s σ H Q I q=>wpAny_tests_one (h a s σ H Q I q)
theorem Vals.snoc {xs:List V} {us:List Value} {x:V} {u:Value} (r:Vals xs us) (q:RelV x u):Vals (xs++[x]) (us++[u]):=Vals.append r (.cons q .nil)
def TagOf (H:Hp) (x:V) (T:String):Prop:=match x with
 | .non=>T = "NoneType"
 | .bl _=>T = "bool"
 | .int _=>T = "int"
 | .str _=>T = "str"
 | .ref a=>((∃xs,H a=some (.lst xs))/\T = "list")\/((∃xs,H a=some (.tup xs))/\T = "tuple")\/((∃kvs,H a=some (.dK kvs))/\T = "dict")
 | _=>False
noncomputable def instB (T C:String):Bool:=T == C || (T == "bool" && C == "int")
theorem TagOf.ty {K:c0} {H:Hp} {x:V} {T:String} (h:TagOf H x T):TyOf K H x (.type T):=by
 cases x with
 | non=>cases (show T = "NoneType" from h);exact .non
 | bl b=>cases (show T = "bool" from h);exact .bl b
 | int i=>cases (show T = "int" from h);exact .int i
 | str z=>cases (show T = "str" from h);exact .str z
 | ref a=>
  rcases h with ⟨⟨c,e⟩,rfl⟩|⟨⟨c,e⟩,rfl⟩|⟨⟨c,e⟩,rfl⟩
  ·exact .lst e
  ·exact .tup e
  ·exact .dK e
 | _=>exact h.elim
theorem TagOf.one {H:Hp} {x:V} {T:String} (h:TagOf H x T):T = "NoneType"\/T = "bool"\/T = "int"\/T = "str"\/T = "list"\/T = "tuple"\/T = "dict":=by
 cases x with
 | non=>exact .inl h
 | bl b=>exact .inr (.inl h)
 | int i=>exact .inr (.inr (.inl h))
 | str z=>exact .inr (.inr (.inr (.inl h)))
 | ref a=>rcases h with ⟨_,rfl⟩|⟨_,rfl⟩|⟨_,rfl⟩<;>simp
 | _=>exact h.elim
noncomputable def isiC:List String:=["int","str","bool","tuple","list"]
theorem kit_of (K:c0) {T C:String} (h:T = "NoneType"\/T = "bool"\/T = "int"\/T = "str"\/T = "list"\/T = "tuple"\/T = "dict") (hC:C∈isiC):PySem.W.kitOne K (.type T) (.type C)=some (instB T C):=by
 have hC:C = "int"\/C = "str"\/C = "bool"\/C = "tuple"\/C = "list":=by simpa [isiC] using hC
 rcases h with rfl|rfl|rfl|rfl|rfl|rfl|rfl<;>rcases hC with rfl|rfl|rfl|rfl|rfl<;>kernel_rfl
section
variable {X:Cx}
theorem z0i:CallR X (.builtin "isinstance") (λ xs H Q=>∃x C T,xs=[x,.ty C]/\TagOf H x T/\C∈isiC/\Q (.bl (instB T C)) H):=by intro g s σ H xs i Q I r h;obtain ⟨x,C,T,rfl,a,e,q⟩:=h;obtain ⟨u,c,rfl,d,f⟩:=vals2 r;cases (show c=M4 C from f);exact zc5 I d a.ty (kit_of X.K a.one e) λ b=>⟨.bl _,H,I.tok b,rfl,q⟩
theorem zcg {ys:List V} {its:List Value} (rv:Vals ys its) (hb :∀y∈ys,∃b,y=V.bl b):((V1 its.length).all λ i=>decide (ys[i]? = some (V.bl true)))=ys.all λ y=>decide (y=V.bl true):=by
 have e:=rv.length;rw [Bool.eq_iff_iff,List.all_eq_true,List.all_eq_true];constructor
 ·intro h y d;obtain ⟨i,a,rfl⟩:=List.getElem_of_mem d;have:=h i (List.mem_range.mpr (by omega));simpa [a] using this
 ·intro h i a;have c:i < ys.length:=by have:=List.mem_range.mp a;omega
  have:=h ys[i] (M5 c);simpa [c] using this
theorem z25 (hc:X.calm=true):CallR X (.builtin "all") (λ xs H Q=>∃p ys,xs=[.ref p]/\SqL X.K H p ys/\(∀y∈ys,∃b,y=V.bl b)/\Q (.bl (ys.all λ y=>decide (y=V.bl true))) H):=by
 intro P s σ H xs N Q I r h;obtain ⟨p,ys,rfl,F,g,q⟩:=h;obtain ⟨u,rfl,t⟩:=vals1 r;cases t;obtain ⟨l,d,c,L⟩:=I.list F;have B:p≠s.heap.objs.size:=by obtain ⟨o,e,_⟩:=c.isList;exact Q0 (D0 e)
 refine call_all_walk (M6 c.isList ?_);refine ⟨s.heap.objs.size,_,_,_,_,_,λ i=>decide (ys[i]? = some (V.bl true)),rfl,Walks.list (show X.A.in1.handled=none from I.ok.hd hc) s.heap.objs.size p B l.toArray,⟨⟨_,I0 _ rfl,rfl,rfl⟩,c.isList.at λ o e=>x0 _ e⟩,?_,?_⟩
 ·intro i v M J O a C;have a:l[i]? = some v:=by simpa using a
  obtain ⟨D,e⟩:=List.getElem?_eq_some_iff.mp a;have f:i < ys.length:=by rw [d.length];exact D
  obtain ⟨b,k⟩:=g ys[i] (M5 f);obtain ⟨u,m,j⟩:=d.get (i:=i) (x:=ys[i]) (by simp [f]);rw [a] at m;cases m;rw [k] at j;cases (show v=T8 b from j);have:decide (ys[i]? = some (V.bl true))=b:=by rw [Y0 f,k];cases b<;>simp
  exact g3 (this ▸ C)
 ·intro G w n;have e:=zcg d g;rw [<-L0] at e;refine ⟨.bl _,H,I.kept (t':=w) λ b o z=>n b o ?_ (x0 _ z),rfl,e.symm ▸ q⟩;intro E;rw [List.mem_singleton.mp E] at z;exact absurd (D0 z) (Z2 _)
def CDivB (i j:Int):Prop:=0 < j/\j < 2 ^ 64
theorem z6p:OpR X (Z4 .FloorDiv) (rI CDivB λ i j=>.int (i / j)):=opI λ i j _ _ _ _ _ a q=>by
 obtain ⟨b,c⟩:=a;refine floordiv_int (by omega) ?_ (.inl (PyProof.noPylong_of_log2 ?_))
 ·rw [Int.fdiv_eq_ediv_of_nonneg _ (by omega)];exact q
 ·have:j.natAbs.log2 < 64:=(Nat.log2_lt (by omega)).mpr (by omega);omega
structure KDict (K:c0) (P:R0) (a:Addr) (kvs:List (Str×V)):Prop where
 ex :∃es n,K.lookup a=some ⟨.type "dict",none,.dict es n,#[]⟩/\a7 (λ (p:Str×V) (e:DictEntry)=>(∃t,e.key=.str p.1 t)/\e.hash=b0 P p.1/\RelV p.2 e.val) kvs es.toList
 lo:(a == v4)=false
theorem zch {kvs:List (Str×V)} {P:R0} :∀{es:List DictEntry},a7 (λ (p:Str×V) (e:DictEntry)=>(∃t,e.key=.str p.1 t)/\e.hash=b0 P p.1/\RelV p.2 e.val) kvs es->∀z,
  RelO (kvs.lookup z) (findBy z6 es.toArray z):=by
 intro es r;induction r with
 | nil=>intro z;exact True.intro
 | @cons p e kvs es h t a=>
  intro z;obtain ⟨⟨f,c⟩,g,d⟩:=h;have a:=a z;unfold findBy at a⊢;rw [List.find?_toArray] at a⊢;rw [V3,G3];have b:z6 z e.key=(z == p.1):=by rw [c];show (p.1 == z)=_;rw [Bool.eq_iff_iff,beq_iff_eq,beq_iff_eq];exact ⟨λ q=>q.symm,λ q=>q.symm⟩
  cases hz:(z == p.1) with
  | true=>rw [b,hz];exact d
  | false=>rw [b,hz];exact a
theorem KDict.mapOf {a:Addr} {kvs:List (Str×V)} (D:KDict X.K X.w.params a kvs) {h:Heap} (k:X.K.In h) :∃f,h.MapOf (strKind X.prog X.w) a f/\∀z,RelO (kvs.lookup z) (f z):=by
 obtain ⟨b,n,d,r⟩:=D.ex;have c:PySem.W.KeysLit X.w.params b.toList:=by
  clear d D;generalize b.toList=l at r;induction r with
  | nil=>exact True.intro
  | cons h t ih=>obtain ⟨⟨e,c⟩,g,j⟩:=h;exact ⟨⟨_,e,c,g⟩,ih⟩
 have i :∀z,RelO (kvs.lookup z) (findBy z6 b.toList.toArray z):=zch r;exact ⟨_,PySem.W.mapOf_K (prog:=X.prog) k d c,λ z=>by simpa using i z⟩
theorem zen {a:Addr} {kvs:List (Str×V)} (D:KDict X.K X.w.params a kvs):OpR X (U2 .In) (λ x y H Q=>∃z,x=.str z/\y=.ref a/\Q (.bl (kvs.lookup z).isSome) H):=by intro g s σ H x y v u Q I d e h;obtain ⟨z,rfl,rfl,q⟩:=h;obtain ⟨t,rfl⟩:=d;cases e;obtain ⟨f,c,b⟩:=D.mapOf I.kIn;refine wpAny_in_of (G7 X.prog X.w z t) D.lo c ⟨.bl _,H,I.tok _,rfl,?_⟩;have:=b z;rw [RelO.isSome_eq this] at q;exact q
theorem ix_kd {a:Addr} {kvs:List (Str×V)} (D:KDict X.K X.w.params a kvs):IxR X (λ x y H Q=>∃z v,x=.ref a/\y=.str z/\kvs.lookup z=some v/\Q v H):=by
 intro l k m s σ H x y v u Q I d g h j;obtain ⟨z,r,rfl,rfl,e,q⟩:=h;cases d;obtain ⟨t,rfl⟩:=g;obtain ⟨f,c,i⟩:=D.mapOf I.kIn;have b:=i z;rw [e] at b;cases ef:f z with
 | none=>rw [ef] at b;exact b.elim
 | some u=>rw [ef] at b;exact tail_any c.typeIs slot_dict_getitem.lookup (wpAny_getItem_of (G7 X.prog X.w z t) c ef ⟨r,H,I.tok _,b,q⟩) j
structure KDictT (K:c0) (P:R0) (a:Addr) (kvs:List ((Str×Str)×V)):Prop where
 ex :∃es n,K.lookup a=some ⟨.type "dict",none,.dict es n,#[]⟩/\a7 (λ (p:(Str×Str)×V) (e:DictEntry)=>(∃(b:Addr) (t t':Tok) (m:Nat),e.key=.ref b/\K.lookup b=some ⟨.type "tuple",none,.seq #[.str p.1.1 t,.str p.1.2 t'] m,#[]⟩)/\
  e.hash=X0 (d0 [b0 P p.1.1,b0 P p.1.2])/\RelV p.2 e.val) kvs es.toList
 nd:(kvs.map (·.1)).Nodup
 lo:(a == v4)=false
theorem zd2 {prog:Program} {w:N0} {K:c0} {h:Heap} (k:K.In h) :∀{kvs:List ((Str×Str)×V)} {es:List DictEntry},
  a7 (λ (p:(Str×Str)×V) (e:DictEntry)=>(∃(b:Addr) (t t':Tok) (m:Nat),e.key=.ref b/\K.lookup b=some ⟨.type "tuple",none,.seq #[.str p.1.1 t,.str p.1.2 t'] m,#[]⟩)/\
   e.hash=X0 (d0 [b0 w.params p.1.1,b0 w.params p.1.2])/\RelV p.2 e.val) kvs es->
  ∃xs:List (List Str×Addr×Value),es=xs.map (entryOfKey (J5 (strKind prog w)))/\(∀x∈xs,(J5 (strKind prog w)).is h x.1 x.2.1)/\xs.map (·.1)=kvs.map (λ p=>[p.1.1,p.1.2])/\
   ∀a b,RelO (kvs.lookup (a,b)) ((p8 xs [a,b]).map (·.2)):=by
 intro kvs es r;induction r with
 | nil=>exact ⟨[],rfl,λ x f=>absurd f B0,rfl,λ a b=>True.intro⟩
 | @cons p e kvs es hpe t ih=>
  obtain ⟨xs,o,y,A,v⟩:=ih;obtain ⟨⟨b,B,D,m,i,q⟩,g,u⟩:=hpe;refine ⟨([p.1.1,p.1.2],b,e.val) :: xs,?_,?_,?_,?_⟩
  ·rw [T0,<-o];congr 1;obtain ⟨n,s,C⟩:=e;have i:s=.ref b:=i;have g:n=_:=g;subst i g;rfl
  ·intro x f;rcases List.mem_cons.mp f with rfl|f
   ·exact ⟨_,_,m,k _ _ q,rfl,rfl,.cons (G7 prog w _ _) (.cons (G7 prog w _ _) .nil)⟩
   ·exact y x f
  ·rw [T0,T0,A]
  ·intro c d;have:=v c d;rw [G3];unfold p8 at this⊢;rw [V3];by_cases hcd:(c,d)=p.1
   ·have l:((c,d) == p.1)=true:=by rw [beq_iff_eq];exact hcd
    rw [l];have j:decide ([p.1.1,p.1.2]=[c,d])=true:=by rw [<-hcd];simp
    rw [j];exact u
   ·have l:((c,d) == p.1)=false:=by rw [beq_eq_false_iff_ne];exact hcd
    rw [l];have j:decide ([p.1.1,p.1.2]=[c,d])=false:=by rw [decide_eq_false_iff_not];intro z;injection z with z1 z;injection z with z2 _;exact hcd (Prod.ext z1.symm z2.symm)
    rw [j];exact this
theorem z3t :∀{l:List (Str×Str)},l.Nodup->(l.map λ p=>[p.1,p.2]).Nodup
 | [],_=>List.nodup_nil
 | p :: r,h=>by obtain ⟨c,a⟩:=List.nodup_cons.mp h;rw [T0];refine List.nodup_cons.mpr ⟨λ m=>c ?_,z3t a⟩;obtain ⟨q,b,e⟩:=List.mem_map.mp m;injection e with e1 e;injection e with e2 _;have:q=p:=Prod.ext e1 e2;exact this ▸ b
theorem KDictT.dict {a:Addr} {kvs:List ((Str×Str)×V)} (D:KDictT X.K X.w.params a kvs) {h:Heap} (k:X.K.In h) :∃xs,h.DictOfH (J5 (strKind X.prog X.w)) a xs/\∀c d,RelO (kvs.lookup (c,d)) ((p8 xs [c,d]).map (·.2)):=by obtain ⟨b,n,g,r⟩:=D.ex;obtain ⟨xs,j,f,i,e⟩:=zd2 (prog:=X.prog) (w:=X.w) k r;refine ⟨xs,⟨_,b,n,k _ _ g,⟨rfl,rfl,rfl⟩,rfl,j,f,?_⟩,e⟩;rw [i];have:=z3t D.nd;rw [R3] at this;exact this
theorem zf4 {pins:List (Addr×Obj)} {σ:St} {H:Hp} {s:y0} {p:Addr} {c d:Str} (I:Inv X pins σ H s) (hp:H p=some (.tup [.str c,.str d])):(J5 (strKind X.prog X.w)).is s.heap [c,d] p:=by
 obtain ⟨_,h,a,⟨o,e,b,n,hd⟩,_⟩:=(show ObjOk X.prog X.w H s.heap p (.tup [.str c,.str d]) from I.hok p _ hp)
 cases a with
 | cons r1 a=>
  cases a with
  | cons r2 a=>cases a;obtain ⟨f,rfl⟩:=r1;obtain ⟨g,rfl⟩:=r2;exact ⟨o,_,n,e,b,hd,.cons (G7 X.prog X.w _ _) (.cons (G7 X.prog X.w _ _) .nil)⟩
theorem z6v {a:Addr} {kvs:List ((Str×Str)×V)} (hu:X.A.units + 1 < cLine) (D:KDictT X.K X.w.params a kvs) :
  OpR X (U2 .NotIn) (λ x y H Q=>∃p c d,x=.ref p/\H p=some (.tup [.str c,.str d])/\y=.ref a/\Q (.bl (!(kvs.lookup (c,d)).isSome)) H):=by
 intro l s σ H x y v u Q I f g h;obtain ⟨p,c,d,rfl,i,rfl,q⟩:=h;cases f;cases g;obtain ⟨j,e,b⟩:=D.dict I.kIn;refine wpAny_notIn_heap (k:=[c,d]) hu (zf4 I i) D.lo e ⟨.bl _,H,I.tok _,rfl,?_⟩;have:=RelO.isSome_eq (b c d);rw [r6] at this;rw [this] at q;exact q
end
structure Cal (P:Program) (w:N0) (K:c0) (mg:Str->Option Value) (base:Heap) (x:Str) (ps:List Str) (k:Nat) (sp:Sp):Prop where
 ex :∃f fd,FnOk P w K mg base CX0 k f fd ps sp/\mg x=some (.ref f)/\Y3 K (.ref f)=true/\Binds K fd ps []
section
variable {X:Cx} {x:Str} {ps:List Str} {k:Nat} {sp:Sp} {e:Expr} {es:List Expr} {t:TA} {p pos:Pos}
theorem pe_cal (c:Cal X.prog X.w X.K X.mg X.base x ps k sp) (hr:Room k X.A) (hg:Gl X x) (ha:PA X (e :: es) t) (hn:x≠"__name__":=by decide) (hdb:(x == ("__debug__" : Str))=false:=by decide)
  (he:F1 (e :: es) X.env=(false,P3 e X.env) :: F1 es X.env:=by rfl) (hpl:(j5 pos (F1 es X.env)).any (·.1)=false:=by rfl):PE X (.Call (.Name x p) (e :: es) [] pos) (tCall sp [] E0 t):=by
 obtain ⟨f,g,F,b,d,a⟩:=c.ex;exact zfw F hr hg b d a .nil pass0 ha hdb he hpl
end
structure TX (K:c0) (mg:Str->Option Value):Prop where
 of :∀{n:Str} {v:Value},D3 K Q1 n=some (some v)->mg n=some v
 no :∀{n:Str},D3 K Q1 n=some none->mg n=none
theorem TX.mk' {K:c0} {mg:Str->Option Value} {h:Heap} (X:K.In h) (G:h.Ns Q1 mg):TX K mg:=⟨λ e=>PySem.W.mg_of X G e,λ e=>PySem.W.mg_none_of X G e⟩
section
variable {X:Cx}
noncomputable def rAdd4 (K:c0):R2:=λ x y H Q=>(∃i j,x=.int i/\y=.int j/\Q (.int (i + j)) H)\/(∃i j,x=.str i/\y=.str j/\i.length + j.length<=sizeLine/\Q (.str (i++j)) H)\/rCat x y H Q\/rCatT K x y H Q
theorem opAdd:OpR X (Z4 .Add) (rAdd4 X.K):=op_add.or (op_add_str.or (op_cat.or zfe))
theorem opEq:OpR X (U2 .Eq) rEq:=op_eq
theorem opNe:OpR X (U2 .NotEq) rNe:=op_ne
theorem z0t:CallR X (.builtin "len") (λ xs H Q=>(∃p ys,xs=[.ref p]/\(SqL X.K H p ys\/SqT X.K H p ys)/\Q (.int ys.length) H)\/∃z,xs=[.str z]/\z.length<=sizeLine/\Q (.int z.length) H):=call_len_seq.or z6u
end
noncomputable def z0q (x:V) (g:Int):Bool:=match x with
 | .int i=>decide (-g<=i) && decide (i<=g)
 | _=>false
noncomputable def tupOf (H:Hp) (x:V):Option (List V):=match x with
 | .ref a=>(match H a with|some (.tup xs)=>some xs|_=>none)
 | _=>none
theorem zbh {H H':Hp} {x:V} {T:String} (t:TagOf H x T) (e:Same H H'):tupOf H' x=tupOf H x:=by
 cases x with
 | ref a=>rcases t with ⟨⟨b,h⟩,_⟩|⟨⟨b,h⟩,_⟩|⟨⟨b,h⟩,_⟩<;>(unfold tupOf;dsimp only;rw [h,e a _ h])
 | _=>rfl
theorem TagOf.same {H H':Hp} {x:V} {T:String} (t:TagOf H x T) (e:Same H H'):TagOf H' x T:=by
 cases x with
 | ref a=>
  rcases t with ⟨⟨b,h⟩,z⟩|⟨⟨b,h⟩,z⟩|⟨⟨b,h⟩,z⟩
  ·exact .inl ⟨⟨b,e a _ h⟩,z⟩
  ·exact .inr (.inl ⟨⟨b,e a _ h⟩,z⟩)
  ·exact .inr (.inr ⟨⟨b,e a _ h⟩,z⟩)
 | _=>exact t
theorem TagOf.tuple {H:Hp} {x:V} (t:TagOf H x "tuple") :∃a xs,x=.ref a/\H a=some (.tup xs):=by
 cases x with
 | ref a=>
  rcases t with ⟨_,z⟩|⟨⟨xs,h⟩,_⟩|⟨_,z⟩
  ·exact absurd z (by decide)
  ·exact ⟨a,xs,rfl,h⟩
  ·exact absurd z (by decide)
 | non=>exact absurd (show "tuple" = "NoneType" from t) (by decide)
 | bl b=>exact absurd (show "tuple" = "bool" from t) (by decide)
 | int i=>exact absurd (show "tuple" = "int" from t) (by decide)
 | str z=>exact absurd (show "tuple" = "str" from t) (by decide)
 | _=>exact t.elim
theorem TagOf.int {H:Hp} {x:V} (t:TagOf H x "int") :∃i,x=.int i:=by
 cases x with
 | ref a=>rcases t with ⟨_,z⟩|⟨_,z⟩|⟨_,z⟩<;>exact absurd z (by decide)
 | non=>exact absurd (show "int" = "NoneType" from t) (by decide)
 | bl b=>exact absurd (show "int" = "bool" from t) (by decide)
 | int i=>exact ⟨i,rfl⟩
 | str z=>exact absurd (show "int" = "str" from t) (by decide)
 | _=>exact t.elim
theorem TagOf.str {H:Hp} {x:V} (t:TagOf H x "str") :∃z,x=.str z:=by
 cases x with
 | ref a=>rcases t with ⟨_,z⟩|⟨_,z⟩|⟨_,z⟩<;>exact absurd z (by decide)
 | non=>exact absurd (show "str" = "NoneType" from t) (by decide)
 | bl b=>exact absurd (show "str" = "bool" from t) (by decide)
 | int i=>exact absurd (show "str" = "int" from t) (by decide)
 | str z=>exact ⟨z,rfl⟩
 | _=>exact t.elim
theorem noInt {H:Hp} {x:V} {T:String} (t:TagOf H x T) (h:T≠"int") (g:Int):z0q x g=false:=by
 cases x with
 | int i=>exact absurd t h
 | _=>rfl
theorem noTup {H:Hp} {x:V} {T:String} (t:TagOf H x T) (h:T≠"tuple"):tupOf H x=none:=by
 cases x with
 | ref a=>
  rcases t with ⟨⟨b,e⟩,_⟩|⟨_,z⟩|⟨⟨b,e⟩,_⟩
  ·unfold tupOf;dsimp only;rw [e]
  ·exact absurd z h
  ·unfold tupOf;dsimp only;rw [e]
 | _=>rfl
theorem z48 {H:Hp} {x:V} {T:String} (t:TagOf H x T) {C:String} (h:C≠"int"):instB T C=decide (T=C):=by
 unfold instB;have:(C == "int")=false:=by simpa using h
 rw [this,c9,W7,Bool.beq_eq_decide_eq]
def Flat (H:Hp) (x:V):Prop:=∀xs,tupOf H x=some xs->xs.length<=1000/\∀y∈xs,∃T,TagOf H y T
theorem z79 {α β:Type} [BEq α] [LawfulBEq α] {l:List (α×β)} {a:α} {b:β} (h:l.lookup a=some b):(a,b)∈l:=by
 induction l with
 | nil=>cases h
 | cons p r ih=>
  obtain ⟨c,d⟩:=p;rw [G3] at h;cases hc:(a == c) with
  | true=>rw [hc] at h;cases h;rw [eq_of_beq hc];exact W1
  | false=>rw [hc] at h;exact G2 _ (ih h)
theorem zbq {names:List (Str×Q5)} {Q:Str×Q5->Prop} (h:(names.all λ y=>y.2 != P1)=true) :∀y∈names,y.2=P1->Q y:=λ y a e=>by have:=List.all_eq_true.mp h y a;rw [e] at this;exact absurd this (by decide)
theorem Same.upd {H:Hp} {p:Addr} {o:HO} (h:H p=none):Same H (upd H p o):=λ b u e=>by rw [upd_ne (z0e e h)];exact e
theorem Same.seqT {K:c0} {H H':Hp} {a:Addr} {xs:List V} (e:Same H H') (h:SqT K H a xs):SqT K H' a xs:=by
 rcases h with (h|⟨o,h⟩)|h
 ·exact .inl (.inl (e _ _ h))
 ·exact .inl (.inr ⟨o,e _ _ h⟩)
 ·exact .inr h
theorem z9v {H:Hp} {x:V} {xs:List V} (h:tupOf H x=some xs) :∃a,x=.ref a/\H a=some (.tup xs):=by
 unfold tupOf at h;cases x with
 | ref a=>
  dsimp only at h;split at h
  ·rename_i ys e;exact ⟨a,rfl,by rw [e,W0 h]⟩
  ·cases h
 | _=>cases h
end L2
namespace L2
open PySem PySem.Spec PyProof.Rows
open Builtin.Str (occurrences partsBetween strKind)
section
variable {X:Cx}
theorem z7o {vl:Value} {lo:Option Int} (p:K8 vl lo) :∃l:Option (Int×Tok),vl=partValue l/\l.map (·.1)=lo:=by
 cases p with
 | none=>exact ⟨none,rfl,rfl⟩
 | int i t=>exact ⟨some (i,t),rfl,rfl⟩
end
end L2
namespace L2
open PySem PySem.Spec PyProof.Rows
section
variable {X:Cx}
def rSlS:V->Option Int->Option Int->Hp->VK->Prop:=λ x lo hi H Q=>∃z,x=.str z/\z.length<=sizeLine/\Q (.str (Txt.slice z lo hi)) H
theorem sl_str:SlR X rSlS:=by
 intro o s σ H x v m r p n j Q I a i b f h;obtain ⟨z,rfl,c,q⟩:=h;obtain ⟨t,rfl⟩:=a;obtain ⟨l,rfl,e⟩:=z7o b;obtain ⟨u,rfl,g⟩:=z7o f;subst e g;refine ⟨"str",_,F.slot_str_getitem.lookup,typeIs_str _ _ _,wpAny_getItem_str_slice (l:=l) (u:=u) (st:=none) i rfl
  (post_val_or_str ⟨J0 (Txt.slice_le z _ _) c,λ d k=>⟨.str (Txt.slice z _ _),H,I.tok k,⟨d,rfl⟩,q⟩⟩)⟩
theorem slSeq:SlR X (λ x lo hi H Q=>rSlL X.K x lo hi H Q\/rSlT X.K x lo hi H Q\/rSlS x lo hi H Q):=sl_list.or (sl_tup.or sl_str)
end
noncomputable def Itr3 (lo c:Int) (n:Nat):It:=⟨λ i _=>i < n,λ i H x H'=>H'=H/\x=.int (lo + i * c),λ i _=>n<=i⟩
theorem z8u {P:Program} {w:N0} {K:c0} {tg:Expr} (it:Addr) (lo c:Int) (n:Nat):Turn P w K tg (Itr3 lo c n) [it] it (λ i h=>w9 h it (lo + (i:Nat) * c) ((n:Int) - (i:Nat)) c) where
 mem:=by simp
 obj:=λ i h a b d=>by
  have e:b=it:=by simpa using d
  subst e;exact ⟨_,a,λ v z=>by have F:D7 _=y8 v:=z;cases F⟩
 keep:=λ i h f a k=>k it (by simp) _ a
 item:=by intro X x y j q i D s σ H E I g a l;subst x y j;obtain ⟨p,m,M,r,u,A⟩:=g it (by simp);have W:=Walks.range (prog:=X.prog) (w:=X.w) (I.ok.hd q) it lo c n;refine W.item i s _ _ l a λ v f C L B J=>?_;obtain ⟨t,rfl⟩:=L;have G:Inv X D σ H { s with heap:=f,toks:=C }:=I.turned (λ b o d e=>J b o (by simpa using d) e) p m r u A;exact ⟨_,rfl,go_of (s:={ s with heap:=f,toks:=C }) (n:="range_iterator") B rfl rfl (by decide) ⟨.int (lo + i * c),H,G,⟨t,rfl⟩,⟨rfl,rfl⟩,B,λ b d=>(g b d).1⟩⟩
 done:=by intro X x y j q i D s σ H E I g a l;subst x y j;obtain ⟨p,m,M,r,u,A⟩:=g it (by simp);exact wpAny_pyNext_range_end (I.ok.hd q) a (by have:n<=i:=l;omega) λ f N=>⟨rfl,I.turned (t':=s.toks) (λ b o d e=>N b o d e) p m r u A⟩
 self:=λ _ _ _ _ _ a h=>wpAny_pyIter_rangeiter a h
section
variable {X:Cx} {tg:Expr}
theorem zcl {pins:List (Addr×Obj)} {σ:St} {H:Hp} {s:y0} {R:It->Hp->Prop} {E:Value->y0->Prop} {lo hi c:Int} {t u v:Tok} {tk:Nat} (I:Inv X pins σ H s) (hs:B5 lo hi c=true) (h0:0<=N1 lo hi c)
  (q:R (Itr3 lo c (N1 lo hi c).toNat) H):P0 (V0 X.prog X.w) X.A (pyIter (.ref s.heap.objs.size)) (PIE X pins σ tg R) E { s with heap:=s.heap.push { cls:=.type "range",data:=.fields #[.int lo t,.int hi u,.int c v] },toks:=tk }:=by
 refine wpAny_pyIter_range (IsRange.new ..) hs ?_;have a:Inv X pins σ H { s with heap:=s.heap.push { cls:=.type "range",data:=.fields #[.int lo t,.int hi u,.int c v] },toks:=tk }:=I.kept λ b o e=>x0 _ e;refine ⟨(s.heap.push { cls:=.type "range",data:=.fields #[.int lo t,.int hi u,.int c v] }).objs.size,[(s.heap.push { cls:=.type "range",data:=.fields #[.int lo t,.int hi u,.int c v] }).objs.size],_,_,H,rfl,
  a.kept (t':=tk) λ b o e=>x0 _ e,z8u _ lo c (N1 lo hi c).toNat,?_,λ b d=>?_,q⟩
 ·have g:lo + ((0:Nat):Int) * c=lo:=by simp
  have f:(((N1 lo hi c).toNat:Nat):Int) - ((0:Nat):Int)=N1 lo hi c:=by omega
  show w9 _ _ (lo + ((0:Nat):Int) * c) ((((N1 lo hi c).toNat:Nat):Int) - ((0:Nat):Int)) c;rw [g,f];exact I0 _ rfl
 ·have e:b=(s.heap.push { cls:=.type "range",data:=.fields #[.int lo t,.int hi u,.int c v] }).objs.size:=by simpa using d
  subst e;exact a.fpOk (A0 _) (a.hok.fresh (A0 _))
noncomputable def iRng3 (ta:TA):TI:=λ σ H R=>ta σ H λ vs H1=>∃i j c:Int,vs=[.int i,.int j,.int c]/\c≠0/\R5 (j - i) c=false/\B5 i j c=true/\0<=N1 i j c/\R (Itr3 i c (N1 i j c).toNat) H1
theorem zcx {a b d:Expr} {ta:TA} {p pos:Pos} (hg:Gl X "range") (hm:X.mg "range" = none) (ha:PA X [a,b,d] ta) (hs:F1 [a,b,d] X.env=[(false,P3 a X.env),(false,P3 b X.env),(false,P3 d X.env)]:=by rfl) (hs2:F1 [b,d] X.env=[(false,P3 b X.env),(false,P3 d X.env)]:=by rfl) :
  PI X tg (.Call (.Name "range" p) [a,b,d] [] pos) (iRng3 ta):=by
 intro m s σ H R I h;refine Call_ (ld_blt I hg hm boot_range (O2 (thn (ha pos m s σ H _ I h) λ u v ⟨vs,H1,I1,r1,q1⟩=>?_) (by rw [hs,hs2]) (by rw [hs2];rfl)));obtain ⟨i,j,c,e,k,g,l,f,q⟩:=q1;subst e;cases r1 with
 | cons r rr=>
  cases rr with
  | cons r' rr=>
   cases rr with
   | cons r'' rr=>cases rr;obtain ⟨t,rfl⟩:=r;obtain ⟨o,rfl⟩:=r';obtain ⟨n,rfl⟩:=r'';exact call_range_3 k (zcl I1 l f q) (.inl g)
theorem zb4 {lo c:Int} {n:Nat} {g:TG} {tb:TS} {D:Ends} {σ:St} {H:Hp} (Pv:Nat->St->Hp->Prop) (h0:Pv 0 σ H)
  (he :∀σ H,Pv n σ H->D.nx σ H) (hb :∀i σ H,i < n->Pv i σ H->g (.int (lo + i * c)) σ H λ σ2 H2=>tb { D with nx:=Pv (i + 1),ct:=Pv (i + 1),bk:=D.nx } σ2 H2) :
  ∃W:Nat->Nat->St->Hp->Prop,(∃m,W 0 m σ H)/\∀i m σ H,W i m σ H->
   ((Itr3 lo c n).stop i H/\D.nx σ H)\/((Itr3 lo c n).go i H/\∃N:St->Hp->Prop,(∀σ' H',N σ' H'->∃m',m' < m/\W (i + 1) m' σ' H')/\∀x H',(Itr3 lo c n).yld i H x H'->g x σ H' λ σ2 H2=>tb { D with nx:=N,ct:=N,bk:=D.nx } σ2 H2):=by
 refine ⟨λ i m σ H=>m=n - i/\i<=n/\Pv i σ H,⟨n,rfl,D1 _,h0⟩,?_⟩;rintro i m σ H ⟨rfl,hi,hp⟩;by_cases hlt:i < n
 ·refine .inr ⟨hlt,Pv (i + 1),λ σ' H' q=>⟨n - (i + 1),by omega,rfl,hlt,q⟩,λ x H' y=>?_⟩;obtain ⟨rfl,rfl⟩:=y;exact hb i σ _ hlt hp
 ·have e:i=n:=by omega
  subst e;exact .inl ⟨A0 _,he σ H hp⟩
end
def RowAt (H:Hp) (r:Addr):Prop:=∃a b c:Int,H r=some (.lst [.int a,.int b,.int c])/\0<=c/\c < 536870909
def Kept (r:Addr) (H H':Hp):Prop:=∀b o,b≠r->H b=some o->H' b=some o
theorem Kept.set {r:Addr} {H:Hp} {o:HO}:Kept r H (upd H r o):=λ b u n h=>by rw [upd_ne n];exact h
structure Rw (r:Addr) (H H':Hp):Prop where
 k:Kept r H H'
 r:RowAt H' r
section
variable {r:Addr} {σ:St} {H0:Hp} {K:c0}
theorem g_name {i:Nat} {v:V} {σ:St} {H:Hp} {Q:St->Hp->Prop} (h:Q (σ.set i (some v)) H):gName i v σ H Q:=h
theorem t_nx {nx ct bk:St->Hp->Prop} {rt:VK} {σ:St} {H:Hp} (h:nx σ H):Ends.nx { nx:=nx,rt:=rt,bk:=bk,ct:=ct } σ H:=h
end
end L2
namespace L2
open PySem
section
variable {prog:Program} {w:N0} {A:B2} {E:Value->y0->Prop} {s:y0}
theorem tupOn {it t:Addr} {i:Nat} {its:Array Value} {x:Value} {Q:Value->y0->Prop} (a:s.heap.IsTupleIter it t i) (b:s.heap.IsTuple t its) (c:its[i]? = some x)
  (q :∀h',h'.IsTupleIter it t (i + 1)->Z5 it s.heap h'->Q x { s with heap:=h' }):P0 (V0 prog w) A (y4 (.ref it)) Q E s:=by
 obtain ⟨o,e,g,d⟩:=id a;obtain ⟨p,f,_,n,h⟩:=b;unfold y4;refine v0 (p7 (name:=M3 "__next__") a.typeIs X4 (o7 X4 a.typeIs y9 (show P0 _ _ (field (.ref it) 0 >>= _) _ _ s from v0 (a6 e d (x:=.ref t) rfl ?_)) (i9 _)));show P0 _ _ (if (E1 t == c5)=true then _ else (field (.ref it) 1 >>= _)) _ _ s;rw [if_neg (by exact O0)];refine v0 (a6 e d (x:=.int i 0) rfl (show P0 _ _ (seqItems? (.ref t) >>= _) _ _ s from v0 (J9 f h ?_)));simp only [m8,c];refine v0 (wpAny_setField e d (by simp) (C0 ⟨x,rfl,C0 (q _ ⟨_,m7 _ e (Obj.isFreed_of_fields (Obj.data_mapFields d _)),(Obj.cls_mapFields ..).trans g,?_⟩ (X2 ..))⟩));rw [Obj.data_mapFields d];simp [R4]
theorem tupOff {it t:Addr} {i:Nat} {its:Array Value} {Q:Value->y0->Prop} (hh:A.handled=none) (a:s.heap.IsTupleIter it t i) (b:s.heap.IsTuple t its) (c:its[i]? = none)
  (q :∀h' e,Heap.ExtBut it s.heap h'->(∃o,h'.get? e=some o/\o.cls=.type "StopIteration")->E (.ref e) { s with heap:=h' }):P0 (V0 prog w) A (y4 (.ref it)) Q E s:=by
 obtain ⟨o,d,j,f⟩:=id a;obtain ⟨p,g,_,n,h⟩:=b;unfold y4;refine v0 (p7 (name:=M3 "__next__") a.typeIs X4 (o7 X4 a.typeIs y9 (show P0 _ _ (field (.ref it) 0 >>= _) _ _ s from v0 (a6 d f (x:=.ref t) rfl ?_)) (i9 _)));show P0 _ _ (if (E1 t == c5)=true then _ else (field (.ref it) 1 >>= _)) _ _ s;rw [if_neg (by exact O0)];refine v0 (a6 d f (x:=.int i 0) rfl (show P0 _ _ (seqItems? (.ref t) >>= _) _ _ s from v0 (J9 g h ?_)));simp only [m8,c];refine v0 (B8 (v0 (wpAny_setField d f (by simp) (show P0 _ _ (newExc (.type "StopIteration") [] >>= _) _ _ _ from v0 ?_))));simp only [newExc,newTuple];refine v0 (d4 (v0 (m:=firstArgMember _ _) (j9 (a:=c5) (by first|rfl|(simp only [firstArgMember];rfl)) (d4 ?_ (by size_fits)))) (by size_fits));simp only [raiseNew];refine v0 (wpAny_handled ?_);first|rw [show A.in1.handled=none from hh]|rw [hh]
 exact v0 (C0 (wpAny_throw (q _ _ (((X2 ..).extBut.push _).push _) ⟨_,I0 _ rfl,rfl⟩)))
structure ZApart (z T U i j a b:Addr):Prop where
 dis:[z,T,U,i,j].Nodup
 fa:a∉[z,T,U,i,j]
 fb:b∉[z,T,U,i,j]
structure ZAt (h:Heap) (z T U i j a b:Addr) (n:Nat) (f:Value):Prop where
 z:IsZip h z T U f
 t:IsPair h T (.ref i) (.ref j)
 u :∃p q,IsPair h U p q
 i:h.IsTupleIter i a n
 j:h.IsTupleIter j b n
end
end L2
namespace L2
open PySem PySem.Spec PyProof.Rows
inductive Dt where
 | non|bl (b:Bool)|int (i:Int)|str (z:Str)|tup (ds:List Dt)
mutual
noncomputable def IsDt (K:c0) (H:Hp):Dt->V->Prop
 | .non,v=>v=.non
 | .bl b,v=>v=.bl b
 | .int i,v=>v=.int i
 | .str z,v=>v=.str z
 | .tup ds,v=>∃a xs,v=.ref a/\SqT K H a xs/\IsDts K H ds xs
noncomputable def IsDts (K:c0) (H:Hp):List Dt->List V->Prop
 | [],xs=>xs=[]
 | d :: ds,xs=>∃x r,xs=x :: r/\IsDt K H d x/\IsDts K H ds r
end
mutual
noncomputable def Dt.deep:Dt->Nat
 | .tup ds=>Dt.deeps ds + 1
 | _=>0
noncomputable def Dt.deeps:List Dt->Nat
 | []=>0
 | d :: ds=>max d.deep (Dt.deeps ds)
noncomputable def Dt.plain:Dt->Bool
 | .int _=>true
 | .str _=>true
 | .tup ds=>Dt.plains ds
 | _=>false
noncomputable def Dt.plains:List Dt->Bool
 | []=>true
 | d :: ds=>d.plain && Dt.plains ds
end
section
variable {X:Cx}
theorem Inv.turnedL {pins:List (Addr×Obj)} {σ:St} {H:Hp} {s:y0} {h':Heap} {t':Nat} {fp:List Addr} (I:Inv X pins σ H s) (k :∀b o,b∉fp->s.heap.get? b=some o->h'.get? b=some o) (hf :∀b∈fp,FpOk X pins H b) :
  Inv X pins σ H { s with heap:=h',toks:=t' }:=by
 have f :∀b u,H b=some u->b∉fp:=λ b u e z=>by have:=(hf b z).1;rw [this] at e;cases e
 refine I.step (g':=s.gens) (d':=s.drawn) (ch:=fp) (λ b d=>⟨(hf b d).2.2.2.1,(hf b d).2.1,(hf b d).2.2.2.2.1,(hf b d).2.2.2.2.2⟩) (λ b o _ _ a e _=>k b o a e) (λ b o _ _ a e _=>⟨o.slots,k b o a e⟩) (λ _ _ _ _ n=>n)
  (λ b o a e=>⟨o,k b o a e⟩) (λ _ _ e=>e) (λ _ _ _ e=>e) (λ b l e=>⟨#[],by rw [e];simp⟩) (λ m j=>?_) (λ b u e=>?_) I.bare
 ·obtain ⟨o,g,h,i,r⟩:=j;exact ⟨o,g,h,k _ o (λ z=>(hf _ z).2.1 rfl) i,r⟩
 ·refine (I.hok b u e).stay (λ c v a q=>k c v ?_ q) (λ _ q=>q) λ _ _ q=>q;rcases a with z|z
  ·rw [z];exact f b u e
  ·exact f c _ z
theorem Inv.turnedLaid {pins:List (Addr×Obj)} {σ:St} {H:Hp} {s:y0} {h':Heap} {t':Nat} {fp:List Addr} {a:Addr} {o:HO} (I:Inv X pins σ H s) (k :∀b o,b∉fp->s.heap.get? b=some o->h'.get? b=some o) (hf :∀b∈fp,FpOk X pins H b)
  (hp:s.heap.objs.size<=a) (new:ObjOk X.prog X.w (upd H a o) h' a o):Inv X pins σ (upd H a o) { s with heap:=h',toks:=t' }:=by
 have p:H a=none:=I.hok.fresh hp;have h :∀b u,H b=some u->b∉fp:=λ b u e z=>by have:=(hf b z).1;rw [this] at e;cases e
 have g :∀b u,H b=some u->upd H a o b=some u:=λ b u e=>by rw [upd_ne (z0e e p)];exact e
 refine I.step (g':=s.gens) (d':=s.drawn) (ch:=fp) (λ b f=>⟨(hf b f).2.2.2.1,(hf b f).2.1,(hf b f).2.2.2.2.1,(hf b f).2.2.2.2.2⟩) (λ b o _ _ d e _=>k b o d e) (λ b o _ _ d e _=>⟨o.slots,k b o d e⟩)
  (λ b u _ e n=>by rw [upd_ne (λ z=>by subst z;exact absurd (D0 e) (Nat.not_lt.mpr hp))];exact n)
  (λ b o d e=>⟨o,k b o d e⟩) (λ _ _ e=>g _ _ e) (λ _ _ _ e=>g _ _ e) (λ b y e=>⟨#[],by rw [g _ _ e];simp⟩) (λ m l=>?_) (λ b u e=>?_) I.bare
 ·obtain ⟨o,t,i,j,r⟩:=l;exact ⟨o,t,i,k _ o (λ z=>(hf _ z).2.1 rfl) j,r⟩
 ·by_cases f:b=a
  ·subst f;rw [z01] at e;cases e;exact new
  ·rw [upd_ne f] at e;refine (I.hok b u e).stay (λ c v d q=>k c v ?_ q) (λ c q=>g _ _ q) λ c x q=>g _ _ q;rcases d with z|z
   ·rw [z];exact h b u e
   ·exact h c _ z
theorem z1o {o e:Expr} {es:List Expr} {to:TE} {t:TA} {apos cpos:Pos} (ho:PE X o to) (ha:PA X (e :: es) t)
  (hbase:W6 o "append" X.env (P3 o X.env)=P3 o X.env:=by rfl)
  (hfew:((j5 cpos (F1 (e :: es) X.env)).all (λ x=>!x.1) && (backToKw cpos (o9 [] X.env)).all (λ x=>x.1.isSome)
   && decide ((e :: es).length + ([]:List N7).length + (if ([]:List N7).isEmpty then 0 else 1) < 30))=true:=by rfl)
  (hline:(apos.endLine == cpos.line)=true:=by rfl) (hs:F1 (e :: es) X.env=(false,P3 e X.env) :: F1 es X.env:=by rfl) (hplain:(j5 cpos (F1 es X.env)).any (·.1)=false:=by rfl) :
  PE X (.Call (.Attribute o "append" apos) (e :: es) [] cpos) (tBM X.K "list" z9n to t):=pe_bm PySem.F.plainAttrs_list PySem.F.slot_list_append PySem.F.type_list_append zcw ho ha hbase hfew hline hs hplain
end
theorem SqT.wrote {K:c0} {H:Hp} {l a:Addr} {o:HO} {zs xs:List V} (e:H l=some (.lst zs)) (h:SqT K H a xs):SqT K (upd H l o) a xs:=by
 rcases h with (h|⟨ob,h⟩)|h
 ·exact .inl (.inl (by rw [upd_ne (ne_of h e (by intro z;cases z))];exact h))
 ·exact .inl (.inr ⟨ob,by rw [upd_ne (ne_of h e (by intro z;cases z))];exact h⟩)
 ·exact .inr h
theorem iteP {c A B:Prop} [Decidable c] (hc:c) (h:A):if c then A else B:=by rw [if_pos hc];exact h
theorem iteN {c A B:Prop} [Decidable c] (hc:¬ c) (h:B):if c then A else B:=by rw [if_neg hc];exact h
theorem zfz {names:List (Str×Q5)} {n:Str} {Q:Str×Q5->Prop} (h:(names.all λ y=>y.2 != P1 || y.1 == n)=true) (q :∀k,Q (n,k)) :∀y∈names,y.2=P1->Q y:=λ y c e=>by
 have:=List.all_eq_true.mp h y c;rw [e] at this;have:(y.1 == n)=true:=by simpa using this
 obtain ⟨a,b⟩:=y;rw [beq_iff_eq] at this;have:a=n:=this;subst this;exact q b
noncomputable def CXE (P:Program) (w:N0) (base:Heap):CXT:=λ outer H s E e s'=>∃(ea:Addr) (cls a0:Value) (B:Heap) (H':Hp),e=.ref ea/\s'.os=s.os/\U6 s'.gens/\Un (frs outer) [] H H' s.heap s'.heap/\HOk P w H' s'.heap/\H' ea=none/\
 base.StaysIn B/\Heap.FlyingW B outer ea cls a0 s'.heap/\(∀b o,s'.heap.get? b=some o->b∉frs outer->((∃u,H' b=some u)\/∃u,s.heap.get? b=some u)->B.get? b=some o)/\E cls none H'
structure CalE (P:Program) (w:N0) (K:c0) (mg:Str->Option Value) (base:Heap) (x:Str) (ps:List Str) (k:Nat) (sp:Sp):Prop where
 ex :∃f fd,FnOk P w K mg base (CXE P w base) k f fd ps sp/\mg x=some (.ref f)/\Y3 K (.ref f)=true/\Binds K fd ps []
end L2
set_option maxHeartbeats 400000
namespace L2
open PySem PySem.Spec PyProof.Rows PySem.W PySem.Calls PySem.Builtin PySem.Builtin.ObjectAttr PySem.Builtin.Getset_descriptor
end L2
namespace L2
open PySem PySem.Spec PyProof.Rows PySem.W
end L2
namespace L2
open PySem PySem.Spec PyProof.Rows
end L2
set_option maxHeartbeats 4000000
namespace L2
open PySem PySem.Spec PyProof.Rows
noncomputable def cStG (σ:St) (fr:List (Nat×Str)) (us:List (Option V)):St:=us++fr.map λ p=>(σ[p.1]?).join
noncomputable def tCompG (wi:TI) (n:Nat) (fr:List (Nat×Str)) (g:TG) (tc:TT) (te:TE):TE:=λ σ H Q=>wi σ H λ J H1=>∃W:Nat->Nat->List V->Hp->Prop,(∃m,W 0 m [] H1)/\∀i m ys H,W i m ys H->
 (J.stop i H/\ys.length<=sizeLine/\∀p,H p=none->Q (.ref p) (upd H p (.lst ys)))\/
 (J.go i H/\ys.length<=sizeLine/\∀v H',J.yld i H v H'->g v (cStG σ fr (V2 n none)) H' λ σ6 H6=>∃us,us.length=n/\σ6=cStG σ fr us/\tc (cStG σ fr us) H6 λ b H2=>if b=true then te (cStG σ fr us) H2 λ y H3=>∃m',m' < m/\W (i + 1) m' (ys++[y]) H3 else∃m',m' < m/\W (i + 1) m' ys H2)
section
variable {X:Cx}
theorem ze5 {scope:Scope} {cl:List (Str×Addr)} {N:List Str} {C:Addr} {s₂:y0} {H₂:Hp} {fp:List Addr} {x:Str} {px:Pos} (i:Nat) (hN:N.Nodup) (hi:N[i]? = some x) (hx:scope.names.lookup x=some .local):PG (cxComp X scope cl N C s₂ H₂ fp) (.Name x px) (gName i):=
 z0m hN hi (.inl (lookup_relabel_local hx)) (.inr (lookup_relabel_local hx))
theorem zar {xs:List Str} {tg:Expr} {g:TG} {pos:Pos} {elt iter:Expr} {ifs:List Expr} {scope:Scope} {fr:List (Nat×Str)} {wi:TI} {tc:TT} {te:TE} {use:Option (Value->Sem Unit)} {QQ:Value->y0->Prop} {pins:List (Addr×Obj)} {s:y0} {σ:St} {H:Hp} {Q:VK} {pp:Pos} (hcalm:X.calm=true) (hi:PI X tg iter wi)
  (hfr :∀p∈fr,X.N[p.1]? = some p.2/\(X.env.kindOf p.2=some .cell\/X.env.kindOf p.2=some .free))
  (hfree :∀y∈scope.names,y.2=P1->X.env.kindOf y.1=some .cell\/X.env.kindOf y.1=some .free)
  (hfs :∀p∈fr,(p.2,P1)∈scope.names/\((O6 scope X.env).names.lookup p.2=some .cell\/(O6 scope X.env).names.lookup p.2=some .free))
  (hcell :∀y∈scope.names,y.2≠NameKind.cell) (hkind:scope.kind=.function) (hnames :∀y∈scope.names,y.2=NameKind.local->scope.names.lookup y.1=some .local)
  (hg :∀cl C s₂ H₂ fp,PG (cxComp X scope cl (xs++fr.map (·.2)) C s₂ H₂ fp) tg g)
  (ht :∀cl C s₂ H₂ fp,PF (cxComp X scope cl (xs++fr.map (·.2)) C s₂ H₂ fp) ifs tc) (he :∀cl C s₂ H₂ fp,PE (cxComp X scope cl (xs++fr.map (·.2)) C s₂ H₂ fp) elt te)
  (hs :∀x,g4 iter X.env x=C3 x) (I:Inv X pins σ H s) (h:tCompG wi xs.length fr g tc te σ H Q)
  (hend :∀(D:Addr) (s4:y0) (H4:Hp),Inv X pins σ H4 s4->(∃m,s4.heap.Ns (D + 1) m)->H4 (D + 1)=none->D + 1≠X.env.locals->X.s₀.heap.objs.size<=D + 1->(D + 1∉X.fs/\(∀x c,X.env.cells.lookup x=some c->c≠D + 1)/\∀p∈X.pn++pins,p.1≠D + 1)->Q (.ref D) H4->compPost (V0 X.prog X.w) X.A X.xe use QQ (.ref D) (D + 1) (.ok .next) s4) :
  P0 (V0 X.prog X.w) X.A (comprehension (.ListComp elt [⟨tg,iter,ifs,0⟩] scope pos) scope X.env pp (newList []) false (firstIter [⟨tg,iter,ifs,0⟩] X.env) use) QQ X.xe s:=by
 obtain ⟨cl,e5,U,b4⟩:=za0 (scope:=scope) (env:=X.env) λ y R hk=>I.ok.has y.1 (hfree y R hk);refine wpAny_comprehension_free (use:=use) rfl hs e5 hkind hnames (thn (hi pins s σ H _ I h) λ xv s₁ h₁=>thn h₁ λ g3 s₂ h₂=>?_);obtain ⟨it,fp,tn,J,M,e,f,T,b8,O,W,⟨m0,w0⟩,f3⟩:=h₂;subst e
 -- the list that is filled,the block's names
 refine d4 (wpAny_newFunctionEnv hcell (by intro y R;simp at R) (λ h₁ a5 a1=>?_) hkind);dsimp only at a5 a1⊢;generalize hD:s₂.heap.objs.size=D at a5 a1⊢;generalize hG:s₂.heap.push { cls:=.type "list",dict:=none,data:=.seq ([]:List Value).toArray }=G at a5 a1⊢;have hC:G.objs.size=D + 1:=by rw [<-hG,p4,hD]
 generalize hCC:G.objs.size=C at a5 a1 hC⊢;subst hC;have a9 :∀b∈fp,b < D:=λ b a=>by obtain ⟨o,e,_⟩:=T.obj _ _ b8 b a;rw [<-hD];exact D0 e
 have a2 :∀b o,s₂.heap.get? b=some o->h₁.get? b=some o:=λ b o e=>a1.extBut b o (Q0 (A1 (by rw [<-hD];exact D0 e))) (x0 _ (hG ▸ x0 _ e));have e4:G.get? D=some { cls:=.type "list",dict:=none,data:=.seq ([]:List Value).toArray }:=by rw [<-hG,<-hD];exact I0 _ rfl
 have e0:h₁.PlainList D #[]:=⟨0,a1.extBut _ _ (Q0 (F2 D)) (x0 _ e4)⟩
 have d5 :∀y c,cl.lookup y=some c->c < D:=λ y c e=>by obtain ⟨v,q⟩:=f.cell y c (U y c e);rw [<-hD];exact q.lt
 have f5 :∀b∈frs X.stack,b < D:=λ b a=>by
  rcases List.mem_cons.mp (f.stkSub b a) with e|a
  ·rw [e,<-hD];exact f.lt
  ·rw [<-hD];exact Nat.lt_of_not_le λ z=>f.nofs z a
 have d2 :∀b∈fp,b∉frs X.stack:=λ b a d7=>by
  rcases List.mem_cons.mp (f.stkSub b d7) with e|z
  ·exact (O b a).2.1 e
  ·exact (O b a).2.2.1 z
 generalize hX':cxComp X scope cl (xs++fr.map (·.2)) (D + 1) s₂ M fp=X';have e7:X'.Ok:=by
  subst hX';refine ⟨f.ok.mod,hkind,f.ok.glob,f.ok.blt,(by show s₂.heap.objs.size<=D + 1;omega),λ y z c S L=>f.ok.inj y z c (U _ _ S) (U _ _ L),λ y R=>?_,(λ _ _ z=>Bool.noConfusion z),f.ok.hd,f.ok.frames,.inl rfl,λ b a=>⟨?_,λ y c e=>?_⟩,λ b o e=>f.bs b o e,?_,λ b o e a=>?_,d2,f.env0.funs,f.stkFree⟩
  ·rcases R with R|R
   ·exact b4 y (z3f hcell R (.inl rfl))
   ·exact b4 y (z3f hcell R (.inr rfl))
  ·exact Q0 (A1 (a9 b a))
  ·exact (O b a).2.2.2.2.1 y c (U y c e)
  ·exact J0 f.ok.bsz f.sz
  ·rcases (O b a).2.2.2.1 with z|z
   ·exact f.ok.noex b o e z
   ·exact absurd (S0 (D0 (f.ok.bs b o e).1) z) (Z2 _)
 have a0:X'.env.locals=D + 1:=by subst hX';rfl
 have a4:X'.env.cells=cl:=by subst hX';rfl
 have a7:X'.fs=frs X.stack:=by subst hX';rfl
 have b5:X'.pn=[]:=by subst hX';rfl
 have a6:X'.s₀=s₂:=by subst hX';rfl
 have c3:X'.H₀=M:=by subst hX';rfl
 have c0:X'.ex=fp:=by subst hX';rfl
 have c4:X'.N=xs++fr.map (·.2):=by subst hX';rfl
 have c9:X'.A=X.A:=by subst hX';rfl
 have E:X'.prog=X.prog/\X'.w=X.w/\X'.K=X.K/\X'.calm=true:=by subst hX';exact ⟨rfl,rfl,rfl,hcalm⟩
 have b7:X'.xe=λ _ _=>False:=by subst hX';rfl
 have c6:X'.env=compEnvC scope cl (D + 1) X.env:=by subst hX';rfl
 have f4:PF X' ifs tc:=hX' ▸ ht cl (D + 1) s₂ M fp;have d9:PE X' elt te:=hX' ▸ he cl (D + 1) s₂ M fp;have f8:PG X' tg g:=hX' ▸ hg cl (D + 1) s₂ M fp;have fresh :∀b,D<=b->M b=none:=λ b a=>f.hok.fresh (by rw [hD];exact a);have start :∀t,Inv X' [] (cStG σ fr (V2 xs.length none)) M { s₂ with heap:=h₁,toks:=t }:=λ t=>by
  refine ⟨e7,by rw [a6],f.bare,?_,⟨_,by rw [a0];exact a5,λ i y v S L e3=>?_⟩,λ y c e=>?_,by rw [a0];exact fresh _ (T5 _),λ y c e=>?_,λ p B=>?_,?_,?_⟩
  ·rw [a7,c0,c3,a6];exact Un.kept a2
  ·rw [c4] at S;by_cases a3:i < xs.length
   ·exfalso;unfold cStG at L;rw [N2 (by rw [B3];exact a3),G6,if_pos a3] at L;cases L
   ·have a3:xs.length<=i:=F8 a3;rw [E2 a3,Z0] at S;unfold cStG at L;rw [E2 (by rw [B3];exact a3),B3,Z0] at L;generalize i - xs.length=i at S L;cases ej:fr[i]? with
    | none=>rw [ej] at S;cases S
    | some p=>
     rw [ej] at S;obtain rfl:p.2=y:=W0 S;have b0:(σ[p.1]?).join=some v:=by rw [ej] at L;exact W0 L
     have d8:σ[p.1]? = some (some v):=by
      cases q:σ[p.1]? with
      | none=>rw [q] at b0;cases b0
      | some z=>rw [q] at b0;exact congrArg some b0
     have B:=o0 ej;obtain ⟨m,hn,hl⟩:=f.loc;obtain ⟨u,r,l⟩:=hl p.1 p.2 v (hfr p B).1 d8 (by rcases (hfr p B).2 with z|z;exact .inr (.inl z);exact .inr (.inr z));refine ⟨u,r,.inr ⟨?_,?_⟩⟩
     ·rw [c6];exact (hfs p B).2
     ·rcases l with ⟨z,_⟩|⟨_,c,ec,q⟩
      ·exfalso;rcases (hfr p B).2 with z'|z'<;>(rw [z] at z';cases z')
      ·obtain ⟨c',c8⟩:=b4 p.2 (hfs p B).1;have:=U _ _ c8;rw [ec] at this;cases this;obtain ⟨o,ho,hd⟩:=q;exact ⟨c,by rw [a4];exact c8,o,a2 _ _ ho,hd⟩
  ·rw [a4] at e;obtain ⟨v,o,ho,hd⟩:=f.cell y c (U y c e);exact ⟨v,o,a2 _ _ ho,hd⟩
  ·rw [a4] at e;exact f.freeC y c (U y c e)
  ·rw [b5] at B;exact nomatch B
  ·rw [E.1,E.2.1];exact f.hok.kept a2
  ·rw [c4];unfold cStG;simp
 have FP :∀{pins':List (Addr×Obj)} {H':Hp},(∀b∈fp,H' b=none)->(∀p∈pins',p.1=D)->∀b∈fp,FpOk X' pins' H' b:=λ hn B b a=>by
  refine ⟨hn b a,?_,?_,.inl (by rw [c0];exact a),λ y c e=>?_,λ p c5=>?_⟩
  ·rw [a0];exact Q0 (A1 (a9 b a))
  ·rw [a7];exact d2 b a
  ·rw [a4] at e;exact (O b a).2.2.2.2.1 y c (U y c e)
  ·rw [b5] at c5;rw [B p c5];exact Y1 (a9 b a)
 -- the turns
 have loop :∀s₃:y0,s₃={ s₂ with heap:=h₁,toks:=s₂.toks + ([]:List (Str×Value)).length }->
   v5 (V0 X.prog X.w) X.A (.compLoop (.ListComp elt [⟨tg,iter,ifs,0⟩] scope pos) 0 (.ref it) (.ref D) (compEnvC scope cl (D + 1) X.env))
    (compPost (V0 X.prog X.w) X.A X.xe use QQ (.ref D) (D + 1)) s₃:=by
  rintro s₃ rfl;rw [<-c6,<-E.1,<-E.2.1,<-c9];refine zc3 (λ k s'=>∃i ys its H',Inv X' [] (cStG σ fr (V2 xs.length none)) H' s'/\tn i s'.heap/\(∀b∈fp,H' b=none)/\s'.heap.PlainList D its.toArray/\Vals ys its/\H' D=none/\W i k ys H') ?_ m0
   ⟨0,[],[],M,start _,T.keep _ _ _ b8 λ b a o e=>a2 b o e,λ b a=>(O b a).1,e0,.nil,fresh _ (A0 _),w0⟩
  rintro n s3 ⟨i,ys,its,H3,I3,st3,fr3,ac3,rv3,hD3,w3⟩;obtain ⟨na,d6⟩:=id ac3;have d1:Inv X' [(D,{ cls:=.type "list",data:=.seq its.toArray na })] (cStG σ fr (V2 xs.length none)) H3 s3:=I3.pins_of λ p B=>by rw [List.mem_singleton] at B;subst B;refine ⟨d6,hD3,by rw [a0];exact Q0 (F2 D),by rw [a7];exact λ z=>Z2 _ (f5 D z),λ v z=>nomatch z⟩
  have hT:=T;rw [<-E.1,<-E.2.1,<-E.2.2.1] at hT;rcases f3 i n ys H3 w3 with ⟨g0,b9,qn⟩|⟨go,b9,step⟩
  ·refine thn (hT.done X' rfl rfl rfl E.2.2.2 i _ s3 _ H3 _ d1 (FP fr3 (by intro p B;rw [List.mem_singleton.mp B])) st3 g0) λ r s4 ⟨hr,I4⟩=>?_;subst hr;obtain ⟨m4,f7,_⟩:=id I4.loc;obtain ⟨Z,c7⟩ :∃Z,Z=s4.heap:=⟨_,rfl⟩
   have d0:Z5 (D + 1) s4.heap Z:=by rw [c7];exact ⟨rfl,λ _ _=>rfl⟩
   have f6:D≠D + 1:=Q0 (F2 D);have g2:=(I4.pin (D,_) (M0 _ W1))
   have d3:Z.get? D=some { cls:=.type "list",data:=.seq its.toArray na }:=(d0.2 D f6).trans g2.1;have un:Un (frs X.stack) fp M H3 s₂.heap s4.heap:=by have:=I4.base;rw [a7,c0,c3,a6] at this;exact this
   have kp :∀b o,b≠D + 1->s4.heap.get? b=some o->Z.get? b=some o:=λ b o a e=>(d0.2 b a).trans e;have a8 :∀b o,s₂.heap.get? b=some o->b≠D + 1/\b≠D:=λ b o e=>by have:=D0 e;rw [hD] at this;exact ⟨Q0 (A1 this),Q0 this⟩
   have f1:Un (frs X.stack) fp M (upd H3 D (.lst ys)) s₂.heap Z:=by
    refine ⟨λ b o e n a Y=>kp b o (a8 b o e).1 (un.keep b o e n a Y),λ b o e n a Y=>?_,λ b o e n Y=>by rw [upd_ne (a8 b o e).2];exact un.free b o e n Y,λ b o e Y=>?_,λ b xs e=>?_,λ b o u e=>?_,λ b ps e=>?_⟩
    ·obtain ⟨sl,z⟩:=un.slot b o e n a Y;exact ⟨sl,kp _ _ (a8 b o e).1 z⟩
    ·obtain ⟨o',z⟩:=un.there b o e Y;exact ⟨o',kp _ _ (a8 b o e).1 z⟩
    ·rw [upd_ne (z0e e (fresh D (A0 _)))];exact un.tups b xs e
    ·rw [upd_ne (z0e e (fresh D (A0 _)))];exact un.frzs b o u e
    ·rw [upd_ne (z0e e (fresh D (A0 _)))];exact un.tbls b ps e
   have b6:H3 (D + 1)=none:=by have:=I4.free;rw [a0] at this;exact this
   have f0:HOk X.prog X.w (upd H3 D (.lst ys)) Z:=λ b u e=>by
    by_cases a:b=D
    ·subst a;rw [z01] at e;cases e;exact ⟨b9,its,na,rv3,d3⟩
    ·rw [upd_ne a] at e;have z:=I4.hok b u e;rw [E.1,E.2.1] at z;refine z.stay (λ c v hc q=>kp c v ?_ q) (λ c q=>by rw [upd_ne (z0e q hD3)];exact q) λ c xs q=>by rw [upd_ne (z0e q hD3)];exact q
     rintro rfl;rcases hc with rfl|hc
     ·rw [b6] at e;cases e
     ·rw [b6] at hc;cases hc
   subst c7;have I5:Inv X pins σ (upd H3 D (.lst ys)) s4:=f.call' (s':=s4) (ch:=fp) (by have:=I4.os;rw [a6] at this;exact this) f1 f0 I4.bare (λ b a=>⟨(O b a).2.2.2.1,(O b a).2.1,(O b a).2.2.2.2.1,(O b a).2.2.2.2.2⟩);show compPost (V0 X'.prog X'.w) X'.A X.xe use QQ (.ref D) (D + 1) (.ok .next) s4;rw [E.1,E.2.1,c9];refine hend D s4 _ I5 ⟨m4,a0 ▸ f7⟩ ?_ ?_ ?_ ?_ (qn D hD3)
   ·rw [upd_ne (Y1 (F2 D))];exact b6
   ·exact Y1 (A1 (by rw [<-hD];exact f.lt))
   ·exact J0 f.sz (by rw [hD];exact T5 D)
   ·refine ⟨λ z=>f.nofs (by rw [hD];exact T5 D) z,λ y c e=>?_,λ p B=>?_⟩
    ·obtain ⟨v,q⟩:=f.cell y c e;exact Q0 (A1 (by rw [<-hD];exact q.lt))
    ·exact Q0 (A1 (by rw [<-hD];exact D0 (f.pin p B).1))
  ·refine thn (hT.item X' rfl rfl rfl E.2.2.2 i _ s3 _ H3 _ d1 (FP fr3 (by intro p B;rw [List.mem_singleton.mp B])) st3 go) λ r s4 ⟨u,hr,h4⟩=>?_;subst hr;refine thn h4 λ _ s5 ⟨v,H5,I5,r5,y5,st5,fr5⟩=>?_;have g1:=I5.pinned (FP fr5 (by intro p B;rw [List.mem_singleton.mp B])) (T.obj _ _ st5);have g5:=f8 _ s5 (cStG σ fr (V2 xs.length none)) H5 v u _ g1 r5 (step v H5 y5);rw [b7] at g5;refine thn g5 λ _ s6 ⟨σ6,H6,I6,us,hus,e6,q6⟩=>?_;subst e6;have t6:=f4 _ s6 _ H6 _ I6 q6;rw [b7] at t6;refine thn t6 λ ok s7 ⟨H7,I7,q7⟩=>?_;have c2 :∀{H8:Hp} {F:y0} {ys':List V} {its':List Value} {pl:List (Addr×Obj)},Inv X' (pl++pinsAt fp s5.heap) (cStG σ fr us) H8 F->F.heap.PlainList D its'.toArray->Vals ys' its'->H8 D=none->(∃m',m' < n/\W (i + 1) m' ys' H8)->
     ∃m,m < n/\∃i ys its H',Inv X' [] (cStG σ fr (V2 xs.length none)) H' F/\tn i F.heap/\(∀b∈fp,H' b=none)/\F.heap.PlainList D its.toArray/\Vals ys its/\H' D=none/\W i m ys H':=λ {H8 F ys' its' pl} P b2 rv8 b1 ⟨m',hm,w8⟩=>by
    refine ⟨m',hm,i + 1,ys',its',H8,(P.pins_of (pins':=[]) (λ p B=>absurd B B0)).weak (by unfold cStG;simp [hus]) ?_,T.keep _ _ _ st5 λ b a o e=>(P.pin (b,o) (M0 _ (M0 _ (z0w a e)))).1,λ b a=>?_,b2,rv8,b1,w8⟩
    ·intro j z e;unfold cStG at e⊢;by_cases hj:j < xs.length
     ·rw [N2 (by rw [B3];exact hj),G6,if_pos hj] at e;cases e
     ·have hj:xs.length<=j:=F8 hj;rw [E2 (by rw [B3];exact hj),B3] at e;rw [E2 (by rw [hus];exact hj),hus];exact e
    ·obtain ⟨o,e,d⟩:=T.obj _ _ st5 b a;exact (P.pin (b,o) (M0 _ (M0 _ (z0w a e)))).2.1
   have b3 :∀{H8:Hp} {F:y0} {σ8:St},Inv X' ([(D,{ cls:=.type "list",data:=.seq its.toArray na })]++pinsAt fp s5.heap) σ8 H8 F->F.heap.PlainList D its.toArray/\H8 D=none:=λ P=>
    have z:=P.pin (D,_) (M0 _ (P4 _ W1))
    ⟨⟨na,z.1⟩,z.2.1⟩
   cases ok with
   | false=>rw [if_neg O0] at q7⊢;exact c2 I7 (b3 I7).1 rv3 (b3 I7).2 q7
   | true=>
    rw [if_pos rfl] at q7⊢;have t7:=d9 _ s7 _ H7 _ I7 q7;rw [b7] at t7;refine thn t7 λ y F ⟨vy,H8,P,r8,q8⟩=>?_;obtain ⟨b2,b1⟩:=b3 P;refine wpAny_list_append_plain (hsz:=by have:=rv3.length;rw [L0,<-this];exact b9) b2 λ h9 c1 f9=>?_;have I9:Inv X' ([]++pinsAt fp s5.heap) (cStG σ fr us) H8 F:=P.pins_of λ p B=>(P.pin p (M0 _ (M0 _ B)))
    have e8:Inv X' ([]++pinsAt fp s5.heap) (cStG σ fr us) H8 { F with heap:=h9 }:=by
     refine I9.turned (t':=F.toks) (it:=D) (λ b o a e=>(f9.2 b a).trans e) b1 (by rw [a0];exact Q0 (F2 D)) (.inr (by rw [a6,hD];exact A0 _)) (λ y' c e=>?_) λ p B=>?_
     ·rw [a4] at e;exact Q0 (d5 y' c e)
     ·rw [b5] at B;exact Q0 (a9 _ (z7h B).1)
    have e9:its.toArray.push y=(its++[y]).toArray:=by simp
    rw [e9] at c1;exact c2 e8 c1 (rv3.snoc r8) b1 q8
 exact codeAny_compStart_list (loop _ rfl) (T.self _ 0 _ _ _ (T.keep _ _ _ b8 λ b a o e=>a2 b o e) (loop _ rfl))
theorem zeo {xs:List Str} {tg:Expr} {g:TG} {pos:Pos} {elt iter:Expr} {ifs:List Expr} {scope:Scope} {fr:List (Nat×Str)} {wi:TI} {tc:TT} {te:TE} (hcalm:X.calm=true) (hi:PI X tg iter wi)
  (hfr :∀p∈fr,X.N[p.1]? = some p.2/\(X.env.kindOf p.2=some .cell\/X.env.kindOf p.2=some .free))
  (hfree :∀y∈scope.names,y.2=P1->X.env.kindOf y.1=some .cell\/X.env.kindOf y.1=some .free)
  (hfs :∀p∈fr,(p.2,P1)∈scope.names/\((O6 scope X.env).names.lookup p.2=some .cell\/(O6 scope X.env).names.lookup p.2=some .free))
  (hcell :∀y∈scope.names,y.2≠NameKind.cell) (hkind:scope.kind=.function) (hnames :∀y∈scope.names,y.2=NameKind.local->scope.names.lookup y.1=some .local)
  (hg :∀cl C s₂ H₂ fp,PG (cxComp X scope cl (xs++fr.map (·.2)) C s₂ H₂ fp) tg g)
  (ht :∀cl C s₂ H₂ fp,PF (cxComp X scope cl (xs++fr.map (·.2)) C s₂ H₂ fp) ifs tc) (he :∀cl C s₂ H₂ fp,PE (cxComp X scope cl (xs++fr.map (·.2)) C s₂ H₂ fp) elt te)
  (hs :∀x,g4 iter X.env x=C3 x:=by intro _;rfl):PE X (.ListComp elt [⟨tg,iter,ifs,0⟩] scope pos) (tCompG wi xs.length fr g tc te):=by
 intro t s σ H Q I h;rw [eval_ListComp];refine zar hcalm hi hfr hfree hfs hcell hkind hnames hg ht he hs I h λ D i n k a j f d ⟨c,hc,hp⟩ q=>?_;obtain ⟨m,a⟩:=a;exact ⟨m,a,λ r l=>⟨.ref D,n,k.turned (t':=i.toks) (it:=D + 1) (λ b o c e=>(l.2 b c).trans e) j f (.inr d) hc hp,rfl,q⟩⟩
theorem zfu {xs:List Str} {tg:Expr} {g:TG} {pos:Pos} {elt iter:Expr} {ifs:List Expr} {scope:Scope} {fr:List (Nat×Str)} {wi:TI} {tc:TT} {te:TE} {i:Nat} {y:Str} {py spos:Pos} (hNy:X.N.Nodup) (hiy:X.N[i]? = some y) (hy:Loc X.env.scope y) (hcalm:X.calm=true) (hi:PI X tg iter wi)
  (hfr :∀p∈fr,X.N[p.1]? = some p.2/\(X.env.kindOf p.2=some .cell\/X.env.kindOf p.2=some .free))
  (hfree :∀y∈scope.names,y.2=P1->X.env.kindOf y.1=some .cell\/X.env.kindOf y.1=some .free)
  (hfs :∀p∈fr,(p.2,P1)∈scope.names/\((O6 scope X.env).names.lookup p.2=some .cell\/(O6 scope X.env).names.lookup p.2=some .free))
  (hcell :∀y∈scope.names,y.2≠NameKind.cell) (hkind:scope.kind=.function) (hnames :∀y∈scope.names,y.2=NameKind.local->scope.names.lookup y.1=some .local)
  (hg :∀cl C s₂ H₂ fp,PG (cxComp X scope cl (xs++fr.map (·.2)) C s₂ H₂ fp) tg g)
  (ht :∀cl C s₂ H₂ fp,PF (cxComp X scope cl (xs++fr.map (·.2)) C s₂ H₂ fp) ifs tc) (he :∀cl C s₂ H₂ fp,PE (cxComp X scope cl (xs++fr.map (·.2)) C s₂ H₂ fp) elt te)
  (hs :∀x,g4 iter X.env x=C3 x:=by intro _;rfl) (hw:c8 (.ListComp elt [⟨tg,iter,ifs,0⟩] scope pos) (some (.Name y py)) spos.line X.env=C3 true:=by rfl) (hf:X.fn y=true\/X.env.scope.names.lookup y=some .local:=by first|exact .inl rfl|exact .inr rfl|assumption) :
  PS X (.Assign [.Name y py] (.ListComp elt [⟨tg,iter,ifs,0⟩] scope pos) spos) (tAsg (tCompG wi xs.length fr g tc te) (gName i)):=by
 intro t s σ H D I h;rw [exec_Assign_Name_used y py _ spos hw];refine v0 (wpAny_standAt (v0 ?_));show P0 _ _ (do let _ <-comprehension (.ListComp elt [⟨tg,iter,ifs,0⟩] scope pos) scope X.env (firstIterPos [⟨tg,iter,ifs,0⟩] pos) (newList []) (firstAsync [⟨tg,iter,ifs,0⟩]) (firstIter [⟨tg,iter,ifs,0⟩] X.env) (some (assign (.Name y py) X.env));C3 ()) _ _ _;refine v0 (zar hcalm hi hfr hfree hfs hcell hkind hnames hg ht he hs I h λ A l r n d E j u ⟨c,hc,hp⟩ q=>?_);obtain ⟨m,d⟩:=d;obtain ⟨o,L,w,G,hd,B,J⟩:=d;have F:Inv X ((A + 1,o) :: t) σ r l:=n.pins_of λ p a=>by
  rcases List.mem_cons.mp a with rfl|a
  ·exact ⟨G,E,j,c,λ v z=>by rw [hd] at z;cases z⟩
  ·exact n.pin p (M0 _ a)
 refine thn (z0m (pos:=py) hNy hiy hy hf _ l σ r (.ref A) (.ref A) D.nx F rfl q) λ _ f ⟨σ5,H5,I6,q6⟩=>?_;have k:=I6.pin (A + 1,o) (M0 _ W1);have K:Inv X t σ5 H5 f:=I6.pins_of λ p a=>I6.pin p (M0 _ (G2 _ a));refine ⟨m,⟨o,L,w,k.1,hd,B,J⟩,λ O M=>?_⟩;exact C0 (C0 ⟨σ5,H5,K.turned (t':=f.toks) (it:=A + 1) (λ b o c e=>(M.2 b c).trans e) k.2.1 j (.inr u) hc hp,q6⟩)
end
end L2
set_option maxHeartbeats 400000
namespace L2
open PySem PySem.Spec PyProof.Rows
theorem z3x {t rest:TS} {D:Ends} {σ:St} {H:Hp} (R:St->Hp->Prop) (hr :∀σ1 H1,R σ1 H1->rest D σ1 H1) (h:(∀σ1 H1,R σ1 H1->rest D σ1 H1)->t { D with nx:=rest D } σ H):tSeq t rest D σ H:=h hr
theorem z0f {te:TE} {g:TG} {rest:TS} {D:Ends} {σ:St} {H:Hp} (h:te σ H λ x H1=>g x σ H1 (rest D)):tSeq (tAsg te g) rest D σ H:=h
structure Runs (J:It) (H1:Hp) (n:Nat) (Item:Nat->V->Hp->Prop):Prop where
 go :∀i,i < n->∀H,Same H1 H->J.go i H
 stop :∀H,Same H1 H->J.stop n H
 item :∀i,i < n->∀H v H',Same H1 H->J.yld i H v H'->Same H H'/\Item i v H'
theorem z19 (p:Nat->Bool) (n:Nat):(V1 (n + 1)).filter p=(V1 n).filter p++(if p n=true then [n] else []):=by rw [M8,W2,N5];cases p n<;>rfl
inductive All2 {α β:Type} (R:α->β->Prop):List α->List β->Prop
 | nil:All2 R [] []
 | cons {a:α} {b:β} {xs:List α} {ys:List β}:R a b->All2 R xs ys->All2 R (a :: xs) (b :: ys)
theorem z33 {α β:Type} {R:α->β->Prop} :∀{xs:List α} {ys:List β} {x:α} {y:β},All2 R xs ys->R x y->All2 R (xs++[x]) (ys++[y])
 | [],_,x,y,.nil,h=>.cons h .nil
 | _ :: _,_,x,y,.cons a r,h=>.cons a (z33 r h)
theorem z02 {α β:Type} {R S:α->β->Prop} (h :∀a b,R a b->S a b) :∀{xs:List α} {ys:List β},All2 R xs ys->All2 S xs ys
 | [],_,.nil=>.nil
 | _ :: _,_,.cons a r=>.cons (h _ _ a) (z02 h r)
theorem z04 {α β:Type} {R:α->β->Prop} :∀{xs:List α} {ys:List β},All2 R xs ys->ys.length=xs.length
 | [],_,.nil=>rfl
 | _ :: _,_,.cons _ r=>congrArg (· + 1) (z04 r)
theorem z1q {α β:Type} {f:α->β} :∀{xs:List α} {ys:List β},All2 (λ x y=>y=f x) xs ys->ys=xs.map f
 | [],_,.nil=>rfl
 | _ :: _,_,.cons a r=>by rw [T0,z1q r,a]
theorem z0x {α β:Type} (p:α->Bool) (f:α->β) (d:α) :∀xs:List α,((V1 xs.length).filter λ i=>p (xs[i]?.getD d)).map (λ i=>f (xs[i]?.getD d))=(xs.filter p).map f:=by
 intro xs;have h:(V1 xs.length).map (λ i=>xs[i]?.getD d)=xs:=by
  apply List.ext_getElem
  ·simp
  ·intro i b a;simp only [n4,List.getElem_range,Y0 a,Option.getD_some]
 have e:(xs.filter p).map f=((((V1 xs.length).map (λ i=>xs[i]?.getD d))).filter p).map f:=by rw [h]
 rw [e,List.filter_map,R3];rfl
structure QE (X:Cx) (e:Expr) (t:TE):Prop where
 run:PE X e t
structure QA (X:Cx) (es:List Expr) (t:TA):Prop where
 run:PA X es t
structure QPs (X:Cx) (pos:Pos) (ks:List (Option Expr)) (vs:List Expr) (t:List (TE×TE)):Prop where
 run:PPs X pos ks vs t
structure QS (X:Cx) (st:Stmt) (t:TS):Prop where
 run:PS X st t
structure QSs (X:Cx) (sts:List Stmt) (t:TS):Prop where
 run:PSs X sts t
section
variable {X:Cx} {pos:Pos}
theorem q_of {sts:List Stmt} {t:TS} {G:TS->Prop} (q:QSs X sts t) (g:G t) :∃t,PSs X sts t/\G t:=⟨t,q.run,g⟩
theorem z1f {st:Stmt} {t:TS} (h:QS X st t):QSs X [st] t:=⟨z05 h.run⟩
theorem z0b {st:Stmt} {rest:List Stmt} {t u:TS} (h:QS X st t) (r:QSs X rest u):QSs X (st :: rest) (tSeq t u):=⟨z06 h.run r.run⟩
theorem qs_set {i:Nat} {x:Str} {e:Expr} {te:TE} {pos':Pos} (hN:X.N.Nodup) (hi:X.N[i]? = some x) (hx:Loc X.env.scope x) (he:QE X e te) (hs:c8 e (some (.Name x pos')) pos.line X.env=C3 false:=by rfl) (hf:X.fn x=true\/X.env.scope.names.lookup x=some .local:=by first|exact .inl rfl|exact .inr rfl|assumption) :
  QS X (.Assign [.Name x pos'] e pos) (tAsg te (gName i)):=⟨ps_set hN hi hx he.run hs hf⟩
theorem qs_for {tg iter:Expr} {body:List Stmt} {wi:TI} {g:TG} {tb:TS} (hp:PassesOwn (V0 X.prog X.w) X.A X.env X.xe) (hc:X.calm=true) (hi:PI X tg iter wi) (hg:PG X tg g) (hb:QSs X body tb)
  (hs :∀x,g4 iter X.env x=C3 x:=by intro _;rfl):QS X (.For tg iter body [] pos) (tFor wi g tb):=⟨ps_for hp hc hi hg hb.run hs⟩
theorem qe_lst {es:List Expr} {t:TA} (h:QA X es t):QE X (.List es pos) (tLst t):=⟨pe_lst h.run⟩
theorem qa_nil:QA X [] tNil:=⟨pa_nil⟩
theorem z0u {e:Expr} {es:List Expr} {te:TE} {t:TA} (ha:QE X e te) (hr:QA X es t) (hs:F1 (e :: es) X.env=(false,P3 e X.env) :: F1 es X.env:=by rfl):QA X (e :: es) (tCons te t):=⟨z00 ha.run hr.run hs⟩
theorem qe_op {a b:Expr} {ta tb:TE} {op:Operator} {r:R2} (ho:OpR X (Z4 op) r) (ha:QE X a ta) (hb:QE X b tb):QE X (.BinOp a op b pos) (tOp r ta tb):=⟨pe_op ho ha.run hb.run⟩
theorem qe_ix {a b:Expr} {ta tb:TE} {r:R2} (hr:IxR X r) (ha:QE X a ta) (hb:QE X b tb) (hs:zdc b):QE X (.Subscript a b pos) (tOp r ta tb):=⟨pe_ix hr ha.run hb.run hs⟩
end
theorem z1a {X:Cx} {K:c0} (h:X.K=K):IxR X (rIx K):=h ▸ ix_seq
theorem z0a {α β:Type} {R:α->β->Prop} :∀{xs:List α} {ys:List β} {i:Nat} {y:β},All2 R xs ys->ys[i]? = some y->∃x,xs[i]? = some x/\R x y
 | _,_,i,y,.nil,e=>by simp at e
 | _,_,0,y,.cons a _,e=>by rw [R1] at e;cases e;exact ⟨_,R1,a⟩
 | _,_,i + 1,y,.cons _ r,e=>by rw [B1] at e;obtain ⟨x,c,b⟩:=z0a r e;exact ⟨x,by rw [B1];exact c,b⟩
end L2
set_option maxHeartbeats 4000000
namespace L2
open PySem PySem.Spec PyProof.Rows
section
variable {prog:Program} {w:N0} {A:B2} {E:Value->y0->Prop} {s:y0}
theorem z41 (hh:A.handled=none) (it t:Addr) (ne:t≠it) (items:Array Value):Draws prog w A it [it,t] items.size (λ i v=>items[i]? = some v) (λ i h=>h.IsTupleIter it t i/\h.IsTuple t items) where
 live:=λ i h a=>a.1.elim λ o z=>⟨o,z.1⟩
 frame:=λ i h b a k=>⟨a.1.elim λ o z=>⟨o,k it (by simp) o z.1,z.2⟩,a.2.elim λ o z=>⟨o,k t (by simp) o z.1,z.2⟩⟩
 item:=λ i s Q E c a q=>tupOn a.1 a.2 (V4 c) λ b d sb=>q _ b s.toks (V4 c) ⟨d,a.2.elim λ o z=>⟨o,(sb.2 t ne).trans z.1,z.2⟩⟩ sb
 done:=λ s Q E a q=>tupOff hh a.1 a.2 (by simp) λ b e x y=>q b e x y
theorem zfx (a:Addr) (xs:Array Value):Meets (T6.«enumerate.__new__» ⟨[.type "enumerate",.ref a],[]⟩) (λ _ R s=>s.heap.IsTuple a xs/\R (.ok (.ret (.ref (s.heap.objs.size + 1))))
  { s with heap:=(s.heap.push { cls:=.type "tuple_iterator",data:=.fields #[.ref a,.int 0 0] }).push { cls:=.type "enumerate",data:=.fields #[.none,.bool false,.ref s.heap.objs.size,R4 0,.none,.none] } }):=
 .of_wp λ i w A R s h=>by
  obtain ⟨j,g,d,e,f⟩:=s;obtain ⟨k,h⟩:=h;have m:=sub_enumerate;have b:Heap.IsTuple (Shared.heap ⟨j,g,d,e,f⟩) a xs:=k
  wp_walk using E4 b
  intro Γ p l;show P0 (V0 i w) A.in1 (C3 _) _ _ _;refine C0 ?_;generalize List.drop 1 ((Γ.code,p) :: Γ.below)=L;split
  ·rename_i c _ _ _ _;cases c == M4 "enumerate" with
   | true=>
    wp_walk using E4 b
    refine ⟨_,rfl,?_⟩;simpa [p4,z4] using h
   | false=>
    wp_walk using E4 b
    refine ⟨_,rfl,?_⟩;simpa [p4,z4] using h
  ·wp_walk using E4 b
   refine ⟨_,rfl,?_⟩;simpa [p4,z4] using h
theorem zdm {a:Addr} {xs:Array Value} {Q:Value->y0->Prop} (ha:s.heap.IsTuple a xs)
  (q :∀h',IsEnum h' (s.heap.objs.size + 1) s.heap.objs.size 0 .none->h'.IsTupleIter s.heap.objs.size a 0->h'.objs.size=s.heap.objs.size + 2->(∀c o,s.heap.get? c=some o->h'.get? c=some o)->Q (.ref (s.heap.objs.size + 1)) { s with heap:=h' }) :
  P0 (V0 prog w) A (call (.type "enumerate") [.ref a]) Q E s:=by
 refine callType_new F.called_enumerate (by decide) (F.typeCall_enumerate_1 _) (F.newCall_enumerate_1 _) (λ g=>F.args_object_init_2 g _) F.entry_enumerate_new (zfx a xs) ⟨ha,?_⟩;generalize hn:s.heap.objs.size=n at q⊢;generalize h0:s.heap.push { cls:=.type "tuple_iterator",data:=.fields #[.ref a,.int 0 0] }=k0;have d:k0.objs.size=n + 1:=by rw [<-h0,p4,hn]
 have f:k0.get? n=some { cls:=.type "tuple_iterator",data:=.fields #[.ref a,.int 0 0] }:=by rw [<-h0,<-hn];exact I0 _ rfl
 have b:(k0.push { cls:=.type "enumerate",data:=.fields #[.none,.bool false,.ref n,R4 0,.none,.none] }).get? (n + 1)=some { cls:=.type "enumerate",data:=.fields #[.none,.bool false,.ref n,R4 0,.none,.none] }:=by rw [<-d];exact I0 _ rfl
 exact ⟨⟨_,b,rfl⟩,q _ b ⟨_,x0 _ f,rfl,rfl⟩ (by rw [p4,d]) λ c o e=>x0 _ (by rw [<-h0];exact x0 _ e)⟩
end
noncomputable def IteL (K:c0) (a:Addr):It:=
  ⟨λ i H=>∃xs x,SqL K H a xs/\xs[i]? = some x,
   λ i H v H'=>∃p,H p=none/\v=.ref p/\∀xs,SqL K H a xs->∃x,xs[i]? = some x/\H'=upd H p (.tup [.int i,x]),
   λ i H=>∃xs,SqL K H a xs/\xs.length=i⟩
theorem w_0:(0:Nat)<=sizeLine:=by decide
theorem w_1:(1:Nat)<=sizeLine:=by decide
theorem w_2:(2:Nat)<=sizeLine:=by decide
theorem w_3:(3:Nat)<=sizeLine:=by decide
theorem w_4:(4:Nat)<=sizeLine:=by decide
theorem w_5:(5:Nat)<=sizeLine:=by decide
theorem w_7:(7:Nat)<=sizeLine:=by decide
theorem zb1 {P:Program} {w:N0} {K:c0} {elts:List Expr} {x1:Nat} {pos:Pos} {e it a:Addr} (ne:e≠it) (nae:a≠e) (nai:a≠it):Turn P w K (.Tuple elts x1 pos) (IteL K a) [e,it] e (λ n h=>(∃old,IsEnum h e it (n:Nat) old)/\h.IsListIter it a n) where
 mem:=by simp
 obj:=λ n h f c g=>by
  simp only [L3,B0,or_false] at g;rcases g with rfl|rfl
  ·obtain ⟨⟨old,z⟩,_⟩:=f;exact ⟨_,z,λ v z=>by cases (show D7 _=y8 v from z)⟩
  ·obtain ⟨_,o,e,_,d⟩:=f;exact ⟨o,e,λ v z=>by rw [d] at z;cases z⟩
 keep:=λ n h N f k=>by obtain ⟨⟨old,z⟩,o,e1,e2⟩:=f;exact ⟨⟨old,k e (by simp) _ z⟩,o,k it (by simp) _ e1,e2⟩
 item:=by
  intro X G J r g n a4 s σ H E I p f B;subst G J r;obtain ⟨M,x,l,U⟩:=B;obtain ⟨i,C,j,_⟩:=I.list l;have j:s.heap.IsList a i.toArray:=j.isList;obtain ⟨u,Q,ru⟩:=C.get U;have D:=Draws.list (prog:=X.prog) (w:=X.w) (A:=X.A.in1) (I.ok.hd g) it a nai i.toArray;have a0:n < i.toArray.size:=by have:=(List.getElem?_eq_some_iff.mp Q).1;simpa using this
  obtain ⟨⟨old,S⟩,T⟩:=f;refine wpAny_pyNext_enum_itemD D S ⟨T,j⟩ a0 ne (by simp [ne,nae.symm]) λ y N t q a5 a1 tT hz F=>?_;have q:i[n]? = some y:=by simpa using q
  rw [Q] at q;cases q;have a2:e < s.heap.objs.size:=D0 S;have V:it < s.heap.objs.size:=by obtain ⟨o,z,_⟩:=T;exact D0 z
  have L:s.heap.objs.size≠e:=Y1 a2;have nT:s.heap.objs.size∉[e,it]:=by simp only [L3,B0,or_false,not_or];exact ⟨L,Y1 V⟩
  refine ⟨_,rfl,L9 a5 λ R Z sb=>?_⟩;have k2 :∀b o,b∉[e,it]->s.heap.get? b=some o->R.get? b=some o:=λ b o m z=>by simp only [L3,B0,or_false,not_or] at m;exact (sb.2 b m.1).trans (F b o m.1 m.2 z)
  have O:=(sb.2 _ L).trans tT;have Y:=a1.1.elim λ o z=>(⟨o,(sb.2 it ne.symm).trans z.1,z.2⟩:R.IsListIter it a (n + 1))
  have fr:H s.heap.objs.size=none:=I.hok.fresh (A0 _);refine ⟨.ref s.heap.objs.size,upd H s.heap.objs.size (.tup [.int n,x]),I.turnedLaid (t':=t + 1) k2 p (A0 _) ⟨w_2,[.int n t,u],.cons ⟨t,rfl⟩ (.cons ru .nil),⟨_,O,rfl,_,rfl⟩,_,O,rfl⟩,rfl,⟨_,fr,rfl,λ a6 a3=>⟨x,?_,rfl⟩⟩,⟨⟨_,Z⟩,Y⟩,λ c g=>?_⟩
  ·rw [I.list_inj a3 l];exact U
  ·rw [upd_ne (λ (z:c=s.heap.objs.size)=>nT (z ▸ g))];exact (p c g).1
 done:=by
  intro X G J r g n a4 s σ H E I p f B;subst G J r;obtain ⟨M,l,rfl⟩:=B;obtain ⟨i,C,j,_⟩:=I.list l;have j:s.heap.IsList a i.toArray:=j.isList;have D:=Draws.list (prog:=X.prog) (w:=X.w) (A:=X.A.in1) (I.ok.hd g) it a nai i.toArray;have W:=WalksT.enumerateD D e ne (by simp [ne,nae.symm]) (by simp);have la:i.toArray.size=M.length:=by simpa using C.length.symm
  exact W.done s _ E (by rw [la];exact ⟨f.1,f.2,j⟩) λ N tk F=>⟨rfl,I.turnedL (t':=tk) (λ c o g e=>F c o g e) p⟩
 self:=λ _ _ _ _ _ f h=>f.1.elim λ old z=>N6 z h
noncomputable def ieL (K:c0) (ta:TA):TI:=λ σ H R=>ta σ H λ vs H1=>∃a xs,vs=[.ref a]/\SqL K H1 a xs/\R (IteL K a) H1
theorem zed {X:Cx} {elts:List Expr} {x1:Nat} {tpos:Pos} {e:Expr} {ta:TA} {p pos:Pos} (hg:Gl X "enumerate") (hm:X.mg "enumerate" = none) (ha:PA X [e] ta) (hs:F1 [e] X.env=[(false,P3 e X.env)]:=by rfl) :
  PI X (.Tuple elts x1 tpos) (.Call (.Name "enumerate" p) [e] [] pos) (ieL X.K ta):=by
 intro v s σ H R I h;refine Call_ (ld_blt I hg hm boot_enumerate (O2 (thn (ha pos v s σ H _ I h) λ z b ⟨vs,H1,I1,r1,q1⟩=>?_) (by rw [hs];rfl) rfl));obtain ⟨a,w,t,l,q⟩:=q1;subst t;obtain ⟨u,rfl,n⟩:=vals1 r1;cases (show u=E1 a from n);obtain ⟨m,y,d,_⟩:=I1.list l;have d:b.heap.IsList a m.toArray:=d.isList;have f:a < b.heap.objs.size:=by obtain ⟨o,e,_⟩:=id d;exact D0 e
 refine call_enumerate_list d λ x j k _ r=>?_;refine N6 j ?_;refine ⟨_,_,_,_,H1,rfl,I1.kept (t':=b.toks) r,zb1 (Y1 (F2 _)) (Q0 (A1 f)) (Q0 f),⟨⟨_,j⟩,k⟩,λ c g=>?_,q⟩;have i:b.heap.objs.size<=c:=by
  simp only [L3,B0,or_false] at g;rcases g with rfl|rfl
  ·exact G8 _ _
  ·exact A0 _
 exact I1.fpOk i (I1.hok.fresh i)
noncomputable def IteT (K:c0) (a:Addr):It:=
  ⟨λ i H=>∃xs x,SqT K H a xs/\xs[i]? = some x,
   λ i H v H'=>∃p,H p=none/\v=.ref p/\∀xs,SqT K H a xs->∃x,xs[i]? = some x/\H'=upd H p (.tup [.int i,x]),
   λ i H=>∃xs,SqT K H a xs/\xs.length=i⟩
theorem z9s {P:Program} {w:N0} {K:c0} {elts:List Expr} {x1:Nat} {pos:Pos} {e it a:Addr} (ne:e≠it) (nae:a≠e) (nai:a≠it):Turn P w K (.Tuple elts x1 pos) (IteT K a) [e,it] e (λ n h=>(∃old,IsEnum h e it (n:Nat) old)/\h.IsTupleIter it a n) where
 mem:=by simp
 obj:=λ n h f c g=>by
  simp only [L3,B0,or_false] at g;rcases g with rfl|rfl
  ·obtain ⟨⟨old,z⟩,_⟩:=f;exact ⟨_,z,λ v z=>by cases (show D7 _=y8 v from z)⟩
  ·obtain ⟨_,o,e,_,d⟩:=f;exact ⟨o,e,λ v z=>by rw [d] at z;cases z⟩
 keep:=λ n h N f k=>by obtain ⟨⟨old,z⟩,o,e1,e2⟩:=f;exact ⟨⟨old,k e (by simp) _ z⟩,o,k it (by simp) _ e1,e2⟩
 item:=by
  intro X G J r g n a4 s σ H E I p f B;subst G J r;obtain ⟨M,x,l,U⟩:=B;obtain ⟨i,C,j,_⟩:=I.tuple l;have j:s.heap.IsTuple a i.toArray:=j;obtain ⟨u,Q,ru⟩:=C.get U;have D:=z41 (prog:=X.prog) (w:=X.w) (A:=X.A.in1) (I.ok.hd g) it a nai i.toArray;have a0:n < i.toArray.size:=by have:=(List.getElem?_eq_some_iff.mp Q).1;simpa using this
  obtain ⟨⟨old,S⟩,T⟩:=f;refine wpAny_pyNext_enum_itemD D S ⟨T,j⟩ a0 ne (by simp [ne,nae.symm]) λ y N t q a5 a1 tT hz F=>?_;have q:i[n]? = some y:=by simpa using q
  rw [Q] at q;cases q;have a2:e < s.heap.objs.size:=D0 S;have V:it < s.heap.objs.size:=by obtain ⟨o,z,_⟩:=T;exact D0 z
  have L:s.heap.objs.size≠e:=Y1 a2;have nT:s.heap.objs.size∉[e,it]:=by simp only [L3,B0,or_false,not_or];exact ⟨L,Y1 V⟩
  refine ⟨_,rfl,L9 a5 λ R Z sb=>?_⟩;have k2 :∀b o,b∉[e,it]->s.heap.get? b=some o->R.get? b=some o:=λ b o m z=>by simp only [L3,B0,or_false,not_or] at m;exact (sb.2 b m.1).trans (F b o m.1 m.2 z)
  have O:=(sb.2 _ L).trans tT;have Y:=a1.1.elim λ o z=>(⟨o,(sb.2 it ne.symm).trans z.1,z.2⟩:R.IsTupleIter it a (n + 1))
  have fr:H s.heap.objs.size=none:=I.hok.fresh (A0 _);refine ⟨.ref s.heap.objs.size,upd H s.heap.objs.size (.tup [.int n,x]),I.turnedLaid (t':=t + 1) k2 p (A0 _) ⟨w_2,[.int n t,u],.cons ⟨t,rfl⟩ (.cons ru .nil),⟨_,O,rfl,_,rfl⟩,_,O,rfl⟩,rfl,⟨_,fr,rfl,λ a6 a3=>⟨x,?_,rfl⟩⟩,⟨⟨_,Z⟩,Y⟩,λ c g=>?_⟩
  ·rw [I.tuple_inj a3 l];exact U
  ·rw [upd_ne (λ (z:c=s.heap.objs.size)=>nT (z ▸ g))];exact (p c g).1
 done:=by
  intro X G J r g n a4 s σ H E I p f B;subst G J r;obtain ⟨M,l,rfl⟩:=B;obtain ⟨i,C,j,_⟩:=I.tuple l;have j:s.heap.IsTuple a i.toArray:=j;have D:=z41 (prog:=X.prog) (w:=X.w) (A:=X.A.in1) (I.ok.hd g) it a nai i.toArray;have W:=WalksT.enumerateD D e ne (by simp [ne,nae.symm]) (by simp);have la:i.toArray.size=M.length:=by simpa using C.length.symm
  exact W.done s _ E (by rw [la];exact ⟨f.1,f.2,j⟩) λ N tk F=>⟨rfl,I.turnedL (t':=tk) (λ c o g e=>F c o g e) p⟩
 self:=λ _ _ _ _ _ f h=>f.1.elim λ old z=>N6 z h
noncomputable def ieT (K:c0) (ta:TA):TI:=λ σ H R=>ta σ H λ vs H1=>∃a xs,vs=[.ref a]/\SqT K H1 a xs/\R (IteT K a) H1
theorem zec {X:Cx} {elts:List Expr} {x1:Nat} {tpos:Pos} {e:Expr} {ta:TA} {p pos:Pos} (hg:Gl X "enumerate") (hm:X.mg "enumerate" = none) (ha:PA X [e] ta) (hs:F1 [e] X.env=[(false,P3 e X.env)]:=by rfl) :
  PI X (.Tuple elts x1 tpos) (.Call (.Name "enumerate" p) [e] [] pos) (ieT X.K ta):=by
 intro v s σ H R I h;refine Call_ (ld_blt I hg hm boot_enumerate (O2 (thn (ha pos v s σ H _ I h) λ z b ⟨vs,H1,I1,r1,q1⟩=>?_) (by rw [hs];rfl) rfl));obtain ⟨a,w,t,l,q⟩:=q1;subst t;obtain ⟨u,rfl,n⟩:=vals1 r1;cases (show u=E1 a from n);obtain ⟨m,y,d,_⟩:=I1.tuple l;have d:b.heap.IsTuple a m.toArray:=d;have f:a < b.heap.objs.size:=by obtain ⟨o,e,_⟩:=id d;exact D0 e
 refine zdm d λ x j k _ r=>?_;refine N6 j ?_;refine ⟨_,_,_,_,H1,rfl,I1.kept (t':=b.toks) r,z9s (Y1 (F2 _)) (Q0 (A1 f)) (Q0 f),⟨⟨_,j⟩,k⟩,λ c g=>?_,q⟩;have i:b.heap.objs.size<=c:=by
  simp only [L3,B0,or_false] at g;rcases g with rfl|rfl
  ·exact G8 _ _
  ·exact A0 _
 exact I1.fpOk i (I1.hok.fresh i)
theorem zcs {K:c0} {a:Addr} {xs:List V} {g:TG} {tb:TS} {D:Ends} {σ:St} {H:Hp} (Pv:Nat->St->Hp->Prop) (h0:Pv 0 σ H) (hl :∀i σ H,Pv i σ H->SqT K H a xs)
  (hs :∀i x σ H p,xs[i]? = some x->Pv i σ H->H p=none->g (.ref p) σ (upd H p (.tup [.int i,x])) λ σ2 H2=>tb { D with nx:=Pv (i + 1),ct:=Pv (i + 1),bk:=D.nx } σ2 H2) (hd :∀σ H,Pv xs.length σ H->D.nx σ H) :
  ∃W:Nat->Nat->St->Hp->Prop,(∃m,W 0 m σ H)/\∀i m σ H,W i m σ H->
   ((IteT K a).stop i H/\D.nx σ H)\/((IteT K a).go i H/\∃N:St->Hp->Prop,(∀σ' H',N σ' H'->∃m',m' < m/\W (i + 1) m' σ' H')/\∀x H',(IteT K a).yld i H x H'->g x σ H' λ σ2 H2=>tb { D with nx:=N,ct:=N,bk:=D.nx } σ2 H2):=by
 refine ⟨λ i m σ H=>m=xs.length - i/\i<=xs.length/\Pv i σ H,⟨xs.length,by simp,D1 _,h0⟩,?_⟩;rintro i m σ H ⟨rfl,hi,p⟩;have b:=hl i σ H p;by_cases hlt:i < xs.length
 ·refine .inr ⟨⟨xs,xs[i],b,by simp [hlt]⟩,Pv (i + 1),λ σ' H' d=>⟨xs.length - (i + 1),by omega,rfl,hlt,d⟩,λ v H' y=>?_⟩;obtain ⟨t,c,rfl,h⟩:=y;obtain ⟨j,f,rfl⟩:=h xs b;exact hs i j σ H t f p c
 ·have e:i=xs.length:=by omega
  subst e;exact .inl ⟨⟨xs,b,rfl⟩,hd σ H p⟩
end L2
set_option maxHeartbeats 400000
namespace L2
open PySem PySem.Spec PyProof.Rows
mutual
noncomputable def IsPd (K:c0) (H:Hp):p6->V->Prop
 | .none,v=>v=.non
 | .bool b,v=>v=.bl b
 | .int i,v=>v=.int i
 | .str z,v=>v=.str z
 | .list ds,v=>∃a xs,v=.ref a/\SqL K H a xs/\IsPds K H ds xs
 | .tuple ds,v=>∃a xs,v=.ref a/\SqT K H a xs/\IsPds K H ds xs
 | .dict _,_=>False
noncomputable def IsPds (K:c0) (H:Hp):List p6->List V->Prop
 | [],xs=>xs=[]
 | d :: ds,xs=>∃x r,xs=x :: r/\IsPd K H d x/\IsPds K H ds r
end
section
variable {X:Cx} {pins:List (Addr×Obj)} {σ:St} {H:Hp} {s:y0}
mutual
theorem z6z (I:Inv X pins σ H s) :∀(d:p6) (v:V) (u:Value),IsPd X.K H d v->RelV v u->∃as,Reads s.heap u d as
 | .none,v,u,h,r=>by cases (show v=.non from h);cases (show u=.none from r);exact ⟨_,.none⟩
 | .bool b,v,u,h,r=>by cases (show v=.bl b from h);cases (show u=.bool b from r);exact ⟨_,.bool b⟩
 | .int i,v,u,h,r=>by cases (show v=.int i from h);obtain ⟨t,rfl⟩:=r;exact ⟨_,.int i t⟩
 | .str z,v,u,h,r=>by cases (show v=.str z from h);obtain ⟨t,rfl⟩:=r;exact ⟨_,.str z t⟩
 | .list ds,v,u,h,r=>by obtain ⟨a,g,rfl,e,c⟩:=h;cases (show u=.ref a from r);obtain ⟨p,k,l,_⟩:=I.list e;obtain ⟨o,m,j,n,f⟩:=l.isList;obtain ⟨as,q⟩:=z4j I ds g p c k;exact ⟨_,.list m j f q⟩
 | .tuple ds,v,u,h,r=>by obtain ⟨a,g,rfl,e,c⟩:=h;cases (show u=.ref a from r);obtain ⟨p,k,l,_⟩:=I.tuple e;obtain ⟨o,m,j,n,f⟩:=l;obtain ⟨as,q⟩:=z4j I ds g p c k;exact ⟨_,.tuple m j f q⟩
 | .dict _,v,u,h,r=>h.elim
theorem z4j (I:Inv X pins σ H s) :∀(ds:List p6) (xs:List V) (us:List Value),IsPds X.K H ds xs->Vals xs us->∃as,ReadsAll s.heap us ds as
 | [],xs,us,h,r=>by cases (show xs=[] from h);cases r;exact ⟨_,.nil⟩
 | d :: ds,xs,us,h,r=>by
  obtain ⟨x,t,rfl,a,b⟩:=h;cases r with
  | cons r1 r2=>obtain ⟨as,e⟩:=z6z I d x _ a r1;obtain ⟨bs,c⟩:=z4j I ds t _ b r2;exact ⟨_,.cons e c⟩
end
end
mutual
noncomputable def plainP:p6->Bool
 | .none=>true
 | .bool _=>false
 | .int _=>true
 | .str z=>(PyData.str z).canLay0
 | .list ds=>z5r ds
 | .tuple ds=>z5r ds
 | .dict _=>false
noncomputable def z5r:List p6->Bool
 | []=>true
 | d :: ds=>plainP d && z5r ds
end
mutual
theorem z53 :∀d:p6,plainP d=true->d.canLay0=true
 | .none,_=>rfl
 | .bool _,h=>by cases h
 | .int _,_=>rfl
 | .str _,h=>h
 | .list ds,h=>z3i ds h
 | .tuple ds,h=>z3i ds h
 | .dict _,h=>by cases h
theorem z3i :∀ds:List p6,z5r ds=true->PyData.canLayAll0 ds=true
 | [],_=>rfl
 | d :: ds,h=>by have h:(plainP d && z5r ds)=true:=h;rw [S3] at h;show (d.canLay0 && PyData.canLayAll0 ds)=true;rw [z53 d h.1,z3i ds h.2];rfl
end
section
variable {X:Cx}
noncomputable def rNeP (K:c0):R2:=λ x y H Q=>∃d e,IsPd K H d x/\IsPd K H e y/\plainP d=true/\plainP e=true/\d.depth<=60/\Q (.bl (!d.eqv e)) H
theorem room60 {A:B2} {k m n:Nat} (hr:Room k A) (h:m<=60):A.units + min m n < cLine:=U1 (Nat.add_le_add_left (J0 (Nat.min_le_left _ _) (J0 h (by decide:60<=64))) _) hr.units
theorem op_neP {k:Nat} (hr:Room k X.A):OpR X (U2 .NotEq) (rNeP X.K):=by intro n s σ H x y v u Q I b j h;obtain ⟨d,e,hd,i,g,l,a,q⟩:=h;obtain ⟨m,c⟩:=z6z I d x v hd b;obtain ⟨bs,f⟩:=z6z I e y u i j;exact SeqAt.compareNe_reads c f (z53 _ g) (z53 _ l) (room60 hr a) ⟨.bl _,H,I,rfl,q⟩
end
end L2
set_option maxHeartbeats 1000000
namespace L2
open PySem PySem.Spec PyProof.Rows
section
variable {prog:Program} {w:N0} {A:B2} {E:Value->y0->Prop} {s:y0}
theorem z7w:entryFor table "dict.update.loop" = some T6.«dict.update.loop»:=by kernel_rfl
theorem zap {l:Addr} {items:Array Value} {n:Nat} {sl:Array (Option Value)} {Q:Option Value->y0->Prop} (h:s.heap.get? l=some { cls:=.type "tuple",data:=.seq items n,slots:=sl }) (hh:A.handled=none)
  (q :∀h' tk,(∀b o,s.heap.get? b=some o->h'.get? b=some o)->Q none { s with heap:=h',toks:=tk }):P0 (V0 prog w) A (getAttr? (.ref l) (M3 "keys")) Q E s:=by
 unfold getAttr?;refine v0 (wpAny_mkText ?_);unfold getAttrBy? getAttrBy;have c:K7 { s with toks:=s.toks + 1 } (.ref l) "tuple":=⟨_,h,rfl⟩
 refine v0 (wpAny_attempt (D2 (v0 (Q8 c ?_))));rw [show typeLookup (M4 "tuple") (M3 "__getattribute__")=C3 (some (.builtin "tuple.__getattribute__")) from rfl];refine v0 (C0 ?_);show P0 _ _ (getAttrByItsOwn (.ref l) (.str (M3 "keys") s.toks) (.type "tuple") (.builtin "tuple.__getattribute__") false false) _ _ _;unfold getAttrByItsOwn;refine v0 (show P0 _ _ (C3 none) _ _ _ from C0 ?_);refine v0 (wpAny_attempt (D2 ?_));show P0 _ _ (boundAndCalled (.builtin "tuple.__getattribute__") (.ref l) (.str (M3 "keys") s.toks)) _ _ _;unfold boundAndCalled;rw [show bindSpecial (.builtin "tuple.__getattribute__") (.ref l)=C3 (Value.builtin "tuple.__getattribute__",[E1 l]) from rfl];refine v0 (C0 ?_);show P0 _ _ (call (.builtin "tuple.__getattribute__") [.ref l,.str (M3 "keys") s.toks]) _ _ _;refine call_meets F.slot_tuple_getattribute c am_entry_tuple_getattribute (F.args_tuple_getattribute_2 _ _) (meets_getattribute_miss_tuple l items n sl (M3 "keys") s.toks rfl (by decide +kernel) (by decide +kernel)) ⟨h,hh,λ h' tk e d=>?_⟩;obtain ⟨t,u,f⟩:=d.there;have a:K7 { s with heap:=h',toks:=tk } (.ref e) "AttributeError":=⟨_,f,rfl⟩
 show P0 _ _ (getattributeRaised (.ref l) _ (.type "tuple") (.ref e) none false false) _ _ _;unfold getattributeRaised;refine v0 (wpAny_isInstance a rfl ?_);show P0 _ _ (hookBehind (.type "tuple") none >>= _) _ _ _;rw [show hookBehind (.type "tuple") none=C3 none from rfl];refine v0 (C0 ?_);show P0 _ _ (throw (E1 e) >>= _) _ _ _;refine v0 (wpAny_throw ?_);show P0 _ _ (isInstance (.ref e) (.type "AttributeError") >>= _) _ _ _;refine v0 (wpAny_isInstance a rfl ?_);exact C0 (q h' tk d.keeps)
theorem z7y (a:Args):(S6 "dict.update.loop" a).quiet=true:=plainId_quiet (by decide +kernel) _
def PairOf (prog:Program) (w:N0) (h:Heap) (p:Key×Value) (u:Value):Prop:=∃a kv,u=.ref a/\h.IsTuple a #[kv,p.2]/\(z0g prog w).is p.1 kv=true
theorem PairOf.kept {h h':Heap} {p:Key×Value} {u:Value} {L:List Addr} (k :∀b o,b∉L->h.get? b=some o->h'.get? b=some o) (nt :∀b∈L,∀o,h.get? b=some o->o.cls≠.type "tuple") (x:PairOf prog w h p u):PairOf prog w h' p u:=by obtain ⟨a,g,e,⟨o,d,c,n,f⟩,i⟩:=x;exact ⟨a,g,e,⟨o,k a o (λ z=>nt a z o d c) d,c,n,f⟩,i⟩
theorem z9h {a:Addr} {items:Array Value} {Q:List Value->y0->Prop} (h:s.heap.IsTuple a items) (q:Q items.toList s):P0 (V0 prog w) A (z8 (.ref a)) Q E s:=by obtain ⟨o,b,d,n,c⟩:=h;unfold z8;refine v0 (Q8 (T:="tuple") ⟨o,b,d⟩ ?_);show P0 _ _ (seqItems? (.ref a) >>= _) _ _ _;exact v0 (J9 b c (C0 q))
theorem z7f {d it l:Addr} {items:Array Value} (ndi:d≠it) (ndl:d≠l) (nil':it≠l) :∀(ps:List (Key×Value)) (i:Nat) (kvs:List (Key×Value)) (A:B2) (R:Result->y0->Prop) (s:y0),A.handled=none->s.heap.IsTupleIter it l i->s.heap.IsTuple l items->
  All2 (PairOf prog w s.heap) ps (items.toList.drop i)->m5 (z0g prog w) s.heap d kvs->kvs.length + ps.length<=sizeLine->
  (∀h' tk,m5 (z0g prog w) h' d (ps.foldl (λ acc p=>stored acc p.1 p.2) kvs)->(∀b o,b≠d->b≠it->s.heap.get? b=some o->h'.get? b=some o)->R (.ok (.ret .none)) { s with heap:=h',toks:=tk })->
  v5 (V0 prog w) A (S6 "dict.update.loop" { pos:=[.ref d,.ref it,.int (i:Nat) 0,.none],kw:=[] }) R s
 | [],i,kvs,A,R,s,hh,si,sl,al,r,hz,q=>by
  have hn:items[i]? = none:=by
   cases hd:items.toList.drop i with
   | nil=>have:=List.drop_eq_nil_iff.mp hd;rw [U0] at this;exact o5 this
   | cons u us=>rw [hd] at al;cases al
  refine Z3 z7w ?_;show P0 _ _ (C8 (.ref it) >>= _) _ _ s;refine v0 (wpAny_pyNext_tuple_end (show (A.under _).handled=none from hh) si sl hn λ h' K=>?_);show P0 _ _ ((do Builtin.Dict.addKeywords d [];ret .none):Sem A7) _ _ _;refine v0 (show P0 _ _ (C3 ()) _ _ _ from C0 ?_);have F:m5 (z0g prog w) h' d kvs:=by obtain ⟨o,v,t,f,m⟩:=r;exact ⟨o,v,t,K d o ndi f,m⟩
  exact C0 (q h' s.toks F λ b o _ k e=>K b o k e)
 | p :: ps,i,kvs,A,R,s,hh,si,sl,al,r,hz,q=>by
  cases hd:items.toList.drop i with
  | nil=>rw [hd] at al;cases al
  | cons u us=>
   rw [hd] at al;cases al with
   | cons pu al=>
    have hi:items.toList[i]? = some u:=by have:=congrArg (λ l=>l[0]?) hd;simpa using this
    have Q:items[i]? = some u:=by simpa using hi
    have V:items.toList.drop (i + 1)=us:=by have:=congrArg List.tail hd;simpa using this
    obtain ⟨a,D,rfl,X,ik⟩:=pu;refine Z3 z7w ?_;show P0 _ _ (C8 (.ref it) >>= _) _ _ s;refine v0 (wpAny_pyNext_tuple_item si sl Q λ f O E=>?_);have H :∀o,s.heap.get? it=some o->o.cls≠.type "tuple":=λ o e z=>by obtain ⟨S,n,c,_⟩:=si;rw [e] at n;cases n;rw [z] at c;exact absurd c (by decide)
    have a1 :∀(h:Heap) (kvs:List (Key×Value)),m5 (z0g prog w) h d kvs->∀o,h.get? d=some o->o.cls≠.type "tuple":=λ h kvs r o e z=>by obtain ⟨S,v,t,n,c,_⟩:=r;rw [e] at n;cases n;have:=c.1;rw [z] at this;exact absurd this (by decide)
    have B :∀b o,b∉[it]->s.heap.get? b=some o->f.get? b=some o:=λ b o k e=>(E.2 b (λ z=>k (by rw [z];exact List.mem_singleton.mpr rfl))).trans e;have N:f.IsTuple a #[D,p.2]:=by obtain ⟨o,j,g,Y⟩:=X;exact ⟨o,B a o (λ z=>H o (List.mem_singleton.mp z ▸ j) g) j,g,Y⟩
    have Z:All2 (PairOf prog w f) ps us:=z02 (λ x y z=>PairOf.kept B (λ b k o e=>H o (List.mem_singleton.mp k ▸ e)) z) al;have J:m5 (z0g prog w) f d kvs:=by obtain ⟨o,v,t,j,g⟩:=r;exact ⟨o,v,t,(E.2 d ndi).trans j,g⟩
    have T:f.IsTuple l items:=by obtain ⟨o,j,g⟩:=sl;exact ⟨o,(E.2 l (n3 nil')).trans j,g⟩
    refine v0 (D2 (v0 (wpAny_tryCatch (z9h (s:={ s with heap:=f }) N ?_))));show P0 _ _ (C9 [D,p.2] (dictSet d D p.2)) _ _ _;refine D2 (wpAny_dictSet_pairs ik J (λ m U C=>?_) (J0 (G8 _ _) hz));refine C0 ⟨z7y _,?_⟩;have I :∀b o,b∉[d]->f.get? b=some o->m.get? b=some o:=λ b o k e=>(C.2 b (λ z=>k (by rw [z];exact List.mem_singleton.mpr rfl))).trans e;have a0:All2 (PairOf prog w m) ps us:=z02 (λ x y z=>PairOf.kept I (λ b k o e=>a1 f kvs J o (List.mem_singleton.mp k ▸ e)) z) Z;have P:m.IsTupleIter it l (i + 1):=by obtain ⟨o,j,g⟩:=O;exact ⟨o,(C.2 it (n3 ndi)).trans j,g⟩
    have M:m.IsTuple l items:=by obtain ⟨o,j,g⟩:=T;exact ⟨o,(C.2 l (n3 ndl)).trans j,g⟩
    have a2:(stored kvs p.1 p.2).length + ps.length<=sizeLine:=by
     have:(stored kvs p.1 p.2).length<=kvs.length + 1:=by
      unfold stored;split
      ·rw [G0];exact T5 _
      ·rw [F0];exact A0 _
     rw [i1] at hz;omega
    exact z7f ndi ndl nil' ps (i + 1) (stored kvs p.1 p.2) A R { s with heap:=m,toks:=s.toks + 1 } hh P M (by rw [V];exact a0) U a2 λ h' tk F W=>q h' tk F λ b o L G e=>W b o L G (I b o (λ z=>L (List.mem_singleton.mp z)) (B b o (λ z=>G (List.mem_singleton.mp z)) e))
theorem z6k {h:Heap} {D:Addr} (e:h.get? D=some { cls:=.type "dict",data:=.dict #[] }):m5 (z0g prog w) h D []:=by obtain ⟨o,b,c,a,r⟩:=F9 (knd:=z0g prog w) h;rw [I0 _ rfl] at a;cases a;exact ⟨_,b,c,e,r⟩
theorem z3m {D l:Addr} {items:Array Value} {n:Nat} {sl:Array (Option Value)} {ps:List (Key×Value)} {Q:y0->Prop} {A':B2} (hd:s.heap.get? D=some { cls:=.type "dict",data:=.dict #[] }) (hl:s.heap.get? l=some { cls:=.type "tuple",data:=.seq items n,slots:=sl }) (hh:A.handled=none) (hh':A'.handled=none)
  (al:All2 (PairOf prog w s.heap) ps items.toList) (hz:ps.length<=sizeLine)
  (q :∀h' tk,m5 (z0g prog w) h' D (merged [] ps)->(∀b o,b≠D->s.heap.get? b=some o->h'.get? b=some o)->Q { s with heap:=h',toks:=tk }) :
  P0 (V0 prog w) A (T6.«dict.__init__» { pos:=[.ref D,.ref l] }) (λ fin s'=>match fin with
   | .done f=>wants (λ r s₂=>r=c5/\Q s₂) E (.ok f) s'
   | .again c'=>c'.quiet=true/\v5 (V0 prog w) A' c' (wants (λ r s₂=>r=c5/\Q s₂) E) s') (λ e s'=>wants (λ r s₂=>r=c5/\Q s₂) E (.error e) s') s:=by
 have j:D≠l:=λ z=>by rw [z,hl] at hd;exact absurd (show M4 "tuple" = M4 "dict" from congrArg Obj.cls (W0 hd)) (by decide)
 unfold T6.«dict.__init__» Builtin.Dict.selfAndRest;refine v0 (v0 (wpAny_notOrdered_dict ⟨_,hd,rfl⟩ ?_));refine v0 (show P0 _ _ (C3 D) _ _ _ from C0 (C0 ?_));show P0 _ _ (n8 "dict.__init__" D (.ref l) [] .none) _ _ _;unfold n8;refine v0 (Q8 (T:="tuple") ⟨_,hl,rfl⟩ ?_);show P0 _ _ (getAttr? (.ref l) (M3 "keys") >>= _) _ _ _;refine v0 (zap hl hh λ h tk a=>?_);show P0 _ _ (rule _ >>= _) _ _ _;refine v0 (B8 (v0 (E4 (items:=items) ⟨_,a _ _ hl,rfl,_,rfl⟩ ?_)));refine C0 ⟨z7y _,?_⟩;have p:=D0 (a _ _ hd);have k:=D0 (a _ _ hl);have c :∀b o,s.heap.get? b=some o->(h.push { cls:=.type "tuple_iterator",data:=.fields #[.ref l,.int 0 0] }).get? b=some o:=λ b o e=>x0 _ (a b o e);refine z7f (d:=D) (it:=h.objs.size) (l:=l) (items:=items) (Q0 p) j (Y1 k) ps 0 [] A' _ _ hh' ⟨_,I0 _ rfl,rfl,rfl⟩ ⟨_,c _ _ hl,rfl,_,rfl⟩ ?_ ?_ (by simpa using hz) λ h' i t m=>⟨rfl,q h' i t λ b o g e=>m b o g (λ z=>?_) (c b o e)⟩
 ·rw [Q4];exact z02 (λ x y z=>PairOf.kept (L:=[]) (λ b o _ e=>c b o e) (λ b g=>absurd g B0) z) al
 ·exact z6k (c _ _ hd)
 ·rw [z] at e;exact absurd (D0 (a _ _ e)) (Z2 _)
end
section
variable {X:Cx}
theorem zbb {pins:List (Addr×Obj)} {σ:St} {H:Hp} {s:y0} (I:Inv X pins σ H s) :∀{kvs:List (Key×V)} {ys:List V} {its:List Value},All2 (λ (p:Key×V) y=>∃b,y=.ref b/\SqT X.K H b [kV p.1,p.2]) kvs ys->Vals ys its->
  ∃ps,KV kvs ps/\All2 (PairOf X.prog X.w s.heap) ps its
 | [],_,_,.nil,r=>by cases r;exact ⟨[],.nil,.nil⟩
 | p :: kvs,_,_,.cons ⟨b,e,sb⟩ al,r=>by
  cases r with
  | cons r1 r2=>
   subst e;obtain ⟨ps,d,c⟩:=zbb I al r2;obtain ⟨its,a,tb,_⟩:=I.tuple sb;cases a with
   | cons ra a=>
    cases a with
    | cons rb a=>cases a;rename_i u1 u2;exact ⟨(p.1,u2) :: ps,.cons ⟨rfl,rb⟩ d,.cons ⟨b,u1,r1,tb,kV_is ra⟩ c⟩
theorem z5n (kvs:List (Key×V)) :∀more:List (Key×V),(mergeK kvs more).length<=kvs.length + more.length
 | []=>A0 _
 | p :: more=>by have b:=z5n (putK kvs p.1 p.2) more;have a:=z1n kvs p.1 p.2;show (mergeK (putK kvs p.1 p.2) more).length<=_;rw [i1];omega
end
end L2
set_option maxHeartbeats 400000
namespace L2
open PySem PySem.Spec PyProof.Rows
structure RunsR (S:Hp->Hp->Prop) (J:It) (H1:Hp) (n:Nat) (Item:Nat->V->Hp->Prop):Prop where
 go :∀i,i < n->∀H,S H1 H->J.go i H
 stop :∀H,S H1 H->J.stop n H
 item :∀i,i < n->∀H v H',S H1 H->J.yld i H v H'->S H H'/\Item i v H'
theorem z2u {S:Hp->Hp->Prop} {J:It} {H1:Hp} {n m:Nat} {Item:Nat->V->Hp->Prop} {fr:List (Nat×Str)} {g:TG} {tc:TT} {te:TE} {σ:St} {Q:VK} (s0:S H1 H1) (st :∀a b c,S a b->S b c->S a c) (p:Nat->Bool) (R:Nat->V->Hp->Prop) (hR :∀i y H H',S H H'->R i y H->R i y H') (r:RunsR S J H1 n Item) (hn:n<=sizeLine)
  (body :∀i,i < n->∀v H,S H1 H->Item i v H->∀(KT:VK) (KF:Hp->Prop),(p i=true->∀y H',S H H'->R i y H'->KT y H')->(p i=false->∀H',S H H'->KF H')->
   g v (cStG σ fr (V2 m none)) H λ σ6 H6=>∃us,us.length=m/\σ6=cStG σ fr us/\tc (cStG σ fr us) H6 λ b H2=>if b=true then te (cStG σ fr us) H2 KT else KF H2)
  (hQ :∀l H' ys,S H1 H'->H' l=none->All2 (λ i y=>R i y H') ((V1 n).filter p) ys->Q (.ref l) (upd H' l (.lst ys))) :
  ∃W:Nat->Nat->List V->Hp->Prop,(∃m,W 0 m [] H1)/\∀i k ys H,W i k ys H->
   (J.stop i H/\ys.length<=sizeLine/\∀p,H p=none->Q (.ref p) (upd H p (.lst ys)))\/
   (J.go i H/\ys.length<=sizeLine/\∀v H',J.yld i H v H'->g v (cStG σ fr (V2 m none)) H' λ σ6 H6=>∃us,us.length=m/\σ6=cStG σ fr us/\tc (cStG σ fr us) H6 λ b H2=>if b=true then te (cStG σ fr us) H2 λ y H3=>∃m',m' < k/\W (i + 1) m' (ys++[y]) H3 else∃m',m' < k/\W (i + 1) m' ys H2):=by
 refine ⟨λ i k ys H'=>k=n - i/\i<=n/\S H1 H'/\All2 (λ i y=>R i y H') ((V1 i).filter p) ys,⟨n,by simp,D1 _,s0,.nil⟩,?_⟩;rintro i k ys H' ⟨rfl,hi,sm,fa⟩;have j:ys.length<=sizeLine:=by rw [z04 fa];have:=X1 p (V1 i);rw [f8] at this;omega
 by_cases hlt:i < n
 ·refine .inr ⟨r.go i hlt H' sm,j,λ v H2 y=>?_⟩;obtain ⟨f,o⟩:=r.item i hlt H' v H2 sm y;refine body i hlt v H2 (st _ _ _ sm f) o _ _ (λ h y H3 d s=>⟨n - (i + 1),by omega,rfl,hlt,st _ _ _ (st _ _ _ sm f) d,?_⟩) (λ h H3 d=>⟨n - (i + 1),by omega,rfl,hlt,st _ _ _ (st _ _ _ sm f) d,?_⟩)
  ·rw [z19,if_pos h];exact z33 (z02 (λ a b z=>hR a b _ _ (st _ _ _ f d) z) fa) s
  ·rw [z19,if_neg (by rw [h];decide),i3];exact z02 (λ a b z=>hR a b _ _ (st _ _ _ f d) z) fa
 ·have e:i=n:=by omega
  subst e;exact .inl ⟨r.stop H' sm,j,λ l q=>hQ l H' ys sm q fa⟩
theorem zb3 {S:Hp->Hp->Prop} {K:c0} {a:Addr} {xs:List V} {H1:Hp} (hs :∀H,S H1 H->S H H) (hq :∀H,S H1 H->SqL K H a xs):RunsR S (Itl K a) H1 xs.length (λ i v _=>xs[i]? = some v):=
 ⟨λ i b H s=>⟨xs,xs[i],hq H s,by simp [b]⟩,λ H s=>⟨xs,hq H s,A0 _⟩,λ i b H v c s y=>by obtain ⟨e,y⟩:=y;subst e;exact ⟨hs _ s,y xs (hq _ s)⟩⟩
theorem zcr {S:Hp->Hp->Prop} {K:c0} {a:Addr} {xs:List V} {H1:Hp} (hs :∀H,S H1 H->S H H) (hq :∀H,S H1 H->SqT K H a xs):RunsR S (Itt K a) H1 xs.length (λ i v _=>xs[i]? = some v):=
 ⟨λ i b H s=>⟨xs,xs[i],hq H s,by simp [b]⟩,λ H s=>⟨xs,hq H s,A0 _⟩,λ i b H v c s y=>by obtain ⟨e,y⟩:=y;subst e;exact ⟨hs _ s,y xs (hq _ s)⟩⟩
def Ris (xs:Array Nat):Prop:=xs.toList.Pairwise (· < ·)
theorem Ris.lt {xs:Array Nat} (r:Ris xs) {i k:Nat} (h:i < k) (hk:k < xs.size):xs[i]'(G5 h hk) < xs[k]:=by have:=(List.pairwise_iff_getElem.mp r) i k (by simpa using G5 h hk) (by simpa using hk) h;simpa using this
theorem zf8 {xs:Array Nat} {i d:Nat} (h:i < xs.size):xs.getD i d=xs[i]:=by simp [Array.getD,h]
theorem z6m {xs:Array Nat} {j:Nat} (r:Ris xs) :∀(f lo hi:Nat),lo<=hi->hi<=xs.size->hi - lo<=f->(∀i (h:i < xs.size),i < lo->xs[i] < j)->(∀i (h:i < xs.size),hi<=i->j<=xs[i])->
  P5 xs j f lo hi<=xs.size/\(∀i (h:i < xs.size),i < P5 xs j f lo hi->xs[i] < j)/\(∀i (h:i < xs.size),P5 xs j f lo hi<=i->j<=xs[i])
 | 0,lo,hi,h1,h2,h3,ha,hb=>by
  have:lo=hi:=by omega
  subst this;exact ⟨h2,ha,hb⟩
 | f + 1,lo,hi,h1,h2,h3,ha,hb=>by
  unfold P5;by_cases z:lo < hi
  ·rw [if_pos z];have a:(lo + hi) / 2 < xs.size:=by omega
   dsimp only;rw [zf8 a];by_cases y:xs[(lo + hi) / 2] < j
   ·rw [if_pos y];refine z6m r f _ _ (by omega) h2 (by omega) (λ i h b=>?_) hb;by_cases e:i=(lo + hi) / 2
    ·subst e;exact y
    ·exact G5 (r.lt (by omega) a) y
   ·rw [if_neg y];refine z6m r f _ _ (by omega) (by omega) (by omega) ha λ i h b=>?_;by_cases e:i=(lo + hi) / 2
    ·subst e;omega
    ·exact J0 (Nat.not_lt.mp y) (c7 (r.lt (by omega) h))
  ·rw [if_neg z];have:lo=hi:=by omega
   subst this;exact ⟨h2,ha,hb⟩
theorem zao {xs:Array Nat} (r:Ris xs) (j:Nat):A2 xs j<=xs.size/\(∀i (h:i < xs.size),i < A2 xs j->xs[i] < j)/\(∀i (h:i < xs.size),A2 xs j<=i->j<=xs[i]):=
 z6m r _ _ _ (D1 _) (A0 _) (A0 _) (λ i h z=>absurd z (j7 _)) (λ i h z=>absurd h (Nat.not_lt.mpr z))
theorem z3n {α:Type} (xs:Array α) (p:Nat) (x:α) (hp:p<=xs.size):(P7 xs p x).toList=xs.toList.take p++x :: xs.toList.drop p:=by unfold P7;simp [Q3]
theorem Ris.insert {xs:Array Nat} (r:Ris xs) {j:Nat} (h:¬ xs[A2 xs j]? = some j):Ris (P7 xs (A2 xs j) j):=by
 obtain ⟨t,v,g⟩:=zao r j;unfold Ris;rw [z3n _ _ _ t];refine List.pairwise_append.mpr ⟨r.sublist (List.take_sublist _ _),List.pairwise_cons.mpr ⟨λ y w=>?_,r.sublist (List.drop_sublist _ _)⟩,λ a q b d=>?_⟩
 ·obtain ⟨i,f,e⟩:=List.mem_drop_iff_getElem.mp w;have l:A2 xs j + i < xs.size:=by simpa [Nat.add_comm] using f
  have c:xs[A2 xs j + i]=y:=by simpa using e
  have le:=g _ l (by omega);rw [c] at le;rcases Nat.lt_or_eq_of_le le with z|z
  ·exact z
  ·exfalso;have d:A2 xs j < xs.size:=by omega
   have x:=g _ d (A0 _);have:xs[A2 xs j]=j:=by
    by_cases i0:i=0
    ·subst i0;exact c.trans z.symm
    ·have:=r.lt (show A2 xs j < A2 xs j + i by omega) l;rw [c] at this;omega
   exact h (by rw [V4 d,this])
 ·obtain ⟨i,f,e⟩:=List.mem_take_iff_getElem.mp q;have p:i < xs.size:=by have:=f;simp at this;omega
  have o:i < A2 xs j:=by have:=f;simp at this;omega
  have lt:=v i p o;have c:xs[i]=a:=by simpa using e
  rw [c] at lt;rcases List.mem_cons.mp d with z|z
  ·rw [z];exact lt
  ·obtain ⟨k,n,u⟩:=List.mem_drop_iff_getElem.mp z;have m:A2 xs j + k < xs.size:=by simpa [Nat.add_comm] using n
   have s:xs[A2 xs j + k]=b:=by simpa using u
   have:=g _ m (by omega);rw [s] at this;omega
theorem zcq (n:Nat):Ris (Array.range n):=by unfold Ris;rw [Array.toList_range];exact P6
def z63 (t:E6) (j:Nat):Prop:=¬ t.place[A2 t.place j]? = some j
theorem z5m {t:E6} {j:Nat} (h :∀i,t.slot j≠.live i):z63 t j:=λ e=>by refine h (A2 t.place j) ?_;unfold SetTable.slot;dsimp only;rw [if_pos (by rw [e];exact beq_self_eq_true _)]
theorem z37 {t:E6} {hs:Nat->Int} {h:Int} :∀(f:Nat) (p:SetTable.Probe) (j:Nat) (d:Option Nat),(∀k,p.dummy=some k->z63 t k)->U8 t hs h f p=some (.empty j d)->z63 t j/\∀k,d=some k->z63 t k
 | 0,p,j,d,hd,e=>by cases e
 | f + 1,p,j,d,hd,e=>by
  unfold U8 at e;cases q:t.slot p.j with
  | empty=>rw [q] at e;cases e;exact ⟨z5m (λ i z=>by rw [q] at z;cases z),hd⟩
  | dummy=>rw [q] at e;refine z37 f _ j d (λ k z=>?_) e;unfold V9 at z;dsimp only at z;split at z<;>(cases z;exact z5m λ i z=>by rw [q] at z;cases z)
  | live i=>
   rw [q] at e;dsimp only at e;split at e
   ·cases e
   ·refine z37 f _ j d (λ k z=>?_) e;unfold V9 at z;dsimp only at z;split at z<;>exact hd k z
theorem z8b {t:E6} {h:Int} {s:Nat} {b:Bool} (e:t.freeSlot h=some (s,b)):z63 t s:=by
 unfold SetTable.freeSlot at e;cases q:t.probe (λ _=>h + 1) h (t.probeStart h) with
 | none=>rw [q] at e;cases e
 | some m=>
  rw [q] at e;cases m with
  | candidate a b c=>cases e
  | empty j d=>
   have:=z37 _ _ j d (λ k z=>by cases z) q;cases e;cases d with
   | none=>exact this.1
   | some k=>exact this.2 k rfl
def Tidy (l:Bool) (t:E6):Prop:=t.led=l/\Ris t.place
theorem Tidy.standIn {l:Bool} {t:E6} (h:Tidy l t) (n:Nat):Tidy l (t.standIn n):=⟨h.1,zcq n⟩
theorem Tidy.layNew {l:Bool} {t:E6} (h:Tidy l t) (es:Array (Int×Value)) (k:Int) (x:Value):Tidy l (layNew t es k x).2.1:=by
 unfold PySem.layNew;cases q:t.freeSlot k with
 | none=>exact h.standIn _
 | some s=>
  obtain ⟨s,b⟩:=s;dsimp only;have a:Tidy l (t.put s).1:=⟨h.1,Ris.insert h.2 (z8b q)⟩
  unfold SetTable.orStandIn;split
  ·exact a
  ·exact a.standIn _
theorem Tidy.relayAll {l:Bool} {t:E6} (h:Tidy l t) (es:Array (Int×Value)) (n:Nat):Tidy l (N9 t es n).2.1:=by
 unfold PySem.relayAll;cases q:t.relaid (es.map (·.1)) n with
 | none=>exact h.standIn _
 | some p=>
  obtain ⟨j,o⟩:=p;dsimp only;split
  ·unfold SetTable.relaid SetTable.laid at q;cases q2:SetTable.layClean (SetTable.sizeAbove n - 1) (es.map (·.1)) with
   | none=>rw [q2] at q;cases q
   | some ow=>rw [q2] at q;cases q;refine ⟨h.1,?_⟩;show (List.map _ _).Pairwise _;rw [w5];refine List.Pairwise.filterMap _ (λ a b f c e d hd=>?_) (P6);obtain ⟨m,_,i⟩:=Option.map_eq_some_iff.mp e;obtain ⟨k,_,g⟩:=Option.map_eq_some_iff.mp hd;rw [<-i,<-g];exact f
  ·exact h.standIn _
end L2
set_option maxHeartbeats 1000000
namespace L2
open PySem PySem.Spec PyProof.Rows
noncomputable def intOf:Value->Int
 | .int i _=>i
 | _=>0
theorem z57 {vs:List Value} {ns:List Int} (h:A3 vs ns):ns=vs.map intOf/\∀v∈vs,∃i t,v=.int i t:=by
 induction h with
 | nil=>exact ⟨rfl,λ v a=>by cases a⟩
 | cons n t r ih=>
  refine ⟨by rw [ih.1];rfl,λ v a=>?_⟩;rcases List.mem_cons.mp a with e|a
  ·exact ⟨n,t,e⟩
  ·exact ih.2 v a
theorem z9f :∀vs:List Value,(∀v∈vs,∃i t,v=.int i t)->A3 vs (vs.map intOf)
 | [],_=>.nil
 | v :: vs,h=>by obtain ⟨i,t,e⟩:=h v (.head _);subst e;exact .cons i t (z9f vs λ v a=>h v (.tail _ a))
theorem z81 {vs vs':List Value} {ns:List Int} (h:A3 vs ns) (p:vs'.Perm vs) :∃ns',A3 vs' ns'/\ns'.Perm ns:=by obtain ⟨e,k⟩:=z57 h;refine ⟨vs'.map intOf,z9f vs' λ v a=>k v (p.mem_iff.mp a),?_⟩;rw [e];exact p.map _
theorem zb5 {vs:List Value} {ns:List Int} (h:A3 vs ns):ns.length=vs.length:=by rw [(z57 h).1,G0]
theorem zcf {vs:List Value} {ns:List Int} (h:A3 vs ns) (n:Int) (t:Tok):A3 (vs++[.int n t]) (ns++[n]):=by
 induction h with
 | nil=>exact .cons n t .nil
 | cons m u r ih=>exact .cons m u ih
section
variable {prog:Program} {w:N0} {A:B2} {E:Value->y0->Prop} {s:y0}
def SetAt (prog:Program) (w:N0) (l:Bool) (h:Heap) (a:Addr) (ns:List Int):Prop:=
 ∃es ep t,h.get? a=some { cls:=.type "set",dict:=none,data:=.set es ep t,slots:=#[] }/\ElemsOf (S4 prog w) es.toList/\A3 (es.toList.map (·.2)) ns/\ns.Nodup/\es.size < scanBound/\t.fits es.size=true/\Tidy l t
theorem z7e {l:Bool} {h:Heap} {a:Addr} {es0 es:Array (Int×Value)} {ep:Nat} {t0 t:E6} {ns:List Int} (ho:h.get? a=some { cls:=.type "set",dict:=none,data:=.set es0 ep t0,slots:=#[] })
  (hel:ElemsOf (S4 prog w) es.toList) (hi:A3 (es.toList.map (·.2)) ns) (nd:ns.Nodup) (hb:es.size < scanBound) (hf:t.fits es.size=true) (ht:Tidy l t) :
  (h.update a (a8 es t)).get? a=some { cls:=.type "set",dict:=none,data:=.set es (ep + 1) t,slots:=#[] }/\SetAt prog w l (h.update a (a8 es t)) a ns:=by
 have g:(h.update a (a8 es t)).get? a=some { cls:=.type "set",dict:=none,data:=.set es (ep + 1) t,slots:=#[] }:=m7 (a8 es t) ho rfl;exact ⟨g,es,ep + 1,t,g,hel,hi,nd,hb,hf,ht⟩
theorem ze6 {es:List (Int×Value)} {ns:List Int} {v:Int} (hi:A3 (es.map (·.2)) ns) (h:es.findIdx? (λ e=>(S4 prog w).is v e.2)=none):¬ v∈ns:=λ a=>by
 obtain ⟨e,k⟩:=z57 hi;rw [e] at a;obtain ⟨y,b,f⟩:=List.mem_map.mp a;obtain ⟨p,g,d⟩:=List.mem_map.mp b;obtain ⟨i,t,c⟩:=k y b;have:=List.findIdx?_eq_none_iff.mp h p g;have j:v=i:=by rw [<-f,c];rfl
 have:(S4 prog w).is v p.2=false:=by simpa using this
 rw [d,c,j,intKind_is] at this;cases this
theorem zfv {es:List (Int×Value)} {ns:List Int} {v:Int} {j:Nat} (hi:A3 (es.map (·.2)) ns) (h:es.findIdx? (λ e=>(S4 prog w).is v e.2)=some j):v∈ns:=by obtain ⟨a,b,_⟩:=List.findIdx?_eq_some_iff_getElem.mp h;obtain ⟨t,e⟩:=Value.isInt_shape (show R9 v es[j].2=true from b);rw [(z57 hi).1];exact List.mem_map.mpr ⟨es[j].2,List.mem_map.mpr ⟨es[j],M5 a,rfl⟩,by rw [e];rfl⟩
theorem zam {ns:List Int} {v:Int} (h:ns.Nodup) (n:¬ v∈ns):(ns++[v]).Nodup:=by refine List.nodup_append.mpr ⟨h,by simp,λ a d b c e=>?_⟩;rw [List.mem_singleton.mp c] at e;exact n (e ▸ d)
noncomputable def addI (ns:List Int) (v:Int):List Int:=if v∈ns then ns else ns++[v]
theorem zf1 {l:Bool} {a:Addr} {v:Int} {tk:Tok} {ns:List Int} {Q:Bool->y0->Prop} (hS:SetAt prog w l s.heap a ns) (hroom:ns.length + 1 < scanBound)
  (h :∀b h' ns',Z5 a s.heap h'->SetAt prog w l h' a ns'->ns'.Perm (addI ns v)->Q b { s with heap:=h' }):P0 (V0 prog w) A (setAddHashed a (.int v tk) ((S4 prog w).hash v)) Q E s:=by
 obtain ⟨f,X,t,m,p,n,nd,O,G,J⟩:=hS;have W:f.size=ns.length:=by rw [zb5 n,G0,U0]
 have M:(S4 prog w).is v (.int v tk)=true:=intKind_is prog w v tk;unfold setAddHashed setAddHashedIn;refine D2 (v0 (wpAny_setState_of m rfl G ?_));dsimp only;rw [byScan_of rfl O p];simp only [↓reduceIte];unfold setAddByScan;refine v0 (v0 (B8 (v0 (wpAny_setScan_of M m rfl G p ?_))));cases hr:List.findIdx? (λ e=>(S4 prog w).is v e.2) f.toList with
 | some j=>refine C0 (C0 ?_);have:=h false s.heap ns (Heap.SameBut.refl a s.heap) ⟨f,X,t,m,p,n,nd,O,G,J⟩ (by unfold addI;rw [if_pos (zfv n hr)]);exact this
 | none=>
  dsimp only;have g:=layNew_perm t f ((S4 prog w).hash v) (.int v tk);have C:=layNew_fits t f ((S4 prog w).hash v) (.int v tk);have y:=J.layNew f ((S4 prog w).hash v) (.int v tk);generalize layNew t f ((S4 prog w).hash v) (.int v tk)=L at g C y⊢;obtain ⟨c,d,wd,a0⟩:=L;dsimp only at g C y⊢;rw [Array.toList_push] at g;have S:ElemsOf (S4 prog w) c.toList:=(p.push M rfl).perm g;have u :∃o,A3 (c.toList.map (·.2)) o/\o.Perm (ns++[v]):=z81 (zcf n v tk) (by have:=g.map (λ e:Int×Value=>e.2);rwa [P2] at this);obtain ⟨o,u,D⟩:=u;have V:=ze6 n hr;have U:o.Nodup:=D.nodup_iff.mpr (zam nd V);have T:addI ns v=ns++[v]:=if_neg V;have H:c.size < scanBound:=by rw [<-U0,g.length_eq,F0,U0,W];exact hroom
  have N :∀(b:Bool) {F:y0} {Q':Unit->y0->Prop},Q' () F->P0 (V0 prog w) A (match b with|true=>rule "set.scan.the-table-gave-way" | false=>C3 ()) Q' E F:=λ b F Q' q=>by cases b with|false=>exact C0 q|true=>exact B8 q
  have a1:P0 (V0 prog w) A (do
    storeSet a c d
    if (!wd && d.tooFull)=true then do
      (match (N9 d c (C4 c.size)).2.2 with|true=>rule "set.scan.the-table-gave-way" | false=>C3 ())
      storeSet a (N9 d c (C4 c.size)).1 (N9 d c (C4 c.size)).2.1
      C3 (some true)
     else C3 (some true)) (λ r i=>∃b,r=some b/\Q b i) E s:=by
   obtain ⟨K,S1⟩:=z7e (prog:=prog) (w:=w) m S u U H C y;have sb:=X2 s.heap a (a8 c d);refine v0 (wpAny_storeSet_of m rfl ?_ (fits_of_scanBound H));split
   ·have k:=relayAll_perm d c (C4 c.size);have B:=relayAll_fits d c (C4 c.size);have I:=y.relayAll c (C4 c.size);generalize N9 d c (C4 c.size)=L2 at k B I⊢;obtain ⟨a2,t2,g2⟩:=L2;dsimp only at k B I⊢;obtain ⟨Y,Z,P⟩:=z81 u (k.map (λ e:Int×Value=>e.2));have R:a2.size < scanBound:=by rw [<-U0,k.length_eq,U0];exact H
    refine v0 (N g2 (v0 (wpAny_storeSet_of K rfl ?_ (fits_of_scanBound R))));obtain ⟨_,S2⟩:=z7e (prog:=prog) (w:=w) K (S.perm k) Z (P.nodup_iff.mpr U) R B I;exact C0 ⟨true,rfl,h true _ Y (sb.trans (X2 _ a _)) S2 (by rw [T];exact P.trans D)⟩
   ·exact C0 ⟨true,rfl,h true _ o sb S1 (by rw [T];exact D)⟩
  refine v0 (N a0 ?_);have fin:=y3 a1 (Q':=λ r i=>P0 (V0 prog w) A (match r with|some added=>C3 added|none=>setAddHashedIn a (.int v tk) ((S4 prog w).hash v) 99999) Q E i) (E':=E) (λ r i x=>by obtain ⟨b,e,q⟩:=x;subst e;exact C0 q) (λ e i x=>x);by_cases z:d.plain=true
  ·rw [if_pos z];exact v0 (j9 (show hashByValue 8 (Y5 v tk)=C3 true from rfl) fin)
  ·rw [if_neg z];exact v0 (C0 fin)
end
theorem zci {ns ms:List Int} (p:ns.Perm ms) (v:Int):(addI ns v).Perm (addI ms v):=by
 unfold addI;by_cases z:v∈ns
 ·rw [if_pos z,if_pos (p.mem_iff.mp z)];exact p
 ·rw [if_neg z,if_neg (λ y=>z (p.mem_iff.mpr y))];exact p.append_right [v]
theorem z22 :∀(vs:List Int) {ns ms:List Int},ns.Perm ms->(vs.foldl addI ns).Perm (vs.foldl addI ms)
 | [],_,_,p=>p
 | v :: vs,_,_,p=>z22 vs (zci p v)
theorem zab (ns:List Int) (v:Int):(addI ns v).length<=ns.length + 1:=by
 unfold addI;split
 ·exact T5 _
 ·rw [F0];exact A0 _
section
variable {prog:Program} {w:N0} {A:B2} {E:Value->y0->Prop} {s:y0}
theorem SetAt.at' {l:Bool} {h h':Heap} {a:Addr} {ns:List Int} (k :∀o,h.get? a=some o->h'.get? a=some o) (x:SetAt prog w l h a ns):SetAt prog w l h' a ns:=by obtain ⟨b,c,t,e,r⟩:=x;exact ⟨b,c,t,k _ e,r⟩
theorem z7n (a:Args):(S6 "set.update.loop" a).quiet=true:=plainId_quiet (by decide +kernel) _
noncomputable def set0 (w:N0):Obj:={ cls:=.type "set",dict:=none,data:=.set #[] 0 (.fresh 0 0 (!w.params.followText "set-order")) }
theorem zdh (a:Value) {Q₁:Value->y0->Prop} (h:Q₁ (.ref s.heap.objs.size) { s with heap:=s.heap.push (set0 w) }):v5 (V0 prog w) A (.call (.builtin "set.__new__") ⟨[.type "set",a],[]⟩) (wants Q₁ E) s:=by refine Z7 F.plain_set_new F.entry_set_new (j9 (F.newCall_set_1 a) ?_);show P0 _ _ (Builtin.Frozenset.newClass "set" ⟨[.type "set",a],[]⟩ >>= _) _ _ _;refine v0 (v0 (show P0 _ _ (C3 true) _ _ _ from C0 ?_));show P0 _ _ (isSubtype (.type "set") (.type "set") >>= _) _ _ _;refine v0 (j9 sub_set_self ?_);refine C0 ?_;show P0 _ _ (newSet (.type "set") >>= _) _ _ _;unfold newSet setsByText;refine v0 (v0 (v0 (wpAny_askSetting (C0 ?_))));exact v0 (wpAny_alloc (C0 (C0 h)))
theorem zf0 {h:Heap} {a:Addr} (e:h.get? a=some (set0 w)):SetAt prog w (!w.params.followText "set-order") h a []:=
 ⟨#[],0,_,e,λ x b=>by simp at b,.nil,List.nodup_nil,by decide,by rfl,rfl,f7⟩
end
section
variable {X:Cx}
theorem z2k :∀(vs ns:List Int),(vs.foldl addI ns).length<=ns.length + vs.length
 | [],ns=>A0 _
 | v :: vs,ns=>by have b:=z2k vs (addI ns v);have a:=zab ns v;show (vs.foldl addI (addI ns v)).length<=_;rw [i1];omega
end
end L2
set_option maxHeartbeats 400000
namespace HT
open PySem PySem.Spec PyProof.Rows L2
variable {prog:Program} {w:N0} {A:B2} {E:Value->y0->Prop} {s:y0}
end HT
namespace L2
open PySem PySem.Spec PyProof.Rows
theorem qs_if {X:Cx} {pos:Pos} {c:Expr} {a b:List Stmt} {t:TT} {ta tb:TS} (hc:PT X c t) (ha:QSs X a ta) (hb:QSs X b tb):QS X (.If c a b pos) (tIfS t ta tb):=⟨ps_if hc ha.run hb.run⟩
theorem zdt {f:List V->Hp->VK->Prop} {te tb:TE} {r:R2} {σ:St} {H:Hp} {Q:Bool->Hp->Prop} (h:te σ H λ x H1=>f [x] H1 λ y H2=>tb σ H2 λ z H3=>r y z H3 λ b H4=>∃k,b=.bl k/\Q k H4):tTest (tOp r (tCB f (tCons te tNil)) tb) σ H Q:=h
theorem z0s {c:TT} {a b:TS} {D:Ends} {σ:St} {H:Hp} (h:c σ H λ k H1=>if k=true then a D σ H1 else b D σ H1):tIfS c a b D σ H:=h
theorem z8i {K:c0} {a:Addr} {xs:List V} {H1:Hp} (hq:SqL K H1 a xs):RunsR Same (IteL K a) H1 xs.length (λ i v H=>∃x p,xs[i]? = some x/\v=.ref p/\H p=some (.tup [.int (i:Nat),x])):=by refine ⟨λ i b H s=>⟨xs,xs[i],s.seq hq,by simp [b]⟩,λ H s=>⟨xs,s.seq hq,rfl⟩,λ i b H v e s y=>?_⟩;obtain ⟨p,c,rfl,f⟩:=y;obtain ⟨x,d,rfl⟩:=f xs (s.seq hq);exact ⟨Same.upd c,x,p,d,rfl,z01⟩
end L2
set_option maxHeartbeats 1000000
namespace L2
open PySem PySem.Spec PyProof.Rows
section
variable {prog:Program} {w:N0} {A:B2} {E:Value->y0->Prop} {s:y0}
theorem za4 {b:Bool} {S it l:Addr} {items:Array Value} (nsi:S≠it) (nsl:S≠l) (nil':it≠l) :∀(ms:List Int) (i:Nat) (ns:List Int) (A:B2) (R:Result->y0->Prop) (s:y0),A.handled=none->s.heap.IsListIter it l i->s.heap.IsList l items->
  A3 (items.toList.drop i) ms->SetAt prog w b s.heap S ns->ns.length + ms.length < scanBound->
  (∀h' tk ns',SetAt prog w b h' S ns'->ns'.Perm (ms.foldl addI ns)->(∀c o,c≠S->c≠it->s.heap.get? c=some o->h'.get? c=some o)->R (.ok (.ret .none)) { s with heap:=h',toks:=tk })->
  v5 (V0 prog w) A (S6 "set.update.loop" { pos:=[.ref S,.ref it],kw:=[] }) R s
 | [],i,ns,A,R,s,hh,si,sl,al,dd,hz,q=>by
  have M:items[i]? = none:=by
   cases hd:items.toList.drop i with
   | nil=>have:=List.drop_eq_nil_iff.mp hd;rw [U0] at this;exact o5 this
   | cons u us=>rw [hd] at al;cases al
  refine Z3 A5 ?_;show P0 _ _ (C8 (.ref it) >>= _) _ _ s;refine v0 (S7 (show (A.under _).handled=none from hh) si sl M λ h' t=>?_);exact C0 (q h' s.toks ns (dd.at' λ o e=>t S o nsi e) (List.Perm.refl _) λ c o _ C e=>t c o C e)
 | m :: ms,i,ns,A,R,s,hh,si,sl,al,dd,hz,q=>by
  cases hd:items.toList.drop i with
  | nil=>rw [hd] at al;cases al
  | cons u us=>
   rw [hd] at al;cases al with
   | cons _ tk al=>
    have K:items.toList[i]? = some (.int m tk):=by have:=congrArg (λ l=>l[0]?) hd;simpa using this
    have B:items[i]? = some (.int m tk):=by simpa using K
    have H:items.toList.drop (i + 1)=us:=by have:=congrArg List.tail hd;simpa using this
    refine Z3 A5 ?_;show P0 _ _ (C8 (.ref it) >>= _) _ _ s;refine v0 (F7 si sl B λ h y g=>?_);have E:h.IsList l items:=by obtain ⟨o,d,a⟩:=sl;exact ⟨o,(g.2 l (n3 nil')).trans d,a⟩
    have L:SetAt prog w b h S ns:=dd.at' λ o e=>(g.2 S nsi).trans e;rw [i1] at hz;refine v0 (D2 (show P0 _ _ (setAdd S (.int m tk)) _ _ _ from ?_));unfold setAdd;refine D2 (v0 ((S4 prog w).pyHash (k:=m) (intKind_is prog w m tk) ?_));refine zf1 (s:={ s with heap:=h,toks:=s.toks + 1 }) L (U1 (by omega) hz) λ c j n f F v=>?_;refine C0 ⟨z7n _,?_⟩;have z:j.IsListIter it l (i + 1):=by obtain ⟨o,d,a⟩:=y;exact ⟨o,(f.2 it (n3 nsi)).trans d,a⟩
    have x:j.IsList l items:=by obtain ⟨o,d,a⟩:=E;exact ⟨o,(f.2 l (n3 nsl)).trans d,a⟩
    have N:n.length<=ns.length + 1:=by rw [v.length_eq];exact zab ns m
    refine za4 nsi nsl nil' ms (i + 1) n A R { s with heap:=j,toks:=s.toks + 1 } hh z x (by rw [H];exact al) F (by omega) λ h' J ns' G D I=>q h' J ns' G (D.trans (z22 ms v)) λ c o r p e=>I c o r p ((f.2 c r).trans ((g.2 c p).trans e))
theorem z68:isSubtype (.type "list") (.type "set")=C3 false:=by rw [isSubtype_type];kernel_rfl
theorem z3z:isSubtype (.type "list") (.type "frozenset")=C3 false:=by rw [isSubtype_type];kernel_rfl
theorem z6j {l:Addr} {items:Array Value} {ns:List Int} {Q:Value->y0->Prop} (hh:A.handled=none) (ht:s.heap.IsList l items) (hi:A3 items.toList ns) (hb:ns.length < scanBound)
  (h :∀h' tk ns',SetAt prog w (!w.params.followText "set-order") h' s.heap.objs.size ns'->ns'.Perm (ns.foldl addI [])->(∀b o,s.heap.get? b=some o->h'.get? b=some o)->Q (.ref s.heap.objs.size) { s with heap:=h',toks:=tk }) :
  P0 (V0 prog w) A (call (.type "set") [.ref l]) Q E s:=by
 obtain ⟨c,M,T⟩:=F.called_set.mro;have Z:=F.called_set.made;have X:=F.called_set.sub;refine M9 (codeAny_of_tree (show P0 _ _ (callAny (.type "set") _) _ _ _ from C0 ⟨Code.quiet_builtin _ (by decide +kernel),Z3 F.entry_type_call ?_⟩));rw [j01 (weight_type_call_type "set" [.ref l] []) rfl];have P:=F.called_set.notType;have W:=F.called_set.canCreate;have J:=F.typeCall_set_1 (.ref l)
 (repeat (any_goals (first|assumption|wp_step)));refine a5 (zdh (.ref l) (E:=E) (Q₁:=λ k t=>k=.ref s.heap.objs.size/\t={ s with heap:=s.heap.push (set0 w) }) ⟨rfl,rfl⟩) λ r t d=>?_
 cases r with
 | error e=>exact d
 | ok fl=>
  cases fl with
  | next=>exact d.elim
  | brk=>exact d.elim
  | cont=>exact d.elim
  | ret k=>
   obtain ⟨rfl,rfl⟩:=d;have g:(s.heap.push (set0 w)).get? s.heap.objs.size=some (set0 w):=I0 _ rfl;have C:K7 { s with heap:=s.heap.push (set0 w) } (.ref s.heap.objs.size) "set":=⟨_,g,rfl⟩
   have V:=F.called_set.init.lookup;have N:=F.called_set.init.bind (.ref s.heap.objs.size)
   (repeat (any_goals (first|assumption|wp_step)))
   have D:v5 (V0 prog w) A.in1 (.call (.builtin "set.__init__") ⟨[.ref s.heap.objs.size,.ref l],[]⟩) (wants (λ r m=>r=.none/\Q (.ref s.heap.objs.size) m) E) { s with heap:=s.heap.push (set0 w) }:=by
    refine Z7 F.called_set.init.plain F.entry_set_init (check_set_init_1 C ?_);obtain ⟨o,i,p,n,hd⟩:=ht;obtain ⟨U,z,Y,I⟩:=o;dsimp only at p hd;subst p hd;have y:(s.heap.push (set0 w)).get? l=some { cls:=.type "list",dict:=z,data:=.seq items n,slots:=I }:=x0 _ i;have L:=z68;have O:=z3z;have R:(M4 "list" == M4 "dict")=false:=by decide
    have K:(s.heap.push (set0 w)).get? s.heap.objs.size=some { cls:=.type "set",dict:=none,data:=.set #[] 0 (.fresh 0 0 (!w.params.followText "set-order")),slots:=#[] }:=g;have u:(s.heap.push (set0 w)).IsList l items:=⟨_,y,rfl,n,rfl⟩
    have j:l < s.heap.objs.size:=D0 i;unfold T6.«set.__init__» noKeywords g7;generalize hPI:pyIter=PI
    wp_walk
    subst hPI;refine M6 u (v0 (wpAny_runValue ?_));have q :∀b o,s.heap.get? b=some o->((s.heap.push (set0 w)).push { cls:=.type "list_iterator",data:=.fields #[.ref l,.int 0 0] }).get? b=some o:=λ b o e=>x0 _ (x0 _ e);have f:(s.heap.push (set0 w)).objs.size=s.heap.objs.size + 1:=p4 _ _;refine za4 (S:=s.heap.objs.size) (it:=(s.heap.push (set0 w)).objs.size) (l:=l) (items:=items) (by rw [f];exact Q0 (F2 _)) (Y1 j) (by rw [f];exact Y1 (A1 j)) ns 0 [] _ _ _ (by simp [hh]) ⟨_,I0 _ rfl,rfl,rfl⟩ ⟨_,q _ _ i,rfl,n,rfl⟩ (by rw [Q4];exact hi) (zf0 (x0 _ g)) (by simpa using hb) λ h' tk ns' G x B=>?_;refine C0 (C0 ⟨rfl,h h' tk ns' G x λ b o e=>B b o (Q0 (D0 e)) (by rw [f];exact Q0 (A1 (D0 e))) (q b o e)⟩)
   refine a5 D λ v m a=>?_;cases v with
   | error e=>exact a
   | ok f2=>
    cases f2 with
    | next=>exact a.elim
    | brk=>exact a.elim
    | cont=>exact a.elim
    | ret r=>obtain ⟨rfl,H⟩:=a;exact C0 (C0 H)
end
section
variable {X:Cx}
noncomputable def tLSet (K:c0) (te:TE):TE:=λ σ H Q=>te σ H λ x H1=>∃(a:Addr) (ns:List Int),x=.ref a/\SqL K H1 a (ns.map V.int)/\ns.length < 100/\Q (.int ((ns.foldl addI []).length:Nat)) H1
theorem zbx {e:Expr} {te:TE} {p1 p2 c1 c2:Pos} (hcalm:X.calm=true) (g1:Gl X "len") (m1:X.mg "len" = none) (g2:Gl X "set") (m2:X.mg "set" = none) (b1:i4 "len" = some (.builtin "len")) (b2:i4 "set" = some (.type "set")) (ha:PE X e te)
  (he:F1 [e] X.env=[(false,P3 e X.env)]:=by rfl):PE X (.Call (.Name "len" p1) [.Call (.Name "set" p2) [e] [] c2] [] c1) (tLSet X.K te):=by
 intro v s σ H Q I h;have c:X.A.handled=none:=I.ok.hd hcalm;refine O3 (ld_blt I g1 m1 b1 ?_ (by decide) (by decide));refine d5 ?_ rfl rfl;refine (show P0 _ _ (B9 ((false,P3 (.Call (.Name "set" p2) [e] [] c2) X.env) :: [])) _ _ s from E3 ?_);refine O3 (ld_blt I g2 m2 b2 ?_ (by decide) (by decide));refine O2 ?_ he rfl;rw [he];refine (show P0 _ _ (B9 ((false,P3 e X.env) :: [])) _ _ s from E3 (thn (ha v s σ H _ I h) λ u g ⟨x,H1,I1,r1,a,ns,ex,sq,hl,q⟩=>?_));subst ex;cases r1;refine W3 ?_;obtain ⟨D,i,d,B⟩:=I1.list sq;refine z6j c d.isList (by simpa using z3d i) (G5 hl (by decide)) λ r b z m l k=>W3 ?_;obtain ⟨n,w,t,f,_,j,nd,C,o,_⟩:=m;have p:n.size=(ns.foldl addI []).length:=by rw [<-l.length_eq,zb5 j,G0,U0]
 have y:(ns.foldl addI []).length < 100:=by have:=z2k ns [];rw [A4,E5] at this;omega
 refine call_len_set (s:={ g with heap:=r,toks:=b }) f ⟨rfl,rfl,rfl⟩ rfl o (by omega) ?_;rw [p];exact ⟨.int ((ns.foldl addI []).length:Nat),H1,(I1.kept (t':=b + 1 + 1) k),⟨_,rfl⟩,q⟩
end
theorem z10 {K:c0} {a:Addr} {xs:List V} {tl te:TE} {tc:TT} {g:TG} {m:Nat} {fr:List (Nat×Str)} {σ:L2.St} {H H1:Hp} {Q:VK} (p:Nat->Bool) (R:Nat->V->Hp->Prop) (hR :∀i y H H',Same H H'->R i y H->R i y H') (htl :∀R:VK,R (.ref a) H1->tl σ H R) (hq:SqL K H1 a xs) (hn:xs.length<=sizeLine)
  (body :∀i,i < xs.length->∀v H,Same H1 H->xs[i]? = some v->∀(KT:VK) (KF:Hp->Prop),(p i=true->∀y H',Same H H'->R i y H'->KT y H')->(p i=false->∀H',Same H H'->KF H')->
   g v (cStG σ fr (V2 m none)) H λ σ6 H6=>∃us,us.length=m/\σ6=cStG σ fr us/\tc (cStG σ fr us) H6 λ b H2=>if b=true then te (cStG σ fr us) H2 KT else KF H2)
  (hQ :∀l H' ys,Same H1 H'->H' l=none->All2 (λ i y=>R i y H') ((V1 xs.length).filter p) ys->Q (.ref l) (upd H' l (.lst ys))):tCompG (iList K tl) m fr g tc te σ H Q:=
 htl _ ⟨a,rfl,⟨xs,hq⟩,z2u (Same.refl _) (λ _ _ _ a b=>a.trans b) p R hR (zb3 (S:=Same) (λ _ _=>Same.refl _) λ H s=>s.seq hq) hn body hQ⟩
theorem zcv {K:c0} {a:Addr} {xs:List V} {ta:TA} {te:TE} {tc:TT} {g:TG} {m:Nat} {fr:List (Nat×Str)} {σ:L2.St} {H H1:Hp} {Q:VK} (p:Nat->Bool) (R:Nat->V->Hp->Prop) (hR :∀i y H H',Same H H'->R i y H->R i y H') (hta :∀T:List V->Hp->Prop,T [.ref a] H1->ta σ H T) (hq:SqL K H1 a xs) (hn:xs.length<=sizeLine)
  (body :∀i,i < xs.length->∀v H,Same H1 H->(∃x p,xs[i]? = some x/\v=.ref p/\H p=some (.tup [.int (i:Nat),x]))->∀(KT:VK) (KF:Hp->Prop),(p i=true->∀y H',Same H H'->R i y H'->KT y H')->(p i=false->∀H',Same H H'->KF H')->
   g v (cStG σ fr (V2 m none)) H λ σ6 H6=>∃us,us.length=m/\σ6=cStG σ fr us/\tc (cStG σ fr us) H6 λ b H2=>if b=true then te (cStG σ fr us) H2 KT else KF H2)
  (hQ :∀l H' ys,Same H1 H'->H' l=none->All2 (λ i y=>R i y H') ((V1 xs.length).filter p) ys->Q (.ref l) (upd H' l (.lst ys))):tCompG (ieL K ta) m fr g tc te σ H Q:=
 hta _ ⟨a,xs,rfl,hq,z2u (Same.refl _) (λ _ _ _ a b=>a.trans b) p R hR (z8i hq) hn body hQ⟩
theorem z85 {K:c0} {a:Addr} {xs:List V} {tl te:TE} {tc:TT} {g:TG} {m:Nat} {fr:List (Nat×Str)} {σ:L2.St} {H H1:Hp} {Q:VK} (p:Nat->Bool) (R:Nat->V->Hp->Prop) (hR :∀i y H H',Same H H'->R i y H->R i y H') (htl :∀R:VK,R (.ref a) H1->tl σ H R) (hq:SqT K H1 a xs) (hn:xs.length<=sizeLine)
  (body :∀i,i < xs.length->∀v H,Same H1 H->xs[i]? = some v->∀(KT:VK) (KF:Hp->Prop),(p i=true->∀y H',Same H H'->R i y H'->KT y H')->(p i=false->∀H',Same H H'->KF H')->
   g v (cStG σ fr (V2 m none)) H λ σ6 H6=>∃us,us.length=m/\σ6=cStG σ fr us/\tc (cStG σ fr us) H6 λ b H2=>if b=true then te (cStG σ fr us) H2 KT else KF H2)
  (hQ :∀l H' ys,Same H1 H'->H' l=none->All2 (λ i y=>R i y H') ((V1 xs.length).filter p) ys->Q (.ref l) (upd H' l (.lst ys))):tCompG (iTup K tl) m fr g tc te σ H Q:=
 htl _ ⟨a,rfl,⟨xs,hq⟩,z2u (Same.refl _) (λ _ _ _ a b=>a.trans b) p R hR (zcr (S:=Same) (λ _ _=>Same.refl _) λ H s=>s.seqT hq) hn body hQ⟩
theorem e_cb1 {f:List V->Hp->VK->Prop} {te:TE} {σ:L2.St} {H:Hp} {Q:VK} (h:te σ H λ x H1=>f [x] H1 Q):tCB f (tCons te tNil) σ H Q:=h
theorem t_test {r:R2} {ta tb:TE} {σ:L2.St} {H:Hp} {Q:Bool->Hp->Prop} (h:ta σ H λ x H1=>tb σ H1 λ y H2=>r x y H2 λ x H3=>∃c,x=.bl c/\Q c H3):tTest (tOp r ta tb) σ H Q:=h
theorem t_or {t u:TT} {σ:L2.St} {H:Hp} {Q:Bool->Hp->Prop} (h:t σ H λ c H1=>if c=true then Q true H1 else u σ H1 Q):tOr t u σ H Q:=h
theorem sq_if {c:TT} {a b rest:TS} {D:Ends} {σ:L2.St} {H:Hp} (h:c σ H λ k H1=>if k=true then a { D with nx:=rest D } σ H1 else b { D with nx:=rest D } σ H1):tSeq (tIfS c a b) rest D σ H:=h
theorem sq_ret {te:TE} {D:Ends} {σ:L2.St} {H:Hp} (h:te σ H D.rt):tRet te D σ H:=h
section
variable {X:Cx} {pins:List (Addr×Obj)} {σ:St} {H:Hp} {s:y0} {a:Addr} {u v:HO}
theorem Inv.retold (I:Inv X pins σ H s) (e:H a=some u) (nt :∀xs,u≠.tup xs) (nb :∀ps,u≠.tbl ps) (no :∀c,u≠.own c) (nf :∀o w,X.H₀ a≠some (.frz o w)) (ok:ObjOk X.prog X.w (upd H a v) s.heap a v):Inv X pins σ (upd H a v) s:=by
 have d :∀{b:Addr},H b=none->b≠a:=λ n z=>by rw [z,e] at n;cases n
 refine ⟨I.ok,I.os,I.bare,⟨I.base.keep,I.base.slot,λ b o q n h=>?_,I.base.there,λ b xs q=>?_,λ b o w q=>?_,λ b ps q=>?_⟩,I.loc,I.cell,?_,λ x c q=>?_,λ p i=>?_,λ b o q=>?_,I.len⟩
 ·have z:=I.base.free b o q n h;rw [upd_ne (d z)];exact z
 ·have z:=I.base.tups b xs q;rw [upd_ne (λ y=>by rw [y,e] at z;exact nt xs (W0 z))];exact z
 ·have z:=I.base.frzs b o w q;rw [upd_ne (λ y=>by rw [y] at q;exact nf o w q)];exact z
 ·obtain ⟨g,z⟩:=I.base.tbls b ps q;exact ⟨g,by rw [upd_ne (λ y=>by rw [y,e] at z;exact nb _ (W0 z))];exact z⟩
 ·rw [upd_ne (d I.free)];exact I.free
 ·rw [upd_ne (d (I.freeC x c q))];exact I.freeC x c q
 ·obtain ⟨k,f,j⟩:=I.pin p i;exact ⟨k,by rw [upd_ne (d f)];exact f,j⟩
 ·by_cases z:b=a
  ·subst z;rw [z01] at q;cases q;exact ok
  ·rw [upd_ne z] at q;refine (I.hok b o q).stay (λ _ _ _ y=>y) (λ c y=>?_) λ c xs y=>?_
   ·rw [upd_ne (λ x=>by rw [x,e] at y;exact no b (W0 y))];exact y
   ·rw [upd_ne (λ x=>by rw [x,e] at y;exact nt xs (W0 y))];exact y
theorem Inv.noFrz {kvs:List (Key×V)} (I:Inv X pins σ H s) (e:H a=some (.dK kvs)) :∀o w,X.H₀ a≠some (.frz o w):=λ o w q=>by have z:=I.base.frzs a o w q;rw [e] at z;cases z
theorem Inv.freeze {kvs:List (Key×V)} {ob:Obj} (I:Inv X pins σ H s) (e:H a=some (.dK kvs)) (ho:s.heap.get? a=some ob):Inv X pins σ (upd H a (.frz ob (.dK kvs))) s:=
 I.retold e (λ _ z=>by cases z) (λ _ z=>by cases z) (λ _ z=>by cases z) (I.noFrz e) ⟨ho,(show ObjOk X.prog X.w H s.heap a (.dK kvs) from I.hok a _ e)⟩
end
theorem z7k {α β:Type} {F:α->β->Prop} :∀{l:List α} {m:List β} {i:Nat} {x:α},a7 F l m->l[i]? = some x->∃y,m[i]? = some y/\F x y
 | _,_,i,x,.nil,e=>by simp at e
 | _,_,0,x,.cons a _,e=>by rw [R1] at e;cases e;exact ⟨_,R1,a⟩
 | _,_,i + 1,x,.cons _ r,e=>by rw [B1] at e;obtain ⟨y,c,b⟩:=z7k r e;exact ⟨y,by rw [B1];exact c,b⟩
theorem frz_at {X:Cx} {pins:List (Addr×Obj)} {σ:St} {H:Hp} {s:y0} {a:Addr} {ob:Obj} {kvs:List (Key×V)} {es:Array DictEntry} {ep:Nat} (I:Inv X pins σ H s) (hob:ob.data=.dict es ep) (e:H a=some (.frz ob (.dK kvs))) :
  ∃vs,KV kvs vs/\vs.length=kvs.length/\s.heap.DictAt (z0g X.prog X.w) a vs ep:=by
 obtain ⟨g,_,_,vs,c,h⟩:=(show ObjOk X.prog X.w H s.heap a (.frz ob (.dK kvs)) from I.hok a _ e)
 obtain ⟨l,b⟩:=h.dictAt;refine ⟨vs,c,c.length.symm,?_⟩;obtain ⟨o,k,f,j,d,i⟩:=id b;rw [g] at f;cases f;rw [hob] at d;cases d;exact b
noncomputable def addT (ns:List Str) (v:Str):List Str:=if v∈ns then ns else ns++[v]
theorem z76 (ns:List Str) (v:Str):(addT ns v).length=if v∈ns then ns.length else ns.length + 1:=by
 unfold addT;by_cases z:v∈ns
 ·rw [if_pos z,if_pos z]
 ·rw [if_neg z,if_neg z,F0];rfl
theorem ze8 (ns:List Str) (v k:Str):(decide (k∈ns) || decide (k=v))=decide (k∈addT ns v):=by
 unfold addT;by_cases z:v∈ns
 ·rw [if_pos z];by_cases y:k=v
  ·rw [y,decide_eq_true z];rfl
  ·rw [decide_eq_false y,W7]
 ·rw [if_neg z];by_cases y:k=v
  ·rw [decide_eq_true y,Bool.or_true,decide_eq_true (by rw [y];exact List.mem_append.mpr (.inr (List.mem_singleton.mpr rfl)))]
  ·rw [decide_eq_false y,W7];by_cases x:k∈ns
   ·rw [decide_eq_true x,decide_eq_true (List.mem_append.mpr (.inl x))]
   ·rw [decide_eq_false x,decide_eq_false (λ w=>(List.mem_append.mp w).elim x λ u=>y (List.mem_singleton.mp u))]
section
variable {prog:Program} {w:N0} {A:B2} {E:Value->y0->Prop} {s:y0}
theorem z5t {h h':Heap} {a:Addr} {M:Str->Bool} {n:Nat} (k :∀o,h.get? a=some o->h'.get? a=some o) (x:j6 (X3 prog w) h a M n):j6 (X3 prog w) h' a M n:=by obtain ⟨o,b,c,t,e,r⟩:=x;exact ⟨o,b,c,t,k _ e,r⟩
theorem zdo {h:Heap} {a:Addr} (e:h.get? a=some (set0 w)):j6 (X3 prog w) h a (λ k=>decide (k∈([]:List Str))) ([]:List Str).length:=
 ⟨_,#[],0,_,e,⟨rfl,rfl,rfl⟩,rfl,λ x b=>by simp at b,λ k=>⟨λ z=>absurd (of_decide_eq_true z) B0,λ ⟨e,he,_⟩=>by simp at he⟩,by decide,by rfl,rfl⟩
theorem z9r {S it l:Addr} {items:Array Value} (nsi:S≠it) (nsl:S≠l) (nil':it≠l) :∀(ms:List Str) (i:Nat) (ns:List Str) (A:B2) (R:Result->y0->Prop) (s:y0),A.handled=none->s.heap.IsListIter it l i->s.heap.IsList l items->
  StrsAre (items.toList.drop i) ms->j6 (X3 prog w) s.heap S (λ k=>decide (k∈ns)) ns.length->ns.length + ms.length < scanBound->
  (∀h' tk ns',j6 (X3 prog w) h' S (λ k=>decide (k∈ns')) ns'.length->ns'=ms.foldl addT ns->(∀c o,c≠S->c≠it->s.heap.get? c=some o->h'.get? c=some o)->R (.ok (.ret .none)) { s with heap:=h',toks:=tk })->
  v5 (V0 prog w) A (S6 "set.update.loop" { pos:=[.ref S,.ref it],kw:=[] }) R s
 | [],i,ns,A,R,s,hh,si,sl,al,dd,hz,q=>by
  have N:items[i]? = none:=by
   cases hd:items.toList.drop i with
   | nil=>have:=List.drop_eq_nil_iff.mp hd;rw [U0] at this;exact o5 this
   | cons u us=>rw [hd] at al;cases al
  refine Z3 A5 ?_;show P0 _ _ (C8 (.ref it) >>= _) _ _ s;refine v0 (S7 (show (A.under _).handled=none from hh) si sl N λ h' v=>?_);exact C0 (q h' s.toks ns (z5t (λ o e=>v S o nsi e) dd) rfl λ c o _ D e=>v c o D e)
 | m :: ms,i,ns,A,R,s,hh,si,sl,al,dd,hz,q=>by
  cases hd:items.toList.drop i with
  | nil=>rw [hd] at al;cases al
  | cons u us=>
   rw [hd] at al;cases al with
   | cons _ tk al=>
    have L:items.toList[i]? = some (.str m tk):=by have:=congrArg (λ l=>l[0]?) hd;simpa using this
    have C:items[i]? = some (.str m tk):=by simpa using L
    have H:items.toList.drop (i + 1)=us:=by have:=congrArg List.tail hd;simpa using this
    refine Z3 A5 ?_;show P0 _ _ (C8 (.ref it) >>= _) _ _ s;refine v0 (F7 si sl C λ r y h=>?_);have F:r.IsList l items:=by obtain ⟨o,a,d⟩:=sl;exact ⟨o,(h.2 l (n3 nil')).trans a,d⟩
    have M:=z5t (prog:=prog) (w:=w) (λ o e=>(h.2 S nsi).trans e) dd;rw [i1] at hz;refine v0 (D2 (show P0 _ _ (setAdd S (.str m tk)) _ _ _ from ?_));unfold setAdd;have n:(X3 prog w).is m (.str m tk)=true:=PySem.strKind_is prog w m tk;refine D2 (v0 ((X3 prog w).pyHash (k:=m) n ?_));refine wpAny_setAddHashed_of (s:={ s with heap:=r,toks:=s.toks + 1 }) n rfl M (U1 (by omega) hz) λ f g b=>?_;refine C0 ⟨z7n _,?_⟩;have I:j6 (X3 prog w) f S (λ k=>decide (k∈addT ns m)) (addT ns m).length:=by
     rw [z76];have a:(λ j=>decide (j∈ns) || decide (j=m))=λ k=>decide (k∈addT ns m):=funext λ k=>ze8 ns m k;rw [a] at b;by_cases z:m∈ns
     ·rw [if_pos z];rw [if_pos (decide_eq_true z)] at b;exact b
     ·rw [if_neg z];rw [if_neg (by rw [decide_eq_false z];decide)] at b;exact b
    have B:f.IsListIter it l (i + 1):=by obtain ⟨o,a,d⟩:=y;exact ⟨o,(g.2 it (n3 nsi)).trans a,d⟩
    have x:f.IsList l items:=by obtain ⟨o,a,d⟩:=F;exact ⟨o,(g.2 l (n3 nsl)).trans a,d⟩
    have O:(addT ns m).length<=ns.length + 1:=by rw [z76];split<;>omega
    refine z9r nsi nsl nil' ms (i + 1) (addT ns m) A R { s with heap:=f,toks:=s.toks + 1 } hh B x (by rw [H];exact al) I (by omega) λ h' K ns' G E J=>q h' K ns' G E λ c o t p e=>J c o t p ((g.2 c t).trans ((h.2 c p).trans e))
theorem z5i {l:Addr} {items:Array Value} {ns:List Str} {Q:Value->y0->Prop} (hh:A.handled=none) (ht:s.heap.IsList l items) (hi:StrsAre items.toList ns) (hb:ns.length < scanBound)
  (h :∀h' tk ns',j6 (X3 prog w) h' s.heap.objs.size (λ k=>decide (k∈ns')) ns'.length->ns'=ns.foldl addT []->(∀b o,s.heap.get? b=some o->h'.get? b=some o)->Q (.ref s.heap.objs.size) { s with heap:=h',toks:=tk }) :
  P0 (V0 prog w) A (call (.type "set") [.ref l]) Q E s:=by
 obtain ⟨c,N,U⟩:=F.called_set.mro;have a0:=F.called_set.made;have Y:=F.called_set.sub;refine M9 (codeAny_of_tree (show P0 _ _ (callAny (.type "set") _) _ _ _ from C0 ⟨Code.quiet_builtin _ (by decide +kernel),Z3 F.entry_type_call ?_⟩));rw [j01 (weight_type_call_type "set" [.ref l] []) rfl];have R:=F.called_set.notType;have X:=F.called_set.canCreate;have K:=F.typeCall_set_1 (.ref l)
 (repeat (any_goals (first|assumption|wp_step)));refine a5 (zdh (.ref l) (E:=E) (Q₁:=λ m u=>m=.ref s.heap.objs.size/\u={ s with heap:=s.heap.push (set0 w) }) ⟨rfl,rfl⟩) λ r u d=>?_
 cases r with
 | error e=>exact d
 | ok fl=>
  cases fl with
  | next=>exact d.elim
  | brk=>exact d.elim
  | cont=>exact d.elim
  | ret m=>
   obtain ⟨rfl,rfl⟩:=d;have g:(s.heap.push (set0 w)).get? s.heap.objs.size=some (set0 w):=I0 _ rfl;have D:K7 { s with heap:=s.heap.push (set0 w) } (.ref s.heap.objs.size) "set":=⟨_,g,rfl⟩
   have W:=F.called_set.init.lookup;have O:=F.called_set.init.bind (.ref s.heap.objs.size)
   (repeat (any_goals (first|assumption|wp_step)))
   have G:v5 (V0 prog w) A.in1 (.call (.builtin "set.__init__") ⟨[.ref s.heap.objs.size,.ref l],[]⟩) (wants (λ r p=>r=.none/\Q (.ref s.heap.objs.size) p) E) { s with heap:=s.heap.push (set0 w) }:=by
    refine Z7 F.called_set.init.plain F.entry_set_init (check_set_init_1 D ?_);obtain ⟨o,i,q,n,hd⟩:=ht;obtain ⟨V,B,Z,J⟩:=o;dsimp only at q hd;subst q hd;have z:(s.heap.push (set0 w)).get? l=some { cls:=.type "list",dict:=B,data:=.seq items n,slots:=J }:=x0 _ i;have M:=z68;have P:=z3z;have T:(M4 "list" == M4 "dict")=false:=by decide
    have L:(s.heap.push (set0 w)).get? s.heap.objs.size=some { cls:=.type "set",dict:=none,data:=.set #[] 0 (.fresh 0 0 (!w.params.followText "set-order")),slots:=#[] }:=g;have v:(s.heap.push (set0 w)).IsList l items:=⟨_,z,rfl,n,rfl⟩
    have j:l < s.heap.objs.size:=D0 i;unfold T6.«set.__init__» noKeywords g7;generalize hPI:pyIter=PI
    wp_walk
    subst hPI;refine M6 v (v0 (wpAny_runValue ?_));have t :∀b o,s.heap.get? b=some o->((s.heap.push (set0 w)).push { cls:=.type "list_iterator",data:=.fields #[.ref l,.int 0 0] }).get? b=some o:=λ b o e=>x0 _ (x0 _ e);have f:(s.heap.push (set0 w)).objs.size=s.heap.objs.size + 1:=p4 _ _;refine z9r (S:=s.heap.objs.size) (it:=(s.heap.push (set0 w)).objs.size) (l:=l) (items:=items) (by rw [f];exact Q0 (F2 _)) (Y1 j) (by rw [f];exact Y1 (A1 j)) ns 0 [] _ _ _ (by simp [hh]) ⟨_,I0 _ rfl,rfl,rfl⟩ ⟨_,t _ _ i,rfl,n,rfl⟩ (by rw [Q4];exact hi) (zdo (x0 _ g)) (by simpa using hb) λ h' tk ns' H y C=>?_;refine C0 (C0 ⟨rfl,h h' tk ns' H y λ b o e=>C b o (Q0 (D0 e)) (by rw [f];exact Q0 (A1 (D0 e))) (t b o e)⟩)
   refine a5 G λ x p a=>?_;cases x with
   | error e=>exact a
   | ok f2=>
    cases f2 with
    | next=>exact a.elim
    | brk=>exact a.elim
    | cont=>exact a.elim
    | ret r=>obtain ⟨rfl,I⟩:=a;exact C0 (C0 I)
end
section
variable {X:Cx}
noncomputable def tLSetS (K:c0) (te:TE):TE:=λ σ H Q=>te σ H λ x H1=>∃(a:Addr) (ns:List Str),x=.ref a/\SqL K H1 a (ns.map V.str)/\ns.length < 100/\Q (.int ((ns.foldl addT []).length:Nat)) H1
theorem z2m :∀(vs ns:List Str),(vs.foldl addT ns).length<=ns.length + vs.length
 | [],ns=>A0 _
 | v :: vs,ns=>by
  have b:=z2m vs (addT ns v);have a:(addT ns v).length<=ns.length + 1:=by rw [z76];split<;>omega
  show (vs.foldl addT (addT ns v)).length<=_;rw [i1];omega
theorem z5y :∀{ns:List Str} {us:List Value},Vals (ns.map V.str) us->StrsAre us ns
 | [],_,.nil=>.nil
 | n :: ns,_,.cons a r=>by obtain ⟨t,rfl⟩:=a;exact .cons n t (z5y r)
theorem zba {e:Expr} {te:TE} {p1 p2 c1 c2:Pos} (hcalm:X.calm=true) (g1:Gl X "len") (m1:X.mg "len" = none) (g2:Gl X "set") (m2:X.mg "set" = none) (b1:i4 "len" = some (.builtin "len")) (b2:i4 "set" = some (.type "set")) (ha:PE X e te)
  (he:F1 [e] X.env=[(false,P3 e X.env)]:=by rfl):PE X (.Call (.Name "len" p1) [.Call (.Name "set" p2) [e] [] c2] [] c1) (tLSetS X.K te):=by
 intro v s σ H Q I h;have c:X.A.handled=none:=I.ok.hd hcalm;refine O3 (ld_blt I g1 m1 b1 ?_ (by decide) (by decide));refine d5 ?_ rfl rfl;refine (show P0 _ _ (B9 ((false,P3 (.Call (.Name "set" p2) [e] [] c2) X.env) :: [])) _ _ s from E3 ?_);refine O3 (ld_blt I g2 m2 b2 ?_ (by decide) (by decide));refine O2 ?_ he rfl;rw [he];refine (show P0 _ _ (B9 ((false,P3 e X.env) :: [])) _ _ s from E3 (thn (ha v s σ H _ I h) λ u g ⟨x,H1,I1,r1,a,ns,ex,sq,hl,q⟩=>?_));subst ex;cases r1;refine W3 ?_;obtain ⟨E,i,d,B⟩:=I1.list sq;refine z5i c d.isList (by simpa using z5y i) (G5 hl (by decide)) λ r b z n m j=>W3 ?_;subst m;obtain ⟨o,D,w,t,f,k,hd,_,_,C,p,l⟩:=n;have y:(ns.foldl addT []).length < 100:=by have:=z2m ns [];rw [A4,E5] at this;omega
 refine call_len_set (s:={ g with heap:=r,toks:=b }) f k hd p (by omega) ?_;rw [l];exact ⟨.int ((ns.foldl addT []).length:Nat),H1,(I1.kept (t':=b + 1 + 1) j),⟨_,rfl⟩,q⟩
end
noncomputable def Itc (x:Str):It:=⟨λ i _=>i < x.cps.size,λ i H v H'=>H'=H/\∃c,x.cps[i]? = some c/\v=.str ⟨#[c]⟩,λ i _=>x.cps.size<=i⟩
theorem zee {P:Program} {w:N0} {K:c0} {tg:Expr} {x:Str} {it:Addr} {t:Tok}:Turn P w K tg (Itc x) [it] it (λ i h=>h.IsStrIter it "str_ascii_iterator" x t i) where
 mem:=by simp
 obj:=λ i h a b f=>by
  obtain rfl:b=it:=by simpa using f
  obtain ⟨o,e,c,d⟩:=a;exact ⟨o,e,λ v z=>by rw [d] at z;cases z⟩
 keep:=λ i h g a k=>by obtain ⟨o,e,r⟩:=a;exact ⟨o,k it (by simp) o e,r⟩
 item:=by intro X y A l D i F s σ H E I j a m;subst y A l;obtain ⟨p,n,L,q,u,B⟩:=j it (by simp);have G:x.cps[i]? = some x.cps[i]:=V4 m;refine wpAny_pyNext_ascii_item a G λ g C sb=>?_;have J:Inv X F σ H { s with heap:=g,toks:=s.toks + 1 }:=I.turned (t':=s.toks + 1) (λ b o f e=>(sb.2 b f).trans e) p n q u B;obtain ⟨o,e,c,d⟩:=id C;exact ⟨_,rfl,go_of (s:={ s with heap:=g,toks:=s.toks + 1 }) e c d (by decide) ⟨.str ⟨#[x.cps[i]]⟩,H,J,⟨_,rfl⟩,⟨rfl,_,G,rfl⟩,C,λ b f=>(j b f).1⟩⟩
 done:=by intro X y A l D i F s σ H E I j a m;subst y A l;obtain ⟨p,n,L,q,u,B⟩:=j it (by simp);exact wpAny_pyNext_ascii_end (I.ok.hd D) a (o5 m) λ g M=>⟨rfl,I.turned (t':=s.toks) (λ b o f e=>M b o f e) p n q u B⟩
 self:=λ _ _ _ _ _ a h=>wpAny_pyIter_striter_ascii a h
noncomputable def iStr (tl:TE):TI:=λ σ H R=>tl σ H λ v H1=>∃x:Str,v=.str x/\x.cps.all (· < 128)=true/\R (Itc x) H1
theorem pi_str {X:Cx} {tg l:Expr} {tl:TE} (hl:PE X l tl):PI X tg l (iStr tl):=by
 intro d s σ H R I h;refine thn (hl d s σ H _ I h) λ v a ⟨y,H1,I1,r1,x,e,ha,q⟩=>?_;subst e;obtain ⟨t,rfl⟩:=r1;refine wpAny_pyIter_ascii ha ?_;refine ⟨a.heap.objs.size,[a.heap.objs.size],_,_,H1,rfl,I1.kept (t':=a.toks) λ b o e=>x0 _ e,zee,⟨_,I0 _ rfl,rfl,rfl⟩,λ b c=>?_,q⟩;obtain rfl:b=a.heap.objs.size:=by simpa using c
 exact I1.fpOk (A0 _) (I1.hok.fresh (A0 _))
theorem zbz {x:Str} {H1:Hp}:RunsR Same (Itc x) H1 x.cps.size (λ i v _=>∃c,x.cps[i]? = some c/\v=.str ⟨#[c]⟩):=
 ⟨λ i a H s=>a,λ H s=>A0 _,λ i a H v b s y=>by obtain ⟨e,y⟩:=y;subst e;exact ⟨Same.refl _,y⟩⟩
theorem tcompS {x:Str} {tl te:TE} {tc:TT} {g:TG} {m:Nat} {fr:List (Nat×Str)} {σ:L2.St} {H H1:Hp} {Q:VK} (p:Nat->Bool) (R:Nat->V->Hp->Prop) (hR :∀i y H H',Same H H'->R i y H->R i y H') (htl :∀R:VK,R (.str x) H1->tl σ H R) (ha:x.cps.all (· < 128)=true) (hn:x.cps.size<=sizeLine)
  (body :∀i,i < x.cps.size->∀v H,Same H1 H->(∃c,x.cps[i]? = some c/\v=.str ⟨#[c]⟩)->∀(KT:VK) (KF:Hp->Prop),(p i=true->∀y H',Same H H'->R i y H'->KT y H')->(p i=false->∀H',Same H H'->KF H')->
   g v (cStG σ fr (V2 m none)) H λ σ6 H6=>∃us,us.length=m/\σ6=cStG σ fr us/\tc (cStG σ fr us) H6 λ b H2=>if b=true then te (cStG σ fr us) H2 KT else KF H2)
  (hQ :∀l H' ys,Same H1 H'->H' l=none->All2 (λ i y=>R i y H') ((V1 x.cps.size).filter p) ys->Q (.ref l) (upd H' l (.lst ys))):tCompG (iStr tl) m fr g tc te σ H Q:=
 htl _ ⟨x,rfl,ha,z2u (Same.refl _) (λ _ _ _ a b=>a.trans b) p R hR zbz hn body hQ⟩
theorem zfl {K:c0} {te:TE} {σ:L2.St} {H:Hp} {Q:VK} (h:te σ H λ x H1=>∃(a:Addr) (ns:List Str),x=.ref a/\SqL K H1 a (ns.map V.str)/\ns.length < 100/\Q (.int ((ns.foldl addT []).length:Nat)) H1):tLSetS K te σ H Q:=h
theorem tB_not {te:TE} {σ:L2.St} {H:Hp} {Q:Bool->Hp->Prop} (h:te σ H λ x H1=>∃c,x=.bl c/\Q (!c) H1):tNot (tB te) σ H Q:=h
end L2
set_option maxHeartbeats 400000
namespace L2
open PySem PySem.Spec PyProof.Rows
end L2
set_option maxHeartbeats 1000000
namespace L2
open PySem PySem.Spec PyProof.Rows
structure ZLAt (h:Heap) (z T U i j a b:Addr) (n:Nat) (f:Value):Prop where
 z:IsZip h z T U f
 t:IsPair h T (.ref i) (.ref j)
 u :∃p q,IsPair h U p q
 i:h.IsListIter i a n
 j:h.IsListIter j b n
end L2
namespace L2
open PySem PySem.Spec PyProof.Rows PySem.NumText
end L2
namespace L2
open PySem PySem.Spec PyProof.Rows
end L2
open PySem PySem.W PyProof.Rows
set_option maxHeartbeats 4000000
namespace TJ
section
variable (p:Program) (w:N0) (n₀:Nat) (ann:Option Value) (code:Code) (q:Pos)
theorem zcb {n m:Nat} :∀{s s' s'':y0} {t t' t'':S9},segGo m3 p w n₀ ann 1 n s t=some (s',t')->segGo m3 p w n₀ ann 1 m s' t'=some (s'',t'')->
  segGo m3 p w n₀ ann 1 (n + m) s t=some (s'',t''):=by
 induction n with
 | zero=>
  intro s s' s'' t t' t'' h k;obtain ⟨rfl,rfl⟩:s=s'/\t=t':=by simpa [segGo] using h
  rw [E5];exact k
 | succ n ih=>
  intro s s' s'' t t' t'' h k;rw [show n + 1 + m=n + m + 1 by omega];unfold segGo at h⊢;cases he:endAt 1 t with
  | some f=>rw [he] at h;cases h
  | none=>
   rw [he] at h;cases hk:stepOk n₀ ann t with
   | false=>rw [hk] at h;cases h
   | true=>
    rw [hk] at h;cases hs:step (denote m3) p w s t with
    | halt o s₂=>rw [hs] at h;cases h
    | go s₂ t₂=>rw [hs] at h;exact ih h k
def Steps (c:Nat) (s:y0) (t:S9) (s':y0) (t':S9):Prop:=∃n,n<=c/\segGo m3 p w n₀ ann 1 n s t=some (s',t')
def Goes {α:Type} (c:Nat) (x:Sem α) (s:y0) (pos:Pos) (a:α) (s':y0) (pos':Pos):Prop:=
 ∀(K:α->Sem Fin) (H:Value->Sem Fin) (gd:Bool->Bool) (lv:List Value->List Value),
  Steps p w n₀ ann c s ⟨x.wrap K H gd lv,code,pos,[topFrame q]⟩ s' ⟨K a,code,pos',[topFrame q]⟩
end
section
variable {p:Program} {w:N0} {n₀:Nat} {ann:Option Value} {code:Code} {q:Pos}
theorem Steps.trans {c d:Nat} {s s' s'':y0} {t t' t'':S9} (h:Steps p w n₀ ann c s t s' t') (k:Steps p w n₀ ann d s' t' s'' t''):Steps p w n₀ ann (c + d) s t s'' t'':=by obtain ⟨n,b,h⟩:=h;obtain ⟨m,a,k⟩:=k;exact ⟨n + m,by omega,zcb p w n₀ ann h k⟩
theorem Steps.refl {s:y0} {t:S9}:Steps p w n₀ ann 0 s t s t:=⟨0,A0 _,rfl⟩
theorem Steps.le {c d:Nat} {s s':y0} {t t':S9} (h:Steps p w n₀ ann c s t s' t') (l:c<=d):Steps p w n₀ ann d s t s' t':=let ⟨n,a,b⟩:=h;⟨n,J0 a l,b⟩
theorem Steps.one {s s':y0} {t t':S9} (he:endAt 1 t=none) (hk:stepOk n₀ ann t=true) (hs:step (denote m3) p w s t=.go s' t'):Steps p w n₀ ann 1 s t s' t':=by refine ⟨1,A0 _,?_⟩;unfold segGo;rw [he,hk,hs];rfl
variable {α β:Type} {s s' s'':y0} {pos pos' pos'':Pos} {a:α} {b:β} {c d:Nat}
theorem Goes.pure:Goes p w n₀ ann code q 0 (A9 a:Sem α) s pos a s pos:=λ _ _ _ _=>.refl
theorem Goes.le {x:Sem α} (h:Goes p w n₀ ann code q c x s pos a s' pos') (l:c<=d):Goes p w n₀ ann code q d x s pos a s' pos':=λ K H gd b=>(h K H gd b).le l
theorem Goes.bind {x:Sem α} {f:α->Sem β} (h:Goes p w n₀ ann code q c x s pos a s' pos') (k:Goes p w n₀ ann code q d (f a) s' pos' b s'' pos''):Goes p w n₀ ann code q (c + d) (x >>= f) s pos b s'' pos'':=by
 intro K H gd g;have e:(x >>= f).wrap K H gd g=x.wrap (λ a=>(f a).wrap K H gd g) H gd g:=by rw [Sem.bind_eq_wrap',Sem.wrap_wrap];rfl
 rw [e];exact (h _ H gd g).trans (k K H gd g)
theorem Goes.keep {x:Sem α} {vs:List Value} (h:Goes p w n₀ ann code q c x s pos a s' pos'):Goes p w n₀ ann code q c (x.keep vs) s pos a s' pos':=by intro K H gd b;rw [Sem.keep_eq_wrap,Sem.wrap_wrap];exact h K H _ _
theorem Goes.holding {x:Sem α} {vs:List Value} (h:Goes p w n₀ ann code q c x s pos a s' pos'):Goes p w n₀ ann code q c (C9 vs x) s pos a s' pos':=by rw [holding_eq_keep];exact h.keep
theorem Goes.rule {tag:String}:Goes p w n₀ ann code q 1 (PySem.rule tag) s pos () s pos:=λ _ _ _ _=>.one rfl rfl rfl
theorem Goes.at' {pos₁:Pos}:Goes p w n₀ ann code q 1 (standAt pos₁) s pos () s pos₁:=λ _ _ _ _=>.one rfl rfl rfl
theorem Goes.loadPart {A:Addr} {o:Obj} {part:Option Value} (ho:s.heap.get? A=some o):Goes p w n₀ ann code q 1 (loadPart A part) s pos o s pos:=λ K H gd c=>.one rfl rfl (by obtain ⟨heap,d,b,e,a⟩:=s;show (match heap.get? A with|some o=>Step.go _ _|none=>_)=_;have ho:heap.get? A=some o:=ho;rw [ho];rfl)
theorem Goes.updatePart {A:Addr} {o:Obj} {f:Obj->Obj} {part:Option Value} (ho:s.heap.get? A=some o) (hn:Nat.ble n₀ A=true):Goes p w n₀ ann code q 1 (updatePart A part f) s pos () { s with heap:=s.heap.update A f } pos:=λ K H gd c=>
 .one rfl (by
  show (_ && (Nat.ble n₀ A || _ || _ || _))=true;rw [hn];rfl) (by
  obtain ⟨heap,d,b,e,a⟩:=s;have ho:heap.get? A=some o:=ho;show (if (heap.get? A).isSome=true then Step.go _ _ else _)=_;rw [ho];rfl)
theorem Goes.leaf {x:Sem α} {sT sT':SharedT} (n:Nat) (h :∀K H gd lv,segGoT m3 p w n₀ ann 1 n sT ⟨x.wrap K H gd lv,code,pos,[topFrame q]⟩=some (sT',⟨K a,code,pos',[topFrame q]⟩)) :
  Goes p w n₀ ann code q n x sT.abs pos a sT'.abs pos':=λ K H gd lv=>⟨n,A0 _,segGo_of (h K H gd lv)⟩
end
end TJ
open PySem PySem.W PyProof.Rows
namespace TJ
section
variable {p:Program} {w:N0} {n₀:Nat} {ann:Option Value} {code:Code} {q:Pos} {s:y0} {pos:Pos}
theorem Goes.forIn {γ β:Type} {c:Nat} {f:γ->β->Sem (ForInStep β)} {b:β} :∀{l:List γ},(∀x∈l,Goes p w n₀ ann code q c (f x b) s pos (.yield b) s pos)->Goes p w n₀ ann code q (l.length * c) (ForIn.forIn l b f) s pos b s pos
 | [],_=>by rw [a9];exact Goes.pure.le (D1 _)
 | x :: l,h=>by rw [N8];have k:=Goes.forIn (l:=l) λ y a=>h y (G2 _ a);have e:=Goes.bind (f:=λ r=>match r with | .done b=>(A9 b:Sem β) | .yield b=>ForIn.forIn l b f) (h x W1) k;exact e.le (by rw [i1,Nat.add_mul];omega)
theorem Goes.entries {d:Addr} {o:Obj} {es:Array DictEntry} {ep:Nat} {part:Option Value} (ho:s.heap.get? d=some o) (hd:o.data=.dict es ep):Goes p w n₀ ann code q 1 (dictEntries d part) s pos es s pos:=by unfold dictEntries;refine (Goes.bind (d:=0) (Goes.loadPart ho) ?_);rw [hd];exact Goes.pure
theorem Goes.epoch {d:Addr} {o:Obj} {es:Array DictEntry} {ep:Nat} {part:Option Value} (ho:s.heap.get? d=some o) (hd:o.data=.dict es ep):Goes p w n₀ ann code q 1 (dictEpoch d part) s pos ep s pos:=by unfold dictEpoch;refine (Goes.bind (d:=0) (Goes.loadPart ho) ?_);rw [hd];exact Goes.pure
theorem Goes.mayTell {a:Addr} {stored:List Value} {cq:Nat} (hq:Goes p w n₀ ann code q cq (L5 8 (.ref a)) s pos true s pos) (hs :∀v∈stored,Goes p w n₀ ann code q cq (L5 8 v) s pos true s pos) :
  Goes p w n₀ ann code q (cq + stored.length * cq) (tableMayTell (.ref a) stored) s pos false s pos:=by
 unfold tableMayTell;split
 ·exact Goes.pure.le (D1 _)
 ·refine Goes.bind hq ?_;simp only [Bool.not_true,k6,if_false];refine (Goes.bind (a:=(none,())) (d:=0) (Goes.forIn λ v b=>?_) ?_).le (A0 _)
  ·refine (Goes.bind (d:=0) (hs v b) ?_).le (A0 _);simp only [Bool.not_true,k6,if_false];exact Goes.pure
  ·exact Goes.pure
theorem Goes.find_none {d a:Addr} {o:Obj} {es:Array DictEntry} {ep:Nat} {h:Int} {cq ce:Nat} (ho:s.heap.get? d=some o) (hd:o.data=.dict es ep)
  (hq:Goes p w n₀ ann code q cq (L5 8 (.ref a)) s pos true s pos)
  (hk :∀e∈es.toList,∃b,e.key=.ref b/\b≠a/\Goes p w n₀ ann code q cq (L5 8 (.ref b)) s pos true s pos/\Goes p w n₀ ann code q ce (eqBool (.ref b) (.ref a)) s pos false s pos) :
  Goes p w n₀ ann code q (2 + cq + es.size * (cq + ce + 10)) (dictFind d (.ref a) h) s pos none s pos:=by
 have l :∀(i:Nat) (e:DictEntry),es[i]? = some e->e∈es.toList:=λ i e r=>Array.mem_toList_iff.mpr (G9 r);have u:¬ (es.any λ e=>e.key == E1 a && e.hash != h)=true:=by rw [<-Array.any_toList,List.any_eq_true];rintro ⟨e,hin,hc⟩;obtain ⟨b,f,g,_⟩:=hk e hin;simp only [f,S3,beq_iff_eq,Value.ref.injEq] at hc;exact g hc.1
 have m :∀v∈(O5 es.size (λ i=>es[i]?.map (·.hash)) h).filterMap (λ i=>es[i]?.map (·.key)),∃b,v=.ref b/\b≠a/\Goes p w n₀ ann code q cq (L5 8 v) s pos true s pos:=by
  intro v k;obtain ⟨i,_,j⟩:=List.mem_filterMap.mp k;cases hei:es[i]? with
  | none=>rw [hei] at j;cases j
  | some e=>
   rw [hei] at j;obtain rfl:e.key=v:=by simpa using j
   obtain ⟨b,f,g,t,_⟩:=hk e (l i e hei);exact ⟨b,f,g,f ▸ t⟩
 have n:(O5 es.size (λ i=>es[i]?.map (·.hash)) h).length<=es.size:=by unfold O5;exact J0 (X1 _ _) (by rw [f8];exact A0 _)
 have y:((O5 es.size (λ i=>es[i]?.map (·.hash)) h).filterMap (λ i=>es[i]?.map (·.key))).length<=es.size:=J0 (List.length_filterMap_le _ _) n;unfold dictFind;refine Goes.holding ?_;refine (Goes.bind (d:=1 + cq + es.size * (cq + ce + 10)) (Goes.entries ho hd) ?_).le (by omega);dsimp only;rw [if_neg (show ¬ ((E1 a :: (O5 es.size (λ i=>es[i]?.map (·.hash)) h).filterMap (λ i=>es[i]?.map (·.key))).all carriedByValue)=true by simp [carriedByValue])];rw [if_neg u];have B:¬ (((O5 es.size (λ i=>es[i]?.map (·.hash)) h).filterMap (λ i=>es[i]?.map (·.key))) == [E1 a])=true:=by intro e;have e:=eq_of_beq e;obtain ⟨b,f,g,_⟩:=m (.ref a) (by rw [e];exact List.mem_singleton.mpr rfl);exact g (by injection f with f;exact f.symm)
 rw [if_neg B];refine (Goes.bind (d:=1 + es.size * (ce + 10)) (Goes.mayTell hq λ v k=>(let ⟨_,_,_,z⟩:=m v k;z)) ?_).le ?_
 ·rw [if_neg (by simp)];refine (Goes.bind (a:=(none,none)) (d:=0) (Goes.forIn (c:=ce + 10) λ i j=>?_) ?_).le ?_
  ·cases hei:es[i]? with
   | none=>exact Goes.pure.le (D1 _)
   | some e=>
    dsimp only;split
    ·obtain ⟨b,f,g,_,x⟩:=hk e (l i e hei);rw [f];refine (Goes.bind (d:=ce + 2) (Goes.epoch ho hd) (Goes.bind (d:=2) x (Goes.bind (d:=1) (Goes.epoch ho hd) ?_))).le (by omega);rw [if_neg (by simp)];rw [if_neg (by simp)];refine Goes.bind (d:=0) Goes.rule ?_;rw [if_neg (by simp)];exact Goes.pure
    ·exact Goes.pure.le (D1 _)
  ·exact Goes.pure
  ·have:=M7 (ce + 10) n;omega
 ·have:=M7 cq y;have A:es.size * (cq + ce + 10)=es.size * cq + es.size * (ce + 10):=by rw [<-Nat.mul_add,Nat.add_assoc]
  rw [A];omega
end
end TJ
open PySem PySem.W PyProof.Rows
namespace TJ
noncomputable abbrev dObj (es:Array DictEntry) (ep:Nat):Obj:={ cls:=.type "dict",data:=.dict es ep }
noncomputable abbrev KV3:=Addr×Value×Int
noncomputable def ent (x:KV3):DictEntry:=⟨x.2.2,.ref x.1,x.2.1⟩
noncomputable def unh (a:Addr):Sem Value:=do rule "hash.unhashable";raiseError "TypeError" s!"unhashable type: '{← typeNameOf (.ref a)}'"
noncomputable def z82 (d:Addr) (vs:List (Value×Value)):Sem PUnit:=forIn vs U7 λ (x:Value×Value) (_:PUnit)=>(do dictSet d x.1 x.2;C3 (N3 U7):Sem (ForInStep PUnit))
section
variable {p:Program} {w:N0} {n₀:Nat} {ann:Option Value} {code:Code} {q:Pos} {pos:Pos} {F:Obj->Nat->SharedT} {d:Addr}
structure Fam (n₀:Nat) (d:Addr) (F:Obj->Nat->SharedT):Prop where
 le:Nat.ble n₀ d=true
 get :∀es ep tk,(F (dObj es ep) tk).abs.heap.get? d=some (dObj es ep)
 upd :∀es ep tk (e:DictEntry),({ (F (dObj es ep) tk).abs with heap:=(F (dObj es ep) tk).abs.heap.update d (i7 (·.push e)) }:y0)=(F (dObj (es.push e) (ep + 1)) tk).abs
theorem Goes.updKeys (Z:Fam n₀ d F) {es:Array DictEntry} {ep tk:Nat} {e:DictEntry} {part:Option Value} (hsz:es.size < sizeLine) :
  Goes p w n₀ ann code q 3 (updateDictKeys d (·.push e) part) (F (dObj es ep) tk).abs pos () (F (dObj (es.push e) (ep + 1)) tk).abs pos:=by
 unfold updateDictKeys;refine (Goes.bind (d:=2) (Goes.loadPart (Z.get es ep tk)) ?_);dsimp only;have u:=Goes.updatePart (p:=p) (w:=w) (ann:=ann) (code:=code) (q:=q) (pos:=pos) (part:=part) (f:=i7 (·.push e)) (Z.get es ep tk) Z.le;rw [Z.upd es ep tk e] at u;refine Goes.bind (d:=1) u ?_;unfold lookBehind;refine Goes.bind (d:=0) (Goes.loadPart (Z.get _ _ tk)) ?_;have a:(dObj (es.push e) (ep + 1)).data.pastItsLine=none:=by unfold Data.pastItsLine;dsimp only;rw [if_neg (by rw [Array.size_push];omega)]
 rw [a];exact Goes.pure
theorem Goes.set (Z:Fam n₀ d F) {a:Addr} {v:Value} {es:Array DictEntry} {ep tk k cp cq ce:Nat} {hsh:Int} (hsz:es.size < sizeLine)
  (hpy:Goes p w n₀ ann code q cp (pyHash (.ref a)) (F (dObj es ep) tk).abs pos hsh (F (dObj es ep) (tk + k)).abs pos)
  (hq:Goes p w n₀ ann code q cq (L5 8 (.ref a)) (F (dObj es ep) (tk + k)).abs pos true (F (dObj es ep) (tk + k)).abs pos)
  (hk :∀e∈es.toList,∃b,e.key=.ref b/\b≠a/\Goes p w n₀ ann code q cq (L5 8 (.ref b)) (F (dObj es ep) (tk + k)).abs pos true (F (dObj es ep) (tk + k)).abs pos/\
   Goes p w n₀ ann code q ce (eqBool (.ref b) (.ref a)) (F (dObj es ep) (tk + k)).abs pos false (F (dObj es ep) (tk + k)).abs pos) :
  Goes p w n₀ ann code q (cp + (2 + cq + es.size * (cq + ce + 10)) + 4) (dictSet d (.ref a) v) (F (dObj es ep) tk).abs pos () (F (dObj (es.push ⟨hsh,.ref a,v⟩) (ep + 1)) (tk + k)).abs pos:=by
 unfold dictSet;refine Goes.holding ?_;refine (Goes.bind (d:=(2 + cq + es.size * (cq + ce + 10)) + 4) hpy ?_).le (by omega);unfold dictSetHashed;refine Goes.holding ?_;refine Goes.bind (d:=4) (Goes.find_none (h:=hsh) (Z.get es ep (tk + k)) rfl hq hk) ?_;exact Goes.bind (d:=3) Goes.rule (Goes.updKeys Z hsz)
theorem zff {γ β:Type} {f:γ->β->Sem (ForInStep β)} {x:γ} {xs:List γ} {b b' b'':β} {c c':Nat} {s s' s'':y0} (h:Goes p w n₀ ann code q c (f x b) s pos (.yield b') s' pos) (k:Goes p w n₀ ann code q c' (forIn xs b' f) s' pos b'' s'' pos) :
  Goes p w n₀ ann code q (c + c') (forIn (x :: xs) b f) s pos b'' s'' pos:=by
 rw [N8];exact Goes.bind (f:=λ r=>match r with | .done b=>(A9 b:Sem β) | .yield b=>forIn xs b f) h k
theorem Goes.loop (Z:Fam n₀ d F) {cp cq ce N:Nat} (all:List KV3) (hN:all.length<=N) (hN':N < sizeLine) (hnd:(all.map (·.1)).Nodup)
  (hQ :∀x∈all,∀oD tk,Goes p w n₀ ann code q cq (L5 8 (.ref x.1)) (F oD tk).abs pos true (F oD tk).abs pos)
  (hE:all.Pairwise λ x y=>∀oD tk,Goes p w n₀ ann code q ce (eqBool (.ref x.1) (.ref y.1)) (F oD tk).abs pos false (F oD tk).abs pos)
  (hH :∀x∈all,∀oD tk,Goes p w n₀ ann code q cp (pyHash (.ref x.1)) (F oD tk).abs pos x.2.2 (F oD (tk + 3)).abs pos) :
  ∀(todo done:List KV3) (tk:Nat),all=done++todo->
   Goes p w n₀ ann code q (todo.length * (cp + (2 + cq + N * (cq + ce + 10)) + 4)) (z82 d (todo.map λ x=>(E1 x.1,x.2.1)))
    (F (dObj (done.map ent).toArray done.length) tk).abs pos () (F (dObj (all.map ent).toArray all.length) (tk + 3 * todo.length)).abs pos:=by
 intro todo;induction todo with
 | nil=>intro done tk e;rw [i3] at e;subst e;unfold z82;rw [Q6,a9];exact Goes.pure.le (D1 _)
 | cons x todo ih=>
  intro done tk e;have h:x∈all:=by rw [e];exact M0 _ W1
  have g:=ih (done++[x]) (tk + 3) (by rw [e,List.append_assoc];rfl);unfold z82 at g⊢;rw [T0];have f:(done.map ent).toArray.size<=N:=by rw [L0,G0];rw [e,F0] at hN;omega
  have c:=Goes.set (p:=p) (w:=w) (ann:=ann) (code:=code) (q:=q) (pos:=pos) (v:=x.2.1) (ep:=done.length) Z (U1 f hN') (hH x h _ tk) (hQ x h _ _) (es:=(done.map ent).toArray) (ce:=ce) (by
   intro s o;obtain ⟨y,a,rfl⟩:=List.mem_map.mp o;have l:y∈all:=by rw [e];exact P4 _ a
   have j:y.1≠x.1:=by rw [e,P2,T0] at hnd;intro q;exact (List.nodup_append.mp hnd).2.2 y.1 (List.mem_map.mpr ⟨y,a,rfl⟩) x.1 W1 q
   rw [e] at hE;exact ⟨y.1,rfl,j,hQ y l _ _,(List.pairwise_append.mp hE).2.2 y a x W1 _ _⟩)
  have n:((done.map ent).toArray.push ⟨x.2.2,.ref x.1,x.2.1⟩)=((done++[x]).map ent).toArray:=by rw [List.push_toArray,P2];rfl
  have k:done.length + 1=(done++[x]).length:=by rw [F0];rfl
  rw [n,k] at c;have i:tk + 3 * (x :: todo).length=(tk + 3) + 3 * todo.length:=by rw [i1];omega
  rw [i];have r:Goes p w n₀ ann code q (_ + 0) (do dictSet d (E1 x.1,x.2.1).1 (E1 x.1,x.2.1).2;A9 (N3 U7):Sem (ForInStep PUnit)) _ pos (N3 U7) _ pos:=Goes.bind c Goes.pure;have m:=zff (b:=U7) (xs:=todo.map λ x=>(E1 x.1,x.2.1)) r g;refine m.le ?_;rw [i1,Nat.add_mul];have:=M7 (cq + ce + 10) f;omega
noncomputable def z7a (acc:Nat):Int:=if acc == 2 ^ 64 - 1 then 1546275796 else if acc < 2 ^ 63 then acc else (acc:Int) - (2 ^ 64:Nat)
theorem z4q (acc:Nat) (h:acc < 2 ^ 64):-(2:Int) ^ 63<=z7a acc/\z7a acc < 2 ^ 63:=by
 unfold z7a;split
 ·constructor<;>decide
 ·split
  ·constructor<;>omega
  ·constructor<;>omega
theorem z3o (hs:List Int):-(2:Int) ^ 63<=d0 hs/\d0 hs < 2 ^ 63:=
 z4q _ (Nat.mod_lt _ (by decide))
theorem Goes.pyHashT {a:Addr} {s s':y0} {hs:List Int} {tok:Tok} (h1:Goes p w n₀ ann code q 1 (cRoomFor "hash" [.ref a]) s pos () s pos)
  (h2:Goes p w n₀ ann code q 1 (specialOf (.ref a) "__hash__") s pos (some (.builtin "tuple.__hash__")) s pos)
  (h3:Goes p w n₀ ann code q 22 (d6 (.ref a) "__hash__" (unh a)) s pos (some (.int (d0 hs) tok)) s' pos) :
  Goes p w n₀ ann code q 25 (pyHash (.ref a)) s pos (X0 (d0 hs)) s' pos:=by
 have e:pyHash (.ref a)=pyHashByItsType (.ref a):=rfl;rw [e];unfold pyHashByItsType;refine Goes.bind (d:=24) h1 ?_;refine Goes.bind (d:=23) h2 ?_;rw [if_neg (by rw [beq_builtin_none];exact O0)];refine Goes.bind (d:=22) h2 ?_;show Goes p w n₀ ann code q 22 (d6 (.ref a) "__hash__" (unh a) >>= _) s pos _ s' pos;refine Goes.bind (d:=0) h3 ?_;have r:(decide (-(2:Int) ^ 63<=d0 hs) && decide (d0 hs < 2 ^ 63))=true:=by have r:=z3o hs;rw [decide_eq_true r.1,decide_eq_true r.2];rfl
 show Goes p w n₀ ann code q 0 (if (decide (-(2:Int) ^ 63<=d0 hs) && decide (d0 hs < 2 ^ 63))=true then _ else _) s' pos _ s' pos;have b:X0 (d0 hs)=(if (d0 hs == -1)=true then -2 else d0 hs):=by unfold X0;rw [if_pos r]
 rw [if_pos r,b];exact Goes.pure
theorem Goes.subDict {pairs:List (Sem Value×Sem Value)} {s s₁ s':y0} {vs:List (Value×Value)} {c c':Nat} {d:Addr} (hlen:pairs.length<=15) (hd:s.heap.objs.size=d)
  (h1:Goes p w n₀ ann code q c (evalPairs pairs) { s with heap:=s.heap.push { cls:=.type "dict",data:=.dict #[] } } pos vs s₁ pos)
  (h2:Goes p w n₀ ann code q c' (z82 d vs) s₁ pos () s' pos):Goes p w n₀ ann code q (1 + (c + c')) (subDict pairs) s pos d s' pos:=by
 subst hd;unfold PySem.subDict;refine Goes.bind (a:=s.heap.objs.size) (λ _ _ _ _=>.one rfl rfl rfl) ?_;refine (Goes.bind (d:=0) (a:=()) (Goes.holding ?_) Goes.pure);rw [if_pos hlen];refine Goes.bind h1 ?_;exact Goes.holding (Goes.bind (d:=0) h2 Goes.pure)
theorem Goes.execs1 {st:Stmt} {env:Env} {s s':y0} {pos':Pos} {c:Nat} (h:Goes p w n₀ ann code q c (exec st env) s pos .next s' pos'):Goes p w n₀ ann code q c (execs [st] env) s pos .next s' pos':=by rw [execs_cons];exact Goes.bind (d:=0) h Goes.pure
theorem Goes.seg {l:List Stmt} {env:Env} {s s':y0} {pos':Pos} {c:Nat} (h:Goes p w n₀ ann code q c (execs l env) s pos .next s' pos') :∃n,n<=c + 1/\segRun m3 p w n₀ ann 1 n s (piecesOf l env code pos [topFrame q])=some (.next,s',code,pos'):=by obtain ⟨n,a,h⟩:=h doneF deadEnd id id;exact ⟨n + 1,by omega,seg_go h rfl⟩
end
theorem zdq {p q:Program} {loose:List Str} {Xt:y0->Bool} {α:Type} {Yf:y0->α} {Ya:N0->α} {N:Nat} {H₀:R0->Heap} {gs₀:Array GenState} {d₀:Drawn} {k₀ m₀:Nat} {ann:Option Value} {S:N0->T2->y0}
  (opens :∀w:N0,(fencedOpening m3 p w N).map (λ s=>(s.heap,s.gens,s.drawn,s.toks))=some (H₀ w.params,gs₀,d₀,k₀))
  (sizes :∀w:N0,(((H₀ w.params).isNs Q1 && gs₀.size == 0),(H₀ w.params).objs.size,(H₀ w.params).nsMap Q1 "__annotations__")=(true,m₀,ann))
  (runs :∀(w:N0) (os:T2),∃M,M<=N/\topRun m3 p w m₀ ann M ⟨H₀ w.params,gs₀,d₀,k₀,os⟩ (topStub p)=some (S w os))
  (looks1 :∀(w:N0) (os:T2),(staticsOk (n6 p.main.body) (H₀ w.params) (S w os).heap && namesBound p (S w os).heap && gensDone (S w os) && laidKept (H₀ w.params) (S w os).heap)=true)
  (looks2 :∀(w:N0) (os:T2),openSeen q loose (n6 p.main.body) Xt true (S w os)=openGood q loose) (looks3 :∀(w:N0) (os:T2),Yf (S w os)=Ya w):LeftO p q loose Xt Yf Ya N:=by
 intro w;obtain ⟨⟨h,d,g,k,os⟩,e,a⟩:=Option.map_eq_some_iff.mp (opens w);simp only [Prod.mk.injEq] at a;obtain ⟨rfl,rfl,rfl,rfl⟩:=a;have z:=sizes w;simp only [Prod.mk.injEq] at z;obtain ⟨i,f,b⟩:=z;obtain ⟨M,c,r⟩:=runs w os;have r:=topRun_mono (N - M) _ _ _ _ r;rw [Nat.add_sub_cancel' c] at r;have t:topFrom m3 p w N ⟨H₀ w.params,d,g,k,os⟩=some (S w os):=by unfold topFrom;dsimp only;rw [i,f,b,r];show (match (staticsOk (n6 p.main.body) (H₀ w.params) (S w os).heap && namesBound p (S w os).heap && gensDone (S w os) && laidKept (H₀ w.params) (S w os).heap) with|true=>some (S w os)|false=>none)=_;rw [looks1 w os]
 unfold openEnds;rw [e];show (topFrom m3 p w N _).map _=_;rw [t];show some (_,_)=some (_,_);rw [looks2 w os,looks3 w os]
theorem zbf {p:Program} {w:N0} {n₀:Nat} {ann:Option Value} {env:Env} {q:Pos} {c N:Nat} {s s' r:y0} {l rest:List Stmt} {b:Code} {pos pos':Pos} (h:Goes p w n₀ ann b q c (execs l env) s pos .next s' pos')
  (k:topRun m3 p w n₀ ann N s' (restOf rest env b pos' [topFrame q])=some r) :∃M,M<=c + 1 + N/\topRun m3 p w n₀ ann M s (restOf (l++rest) env b pos [topFrame q])=some r:=by
 obtain ⟨n,a,g⟩:=Goes.seg h;exact ⟨n + N,by omega,piece_app g k⟩
end TJ
open PySem PySem.Spec PyProof.Rows
namespace L2
noncomputable abbrev fnX (x q:Str) (s:Stmt) (m:Str) (k c:Nat):FuncData:=k5 x q (z65 s) (z2z s) (z07 s) .none .none .none (.str m k) none (.ref c) .none
noncomputable abbrev fY (x q:Str) (s:Stmt):=fnX x q s "law_talejudge_k17_whole_made_strictly" 658
noncomputable abbrev fO (x q:Str) (s:Stmt) (m:Str) (k c:Nat):Obj:=⟨.type "function",none,.func (fnX x q s m k c),#[]⟩
noncomputable abbrev fL (x q:Str) (s:Stmt):=fO x q s "law_talejudge_k17_whole_made_strictly" 658
noncomputable abbrev cO (x q:Str) (i l n a j:Nat):Obj:=
 ⟨.type "code",none,.fields #[.str x i,.str q (i + 1),.str "/claim/cut.py" (i + 2),.int l 0,.int n 0,.int 0 0,.int 0 0,.int 3 0,.ref a,.bool true,.int 181 0,.ref (a + 1),.none,.ref (a + 2),.ref (a + 3),.ref (a + 4),.int j 0,.int l 0,.str "/claim/cut.py" (j + 1)],#[]⟩
noncomputable abbrev cP (x q:Str) (i l n a j:Nat):Obj:=
 ⟨.type "code",none,.fields #[.str x i,.str q (i + 1),.str "/claim/cut.py" (i + 2),.int l 0,.int n 0,.int 0 0,.int 0 0,.int 3 0,.ref a,.bool true,.int 181 0,.ref (a + 1),.none,.none,.none,.ref (a + 2),.int j 0,.int l 0,.str "/claim/cut.py" (j + 1)],#[]⟩
noncomputable abbrev kR (P:R0) (x:Str) (i a:Nat):DictEntry:=⟨b0 P x,.str x i,.ref a⟩
section
variable {P:Program} {w:N0} {K:c0} {mg:Str->Option Value} {base:Heap} {x q:Str} {st:Stmt} {f:Addr} {fd:FuncData} {k:Nat} {ps:List Str} {sp:Sp}
theorem z0c {m:Str} {i c:Nat} (l:K.lookup f=some (fO x q st m i c):=by kernel_rfl) (hc:Y6 K (.ref c) q=true:=by kernel_rfl) (hk:Y3 K (.ref f)=true:=by kernel_rfl):Fun K x q st f (fnX x q st m i c):=fun_mk l hc hk
theorem cal_mk (T:TX K mg) (F:Fun K x q st f fd) (g:D3 K Q1 x=some (some (.ref f))) (b:Binds K fd ps []) (G:FnOk P w K mg base CX0 k f fd ps sp):Cal P w K mg base x ps k sp:=⟨⟨f,fd,G,T.of g,F.kp,b⟩⟩
end
section
variable {p:List Value->Prop}
theorem us1 (h :∀a,p [a]) :∀us:List Value,us.length=1->p us | [a],_=>h a
theorem us2 (h :∀a b,p [a,b]) :∀us:List Value,us.length=2->p us | [a,b],_=>h a b
theorem us3 (h :∀a b c,p [a,b,c]) :∀us:List Value,us.length=3->p us | [a,b,c],_=>h a b c
theorem us4 (h :∀a b c d,p [a,b,c,d]) :∀us:List Value,us.length=4->p us | [a,b,c,d],_=>h a b c d
theorem us5 (h :∀a b c d e,p [a,b,c,d,e]) :∀us:List Value,us.length=5->p us | [a,b,c,d,e],_=>h a b c d e
end
end L2
set_option maxHeartbeats 1000000
namespace L2
open PySem PySem.Spec PyProof.Rows
section
variable {prog:Program} {w:N0} {A:B2} {E:Value->y0->Prop} {s:y0}
theorem sort1 {a:Addr} {v:Value} {n0:Nat} {P:A7->y0->Prop} (ho:s.heap.get? a=some (Q2 "list" #[v] n0))
  (h :∀(h':Heap) (e:Nat),(∀b o,b≠a->s.heap.get? b=some o->h'.get? b=some o)->h'.get? a=some (Q2 "list" #[v] e)->P (.done (.ret .none)) { s with heap:=h' }) :
  P0 (V0 prog w) A (T6.«list.sort» ⟨[.ref a],[]⟩) P E s:=by
 obtain ⟨d,g⟩ :∃d,(s.heap.update a (G1 λ _=>(#[]:Array Value))).get? a=some (Q2 "list" #[] d):=⟨_,o6 ho λ _=>#[]⟩
 rw [list_sort_plain];refine v0 (listItems_at ho rfl (v0 (X5 ho rfl (v0 (n9 g rfl (v0 (wpAny_newTuple (v0 (o8 (D2 ?_) (D1 _))) (show 1<=sizeLine by decide))))) (show 1<=_ by decide) (D1 _))));dsimp only;generalize hh3:((s.heap.update a (G1 λ _=>(#[]:Array Value))).push (Q2 "tuple" #[v] 0)).push (Q2 "list" #[] 0)=h3;have j:=X2 s.heap a (G1 λ _=>(#[]:Array Value));have k :∀b o,b≠a->s.heap.get? b=some o->h3.get? b=some o:=λ b o n e=>by rw [<-hh3];exact x0 _ (x0 _ ((j.2 b n).trans e))
 have c:h3.get? a=some (Q2 "list" #[] d):=by rw [<-hh3];exact x0 _ (x0 _ g)
 rw [if_pos (show (#[v]:Array Value).size < 2 by simp)];refine v0 (C0 ?_);rw [if_pos (show (#[v]:Array Value).size < 2 by simp)];refine (show P0 _ _ (C3 ((),L8 general' ((#[v]:Array Value).zip #[v]) #[] 7 none) >>= _) _ _ _ from v0 (C0 ?_));dsimp only;have i:Array.map (λ x=>x.snd) (t8 (L8 general' ((#[v]:Array Value).zip #[v]) #[] 7 none)) = #[v]:=by show Array.map (λ x=>x.snd) ((#[v]:Array Value).zip #[v]) = #[v];simp
 refine v0 (n9 c rfl (v0 (X5 c rfl ?_ (D1 _) ?_)))
 ·simp only [bne_self_eq_false,k6,if_false];rw [i];obtain ⟨f,l⟩ :∃f,(h3.update a (G1 λ _=>(#[v]:Array Value))).get? a=some (Q2 "list" #[v] f):=⟨_,o6 c λ _=>#[v]⟩
  exact C0 (h _ f (λ b o n e=>(R6 _ _ (n3 n)).trans (k b o n e)) l)
 ·rw [i];exact (show 1<=_ by decide)
end
section
variable {X:Cx}
theorem z75:CallR X (.builtin "sorted") (λ xs H Q=>∃(a:Addr) (y:V),xs=[.ref a]/\SqL X.K H a [y]/\∀l,H l=none->Q (.ref l) (upd H l (.lst [y]))):=by intro D s σ H xs G Q I B h;obtain ⟨a,y,rfl,t,q⟩:=h;obtain ⟨u,rfl,k⟩:=vals1 B;cases k;obtain ⟨J,d,p,F⟩:=I.list t;obtain ⟨v,rfl,E⟩:=vals1 d;refine Calls.call_function_entry kind_sorted plain_sorted entry_sorted (args_sorted1 _) ?_;unfold T6.«sorted»;obtain ⟨o,x,r,n,hd⟩:=p.isList;refine v0 (m:=checkCount "sorted" 1 1 _) (C0 (v0 (wpAny_collect_seq a (.inl rfl) x r hd (λ c j=>?_) (show 1<=_ by decide))));have g:(c.push (Q2 "list" #[v] 0)).get? c.objs.size=some (Q2 "list" #[v] 0):=I0 _ rfl;have f:Inv X D σ H { s with heap:=c }:=I.kept (t':=s.toks) j;refine v0 (o8 (v0 (D2 (o7 slot_list_sort ⟨_,g,rfl⟩ entry_list_sort (sort1 (s:={ s with heap:=c.push (Q2 "list" #[v] 0) }) g λ i e w A=>⟨_,rfl,?_⟩) (args_list_sort _)))) (show 1<=_ by decide));have C :∀b o,c.get? b=some o->i.get? b=some o:=λ b o z=>w b o (Q0 (D0 z)) (x0 _ z);exact C0 ⟨_,rfl,.ref c.objs.size,_,f.laid (t':=s.toks) (o:=.lst [y]) C (A0 _) ⟨(show 1<=sizeLine by decide),_,e,d,A⟩,rfl,q _ (f.hok.fresh (A0 _))⟩
end
variable {X:Cx}
def rDictT (K:c0):List V->Hp->VK->Prop:=λ xs H Q=>∃a ys kvs,xs=[.ref a]/\H a=some (.tup ys)/\All2 (λ (p:Key×V) y=>∃b,y=.ref b/\SqT K H b [kV p.1,p.2]) kvs ys/\∀p,H p=none->Q (.ref p) (upd H p (.dK (mergeK [] kvs)))
theorem za3 (hc:X.calm=true):CallR X (.type "dict") (rDictT X.K):=by
 intro T s σ H U V Q I r h;obtain ⟨a,S,c,rfl,O,t,q⟩:=h;obtain ⟨u,rfl,M⟩:=vals1 r;cases (show u=E1 a from M);have k:X.A.handled=none:=I.ok.hd hc;have N:H s.heap.objs.size=none:=I.hok.fresh (A0 _);have big:=I.big;have fin :∀(f:List (Key×Value)) (h':Heap) (d:Nat),KV c f->c.length<=sizeLine->m5 (z0g X.prog X.w) h' s.heap.objs.size (merged [] f)->(∀b o,b≠s.heap.objs.size->(s.heap.push { cls:=.type "dict",data:=.dict #[] }).get? b=some o->h'.get? b=some o)->
   EP X T σ Q (.ref s.heap.objs.size) { s with heap:=h',toks:=d }:=λ f h' d g G j i=>by
  refine ⟨.ref s.heap.objs.size,_,I.laid (a:=s.heap.objs.size) (o:=.dK (mergeK [] c)) (h':=h') (t':=d) (λ b o e=>i b o (Q0 (D0 e)) (x0 _ e)) (A0 _) ?_,rfl,q _ N⟩;exact dk_new (J0 (z5n [] c) (by simpa using G)) (beq_eq_false_iff_ne.mpr (n3 (Q0 big))) (KV.merge g .nil) j
 have C:S.length=c.length:=z04 t;obtain ⟨z,a2,P,⟨o,E,B,n,v⟩,Y,m,p⟩:=I.hok a _ O;rw [E] at m;cases m;obtain ⟨f,g,R⟩:=zbb I t P;obtain ⟨Z,W,a0,a1⟩:=o;dsimp only at B v p;subst B v p;refine callType_codes F.kt_called_dict (F.kt_typeCall_dict_1 _) F.entry_dict_init (kt_code_dict_new _ (Q₁:=λ l D=>l=.ref s.heap.objs.size/\D={ s with heap:=s.heap.push { cls:=.type "dict",data:=.dict #[] } }) ⟨rfl,rfl⟩) ?_;rintro l D ⟨rfl,rfl⟩;refine ⟨⟨_,I0 _ rfl,rfl⟩,F.args_dict_init_2 _ _,?_⟩;refine z3m (s:={ s with heap:=s.heap.push { cls:=.type "dict",data:=.dict #[] } }) (I0 _ rfl) (x0 _ E) k k (by simpa using z02 (λ x y z=>PairOf.kept (L:=[]) (λ b o _ e=>x0 _ e) (λ b J=>absurd J B0) z) R) (by rw [<-L7 g,<-C];exact z) λ h' d j i=>fin f h' d g (by rw [<-C];exact z) j i
variable {X:Cx}
theorem zcd (hc:X.calm=true):CallR X (.builtin "max") (λ xs H Q=>∃(p:Addr) (ns:List Int),xs=[.ref p]/\SqL X.K H p (ns.map V.int)/\ns≠[]/\∀M,M∈ns->(∀a∈ns,a<=M)->Q (.int M) H):=by
 intro G s σ H xs E Q I r h;obtain ⟨p,ns,rfl,x,A,q⟩:=h;obtain ⟨u,rfl,l⟩:=vals1 r;cases l;obtain ⟨z,n,m,C⟩:=I.list x;have g:A3 z ns:=z3d n;obtain ⟨xs,e⟩:=g.allInts.items;have b:ns=xs.toList.map (·.1):=by rw [<-g.numsOf,<-nums_intItems,<-e]
 have i:0 < xs.size:=by have c:=List.length_pos_iff.mpr A;rw [b,G0,U0] at c;exact c
 have f:=m.isList;rw [e] at f;refine max_intList (I.ok.hd hc) f i λ v B D w k=>?_;obtain ⟨t,rfl⟩:=intItems_at w;obtain ⟨F,y⟩:=argBest_gt (numAt xs) (xs.size - 1);refine ⟨.int _,H,I.kept k,⟨_,rfl⟩,q _ ?_ λ a d=>?_⟩
 ·rw [b,numAt_eq];exact getD_mem (by rw [G0,U0];omega)
 ·rw [b] at d;obtain ⟨j,o,rfl⟩:=mem_getD d;rw [G0,U0] at o;rw [<-numAt_eq];exact y j (by omega)
theorem zc7 (hc:X.calm=true):CallR X (.builtin "min") (λ xs H Q=>∃(p:Addr) (ns:List Int),xs=[.ref p]/\SqL X.K H p (ns.map V.int)/\ns≠[]/\∀M,M∈ns->(∀a∈ns,M<=a)->Q (.int M) H):=by
 intro G s σ H xs E Q I r h;obtain ⟨p,ns,rfl,x,A,q⟩:=h;obtain ⟨u,rfl,l⟩:=vals1 r;cases l;obtain ⟨z,n,m,C⟩:=I.list x;have g:A3 z ns:=z3d n;obtain ⟨xs,e⟩:=g.allInts.items;have b:ns=xs.toList.map (·.1):=by rw [<-g.numsOf,<-nums_intItems,<-e]
 have i:0 < xs.size:=by have c:=List.length_pos_iff.mpr A;rw [b,G0,U0] at c;exact c
 have f:=m.isList;rw [e] at f;refine min_intList (I.ok.hd hc) f i λ v B D w k=>?_;obtain ⟨t,rfl⟩:=intItems_at w;obtain ⟨F,y⟩:=argBest_lt (numAt xs) (xs.size - 1);refine ⟨.int _,H,I.kept k,⟨_,rfl⟩,q _ ?_ λ a d=>?_⟩
 ·rw [b,numAt_eq];exact getD_mem (by rw [G0,U0];omega)
 ·rw [b] at d;obtain ⟨j,o,rfl⟩:=mem_getD d;rw [G0,U0] at o;rw [<-numAt_eq];exact y j (by omega)
end L2
set_option maxHeartbeats 4000000
namespace L2
open PySem PySem.Spec PyProof.Rows
noncomputable def Itms (a:Addr) (ob:Obj) (kvs:List (Key×V)):It:=
 ⟨λ i H=>H a=some (.frz ob (.dK kvs))/\i < kvs.length,λ i H x H'=>∃p k v,H p=none/\x=.ref p/\kvs[i]? = some (k,v)/\H'=upd H p (.tup [kV k,v]),λ i H=>H a=some (.frz ob (.dK kvs))/\kvs.length<=i⟩
theorem z9g {P:Program} {w:N0} {K:c0} {elts:List Expr} {x1:Nat} {pos:Pos} {a it:Addr} {ob:Obj} {kvs:List (Key×V)} {es:Array DictEntry} {ep:Nat} (hob:ob.data=.dict es ep):Turn P w K (.Tuple elts x1 pos) (Itms a ob kvs) [it] it (λ i h=>∃ok ov,IsItemIter h it a i kvs.length ep ok ov) where
 mem:=by simp
 obj:=λ i h d b f=>by
  obtain rfl:b=it:=by simpa using f
  obtain ⟨ok,ov,e⟩:=d;exact ⟨_,e,λ v z=>by cases (show D7 _=y8 v from z)⟩
 keep:=λ i h D d k=>by obtain ⟨ok,ov,e⟩:=d;exact ⟨ok,ov,k it (by simp) _ e⟩
 item:=by
  intro X y C m g i a1 s σ H E I l d n;subst y C m;obtain ⟨A,M⟩:=n;obtain ⟨T,L,j,p⟩:=frz_at I hob A;have G:kvs[i]? = some kvs[i]:=Y0 M;obtain ⟨⟨R,u⟩,Y,r,ru⟩:=z7k L G;obtain ⟨ok,ov,d⟩:=d;rw [<-j] at d;have Q:it < s.heap.objs.size:=D0 d;have O:s.heap.objs.size≠it:=Y1 Q;refine wpAny_pyNext_items_item d p Y λ N D a0 a2 tT hz kk=>?_;refine ⟨_,rfl,wpAny_letOwnedTupleGo_items a2 λ h2 F sb=>?_⟩;have Z:RelV (kV kvs[i].1) N:=by
   have r:kvs[i].1=R:=r;rw [r];rcases z0j a0 with ⟨i,t,B,q⟩|⟨x,t,B,q⟩
   ·rw [B,q];exact ⟨t,rfl⟩
   ·rw [B,q];exact ⟨t,rfl⟩
  have k2 :∀b o,b∉[it]->s.heap.get? b=some o->h2.get? b=some o:=λ b o f z=>by have f:b≠it:=λ z=>f (List.mem_singleton.mpr z);exact (sb.2 b f).trans (kk b o f z)
  have J:=(sb.2 _ O).trans tT;have fr:H s.heap.objs.size=none:=I.hok.fresh (A0 _);rw [j] at F;refine ⟨.ref s.heap.objs.size,upd H s.heap.objs.size (.tup [kV kvs[i].1,kvs[i].2]),I.turnedLaid (t':=s.toks) k2 l (A0 _) ⟨w_2,[N,u],.cons Z (.cons ru .nil),⟨_,J,rfl,_,rfl⟩,_,J,rfl⟩,rfl,⟨_,_,_,fr,rfl,G,rfl⟩,⟨_,_,F⟩,λ c g=>?_⟩;rw [upd_ne (λ (z:c=s.heap.objs.size)=>O (z ▸ List.mem_singleton.mp g))];exact (l c g).1
 done:=by intro X y C m g i a1 s σ H E I l d n;subst y C m;obtain ⟨A,M⟩:=n;obtain ⟨T,L,j,p⟩:=frz_at I hob A;obtain ⟨U,S,f2,f3,f4,f5⟩:=l it (by simp);obtain ⟨ok,ov,d⟩:=d;rw [<-j] at d;exact wpAny_pyNext_items_end (I.ok.hd g) d p (by rw [D4];omega) λ D eb=>⟨rfl,I.turned (t':=s.toks) (λ b o f e=>eb b o f e) U S f3 f4 f5⟩
 self:=λ _ _ _ _ _ d h=>by obtain ⟨ok,ov,d⟩:=d;exact PySem.W.kcp_self d h
noncomputable def iItems (td:TE):TI:=λ σ H R=>td σ H λ x H1=>∃a kvs,x=.ref a/\H1 a=some (.dK kvs)/\∀ob,R (Itms a ob kvs) (upd H1 a (.frz ob (.dK kvs)))
section
variable {X:Cx}
theorem zdw {elts:List Expr} {x1:Nat} {tpos:Pos} {o:Expr} {to:TE} {apos cpos:Pos} (ho:PE X o to) (hbase:W6 o "items" X.env (P3 o X.env)=P3 o X.env:=by rfl) (hline:(apos.endLine == cpos.line)=true:=by rfl):PI X (.Tuple elts x1 tpos) (.Call (.Attribute o "items" apos) [] [] cpos) (iItems to):=by
 intro p s σ H R I h;refine wpAny_Call_method0_late hbase hline (thn (ho p s σ H _ I h) λ v c ⟨x,H1,I1,r1,a,kvs,ex,ea,q⟩=>?_);subst ex;cases r1;obtain ⟨j,C,hd⟩:=isD_at I1 (.inl ⟨_,.inl ea⟩);obtain ⟨_,_,g,A,l⟩:=dk_of I1.hok ea;obtain ⟨t,k⟩:=l.dictAt;obtain ⟨n,m,ho,D,z,_⟩:=id k;refine ⟨"dict","dict.items",A6,X8,PySem.F.type_dict_items,j,C,n5 rfl (PySem.evalArgs_none ?_)⟩;refine S8 X8 j PySem.F.entry_dict_items (PySem.F.args_dict_items_1 _) (meets_dict_items (z0g X.prog X.w) a hd) ⟨⟨_,l⟩,?_⟩;have f :∀b o,c.heap.get? b=some o->(c.heap.push { cls:=.type "dict_items",data:=.fields #[.ref a] }).get? b=some o:=λ b o e=>x0 _ e;have d:Inv X p σ (upd H1 a (.frz n (.dK kvs))) { c with heap:=c.heap.push { cls:=.type "dict_items",data:=.fields #[.ref a] } }:=(I1.freeze ea ho).kept (t':=c.toks) f;have i:(c.heap.push { cls:=.type "dict_items",data:=.fields #[.ref a] }).DictAt (z0g X.prog X.w) a g t:=by obtain ⟨o,m,B,r⟩:=k;exact ⟨o,m,f _ _ B,r⟩
 refine wpAny_pyIter_items (s:={ c with heap:=c.heap.push { cls:=.type "dict_items",data:=.fields #[.ref a] } }) ⟨_,I0 _ rfl,rfl,rfl⟩ i ?_;have u:g.length=kvs.length:=A.length.symm;generalize hh2:c.heap.push { cls:=.type "dict_items",data:=.fields #[.ref a] }=h2 at d i;refine ⟨h2.objs.size,[h2.objs.size],_,_,_,rfl,d.kept (t':=c.toks) λ b o e=>x0 _ e,z9g z,⟨_,_,by rw [<-u];exact I0 _ rfl⟩,λ b y=>?_,q n⟩;obtain rfl:b=h2.objs.size:=by simpa using y
 exact d.fpOk (A0 _) (d.hok.fresh (A0 _))
end
theorem zc0 {a:Addr} {ob:Obj} {kvs:List (Key×V)} {g:TG} {tb:TS} {D:Ends} {σ:St} {H:Hp} (Pv:Nat->St->Hp->Prop) (h0:Pv 0 σ H) (fr :∀i σ H,Pv i σ H->H a=some (.frz ob (.dK kvs)))
  (hs :∀i k v σ H p,kvs[i]? = some (k,v)->Pv i σ H->H p=none->g (.ref p) σ (upd H p (.tup [kV k,v])) λ σ2 H2=>tb { D with nx:=Pv (i + 1),ct:=Pv (i + 1),bk:=D.nx } σ2 H2) (hd :∀σ H,Pv kvs.length σ H->D.nx σ H) :
  ∃W:Nat->Nat->St->Hp->Prop,(∃m,W 0 m σ H)/\∀i m σ H,W i m σ H->
   ((Itms a ob kvs).stop i H/\D.nx σ H)\/((Itms a ob kvs).go i H/\∃N:St->Hp->Prop,(∀σ' H',N σ' H'->∃m',m' < m/\W (i + 1) m' σ' H')/\∀x H',(Itms a ob kvs).yld i H x H'->g x σ H' λ σ2 H2=>tb { D with nx:=N,ct:=N,bk:=D.nx } σ2 H2):=by
 refine ⟨λ i m σ H=>m=kvs.length - i/\i<=kvs.length/\Pv i σ H,⟨kvs.length,by simp,D1 _,h0⟩,?_⟩;rintro i m σ H ⟨rfl,hi,p⟩;by_cases hlt:i < kvs.length
 ·refine .inr ⟨⟨fr _ _ _ p,hlt⟩,Pv (i + 1),λ σ' H' q=>⟨kvs.length - (i + 1),by omega,rfl,hlt,q⟩,λ x H' y=>?_⟩;obtain ⟨b,k,v,c,rfl,d,rfl⟩:=y;exact hs i k v σ H b d p c
 ·obtain rfl:i=kvs.length:=by omega
  exact .inl ⟨⟨fr _ _ _ p,A0 _⟩,hd σ H p⟩
end L2
set_option maxHeartbeats 1000000
namespace L2
open PySem PySem.Spec PyProof.Rows
theorem z83 {α β:Type} {g:α->β} {l m:List β} (h:l.Perm m) :∀zs:List α,m=zs.map g->∃zs':List α,zs'.Perm zs/\l=zs'.map g:=by
 induction h with
 | nil=>intro zs e;exact ⟨zs,.refl _,e⟩
 | cons x _ ih=>
  intro zs e;cases zs with
  | nil=>cases e
  | cons z zs=>injection e with e1 e2;obtain ⟨zs',b,a⟩:=ih zs e2;exact ⟨z :: zs',b.cons z,by rw [T0,<-e1,<-a]⟩
 | swap x y l=>
  intro zs e;cases zs with
  | nil=>cases e
  | cons z zs=>
   cases zs with
   | nil=>injection e with _ e;cases e
   | cons z' zs=>injection e with e1 e2;injection e2 with e2 e3;exact ⟨z' :: z :: zs,.swap _ _ _,by rw [T0,T0,<-e1,<-e2,<-e3]⟩
 | trans _ _ ih1 ih2=>intro zs e;obtain ⟨d,b,a⟩:=ih2 zs e;obtain ⟨f,i,c⟩:=ih1 d a;exact ⟨f,i.trans b,c⟩
def KeyOut (kz:List Int) (ys out:List V):Prop:=∃ps:List (Int×V),ps.Perm (kz.zip ys)/\out=ps.map Prod.snd/\ps.Pairwise λ p q=>p.1<=q.1
theorem zf7 {kz:List Int} {ys:List V} {vs out:List Value} (hv:Vals ys vs) (hl:kz.length=ys.length) (h:KskOut false kz vs out) :∃zs,Vals zs out/\KeyOut kz ys zs/\zs.length=ys.length:=by
 obtain ⟨n,a,rfl,b⟩:=h;have g:=hv.length;have e:kz.zip vs=(kz.zip (ys.zip vs)).map λ p=>(p.1,p.2.2):=by
  clear a b hl;induction hv generalizing kz with
  | nil=>rw [i6,List.zip_nil_left,i6];rfl
  | cons r t ih=>
   cases kz with
   | nil=>rfl
   | cons k kz=>have:=ih (kz:=kz) (by have:=g;simpa using this);show (k,_) :: kz.zip _=_ :: _;rw [this];rfl
 obtain ⟨zs,d,f⟩:=z83 a _ e;have i :∀p∈kz.zip (ys.zip vs),RelV p.2.1 p.2.2:=λ p a=>by
  have:=(U5 a).2;have j :∀{ys:List V} {vs:List Value},Vals ys vs->∀q∈ys.zip vs,RelV q.1 q.2:=by
   intro ys vs h;induction h with
   | nil=>exact λ q c=>absurd c B0
   | cons r t ih=>
    intro q c;rcases List.mem_cons.mp c with rfl|c
    ·exact r
    ·exact ih q c
  exact j hv _ this
 have m :∀zs:List (Int×V×Value),(∀p∈zs,RelV p.2.1 p.2.2)->Vals (zs.map λ p=>p.2.1) (zs.map λ p=>p.2.2):=by
  intro zs;induction zs with
  | nil=>exact λ _=>.nil
  | cons z zs ih=>exact λ h=>.cons (h z (.head _)) (ih λ p a=>h p (.tail _ a))
 have l:kz.zip ys=(kz.zip (ys.zip vs)).map λ p=>(p.1,p.2.1):=by
  clear a b hl d f i e;induction hv generalizing kz with
  | nil=>rw [i6,List.zip_nil_left,i6];rfl
  | cons r t ih=>
   cases kz with
   | nil=>rfl
   | cons k kz=>have:=ih (kz:=kz) (by have:=g;simpa using this);show (k,_) :: kz.zip _=_ :: _;rw [this];rfl
 refine ⟨zs.map λ p=>p.2.1,?_,⟨zs.map λ p=>(p.1,p.2.1),?_,?_,?_⟩,?_⟩
 ·rw [f,R3];exact m zs λ p a=>i p (d.mem_iff.mp a)
 ·rw [l];exact d.map _
 ·rw [R3];rfl
 ·rw [f] at b;rw [w5] at b⊢;exact b.imp λ h=>h
 ·rw [G0,d.length_eq,List.length_zip,List.length_zip,hl,<-g,T9,T9]
section
variable {X:Cx} {pins:List (Addr×Obj)} {σ:St} {H:Hp} {s:y0}
theorem Inv.track {a:Addr} {o:HO} (I:Inv X pins σ H s) (hf:FpOk X pins H a) (new:ObjOk X.prog X.w (upd H a o) s.heap a o):Inv X pins σ (upd H a o) s:=by
 have h:=hf.1;have f :∀b u,H b=some u->upd H a o b=some u:=λ b u e=>by rw [upd_ne (z0e e h)];exact e
 refine I.step (h':=s.heap) (t':=s.toks) (g':=s.gens) (d':=s.drawn) (ch:=[a]) (λ b d=>?_) (λ b o _ _ _ e _=>e) (λ b o _ _ _ e _=>⟨o.slots,e⟩) (λ b u d e n=>?_) (λ b o _ e=>⟨o,e⟩) (λ _ _ e=>f _ _ e) (λ _ _ _ e=>f _ _ e) (λ b j e=>⟨#[],by rw [f _ _ e];simp⟩) (λ m g=>g) (λ b u e=>?_) I.bare
 ·cases List.mem_singleton.mp d;exact ⟨hf.2.2.2.1,hf.2.1,hf.2.2.2.2.1,hf.2.2.2.2.2⟩
 ·rw [upd_ne λ z=>d (List.mem_singleton.mpr z)];exact n
 ·by_cases d:b=a
  ·subst d;rw [z01] at e;cases e;exact new
  ·rw [upd_ne d] at e;exact (I.hok b u e).stay (λ c v _ q=>q) (λ c q=>f _ _ q) λ c i q=>f _ _ q
theorem zfb {A:B2} {E:Value->y0->Prop} {P:A7->y0->Prop} {a kS:Addr} {vs:List Value} {kz:List Int} {keys:Array Value} {e e1:Nat}
  (I:Inv X pins σ H s) (fa:FpOk X pins H a) (fk:FpOk X pins H kS) (hka:kS≠a) (ek:s.heap.get? kS=some (Q2 "list" keys e)) (ea:s.heap.get? a=some (Q2 "list" #[] e1))
  (hk:A3 keys.toList kz) (hlen:kz.length=vs.length) (h64:vs.length < 64)
  (h :∀h' tk out c,Inv X pins σ H { s with heap:=h',toks:=tk }->h'.get? a=some (Q2 "list" out c)->KskOut false kz vs out.toList->P (.done (.ret .none)) { s with heap:=h',toks:=tk }) :
  P0 (V0 X.prog X.w) A (ksk_end a false vs.toArray e1 (.ref kS) keys) P E s:=by
 have l:keys.size=vs.length:=by have y:=hk.length;rw [U0] at y;omega
 have k:(keys.zip vs.toArray).size=vs.length:=by rw [Array.size_zip,l,L0,T9]
 have r :∀st:SortSt,(t8 st).Perm (keys.zip vs.toArray)->SortedTo (t8 st) (t8 st).size->failedOf st=none->P0 (V0 X.prog X.w) A (ksk_tail a false e1 (.ref kS) st) P E s:=by
  intro st g p B;have K:(t8 st).size=vs.length:=by rw [g.size_eq,k]
  have t:=X2 s.heap kS (G1 λ _=>(#[]:Array Value));have n:(s.heap.update kS (G1 λ _=>(#[]:Array Value))).get? a=some (Q2 "list" #[] e1):=(t.2 a hka.symm).trans ea;have C:=X2 (s.heap.update kS (G1 λ _=>(#[]:Array Value))) a (G1 λ _=>(t8 st).map (·.2));obtain ⟨m,v⟩ :∃m,((s.heap.update kS (G1 λ _=>(#[]:Array Value))).update a (G1 λ _=>(t8 st).map (·.2))).get? a=some (Q2 "list" ((t8 st).map (·.2)) m):=
   ⟨_,o6 n λ _=>(t8 st).map (·.2)⟩
  unfold ksk_tail
  try dsimp only
  refine v0 (X5 ek rfl ?_ (by rw [l,K5];omega) (D1 _));refine v0 (wpAny_letGo ?_);refine v0 (n9 n rfl ?_);refine v0 (X5 n rfl ?_ (D1 _) (J0 (d7 ((Array.size_map ..).trans K)) (by rw [K5];omega)));rw [B];simp only [bne_self_eq_false,k6,if_false];have J:=I.turnedL (fp:=[kS,a]) (h':=(s.heap.update kS (G1 λ _=>(#[]:Array Value))).update a (G1 λ _=>(t8 st).map (·.2))) (t':=s.toks) (λ b o f q=>(C.2 b λ z=>f (z ▸ .tail _ (.head _))).trans ((t.2 b λ z=>f (z ▸ .head _)).trans q)) (λ b f=>by
   rcases List.mem_cons.mp f with rfl|f
   ·exact fk
   ·rw [List.mem_singleton.mp f];exact fa)
  exact C0 (h _ _ _ m J v (ksk_out (b:=false) hk g p))
 unfold ksk_end
 try dsimp only
 rw [if_neg O0];by_cases h2:vs.toArray.size < 2
 ·rw [if_pos h2,if_pos h2];refine v0 (C0 ?_);rw [StateT.run_pure];refine v0 (C0 ?_)
  try dsimp only
  refine r (L8 general' (if false=true then (keys.zip vs.toArray).reverse else keys.zip vs.toArray) #[] 7 none) (U9 _) ?_ rfl;intro i j L D;have G:j < (keys.zip vs.toArray).size:=D;rw [k] at G;rw [L0] at h2;have:i=j:=by omega
  subst this;exact Int.le_refl _
 ·rw [if_neg h2,if_neg h2];rw [L0] at h2;rw [ksk_kind hk (by rw [l];omega)];refine v0 (C0 ?_);refine v0 (y3 (wpS_sortRuns (a₀:=keys.zip vs.toArray) (st:=L8 oneType' (if false=true then (keys.zip vs.toArray).reverse else keys.zip vs.toArray) #[] 7 none)
   (Q:=λ _ d=>(t8 d).Perm (keys.zip vs.toArray)/\failedOf d=none/\SortedTo (t8 d) (keys.zip vs.toArray).size)
   (ksk_intKeys hk) ⟨U9 _,rfl,rfl,rfl⟩ (by rw [k];omega) (by rw [k];exact h64) λ d u x F=>⟨u,x,F⟩) ?_ λ _ _ e=>e)
  rintro ⟨⟨⟩,d⟩ M ⟨rfl,g,hf,p⟩
  try dsimp only
  exact r d g (by rw [g.size_eq];exact p) hf
theorem zdy {A:B2} {E:Value->y0->Prop} {P:A7->y0->Prop} {a:Addr} {vs:List Value} {kz:List Int} {f:Value} {n:Nat}
  (I:Inv X pins σ H s) (fa:FpOk X pins H a) (ea:s.heap.get? a=some (Q2 "list" vs.toArray n)) (hlen:kz.length=vs.length) (h64:vs.length < 64)
  (turn :∀(i:Nat) (v:Value) (k:Int),vs[i]? = some v->kz[i]? = some k->∀(pins':List (Addr×Obj)) (s1:y0),Inv X (pins++pins') σ H s1->P0 (V0 X.prog X.w) A (call f [v]) (λ u s2=>∃t,u=.int k t/\Inv X (pins++pins') σ H s2) (λ _ _=>False) s1)
  (h :∀s' out c,Inv X pins σ H s'->s'.heap.get? a=some (Q2 "list" out c)->KskOut false kz vs out.toList->P (.done (.ret .none)) s') :
  P0 (V0 X.prog X.w) A (ksk_tree a f false) P E s:=by
 have U:a < s.heap.objs.size:=D0 ea;have s1:=X2 s.heap a (G1 λ _=>(#[]:Array Value));obtain ⟨l,F⟩ :∃l,(s.heap.update a (G1 λ _=>(#[]:Array Value))).get? a=some (Q2 "list" #[] l):=⟨_,o6 ea λ _=>#[]⟩
 have D:((s.heap.update a (G1 λ _=>(#[]:Array Value))).push (Q2 "tuple" vs.toArray 0)).objs.size=s.heap.objs.size + 1:=by rw [size_push',Heap.size_update]
 unfold ksk_tree;refine v0 (listItems_at ea rfl ?_);refine v0 (X5 ea rfl ?_ (by rw [L0,K5];omega) (D1 _));refine v0 (n9 F rfl ?_);refine v0 (wpAny_newTuple ?_ (by show vs.length<=_;rw [K5];omega));refine v0 (o8 ?_ (D1 _));refine D2 ?_;have y:(((s.heap.update a (G1 λ _=>(#[]:Array Value))).push (Q2 "tuple" vs.toArray 0)).push (Q2 "list" #[] 0)).get? ((s.heap.update a (G1 λ _=>(#[]:Array Value))).push (Q2 "tuple" vs.toArray 0)).objs.size=some (Q2 "list" #[] 0):=I0 _ rfl;have G:(((s.heap.update a (G1 λ _=>(#[]:Array Value))).push (Q2 "tuple" vs.toArray 0)).push (Q2 "list" #[] 0)).get? a=some (Q2 "list" #[] l):=x0 _ (x0 _ F);have J:Inv X pins σ H { s with heap:=((s.heap.update a (G1 λ _=>(#[]:Array Value))).push (Q2 "tuple" vs.toArray 0)).push (Q2 "list" #[] 0),toks:=s.toks }:=I.turnedL (fp:=[a]) (λ b o d q=>x0 _ (x0 _ ((s1.2 b λ z=>d (z ▸ .head _)).trans q))) (λ b d=>by rw [List.mem_singleton.mp d];exact fa);have m:FpOk X pins H ((s.heap.update a (G1 λ _=>(#[]:Array Value))).push (Q2 "tuple" vs.toArray 0)).objs.size:=I.fpOk (by rw [D];omega) (I.hok.fresh (by rw [D];omega));have p:((s.heap.update a (G1 λ _=>(#[]:Array Value))).push (Q2 "tuple" vs.toArray 0)).objs.size≠a:=by rw [D];exact Y1 (A1 U)
 generalize ((s.heap.update a (G1 λ _=>(#[]:Array Value))).push (Q2 "tuple" vs.toArray 0)).objs.size=kS at y m p⊢;generalize ((s.heap.update a (G1 λ _=>(#[]:Array Value))).push (Q2 "tuple" vs.toArray 0)).push (Q2 "list" #[] 0)=h3 at y G J⊢;unfold ksk_rest;refine v0 (B8 ?_);first
  | rw [List.forIn_toArray]
  | (rw [<-Array.forIn_toList];simp only [List.toList_toArray])
  | rw [<-Array.forIn_toList]
 refine v0 (ksk_fold (λ i s'=>∃kA e,Inv X pins σ H s'/\s'.heap.get? kS=some (Q2 "list" kA e)/\s'.heap.get? a=some (Q2 "list" #[] l)/\A3 kA.toList (kz.take i)) vs 0 _
  ⟨#[],0,J,y,G,by simpa using IntsAre.nil⟩ ?step ?done)
 case step=>
  rintro j x s' M ⟨kA,e,J',ek,ea',hk⟩;simp only [E5] at hk⊢;have hj:j < vs.length:=(List.getElem?_eq_some_iff.mp M).1;obtain ⟨k,L⟩ :∃k,kz[j]? = some k:=⟨_,Y0 (by omega)⟩
  have hz:kA.size<=vs.length:=by have V:=hk.length;rw [U0,K3] at V;omega
  have Z:=J'.pinned (fp:=[kS,a]) (λ b d=>by
   rcases List.mem_cons.mp d with rfl|d
   ·exact m
   ·rw [List.mem_singleton.mp d];exact fa) (λ b d=>by
   rcases List.mem_cons.mp d with rfl|d
   ·exact ⟨_,ek,λ v z=>by cases z⟩
   ·rw [List.mem_singleton.mp d];exact ⟨_,ea',λ v z=>by cases z⟩)
  refine v0 (wpAny_attempt (y3 (turn j x k M L _ s' Z) (λ v r Y=>?_) λ _ _ hF=>hF.elim));obtain ⟨g,rfl,C⟩:=Y
  try dsimp only
  have K:=C.pin (kS,Q2 "list" kA e) (M0 _ (M0 _ (z0w (.head _) ek)));have pa:=C.pin (a,Q2 "list" #[] l) (M0 _ (M0 _ (z0w (.tail _ (.head _)) ea')));have S:=C.unpinned;have s1:=X2 r.heap kS (G1 (·.push (.int k g)));obtain ⟨B,O⟩ :∃B,(r.heap.update kS (G1 (·.push (.int k g)))).get? kS=some (Q2 "list" (kA.push (.int k g)) B):=⟨_,o6 K.1 (·.push (.int k g))⟩
  have R:kz.take (j + 1)=kz.take j++[k]:=by rw [List.take_add_one,L];simp
  have a0:(kA.push (Y5 k g)).toList=kA.toList++[Y5 k g]:=by simp
  refine v0 (X5 K.1 rfl ?_ (by rw [K5];omega) (J0 (d7 (Array.size_push ..)) (by rw [K5];omega)));refine C0 ⟨rfl,kA.push (.int k g),B,S.turnedL (fp:=[kS]) (t':=r.toks) (λ b o d q=>(s1.2 b λ z=>d (z ▸ .head _)).trans q) (λ b d=>by rw [List.mem_singleton.mp d];exact m),O,(s1.2 a p.symm).trans pa.1,by rw [a0,R];exact ksk_snoc hk⟩
 case done=>
  rintro s' ⟨kA,e,J',ek,ea',hk⟩;have N:A3 kA.toList kz:=by have W:kz.take (0 + vs.length)=kz:=Q3 (by omega);rw [W] at hk;exact hk
  try dsimp only
  refine v0 (listItems_at ek rfl ?_);exact zfb J' fa m p ek ea' N hlen h64 λ h' tk out c K0 T Q=>h _ out c K0 T Q
theorem zas {l q:Addr} {ys:List V} {kz:List Int} {Q:Value->y0->Prop} {E:Value->y0->Prop} (I:Inv X pins σ H s) (sq:SqL X.K H l ys) (hlen:kz.length=ys.length) (h64:ys.length < 64)
  (turn :∀(i:Nat) (y:V) (u:Value) (k:Int),ys[i]? = some y->kz[i]? = some k->RelV y u->∀(pins':List (Addr×Obj)) (s1:y0),Inv X (pins++pins') σ H s1->P0 (V0 X.prog X.w) X.A.in1.in1 (call (.ref q) [u]) (λ v s2=>∃t,v=.int k t/\Inv X (pins++pins') σ H s2) (λ _ _=>False) s1)
  (h :∀(D:Addr) (out:List V) (s':y0),H D=none->KeyOut kz ys out->Inv X pins σ (upd H D (.lst out)) s'->Q (.ref D) s') :
  P0 (V0 X.prog X.w) X.A (call (.builtin "sorted") [.ref l] [(M3 "key",.ref q)]) Q E s:=by
 obtain ⟨d,g,L,p⟩:=I.list sq;have B:d.length=ys.length:=g.length.symm;refine call_function_entry_kw kind_sorted plain_sorted entry_sorted (ksk_s1 _ _) ?_;unfold T6.«sorted»;obtain ⟨o,S,M,n,hd⟩:=L.isList;refine v0 (m:=checkCount "sorted" 1 1 _) (C0 (v0 (wpAny_collect_seq l (.inl rfl) S M hd (λ a F=>?_) (by rw [L0,B];exact p))));have C:(a.push (Q2 "list" d.toArray 0)).get? a.objs.size=some (Q2 "list" d.toArray 0):=I0 _ rfl;have j:Inv X pins σ H { s with heap:=a }:=I.kept (t':=s.toks) F;have R:Inv X pins σ H { s with heap:=a.push (Q2 "list" d.toArray 0) }:=j.kept (t':=s.toks) λ b o e=>x0 _ e;have f:FpOk X pins H a.objs.size:=j.fpOk (A0 _) (j.hok.fresh (A0 _));refine v0 (o8 (v0 (D2 (wpAny_call_entry_kw slot_list_sort ⟨_,C,rfl⟩ entry_list_sort ?body (ksk_l1 _ _)))) (by show d.length<=_;rw [B];exact p))
 case body=>
  show P0 (V0 X.prog X.w) X.A.in1.in1 (T6.«list.sort» ⟨[.ref a.objs.size],[(M3 "key",.ref q)]⟩) _ _ _;rw [ksk_t1];refine zdy (kz:=kz) R f C (by omega) (by omega) (λ i v k z G pins' s1 J=>?_) λ s' out c J e T=>⟨_,rfl,?_⟩
  ·have x:i < ys.length:=by have:=(List.getElem?_eq_some_iff.mp z).1;omega
   obtain ⟨u,r,N⟩:=g.get (Y0 x);rw [z] at r;cases r;exact turn i _ v k (Y0 x) G N pins' s1 J
  obtain ⟨O,U,P,W⟩:=zf7 g hlen T;exact C0 ⟨_,rfl,h _ O s' f.1 P (J.track f ⟨by omega,out.toList,c,U,by simpa using e⟩)⟩
end
theorem zfg {P:Program} {w:N0} {K:c0} {mg:Str->Option Value} {base:Heap} {k:Nat} {f c':Addr} {name qual:Str} {params:Arguments} {body:Expr} {scope:Scope} {pm ctv:Value} {N ps:List Str} {A:B2} {outer:List Env} {s:y0} {H:Hp} {us:List Value} {vs:List V} {Q:VK} {t:TE}
  (hr:Room (k + 1) A) (e0:Env0 P w K mg base A outer s H) (ho:s.heap.get? f=some (Y4 name qual params body scope [] pm c' ctv)) (hcd:s.heap.CodeRec (.ref c') qual) (S:FnScope N ps scope)
  (hb:bindArgs (PySem.W.kla_fn name qual params body scope [] pm (.ref c') ctv) ⟨us,[]⟩=C3 (ps.zip us)) (hl:vs.length=ps.length) (r:Vals vs us)
  (ht:PE (cxOf CX0 P w K mg base N qual scope f (.ref c') A outer s H E0).nox body t) (hq:t (start N vs) H Q) :
  v5 (V0 P w) A (.call (.ref f) ⟨us,[]⟩) (λ r s'=>∃u,r=.ok (.ret u)/\CE outer P w H s Q u s') s:=by
 have d:s.heap.NoLimit:=e0.mod.nolimit.keeps λ b o e=>(e0.bs b o e).1;have j :∀y∈ps.zip us,scope.names.lookup y.1=some .local\/(scope.names.lookup y.1=some .cell/\((cellsFrom (s.heap.objs.size + 1) scope.names []).lookup y.1).isSome=true):=λ ⟨n,v⟩ hy=>by
  rcases S.par n (U5 hy).1 with q|q
  ·exact .inl q
  ·exact .inr ⟨q,F6 _ _ _ (.inl q)⟩
 refine PySem.W.kla_callFunE hr.depth ho rfl S.co S.gen rfl hcd ?_;rw [hb];refine C0 (K9 S.kind j λ l g c x=>?_);subst g;refine ⟨d.keeps x.toInCall.keep,PySem.W.kla_codeExpr ?_⟩;have I:Inv (cxOf CX0 P w K mg base N qual scope f (.ref c') A outer s H E0) [] (start N vs) H c:=z7s S hr.hd e0 hl r x;refine y3 (ht [] c (start N vs) H _ (I.wish _) hq) (λ u s' a=>?_) λ e s' a=>a.elim;obtain ⟨v,h,J,i,q⟩:=a;exact ⟨u,rfl,v,h,J.os,J.bare,J.base,J.hok,i,q⟩
def CodeK (K:c0) (c T:Addr):Prop:=
 ∃o vs file tf flags tg inF text tt,K.lookup c=some o/\o.cls=.type "code"/\o.data=.fields vs/\vs[11]? = some (.ref T)/\vs.getD 11 .none=.ref T/\vs.getD 18 .none=.str file tf/\
  vs.getD 7 .none=.int flags tg/\vs.getD 9 .none=.bool inF/\vs.getD 10 .none=.int text tt/\c≠T
theorem CodeK.hd {K:c0} {c T:Addr} {h:Heap} (x:CodeK K c T) (k:K.In h):Z6 h c T:=
 let ⟨o,vs,file,tf,flags,tg,inF,text,tt,e,r⟩:=x;⟨o,vs,file,tf,flags,tg,inF,text,tt,k _ _ e,r⟩
noncomputable def CodeO (c:Addr) (qual:Str):HO:=.ext λ h=>h.CodeRec (.ref c) qual
def LamT (T:Addr) (pos:Pos) (qual:Str) (H:Hp):Prop:=H T=some (.tbl #[])\/∃c',H T=some (.tbl #[R4 pos.line,R4 pos.col,.ref c'])/\H c'=some (CodeO c' qual)
def SameB (T:Addr) (H H':Hp):Prop:=∀b o,b≠T->H b=some o->H' b=some o
def BtMain (h:Heap) (mg:Str->Option Value):Prop:=∃bm o,mg "__builtins__" = some (.ref bm)/\bm≠D8/\bm≠Q1/\h.get? bm=some o/\o.cls=.type "module"/\o.dict=some D8/\o.data=.plain
section
variable {X:Cx} {pins:List (Addr×Obj)} {σ:St} {H:Hp} {s:y0} {T:Addr} {lpos:Pos} {params:Arguments} {body:Expr} {scope:Scope}
theorem ze4 {P:Program} {w:N0} {H:Hp} {h:Heap} {c:Addr} {qual:Str} (x:h.CodeRec (.ref c) qual):ObjOk P w H h c (CodeO c qual):=by
 refine ⟨x,?_,λ i g y k=>?_⟩
 ·obtain ⟨f,b,d,t,e,a,_⟩:=x;cases e;exact ⟨_,a⟩
 ·obtain ⟨f,b,d,t,e,a,r⟩:=y;cases e;exact ⟨c,b,d,t,rfl,k _ a,r⟩
theorem zeh {c:Addr} {Q:Value->y0->Prop} {E:Value->y0->Prop} (I:Inv X pins σ H s) (B:BtMain X.base X.mg) (hcode:X.env.code=.ref c) (C:Z6 X.base c T) (hT:LamT T lpos (X.env.qual++"<lambda>") H)
  (hcl:O9 scope X.env=C3 []) (hdef:defaultsOf params X.env=([],[]))
  (h :∀f c' ctv pm H' s',SameB T H H'->LamT T lpos (X.env.qual++"<lambda>") H'->Inv X pins σ H' s'->FpOk X pins H' f->s'.heap.get? f=some (Y4 "<lambda>" (X.env.qual++"<lambda>") params body scope [] pm c' ctv)->H' c'=some (CodeO c' (X.env.qual++"<lambda>"))->Q (.ref f) s') :
  P0 (V0 X.prog X.w) X.A (P3 (.Lambda params body scope lpos) X.env) Q E s:=by
 have K:s.heap.Ns Q1 X.mg:=by obtain ⟨o,O,x,e,r⟩:=I.ok.mod.glob;exact ⟨o,O,x,I.bk _ _ e,r⟩
 have F:Z6 s.heap c T:=C.keeps I.bk;have m :∀{a:Array Value},H T=some (.tbl a)->s.heap.get? T=some (X6 a):=λ e=>I.hok T _ e;have P :∀{b:Addr} {o:Obj} {a:Array Value},X.base.get? b=some o->H T=some (.tbl a)->b≠T:=λ {b o a} e z q=>by have:=(I.bs b o e).2;rw [q,z] at this;cases this
 have N :∀{a:Array Value},H T=some (.tbl a)->s.heap.BuiltinsAt X.mg T:=λ z=>by obtain ⟨bm,o,b1,b2,Z,L,b5⟩:=B;exact ⟨bm,o,b1,b2,Z,P L z,I.bk _ _ L,b5⟩
 have gT :∀{a:Array Value},H T=some (.tbl a)->Q1≠T:=λ z=>by obtain ⟨o,O,x,e,r⟩:=I.ok.mod.glob;exact P e z
 refine PySem.W.kla_eval hdef ?_;rcases hT with z|⟨c',z,zc⟩
 ·refine PySem.W.kla_makeFunction hcl I.ok.glob K hcode F (m z) trivial rfl (gT z) (N z) λ c' ctv h' l hx j y Y a0=>?_;have R:H c'=none:=I.hok.fresh j;have D:T < s.heap.objs.size:=D0 (m z);have cT:c'≠T:=λ q=>Z2 _ (S0 (q ▸ D) j);have k :∀b o,b≠T->s.heap.get? b=some o->(h'.push (Y4 "<lambda>" (X.env.qual++"<lambda>") params body scope [] ((X.mg "__name__").getD .none) c' ctv)).get? b=some o:=λ b o n e=>x0 _ (hx b o n e);have G:upd (upd H T (.tbl #[R4 lpos.line,R4 lpos.col,.ref c'])) c' (CodeO c' (X.env.qual++"<lambda>")) T=some (.tbl #[R4 lpos.line,R4 lpos.col,.ref c']):=by rw [upd_ne cT.symm];exact z01
  have g :∀b u,b≠T->H b=some u->upd (upd H T (.tbl #[R4 lpos.line,R4 lpos.col,.ref c'])) c' (CodeO c' (X.env.qual++"<lambda>")) b=some u:=λ b u n e=>by rw [upd_ne (z0e e R),upd_ne n];exact e
  have p :∀{b:Addr},H b=none->b≠T:=λ e q=>by rw [q,z] at e;cases e
  have i :∀{b:Addr} {u:HO},H b=some u->(∀a,u≠.tbl a)->b≠T:=λ e n q=>by rw [q,z] at e;exact n _ (W0 e).symm
  have M:(h'.push (Y4 "<lambda>" (X.env.qual++"<lambda>") params body scope [] ((X.mg "__name__").getD .none) c' ctv)).get? T=some { cls:=.none,data:=.fields #[R4 lpos.line,R4 lpos.col,.ref c'] }:=x0 _ a0;have d:s.heap.objs.size<=h'.objs.size:=J0 j (c7 y);have J:=I.un (h':=h'.push (Y4 "<lambda>" (X.env.qual++"<lambda>") params body scope [] ((X.mg "__name__").getD .none) c' ctv)) (t':=l) (H':=upd (upd H T (.tbl #[R4 lpos.line,R4 lpos.col,.ref c'])) c' (CodeO c' (X.env.qual++"<lambda>"))) ⟨λ b o e n _ _=>k b o (p n) e,λ b o e n _ _=>⟨o.slots,k b o (p n) e⟩,λ b o e n _=>by
    rw [upd_ne (show b≠c' from Q0 (S0 (D0 e) j)),upd_ne (p n)];exact n,λ b o e _=>by
    by_cases q:b=T
    ·exact ⟨_,q ▸ M⟩
    ·exact ⟨_,k b o q e⟩,λ b S e=>g _ _ (i e λ _ q=>by cases q) e,λ b o u e=>g _ _ (i e λ _ q=>by cases q) e,λ b a e=>by
    by_cases q:b=T
    ·subst q;rw [z] at e;cases e;exact ⟨#[R4 lpos.line,R4 lpos.col,.ref c'],by rw [G];simp⟩
    ·exact ⟨#[],by rw [g _ _ q e];simp⟩⟩ λ b u e=>by
    by_cases q1:b=c'
    ·subst q1;rw [z01] at e;cases e;refine ze4 ?_;obtain ⟨c2,oc,V,t,e2,ho,r⟩:=Y;exact ⟨c2,oc,V,t,e2,x0 _ ho,r⟩
    ·rw [upd_ne q1] at e;by_cases q2:b=T
     ·subst q2;rw [z01] at e;cases e;exact M
     ·rw [upd_ne q2] at e;exact (I.hok b u e).stay (λ c v hc q=>k c v (hc.elim (λ w=>w ▸ q2) λ w=>i w λ _ q=>by cases q) q) (λ c q=>g _ _ (i q λ _ q=>by cases q) q) λ c S q=>g _ _ (i q λ _ q=>by cases q) q
  refine h h'.objs.size c' ctv _ _ _ (λ b o n e=>g b o n e) (.inr ⟨c',G,z01⟩) J (I.fpOk d ?_) (I0 _ rfl) z01;rw [upd_ne (Y1 y),upd_ne (Y1 (S0 D d))];exact I.hok.fresh d
 ·refine PySem.W.kla_makeFunctionHit (cv:=.ref c') hcl I.ok.glob K hcode F (m z) trivial (by simp [codeAmong,R4]) (N z) λ ctv h' l U d=>?_;have J:=I.kept (h':=h'.push (Y4 "<lambda>" (X.env.qual++"<lambda>") params body scope [] ((X.mg "__name__").getD .none) c' ctv)) (t':=l) λ b o e=>x0 _ (U b o e);exact h h'.objs.size c' ctv _ _ _ (λ b o n e=>e) (.inr ⟨c',z,zc⟩) J (I.fpOk d (I.hok.fresh d)) (I0 _ rfl) zc
noncomputable def tSortL (K:c0) (T:Addr) (lpos:Pos) (qual:Str) (N:List Str) (tb:TE) (ta:TA):TE:=λ σ H Q=>ta σ H λ vs H1=>∃(l:Addr) (ys:List V) (kz:List Int),vs=[.ref l]/\SqL K H1 l ys/\kz.length=ys.length/\ys.length < 64/\LamT T lpos qual H1/\
 ∀H2,SameB T H1 H2->LamT T lpos qual H2->(∀(i:Nat) (y:V) (k:Int),ys[i]? = some y->kz[i]? = some k->tb (start N [y]) H2 λ v H3=>v=.int k/\H3=H2)/\∀D out,H2 D=none->KeyOut kz ys out->Q (.ref D) (upd H2 D (.lst out))
theorem SameB.seqL {K:c0} {H H':Hp} {a:Addr} {xs:List V} (s:SameB T H H') (hT :∃ps,H T=some (.tbl ps)) (h:SqL K H a xs):SqL K H' a xs:=by
 obtain ⟨ps,z⟩:=hT;rcases h with e|e
 ·refine .inl ?_;rcases e with e|⟨o,e⟩
  ·exact .inl (s _ _ (λ q=>by rw [q,z] at e;cases e) e)
  ·exact .inr ⟨o,s _ _ (λ q=>by rw [q,z] at e;cases e) e⟩
 ·exact .inr e
theorem LamT.tb {qual:Str} (h:LamT T lpos qual H) :∃ps,H T=some (.tbl ps):=by
 rcases h with z|⟨_,z,_⟩
 ·exact ⟨_,z⟩
 ·exact ⟨_,z⟩
theorem z9q {e:Expr} {ta:TA} {p pos kp:Pos} {c:Addr} {k:Nat} {N:List Str} {px:Str} {tb:TE} (B:BtMain X.base X.mg) (hcode:X.env.code=.ref c) (C:CodeK X.K c T) (hr:Room (k + 3) X.A) (hg:Gl X "sorted") (hm:X.mg "sorted" = none) (ha:PA X [e] ta)
  (S:FnScope N [px] scope)
  (hbind :∀(pm ctv:Value) (c':Addr) (u:Value),bindArgs (PySem.W.kla_fn "<lambda>" (X.env.qual++"<lambda>") params body scope [] pm (.ref c') ctv) ⟨[u],[]⟩=C3 [(px,u)])
  (hbody :∀(f c':Addr) (s:y0) (H:Hp),PE (cxOf CX0 X.prog X.w X.K X.mg X.base N (X.env.qual++"<lambda>") scope f (.ref c') X.A.in1.in1 X.stack s H E0).nox body tb)
  (hcl:O9 scope X.env=C3 []:=by rfl) (hdef:defaultsOf params X.env=([],[]):=by rfl)
  (he:j5 pos (F1 [e] X.env)=(false,P3 e X.env) :: j5 pos (F1 [] X.env):=by rfl) (hpl:(j5 pos (F1 [e] X.env)).any (·.1)=false:=by rfl) :
  PE X (.Call (.Name "sorted" p) [e] [⟨some "key",.Lambda params body scope lpos,kp⟩] pos) (tSortL X.K T lpos (X.env.qual++"<lambda>") N tb ta):=by
 intro a1 s σ H Q I h;refine O3 (ld_blt I hg hm boot_sorted (callWith_kw (thn (ha pos a1 s σ H _ I h) λ us s1 ⟨vs,H1,I1,r,q⟩=>?_) he hpl));obtain ⟨l,ys,kz,rfl,Y,U,a0,j,q⟩:=q;obtain ⟨u,rfl,G⟩:=vals1 r;cases G;refine kws_cons (zeh I1 B hcode (C.hd I1.ok.mod.kin) j hcl hdef λ f c' ctv pm m s2 sb E Z ff n ec=>kws_nil ?_);obtain ⟨P,qd⟩:=q m sb E;have L:=sb.seqL j.tb Y;have M:=Z.pinned (fp:=[f]) (λ b a=>by rw [List.mem_singleton.mp a];exact ff) (λ b a=>by rw [List.mem_singleton.mp a];exact ⟨_,n,λ v z=>by cases z⟩);refine zas M L U a0 (λ i y u k hy F R a3 g J=>?_) λ D a2 V hD ko J=>⟨.ref D,_,J.unpinned,rfl,qd D a2 hD ko⟩
 have o:=J.pin (f,_) (M0 _ (P4 _ (M0 _ (z0w (.head _) n))));have O:g.heap.CodeRec (.ref c') (X.env.qual++"<lambda>"):=(J.hok c' _ ec).1;refine M9 (a5 (zfg hr.in1.in1 J.env0.in1.in1 o.1 O S (by exact hbind pm ctv c' u) rfl (.cons R .nil) (hbody f c' g m) (P i y k hy F)) λ r V d=>?_);obtain ⟨u',rfl,d⟩:=d;obtain ⟨v,H',x,rv,rfl,rfl⟩:=J.after d;obtain ⟨t,rfl⟩:=rv;exact ⟨t,rfl,x⟩
end
theorem zd6 {P:Program} {w:N0} {K:c0} {mg mb:Str->Option Value} {CX:CXT} {k:Nat} {fa a:Addr} {fd:FuncData} {x:Str} {sp:Sp} {s₁:y0} {vs:List Value} {ns:List Int} {T c:Addr}
  (KX:K.In s₁.heap) (hns:s₁.heap.Ns Q1 mg) (hb:s₁.heap.Ns D8 mb) (hbb :∀x:Str,x≠"__name__"->mb x=i4 x) (hlim:s₁.heap.NoLimit) (hg:s₁.gens = #[])
  (ha:s₁.heap.get? a=some { cls:=.type "list",data:=.seq vs.toArray }) (hi:A3 vs ns) (hl:ns.length<=sizeLine) (hr:Room k R8) (hT:s₁.heap.get? T=some (X6 #[])) (hKT:K.lookup T=none) (C:Z6 s₁.heap c T) (hbm:BtMain s₁.heap mg)
  (F :∀base:Heap,K.In base->base.Ns Q1 mg->BtMain base mg->FnOk P w K mg base CX k fa fd [x] sp) (hbind :∀(s:y0) (u:Value),BindsTo s fd ⟨[u],[]⟩ [(x,u)])
  (hsp :∀H:Hp,H T=some (.tbl #[])->SqL K H a (ns.map V.int)->sp [.ref a] H (λ v _=>v=.bl true) λ _ _ _=>False)
  (hCX :∀H e s',CX [] H s₁ (λ _ _ _=>False) e s'->False) :
  v5 (V0 P w) R8 (.call (.ref fa) ⟨[.ref a],[]⟩) (λ r s'=>r=.ok (.ret (.bool true))/\OldK s₁.heap s'.heap/\s'.os=s₁.os/\U6 s'.gens) s₁:=by
 have G:=z7d hi;have S:=hi.length;have W:a≠T:=λ q=>by rw [q,hT] at ha;cases ha
 have I :∀H:Hp,H T=some (.tbl #[])->SqL K H a (ns.map V.int)->HOk P w H s₁.heap->(∀b u,H b=some u->(b=a/\K.lookup a=none/\∃o g,u=.frz o (.lst g))\/(b=T/\u=.tbl #[]))->
   v5 (V0 P w) R8 (.call (.ref fa) ⟨[.ref a],[]⟩) (λ r s'=>r=.ok (.ret (.bool true))/\OldK s₁.heap s'.heap/\s'.os=s₁.os/\U6 s'.gens) s₁:=by
  intro H hO Y J l;have y :∀{b:Addr} {o:Obj},s₁.heap.get? b=some o->H b=none->(hidT s₁.heap H).get? b=some o:=λ e n=>zem e n;have D :∀{b:Addr} {o:Obj},s₁.heap.get? b=some o->(∀g n,o.data≠.seq g n)->(∀vs,o.data≠.fields vs)->H b=none:=λ {b o} e d1 d2=>by
   cases q:H b with
   | none=>rfl
   | some u=>
    rcases l b u q with ⟨z,_⟩|⟨z,_⟩
    ·subst z;rw [ha] at e;cases e;exact absurd rfl (d1 _ _)
    ·subst z;rw [hT] at e;cases e;exact absurd rfl (d2 _)
  have i :∀{b:Addr} {m:Str->Option Value},s₁.heap.Ns b m->(hidT s₁.heap H).Ns b m:=λ {b m} ⟨o,es,ep,e,d,r⟩=>⟨o,es,ep,y e (D e (λ _ _ z=>by rw [d] at z;cases z) λ _ z=>by rw [d] at z;cases z),d,r⟩
  have B:K.In (hidT s₁.heap H):=λ b o e=>y (KX b o e) (by
   cases q:H b with
   | none=>rfl
   | some u=>
    rcases l b u q with ⟨z,O,_⟩|⟨z,_⟩
    ·rw [z,O] at e;cases e
    ·rw [z,hKT] at e;cases e)
  have Q:BtMain (hidT s₁.heap H) mg:=by obtain ⟨bm,o,Z,U,R,E,b5,b6,j⟩:=hbm;exact ⟨bm,o,Z,U,R,y E (D E (λ _ _ z=>by rw [j] at z;cases z) λ _ z=>by rw [j] at z;cases z),b5,b6,j⟩
  have hM:Mod K mg (hidT s₁.heap H):=⟨B,i hns,⟨mb,i hb,hbb⟩,let ⟨mc,h1,h2⟩:=hlim;⟨mc,i h1,h2⟩⟩
  have e0:Env0 P w K mg (hidT s₁.heap H) R8 [] s₁ H:=⟨rfl,hM,λ b o e=>zf3 e,d7 (zct _ _),trivial,λ b hb=>absurd (show b∈([]:List Addr) from hb) (by simp),J,.of_eq hg⟩
  refine a5 ((F _ B (i hns) Q).run R8 [] s₁ H ⟨[.ref a],[]⟩ [.ref a] [.ref a] _ _ hr e0 (hbind s₁ (.ref a)) (.cons rfl .nil) (hsp H hO Y)) λ r s' h=>?_;cases r with
  | error e=>exact (hCX H e s' h).elim
  | ok fl=>
   cases fl with
   | next=>exact N4 h
   | brk=>exact N4 h
   | cont=>exact N4 h
   | ret u=>
    obtain ⟨v,H',os,X,un,L,r',q⟩:=h;have N:v=.bl true:=q;subst N;obtain rfl:u=T8 true:=r';refine ⟨rfl,⟨λ b o e=>?_,λ b o e=>un.there b o e (by simp)⟩,os,X⟩;cases q:H b with
    | none=>exact .inl (un.keep b o e q (by intro z;exact absurd (show b∈([]:List Addr) from z) (by simp)) (by simp))
    | some u=>
     rcases l b u q with ⟨_,_,ob,g,rfl⟩|⟨rfl,rfl⟩
     ·have t:=un.frzs b ob _ q;obtain ⟨M,_⟩:=J b _ q;obtain ⟨p,_⟩:=L b _ t;rw [e] at M;cases M;exact .inl p
     ·obtain ⟨A,t⟩:=un.tbls b _ q;have p:s'.heap.get? b=some { cls:=.none,data:=.fields (#[]++A) }:=L b _ t;rw [hT] at e;cases e;exact .inr (.inl ⟨(C.tab hT).isCodeTable,rfl,#[],A,rfl,p⟩)
 cases hk:K.lookup a with
 | some o=>
  have e:=KX a o hk;rw [ha] at e;cases e;refine I (λ b=>if b=T then some (.tbl #[]) else none) (if_pos rfl) (.inr ⟨_,vs.toArray,_,hk,rfl,rfl,rfl,by rw [L0,S];exact hl,by simpa using G⟩) (λ b u z=>?_) (λ b u z=>?_)
  ·by_cases hb:b=T
   ·have f:=(if_pos hb).symm.trans z;cases f;subst hb;exact hT
   ·have f:=(if_neg hb).symm.trans z;cases f
  ·by_cases hb:b=T
   ·have f:=(if_pos hb).symm.trans z;cases f;exact .inr ⟨hb,rfl⟩
   ·have f:=(if_neg hb).symm.trans z;cases f
 | none=>
  refine I (λ b=>if b=T then some (.tbl #[]) else if b=a then some (.frz { cls:=.type "list",data:=.seq vs.toArray } (.lst (ns.map V.int))) else none) (if_pos rfl) (.inl (.inr ⟨{ cls:=.type "list",data:=.seq vs.toArray },(if_neg W).trans (if_pos rfl)⟩)) (λ b u z=>?_) (λ b u z=>?_)
  ·by_cases hb:b=T
   ·have f:=(if_pos hb).symm.trans z;cases f;subst hb;exact hT
   ·by_cases hc:b=a
    ·have f:=((if_neg hb).trans (if_pos hc)).symm.trans z;cases f;subst hc;exact ⟨ha,by rw [G0];exact hl,vs,_,G,ha⟩
    ·have f:=((if_neg hb).trans (if_neg hc)).symm.trans z;cases f
  ·by_cases hb:b=T
   ·have f:=(if_pos hb).symm.trans z;cases f;exact .inr ⟨hb,rfl⟩
   ·by_cases hc:b=a
    ·have f:=((if_neg hb).trans (if_pos hc)).symm.trans z;cases f;exact .inl ⟨hc,hk,_,_,rfl⟩
    ·have f:=((if_neg hb).trans (if_neg hc)).symm.trans z;cases f
theorem walk_ofT {l:PySem.W.OpenLaw} {n k:Nat} {q:Program} {loose:List Str} {XP:(Str->Option Value)->Heap->Prop} {YP:N0->Heap->Prop} {d:DefRec} {K:R0->c0} {CX:N0->CXT} {sp:N0->Sp} {x:Str} {T c:Addr}
  (hn:l.most=some n) (hn2:n<=sizeLine) (hdf:d.params.defaults=[]) (hr:Room k R8)
  (hY :∀(w:N0) (h:Heap),YP w h->(K w.params).In h/\h.get? T=some (X6 #[])) (hKT :∀P,(K P).lookup T=none) (hC :∀P,CodeK (K P) c T)
  (F :∀(w:N0) (mg:Str->Option Value) (fa:Addr) (h:Heap),(K w.params).In h->h.Ns Q1 mg->mg d.name=some (.ref fa)->
   ∃fd:FuncData,(∀(s:y0) (u:Value),BindsTo s fd ⟨[u],[]⟩ [(x,u)])/\
    ∀base:Heap,(K w.params).In base->base.Ns Q1 mg->BtMain base mg->FnOk l.prog w (K w.params) mg base (CX w) k fa fd [x] (sp w))
  (hsp :∀(w:N0) (H:Hp) (a:Addr) (ns:List Int),ns.length<=n->H T=some (.tbl #[])->SqL (K w.params) H a (ns.map V.int)->sp w [.ref a] H (λ v _=>v=.bl true) λ _ _ _=>False)
  (hCX :∀(w:N0) (H:Hp) (s:y0) (e:Value) (s':y0),CX w [] H s (λ _ _ _=>False) e s'->False) :
  PySem.W.WalkO q loose XP YP l.row.toRowW d [] (λ f vs=>PySem.call f vs):=by
 refine Att.attach_call hn hdf λ w U r mg mb fa o pm S a0 a vs ns G Y Z hd X C t B p y=>?_;obtain ⟨KX,I⟩:=hY w _ Y;obtain ⟨fd,D,O⟩:=F w mg fa _ KX G.T.g C;have j:BtMain r.heap mg:=by obtain ⟨j,M,L,A,i,J,N,m⟩:=G.T.bmain;refine ⟨j,M,L,A,λ z=>?_,i,J,N,m⟩;obtain ⟨o,es,R,e,hd,_⟩:=G.T.g;rw [z,e] at i;cases i;rw [hd] at m;cases m
 exact zd6 KX G.T.g G.T.b G.T.builtins G.T.nolimit y t B (J0 p hn2) hr I (hKT _) ((hC _).hd KX) j O D (λ H Q E=>hsp w H a ns p Q E) λ H e s'=>hCX w H r e s'
theorem Fun.okC {P:Program} {w:N0} {K:c0} {mg:Str->Option Value} {base:Heap} {x qual:Str} {st:Stmt} {f c:Addr} {fd:FuncData} {N ps:List Str} {k:Nat} {sp:Sp} (F:Fun K x qual st f fd) (hc:fd.code=.ref c) (S:FnScope N ps (z07 st)) (len :∀vs H Q E,sp vs H Q E->vs.length=ps.length)
  (hbody :∀(A:B2) (outer:List Env) (s:y0) (H:Hp) (vs:List V) (Q:VK) (E:XK),Room k (A.deeper (Y7 qual (z07 st) s.heap.objs.size f (.ref c)))->sp vs H Q E->
   ∃t,PSs (cxOf CX0 P w K mg base N qual (z07 st) f (.ref c) A outer s H E).nox (z2z st) t/\t { nx:=λ _ H'=>Q .non H',rt:=Q } (start N vs) H):FnOk P w K mg base CX0 (k + 1) f fd ps sp:=by
 obtain ⟨m,p,kV,i,o,n,d,j,l,rfl,b,g⟩:=F.ex;obtain rfl:d=.ref c:=hc;refine fn_of b g S len λ A outer s H vs Q E a e=>?_;obtain ⟨t,h,q⟩:=hbody A outer s H vs Q E a e;exact ⟨t,h.nox,q⟩
end L2
set_option maxHeartbeats 4000000
namespace L2
open PySem PySem.Spec PyProof.Rows
end L2
set_option maxHeartbeats 0
namespace K17
open PySem PySem.W PyProof.Rows TJ L2
noncomputable abbrev PX:Program:=PySem.Challenge.pw_talejudge_k17_whole_made_strictly
noncomputable abbrev annX:Option Value:=some (.ref 6)
noncomputable def tp (a b:Str) (t:Nat):Obj:={ cls:=.type "tuple",data:=.seq #[.str a t,.str b (t + 1)] 0 }
noncomputable def tups:List Obj:=[tp "register" "read" 394,tp "register" "write" 396,tp "counter" "read" 398,tp "counter" "add" 400,tp "queue" "put" 402,tp "queue" "take" 404,tp "set" "put" 406,tp "set" "cut" 408,tp "set" "has" 410,tp "cell" "read" 412,tp "cell" "write" 414,tp "cell" "swap" 416]
noncomputable def insAll:List Obj->Nat->BT->BT
 | [],_,t=>t
 | x :: r,n,t=>insAll r (n + 1) (t.ins n x)
noncomputable def treeD (P:R0) (oD:Obj):BT:=insAll tups 151 ((K17.pre.tree_167 P).ins 150 oD)
noncomputable def FX (w:N0) (os:T2) (oD:Obj) (tk:Nat):SharedT:=⟨treeD w.params oD,163,{},⟨[]⟩,{},tk,os⟩
noncomputable abbrev cdX:Code:=.body (behindTheImports PX) K17.pre.env_1
noncomputable abbrev qX:Pos:=⟨0,0,0,0⟩
noncomputable abbrev BX:List Frame:=[topFrame qX]
noncomputable abbrev GX {α:Type} (w:N0) (c:Nat) (x:Sem α) (s:y0) (pos:Pos) (a:α) (s':y0) (pos':Pos):Prop:=Goes PX w 11 annX cdX qX c x s pos a s' pos'
def LX (n:Nat) {α:Type} (x:Sem α) (w:N0) (pos:Pos) (s:T2->Obj->Nat->SharedT) (a:Nat->α) (s':T2->Obj->Nat->SharedT) (pos':Pos):Prop:=
 ∀(os:T2) (oD:Obj) (tk:Nat) (K:α->Sem A7) (H:Value->Sem A7) (gd:Bool->Bool) (lv:List Value->List Value),
  PySem.W.Fast.tw10295753902157049106 J6 PX w 11 annX 1 n (s os oD tk) ⟨x.wrap K H gd lv,cdX,pos,BX⟩=some (s' os oD tk,⟨K (a tk),cdX,pos',BX⟩)
theorem LX.goes {n:Nat} {α:Type} {x:Sem α} {w:N0} {pos pos':Pos} {s s':T2->Obj->Nat->SharedT} {a:Nat->α} (h:LX n x w pos s a s' pos') (os:T2) (oD:Obj) (tk:Nat):GX w n x (s os oD tk).abs pos (a tk) (s' os oD tk).abs pos':=by refine Goes.leaf n λ K H gd b=>?_;have e:=h os oD tk K H gd b;rw [<-PySem.W.Fast.te10295753902157049106,<-L4] at e;exact e
noncomputable abbrev stay (w:N0):T2->Obj->Nat->SharedT:=FX w
noncomputable abbrev plus3 (w:N0):T2->Obj->Nat->SharedT:=λ os oD tk=>FX w os oD (tk + 3)
theorem qtH (a:Addr) (h :∀(w:N0) (pos:Pos),LX 3 (PySem.W.Fast.tw13066428366354244818 8 (.ref a)) w pos (stay w) (λ _=>true) (stay w) pos:=by intro w pos os oD tk K H gd lv;kernel_rfl) (w:N0) (pos:Pos):LX 3 (L5 8 (.ref a)) w pos (stay w) (λ _=>true) (stay w) pos:=by rw [PySem.W.Fast.te13066428366354244818];exact h w pos
noncomputable def qt0:=qtH 151
noncomputable def qt1:=qtH 152
noncomputable def qt2:=qtH 153
noncomputable def qt3:=qtH 154
noncomputable def qt4:=qtH 155
noncomputable def qt5:=qtH 156
noncomputable def qt6:=qtH 157
noncomputable def qt7:=qtH 158
noncomputable def qt8:=qtH 159
noncomputable def qt9:=qtH 160
noncomputable def qt10:=qtH 161
noncomputable def qt11:=qtH 162
theorem eqH (n:Nat) (a b:Addr) (hf :∀(w:N0) (pos:Pos),LX n (J4 (.ref a) (.ref b)) (w.withFollow "special-get-raises" false) pos (stay (w.withFollow "special-get-raises" false)) (λ _=>false) (stay (w.withFollow "special-get-raises" false)) pos:=by intro w pos os oD tk K H gd lv;kernel_rfl) (ht :∀(w:N0) (pos:Pos),LX n (J4 (.ref a) (.ref b)) (w.withFollow "special-get-raises" true) pos (stay (w.withFollow "special-get-raises" true)) (λ _=>false) (stay (w.withFollow "special-get-raises" true)) pos:=by intro w pos os oD tk K H gd lv;kernel_rfl) (w:N0) (pos:Pos):LX n (eqBool (.ref a) (.ref b)) w pos (stay w) (λ _=>false) (stay w) pos:=by rw [PySem.W.Fast.te13926502685295537346];exact byRow2 "special-get-raises" (P:=λ w=>LX n (J4 (.ref a) (.ref b)) w pos (stay w) (λ _=>false) (stay w) pos) (λ w=>hf w pos) (λ w=>ht w pos) w
noncomputable def eq0_1:=eqH 20 151 152
noncomputable def eq0_2:=eqH 16 151 153
noncomputable def eq0_3:=eqH 16 151 154
noncomputable def eq0_4:=eqH 16 151 155
noncomputable def eq0_5:=eqH 16 151 156
noncomputable def eq0_6:=eqH 16 151 157
noncomputable def eq0_7:=eqH 16 151 158
noncomputable def eq0_8:=eqH 16 151 159
noncomputable def eq0_9:=eqH 16 151 160
noncomputable def eq0_10:=eqH 16 151 161
noncomputable def eq0_11:=eqH 16 151 162
noncomputable def eq1_2:=eqH 16 152 153
noncomputable def eq1_3:=eqH 16 152 154
noncomputable def eq1_4:=eqH 16 152 155
noncomputable def eq1_5:=eqH 16 152 156
noncomputable def eq1_6:=eqH 16 152 157
noncomputable def eq1_7:=eqH 16 152 158
noncomputable def eq1_8:=eqH 16 152 159
noncomputable def eq1_9:=eqH 16 152 160
noncomputable def eq1_10:=eqH 16 152 161
noncomputable def eq1_11:=eqH 16 152 162
noncomputable def eq2_3:=eqH 20 153 154
noncomputable def eq2_4:=eqH 16 153 155
noncomputable def eq2_5:=eqH 16 153 156
noncomputable def eq2_6:=eqH 16 153 157
noncomputable def eq2_7:=eqH 16 153 158
noncomputable def eq2_8:=eqH 16 153 159
noncomputable def eq2_9:=eqH 16 153 160
noncomputable def eq2_10:=eqH 16 153 161
noncomputable def eq2_11:=eqH 16 153 162
noncomputable def eq3_4:=eqH 16 154 155
noncomputable def eq3_5:=eqH 16 154 156
noncomputable def eq3_6:=eqH 16 154 157
noncomputable def eq3_7:=eqH 16 154 158
noncomputable def eq3_8:=eqH 16 154 159
noncomputable def eq3_9:=eqH 16 154 160
noncomputable def eq3_10:=eqH 16 154 161
noncomputable def eq3_11:=eqH 16 154 162
noncomputable def eq4_5:=eqH 20 155 156
noncomputable def eq4_6:=eqH 16 155 157
noncomputable def eq4_7:=eqH 16 155 158
noncomputable def eq4_8:=eqH 16 155 159
noncomputable def eq4_9:=eqH 16 155 160
noncomputable def eq4_10:=eqH 16 155 161
noncomputable def eq4_11:=eqH 16 155 162
noncomputable def eq5_6:=eqH 16 156 157
noncomputable def eq5_7:=eqH 16 156 158
noncomputable def eq5_8:=eqH 16 156 159
noncomputable def eq5_9:=eqH 16 156 160
noncomputable def eq5_10:=eqH 16 156 161
noncomputable def eq5_11:=eqH 16 156 162
noncomputable def eq6_7:=eqH 20 157 158
noncomputable def eq6_8:=eqH 20 157 159
noncomputable def eq6_9:=eqH 16 157 160
noncomputable def eq6_10:=eqH 16 157 161
noncomputable def eq6_11:=eqH 16 157 162
noncomputable def eq7_8:=eqH 20 158 159
noncomputable def eq7_9:=eqH 16 158 160
noncomputable def eq7_10:=eqH 16 158 161
noncomputable def eq7_11:=eqH 16 158 162
noncomputable def eq8_9:=eqH 16 159 160
noncomputable def eq8_10:=eqH 16 159 161
noncomputable def eq8_11:=eqH 16 159 162
noncomputable def eq9_10:=eqH 20 160 161
noncomputable def eq9_11:=eqH 20 160 162
noncomputable def zfq:=eqH 20 161 162
theorem crH (a:Addr) (hf :∀(w:N0) (pos:Pos),LX 1 (K4 "hash" [.ref a]) (w.withFollow "special-get-raises" false) pos (stay (w.withFollow "special-get-raises" false)) (λ _=>()) (stay (w.withFollow "special-get-raises" false)) pos:=by intro w pos os oD tk K H gd lv;kernel_rfl) (ht :∀(w:N0) (pos:Pos),LX 1 (K4 "hash" [.ref a]) (w.withFollow "special-get-raises" true) pos (stay (w.withFollow "special-get-raises" true)) (λ _=>()) (stay (w.withFollow "special-get-raises" true)) pos:=by intro w pos os oD tk K H gd lv;kernel_rfl) (w:N0) (pos:Pos):LX 1 (cRoomFor "hash" [.ref a]) w pos (stay w) (λ _=>()) (stay w) pos:=by rw [PySem.W.Fast.te13383273872528276517];exact byRow2 "special-get-raises" (P:=λ w=>LX 1 (K4 "hash" [.ref a]) w pos (stay w) (λ _=>()) (stay w) pos) (λ w=>hf w pos) (λ w=>ht w pos) w
theorem soH (a:Addr) (hf :∀(w:N0) (pos:Pos),LX 1 (O4 (.ref a) "__hash__") (w.withFollow "special-get-raises" false) pos (stay (w.withFollow "special-get-raises" false)) (λ _=>some (.builtin "tuple.__hash__")) (stay (w.withFollow "special-get-raises" false)) pos:=by intro w pos os oD tk K H gd lv;kernel_rfl) (ht :∀(w:N0) (pos:Pos),LX 1 (O4 (.ref a) "__hash__") (w.withFollow "special-get-raises" true) pos (stay (w.withFollow "special-get-raises" true)) (λ _=>some (.builtin "tuple.__hash__")) (stay (w.withFollow "special-get-raises" true)) pos:=by intro w pos os oD tk K H gd lv;kernel_rfl) (w:N0) (pos:Pos):LX 1 (specialOf (.ref a) "__hash__") w pos (stay w) (λ _=>some (.builtin "tuple.__hash__")) (stay w) pos:=by rw [PySem.W.Fast.te4214721358667687652];exact byRow2 "special-get-raises" (P:=λ w=>LX 1 (O4 (.ref a) "__hash__") w pos (stay w) (λ _=>some (.builtin "tuple.__hash__")) (stay w) pos) (λ w=>hf w pos) (λ w=>ht w pos) w
theorem csH (a:Addr) (k l:Str) (hf :∀(w:N0) (pos:Pos),LX 22 (G4 (.ref a) "__hash__" (unh a)) (w.withFollow "special-get-raises" false) pos (stay (w.withFollow "special-get-raises" false)) (λ tk=>some (.int (d0 [b0 (w.withFollow "special-get-raises" false).params k,b0 (w.withFollow "special-get-raises" false).params l]) (tk + 2))) (plus3 (w.withFollow "special-get-raises" false)) pos:=by intro w pos os oD tk K H gd lv;kernel_rfl) (ht :∀(w:N0) (pos:Pos),LX 22 (G4 (.ref a) "__hash__" (unh a)) (w.withFollow "special-get-raises" true) pos (stay (w.withFollow "special-get-raises" true)) (λ tk=>some (.int (d0 [b0 (w.withFollow "special-get-raises" true).params k,b0 (w.withFollow "special-get-raises" true).params l]) (tk + 2))) (plus3 (w.withFollow "special-get-raises" true)) pos:=by intro w pos os oD tk K H gd lv;kernel_rfl) (w:N0) (pos:Pos):LX 22 (d6 (.ref a) "__hash__" (unh a)) w pos (stay w) (λ tk=>some (.int (d0 [b0 w.params k,b0 w.params l]) (tk + 2))) (plus3 w) pos:=by rw [PySem.W.Fast.te16697807410369149715];exact byRow2 "special-get-raises" (P:=λ w=>LX 22 (G4 (.ref a) "__hash__" (unh a)) w pos (stay w) (λ tk=>some (.int (d0 [b0 w.params k,b0 w.params l]) (tk + 2))) (plus3 w) pos) (λ w=>hf w pos) (λ w=>ht w pos) w
noncomputable def cr0:=crH 151
noncomputable def so0:=soH 151
noncomputable def cs0:=csH 151 "register" "read"
noncomputable def cr1:=crH 152
noncomputable def so1:=soH 152
noncomputable def cs1:=csH 152 "register" "write"
noncomputable def cr2:=crH 153
noncomputable def so2:=soH 153
noncomputable def cs2:=csH 153 "counter" "read"
noncomputable def cr3:=crH 154
noncomputable def so3:=soH 154
noncomputable def cs3:=csH 154 "counter" "add"
noncomputable def cr4:=crH 155
noncomputable def so4:=soH 155
noncomputable def cs4:=csH 155 "queue" "put"
noncomputable def cr5:=crH 156
noncomputable def so5:=soH 156
noncomputable def cs5:=csH 156 "queue" "take"
noncomputable def cr6:=crH 157
noncomputable def so6:=soH 157
noncomputable def cs6:=csH 157 "set" "put"
noncomputable def cr7:=crH 158
noncomputable def so7:=soH 158
noncomputable def cs7:=csH 158 "set" "cut"
noncomputable def cr8:=crH 159
noncomputable def so8:=soH 159
noncomputable def cs8:=csH 159 "set" "has"
noncomputable def cr9:=crH 160
noncomputable def so9:=soH 160
noncomputable def cs9:=csH 160 "cell" "read"
noncomputable def cr10:=crH 161
noncomputable def so10:=soH 161
noncomputable def cs10:=csH 161 "cell" "write"
noncomputable def cr11:=crH 162
noncomputable def so11:=soH 162
noncomputable def cs11:=csH 162 "cell" "swap"
noncomputable def allX (P:R0):List KV3:=[(151,(.ref 95),(X0 (d0 [b0 P "register",b0 P "read"]))),(152,(.ref 102),(X0 (d0 [b0 P "register",b0 P "write"]))),(153,(.ref 95),(X0 (d0 [b0 P "counter",b0 P "read"]))),(154,(.ref 109),(X0 (d0 [b0 P "counter",b0 P "add"]))),(155,(.ref 116),(X0 (d0 [b0 P "queue",b0 P "put"]))),(156,(.ref 123),(X0 (d0 [b0 P "queue",b0 P "take"]))),(157,(.ref 130),(X0 (d0 [b0 P "set",b0 P "put"]))),(158,(.ref 135),(X0 (d0 [b0 P "set",b0 P "cut"]))),(159,(.ref 142),(X0 (d0 [b0 P "set",b0 P "has"]))),(160,(.ref 95),(X0 (d0 [b0 P "cell",b0 P "read"]))),(161,(.ref 102),(X0 (d0 [b0 P "cell",b0 P "write"]))),(162,(.ref 149),(X0 (d0 [b0 P "cell",b0 P "swap"])))]
theorem zfp (w:N0) (os:T2) (pos:Pos):(allX w.params).Pairwise λ x y=>∀oD tk,GX w 20 (eqBool (.ref x.1) (.ref y.1)) (FX w os oD tk).abs pos false (FX w os oD tk).abs pos:=by
 unfold allX;refine
 .cons (λ y a oD tk=>(by
  revert y;simp only [O1,B0,false_implies,implies_true,and_true];exact ⟨(eq0_1 w pos).goes os oD tk |>.le (by decide),(eq0_2 w pos).goes os oD tk |>.le (by decide),(eq0_3 w pos).goes os oD tk |>.le (by decide),(eq0_4 w pos).goes os oD tk |>.le (by decide),(eq0_5 w pos).goes os oD tk |>.le (by decide),(eq0_6 w pos).goes os oD tk |>.le (by decide),(eq0_7 w pos).goes os oD tk |>.le (by decide),(eq0_8 w pos).goes os oD tk |>.le (by decide),(eq0_9 w pos).goes os oD tk |>.le (by decide),(eq0_10 w pos).goes os oD tk |>.le (by decide),(eq0_11 w pos).goes os oD tk |>.le (by decide)⟩))
  (.cons (λ y a oD tk=>(by
  revert y;simp only [O1,B0,false_implies,implies_true,and_true];exact ⟨(eq1_2 w pos).goes os oD tk |>.le (by decide),(eq1_3 w pos).goes os oD tk |>.le (by decide),(eq1_4 w pos).goes os oD tk |>.le (by decide),(eq1_5 w pos).goes os oD tk |>.le (by decide),(eq1_6 w pos).goes os oD tk |>.le (by decide),(eq1_7 w pos).goes os oD tk |>.le (by decide),(eq1_8 w pos).goes os oD tk |>.le (by decide),(eq1_9 w pos).goes os oD tk |>.le (by decide),(eq1_10 w pos).goes os oD tk |>.le (by decide),(eq1_11 w pos).goes os oD tk |>.le (by decide)⟩))
  (.cons (λ y a oD tk=>(by
  revert y;simp only [O1,B0,false_implies,implies_true,and_true];exact ⟨(eq2_3 w pos).goes os oD tk |>.le (by decide),(eq2_4 w pos).goes os oD tk |>.le (by decide),(eq2_5 w pos).goes os oD tk |>.le (by decide),(eq2_6 w pos).goes os oD tk |>.le (by decide),(eq2_7 w pos).goes os oD tk |>.le (by decide),(eq2_8 w pos).goes os oD tk |>.le (by decide),(eq2_9 w pos).goes os oD tk |>.le (by decide),(eq2_10 w pos).goes os oD tk |>.le (by decide),(eq2_11 w pos).goes os oD tk |>.le (by decide)⟩))
  (.cons (λ y a oD tk=>(by
  revert y;simp only [O1,B0,false_implies,implies_true,and_true];exact ⟨(eq3_4 w pos).goes os oD tk |>.le (by decide),(eq3_5 w pos).goes os oD tk |>.le (by decide),(eq3_6 w pos).goes os oD tk |>.le (by decide),(eq3_7 w pos).goes os oD tk |>.le (by decide),(eq3_8 w pos).goes os oD tk |>.le (by decide),(eq3_9 w pos).goes os oD tk |>.le (by decide),(eq3_10 w pos).goes os oD tk |>.le (by decide),(eq3_11 w pos).goes os oD tk |>.le (by decide)⟩))
  (.cons (λ y a oD tk=>(by
  revert y;simp only [O1,B0,false_implies,implies_true,and_true];exact ⟨(eq4_5 w pos).goes os oD tk |>.le (by decide),(eq4_6 w pos).goes os oD tk |>.le (by decide),(eq4_7 w pos).goes os oD tk |>.le (by decide),(eq4_8 w pos).goes os oD tk |>.le (by decide),(eq4_9 w pos).goes os oD tk |>.le (by decide),(eq4_10 w pos).goes os oD tk |>.le (by decide),(eq4_11 w pos).goes os oD tk |>.le (by decide)⟩))
  (.cons (λ y a oD tk=>(by
  revert y;simp only [O1,B0,false_implies,implies_true,and_true];exact ⟨(eq5_6 w pos).goes os oD tk |>.le (by decide),(eq5_7 w pos).goes os oD tk |>.le (by decide),(eq5_8 w pos).goes os oD tk |>.le (by decide),(eq5_9 w pos).goes os oD tk |>.le (by decide),(eq5_10 w pos).goes os oD tk |>.le (by decide),(eq5_11 w pos).goes os oD tk |>.le (by decide)⟩))
  (.cons (λ y a oD tk=>(by
  revert y;simp only [O1,B0,false_implies,implies_true,and_true];exact ⟨(eq6_7 w pos).goes os oD tk |>.le (by decide),(eq6_8 w pos).goes os oD tk |>.le (by decide),(eq6_9 w pos).goes os oD tk |>.le (by decide),(eq6_10 w pos).goes os oD tk |>.le (by decide),(eq6_11 w pos).goes os oD tk |>.le (by decide)⟩))
  (.cons (λ y a oD tk=>(by
  revert y;simp only [O1,B0,false_implies,implies_true,and_true];exact ⟨(eq7_8 w pos).goes os oD tk |>.le (by decide),(eq7_9 w pos).goes os oD tk |>.le (by decide),(eq7_10 w pos).goes os oD tk |>.le (by decide),(eq7_11 w pos).goes os oD tk |>.le (by decide)⟩))
  (.cons (λ y a oD tk=>(by
  revert y;simp only [O1,B0,false_implies,implies_true,and_true];exact ⟨(eq8_9 w pos).goes os oD tk |>.le (by decide),(eq8_10 w pos).goes os oD tk |>.le (by decide),(eq8_11 w pos).goes os oD tk |>.le (by decide)⟩))
  (.cons (λ y a oD tk=>(by
  revert y;simp only [O1,B0,false_implies,implies_true,and_true];exact ⟨(eq9_10 w pos).goes os oD tk |>.le (by decide),(eq9_11 w pos).goes os oD tk |>.le (by decide)⟩))
  (.cons (λ y a oD tk=>(by
  revert y;simp only [O1,B0,false_implies,implies_true,and_true];exact (zfq w pos).goes os oD tk |>.le (by decide)))
  (.cons (λ y a=>nomatch a)
  (f7))))))))))))
theorem allX_q (w:N0) (os:T2) (pos:Pos) :∀x∈allX w.params,∀oD tk,GX w 3 (L5 8 (.ref x.1)) (FX w os oD tk).abs pos true (FX w os oD tk).abs pos:=by unfold allX;simp only [O1,B0,false_implies,implies_true,and_true];exact ⟨λ oD tk=>(qt0 w pos).goes os oD tk,λ oD tk=>(qt1 w pos).goes os oD tk,λ oD tk=>(qt2 w pos).goes os oD tk,λ oD tk=>(qt3 w pos).goes os oD tk,λ oD tk=>(qt4 w pos).goes os oD tk,λ oD tk=>(qt5 w pos).goes os oD tk,λ oD tk=>(qt6 w pos).goes os oD tk,λ oD tk=>(qt7 w pos).goes os oD tk,λ oD tk=>(qt8 w pos).goes os oD tk,λ oD tk=>(qt9 w pos).goes os oD tk,λ oD tk=>(qt10 w pos).goes os oD tk,λ oD tk=>(qt11 w pos).goes os oD tk⟩
theorem allX_h (w:N0) (os:T2) (pos:Pos) :∀x∈allX w.params,∀oD tk,GX w 25 (pyHash (.ref x.1)) (FX w os oD tk).abs pos x.2.2 (FX w os oD (tk + 3)).abs pos:=by unfold allX;simp only [O1,B0,false_implies,implies_true,and_true];exact ⟨λ oD tk=>Goes.pyHashT ((cr0 w pos).goes os oD tk) ((so0 w pos).goes os oD tk) ((cs0 w pos).goes os oD tk),λ oD tk=>Goes.pyHashT ((cr1 w pos).goes os oD tk) ((so1 w pos).goes os oD tk) ((cs1 w pos).goes os oD tk),λ oD tk=>Goes.pyHashT ((cr2 w pos).goes os oD tk) ((so2 w pos).goes os oD tk) ((cs2 w pos).goes os oD tk),λ oD tk=>Goes.pyHashT ((cr3 w pos).goes os oD tk) ((so3 w pos).goes os oD tk) ((cs3 w pos).goes os oD tk),λ oD tk=>Goes.pyHashT ((cr4 w pos).goes os oD tk) ((so4 w pos).goes os oD tk) ((cs4 w pos).goes os oD tk),λ oD tk=>Goes.pyHashT ((cr5 w pos).goes os oD tk) ((so5 w pos).goes os oD tk) ((cs5 w pos).goes os oD tk),λ oD tk=>Goes.pyHashT ((cr6 w pos).goes os oD tk) ((so6 w pos).goes os oD tk) ((cs6 w pos).goes os oD tk),λ oD tk=>Goes.pyHashT ((cr7 w pos).goes os oD tk) ((so7 w pos).goes os oD tk) ((cs7 w pos).goes os oD tk),λ oD tk=>Goes.pyHashT ((cr8 w pos).goes os oD tk) ((so8 w pos).goes os oD tk) ((cs8 w pos).goes os oD tk),λ oD tk=>Goes.pyHashT ((cr9 w pos).goes os oD tk) ((so9 w pos).goes os oD tk) ((cs9 w pos).goes os oD tk),λ oD tk=>Goes.pyHashT ((cr10 w pos).goes os oD tk) ((so10 w pos).goes os oD tk) ((cs10 w pos).goes os oD tk),λ oD tk=>Goes.pyHashT ((cr11 w pos).goes os oD tk) ((so11 w pos).goes os oD tk) ((cs11 w pos).goes os oD tk)⟩
theorem famX (w:N0) (os:T2):Fam 11 150 (FX w os):=by
 have g :∀c,(treeD w.params c).get 150=some c:=λ c=>by kernel_rfl
 refine ⟨by decide,λ a b d=>abs_get (show 150 < 163 by decide) (g _),λ a b d e=>?_⟩;have u:(absHeap (treeD w.params (dObj a b)) 163 {}).update 150 (i7 (·.push e))=absHeap (treeD w.params (dObj (a.push e) (b + 1))) 163 {}:=by
  rw [<-absHeap_set (g _)];have v:(treeD w.params (dObj a b)).set 150 (i7 (·.push e))=treeD w.params (dObj (a.push e) (b + 1)):=by kernel_rfl
  rw [v]
 exact congrArg (λ h=>(⟨h,⟨[]⟩,{},d,os⟩:y0)) u
noncomputable def stD:Stmt:=(behindTheImports PX).getD 25 (.Pass ⟨0,0,0,0⟩)
noncomputable def sufX:List Stmt:=(behindTheImports PX).drop 26
theorem bodyX:behindTheImports PX=K17.pre.sts_7++(K17.pre.sts_59++(K17.pre.sts_78++(K17.pre.sts_102++([stD]++sufX)))):=by kernel_rfl
noncomputable def dKeys:Stmt->List (Option Expr)
 | .Assign _ (.Dict ks _ _) _=>ks
 | _=>[]
noncomputable def dVals:Stmt->List Expr
 | .Assign _ (.Dict _ vs _) _=>vs
 | _=>[]
noncomputable def dPos:Stmt->Pos
 | .Assign _ (.Dict _ _ p) _=>p
 | _=>⟨0,0,0,0⟩
noncomputable def sPos:Stmt->Pos
 | .Assign _ _ p=>p
 | _=>⟨0,0,0,0⟩
noncomputable abbrev p1X:Pos:=sPos stD
noncomputable abbrev p2X:Pos:=dPos stD
noncomputable abbrev p3X:Pos:=⟨53,0,53,5⟩
noncomputable def runX:List (Sem Value×Sem Value):=(((evalEachOpt (dKeys stD) K17.pre.env_1).zip ((evalEach (dVals stD) K17.pre.env_1).map λ v=>do let x <-v;standAt p2X;C3 x))).filterMap λ x=>x.1.map (·,x.2)
theorem stD_eq:stD=.Assign [.Name "DOERS" p3X] (.Dict (dKeys stD) (dVals stD) p2X) p1X:=by kernel_rfl
theorem evD:P3 (.Dict (dKeys stD) (dVals stD) p2X) K17.pre.env_1=(do standAt p2X;let r <-(do let x <-subDict runX;C3 (some x));match r with|some x=>C3 (E1 x)|none=>newDict):=by kernel_rfl
theorem swD:c8 (.Dict (dKeys stD) (dVals stD) p2X) (some (.Name "DOERS" p3X)) p1X.line K17.pre.env_1=C3 false:=by kernel_rfl
noncomputable def F0X (w:N0) (os:T2):SharedT:=⟨K17.pre.tree_167 w.params,150,{},⟨[]⟩,{},394,os⟩
noncomputable def F1X (w:N0) (os:T2):SharedT:=⟨(K17.pre.tree_167 w.params).ins 150 (dObj #[] 0),151,{},⟨[]⟩,{},394,os⟩
noncomputable def vsX:List (Value×Value):=[(.ref 151,(.ref 95)),(.ref 152,(.ref 102)),(.ref 153,(.ref 95)),(.ref 154,(.ref 109)),(.ref 155,(.ref 116)),(.ref 156,(.ref 123)),(.ref 157,(.ref 130)),(.ref 158,(.ref 135)),(.ref 159,(.ref 142)),(.ref 160,(.ref 95)),(.ref 161,(.ref 102)),(.ref 162,(.ref 149))]
theorem zbc (w:N0):LX 84 (evalPairs runX) w p2X (λ os _ _=>F1X w os) (λ _=>vsX) (λ os _ _=>FX w os (dObj #[] 0) 418) p2X:=by rw [PySem.W.Fast.te1788576489739465902];exact λ os b a K H gd c=>by kernel_rfl
noncomputable def F2X (w:N0) (os:T2) (oD:Obj) (tk:Nat):SharedT:=⟨(treeD w.params oD).set 3 (Obj.putName "DOERS" (b0 w.params "DOERS") (.str "DOERS" tk) (.ref 150)),163,{},⟨[]⟩,{},tk + 1,os⟩
theorem zc1 (w:N0) (pos:Pos):LX 6 (bindName K17.pre.env_1 "DOERS" (.ref 150)) w pos (stay w) (λ _=>()) (λ os oD tk=>F2X w os oD tk) pos:=by
 rw [PySem.W.Fast.te7536695828754713326];exact byRow2 "special-get-raises" (P:=λ w=>LX 6 (PySem.W.Fast.tw7536695828754713326 K17.pre.env_1 "DOERS" (.ref 150)) w pos (stay w) (λ _=>()) (λ os oD tk=>F2X w os oD tk) pos)
  (λ w os oD tk K H gd a=>by kernel_rfl) (λ w os oD tk K H gd a=>by kernel_rfl) w
noncomputable abbrev oDX (P:R0):Obj:=dObj ((allX P).map ent).toArray 12
noncomputable abbrev S2X (w:N0) (os:T2):SharedT:=F2X w os (oDX w.params) 454
theorem stD_go (w:N0) (os:T2) (pos:Pos):GX w 100000 (exec stD K17.pre.env_1) (F0X w os).abs pos .next (S2X w os).abs p3X:=by
 rw [stD_eq,exec_Assign_Name _ _ _ _ _ swD];have l:=Goes.loop (p:=PX) (w:=w) (ann:=annX) (code:=cdX) (q:=qX) (pos:=p2X) (famX w os) (N:=12) (allX w.params) (show 12<=12 by decide) (by decide) (show ([151,152,153,154,155,156,157,158,159,160,161,162]:List Nat).Nodup by decide) (allX_q w os p2X) (zfp w os p2X) (allX_h w os p2X) (allX w.params) [] 418 rfl;have b:=(zbc w).goes os (dObj #[] 0) 0;have d:GX w _ (subDict runX) (F0X w os).abs p2X 150 (FX w os (oDX w.params) 454).abs p2X:=
  Goes.subDict (by decide +kernel) (absHeap_size _ _ _) (show GX w _ (evalPairs runX) _ p2X vsX _ p2X from by
   have e:({ (F0X w os).abs with heap:=(F0X w os).abs.heap.push { cls:=.type "dict",data:=.dict #[] } }:y0)=(F1X w os).abs:=by have i:=absHeap_ins (t:=K17.pre.tree_167 w.params) (n:=150) (life:={}) (o:=dObj #[] 0) (by kernel_rfl);exact congrArg (λ h=>(⟨h,⟨[]⟩,{},394,os⟩:y0)) i.symm
   rw [e];exact b) l
 refine (Goes.bind Goes.at' (Goes.bind (a:=E1 150) (pos':=p2X) ?_ (Goes.bind Goes.at' (Goes.bind (f:=λ _=>C3 Flow.next) ((zc1 w p3X).goes os (oDX w.params) 454) Goes.pure)))).le (c:=1 + (((1 + ((1 + (84 + 12 * (25 + (2 + 3 + 12 * (3 + 20 + 10)) + 4))) + 0 + 0)) + (1 + (6 + 0))))) (by decide);rw [evD];exact Goes.bind Goes.at' (Goes.bind (Goes.bind d Goes.pure) Goes.pure)
noncomputable abbrev pLX:Pos:=⟨244,0,258,15⟩
noncomputable def R3X (w:N0) (os:T2):Option (Flow×SharedT×Code×Pos):=PySem.W.Fast.tw10110043849684766642 J6 PX w 11 annX 1 1069 (S2X w os) ⟨(PySem.W.Fast.tw12563942051412417395 sufX K17.pre.env_1).wrap doneF deadEnd id id,cdX,p3X,BX⟩
noncomputable def S3X (w:N0) (os:T2):SharedT:=match R3X w os with|some r=>r.2.1|none=>S2X w os
theorem R3X_eq (w:N0) (os:T2):R3X w os=some (.next,S3X w os,cdX,pLX):=by kernel_rfl
theorem zf5 (w:N0) (os:T2):segRun m3 PX w 11 annX 1 1069 (S2X w os).abs (piecesOf sufX K17.pre.env_1 cdX p3X BX)=some (.next,(S3X w os).abs,cdX,pLX):=by have e:=R3X_eq w os;unfold R3X at e;rw [<-PySem.W.Fast.te10110043849684766642,<-L4,<-PySem.W.Fast.te12563942051412417395] at e;exact segRun_of e
noncomputable def S0X (w:N0) (os:T2):SharedT:=⟨K17.pre.tree_6 w.params,15,{},⟨[]⟩,{},187,os⟩
theorem pre_go (w:N0) (os:T2):topGo m3 PX w 11 annX 12 ⟨boot_heap w.params,Array.mk [],boot_drawn,boot_toks,os⟩ (topStub PX)=some ((S0X w os).abs,⟨denote m3 cdX,cdX,qX,BX⟩):=by rw [PySem.W.Fast.te15667345088766844465,L4,PySem.W.Fast.te11892475500146522536];kernel_rfl
theorem zdr (w:N0) (os:T2) :∃M,M<=200000/\topRun m3 PX w 11 annX M ⟨boot_heap w.params,Array.mk [],boot_drawn,boot_toks,os⟩ (topStub PX)=some (S3X w os).abs:=by have f:topRun m3 PX w 11 annX 2 (S3X w os).abs (restOf [] K17.pre.env_1 cdX pLX BX)=some (S3X w os).abs:=rfl;have b:=piece_app (zf5 w os) f;rw [i3] at b;obtain ⟨M,h,e⟩:=zbf (Goes.execs1 (stD_go w os ⟨49,0,52,21⟩)) b;have a:=K17.pre.chain PX (behindTheImports PX) w os _ M _ e;rw [<-bodyX] at a;have d:segRun m3 PX w 11 annX 1 1 (S0X w os).abs (blockOf (behindTheImports PX) K17.pre.env_1 cdX qX BX)=some (.next,(S0X w os).abs,cdX,qX):=rfl;have g:=piece_block d a;have c:=go_top (pre_go w os) g;refine ⟨_,?_,c⟩;simp only [Nat.add_eq];omega
noncomputable def looseX:List Str:=[("GREATEST_WORTH" : Str),("LONGEST_NAME" : Str),("SMALL_LETTERS" : Str),("is_whole" : Str),("is_within" : Str),("is_worth" : Str),("is_name" : Str),("is_tuple_of" : Str),("TaleError" : Str),("NoTale" : Str),("NotPlain" : Str),("FIRST_STATES" : Str),("WORTHS_OF_VERBS" : Str),("read_state" : Str),("write_state" : Str),("add_to_number" : Str),("put_behind" : Str),("take_first" : Str),("put_into_set" : Str),("cut_from_set" : Str),("has_in_set" : Str),("swap_state" : Str),("DOERS" : Str),("is_kind" : Str),("is_deed" : Str),("MOST_THINGS" : Str),("MOST_BEGINS" : Str),("LAST_HAND" : Str),("GREATEST_ANSWER" : Str),("ANSWER_WORDS" : Str),("make_tale" : Str),("make_things" : Str),("is_thing" : Str),("make_events" : Str),("is_begin" : Str),("is_end" : Str),("is_event" : Str),("is_hand" : Str),("is_answer" : Str),("go_by_turns" : Str),("deeds" : Str),("FIRST_WRITE" : Str),("plain_deeds" : Str),("are_plain" : Str),("is_answered" : Str),("writers" : Str),("ended_reads" : Str),("zones" : Str),("zone_of" : Str),("collision" : Str),("first_pair" : Str),("of_kind" : Str),("collide" : Str),("_law_cell_at" : Str),("_law_row" : Str),("_law_take" : Str),("_law_answer" : Str),("_law_made" : Str),("_law_elder" : Str),("_law_turned" : Str)]
noncomputable def viewX:Program:={ PX with main:={ PX.main with body:=(PX.main.body[66]?).toList } }
noncomputable def top (i:Nat):Stmt:=PX.main.body.getD i (.Pass ⟨0,0,0,0⟩)
noncomputable def asX:List Addr:=[3,11,13,15,17,18,20,21,22,24,25,27,28,29,31,32,34,35,36,39,40,41,43,44,46,47,48,50,51,53,55,56,57,61,63,64,66,68,69,70,73,75,76,78,80,81,82,85,86,87,88,89,91,92,94,95,96,98,99,101,102,103,105,106,108,109,110,112,113,115,116,117,119,120,122,123,124,126,127,129,130,131,134,135,136,138,139,141,142,143,145,146,148,149,150,151,152,153,154,155,156,157,158,159,160,161,162,163,165,166,168,169,170,173,174,175,176,178,179,181,182,183,186,187,188,190,191,193,194,195,198,199,200,202,203,205,206,207,209,210,212,213,214,216,217,219,220,221,223,224,226,227,228,230,231,233,234,235,237,238,240,241,242,244,245,247,248,249,250,253,254,255,258,259,260,262,263,265,266,267,269,270,272,273,274,277,278,279,282,283,284,287,288,289,291,292,294,295,296,298,299,301,302,303,306,307,308,310,311,313,314,315,317,318,320,321,322,324,325,327,328,329,331,332,334,335,336,339,340,341,343,344,346,347,348,350,351,353,354,355,357,358,360,361,362,364,365,367,368]
noncomputable def KX (P:R0):Frag:=[
 (3,⟨(.type "dict"),none,(.dict #[⟨(b0 P "__name__"),(.str "__name__" 165),(.str "law_talejudge_k17_whole_made_strictly" 658)⟩,⟨(b0 P "__doc__"),(.str "__doc__" 166),.none⟩,⟨(b0 P "__package__"),(.str "__package__" 167),.none⟩,⟨(b0 P "__loader__"),(.str "__loader__" 168),(.builtin "__main__.__loader__#opaque")⟩,⟨(b0 P "__spec__"),(.str "__spec__" 169),.none⟩,kR P "__annotations__" 170 6,kR P "__builtins__" 171 4,⟨(b0 P "__file__"),(.str "__file__" 173),(.str "/claim/cut.py" 172)⟩,⟨(b0 P "__cached__"),(.str "__cached__" 174),.none⟩,⟨(b0 P "GREATEST_WORTH"),(.str "GREATEST_WORTH" 190),(.int (1000000000) 189)⟩,⟨(b0 P "LONGEST_NAME"),(.str "LONGEST_NAME" 192),(.int (8) 191)⟩,⟨(b0 P "SMALL_LETTERS"),(.str "SMALL_LETTERS" 194),(.str "abcdefghijklmnopqrstuvwxyz" 193)⟩,kR P "is_whole" 201 21,kR P "is_within" 209 28,kR P "is_worth" 216 35,kR P "is_name" 222 40,kR P "is_tuple_of" 230 47,kR P "TaleError" 250 57,kR P "NoTale" 266 70,kR P "NotPlain" 282 82,kR P "FIRST_STATES" 298 85,kR P "WORTHS_OF_VERBS" 323 88,kR P "read_state" 331 95,kR P "write_state" 339 102,kR P "add_to_number" 347 109,kR P "put_behind" 355 116,kR P "take_first" 363 123,kR P "put_into_set" 371 130,kR P "cut_from_set" 377 135,kR P "has_in_set" 385 142,kR P "swap_state" 393 149,kR P "DOERS" 454 150,kR P "is_kind" 461 169,kR P "is_deed" 467 174,⟨(b0 P "MOST_THINGS"),(.str "MOST_THINGS" 471),(.int (6) 470)⟩,⟨(b0 P "MOST_BEGINS"),(.str "MOST_BEGINS" 473),(.int (24) 472)⟩,⟨(b0 P "LAST_HAND"),(.str "LAST_HAND" 475),(.int (5) 474)⟩,⟨(b0 P "GREATEST_ANSWER"),(.str "GREATEST_ANSWER" 477),(.int (1000000000000) 476)⟩,kR P "ANSWER_WORDS" 480 175,kR P "make_tale" 489 182,kR P "make_things" 495 187,kR P "is_thing" 502 194,kR P "make_events" 508 199,kR P "is_begin" 516 206,kR P "is_end" 523 213,kR P "is_event" 532 220,kR P "is_hand" 539 227,kR P "is_answer" 546 234,kR P "go_by_turns" 556 241,kR P "deeds" 569 248,kR P "FIRST_WRITE" 576 249,kR P "plain_deeds" 582 254,kR P "are_plain" 588 259,kR P "is_answered" 595 266,kR P "writers" 604 273,kR P "ended_reads" 610 278,kR P "zones" 616 283,kR P "zone_of" 622 288,kR P "collision" 633 295,kR P "first_pair" 643 302,kR P "of_kind" 649 307,kR P "collide" 657 314,kR P "_law_cell_at" 667 321,kR P "_law_row" 674 328,kR P "_law_take" 683 335,kR P "_law_answer" 689 340,kR P "_law_made" 709 347,kR P "_law_elder" 720 354,kR P "_law_turned" 730 361,kR P "law" 744 368] 70),#[]⟩),
 (11,⟨(.type "tuple"),none,(.seq #[] 0),#[]⟩),
 (13,⟨(.type "code"),none,(.fields #[(.str "<module>" 182),(.str "<module>" 183),(.str "/claim/cut.py" 184),(.int (1) 0),(.int (0) 0),(.int (0) 0),(.int (0) 0),(.int (0) 0),(.ref 11),(.bool false),(.int (181) 0),(.ref 12),.none,.none,.none,.none,(.int (185) 0),(.int (1) 0),(.str "/claim/cut.py" 186)]),#[]⟩),
 (15,⟨(.type "tuple"),none,(.seq #[] 0),#[]⟩),
 (17,⟨(.type "tuple"),none,(.seq #[(.str "value" 198)] 0),#[]⟩),
 (18,⟨(.type "tuple"),none,(.seq #[] 0),#[]⟩),
 (20,cO "is_whole" "is_whole" 195 5 1 15 199),
 (21,fO "is_whole" "is_whole" (top 4) "talejudge.basics" 187 20),
 (22,⟨(.type "tuple"),none,(.seq #[] 0),#[]⟩),
 (24,⟨(.type "tuple"),none,(.seq #[(.str "value" 205),(.str "greatest" 206)] 0),#[]⟩),
 (25,⟨(.type "tuple"),none,(.seq #[] 0),#[]⟩),
 (27,cO "is_within" "is_within" 202 7 2 22 207),
 (28,fO "is_within" "is_within" (top 5) "talejudge.basics" 187 27),
 (29,⟨(.type "tuple"),none,(.seq #[] 0),#[]⟩),
 (31,⟨(.type "tuple"),none,(.seq #[(.str "value" 213)] 0),#[]⟩),
 (32,⟨(.type "tuple"),none,(.seq #[] 0),#[]⟩),
 (34,cO "is_worth" "is_worth" 210 9 1 29 214),
 (35,fO "is_worth" "is_worth" (top 6) "talejudge.basics" 187 34),
 (36,⟨(.type "tuple"),none,(.seq #[] 0),#[]⟩),
 (39,cP "is_name" "is_name" 217 11 1 36 220),
 (40,fO "is_name" "is_name" (top 7) "talejudge.basics" 187 39),
 (41,⟨(.type "tuple"),none,(.seq #[] 0),#[]⟩),
 (43,⟨(.type "tuple"),none,(.seq #[(.str "value" 226),(.str "many" 227)] 0),#[]⟩),
 (44,⟨(.type "tuple"),none,(.seq #[] 0),#[]⟩),
 (46,cO "is_tuple_of" "is_tuple_of" 223 15 2 41 228),
 (47,fO "is_tuple_of" "is_tuple_of" (top 8) "talejudge.basics" 187 46),
 (48,⟨(.type "tuple"),none,(.seq #[(.type "ValueError")] 0),#[]⟩),
 (50,⟨(.type "dict"),none,(.dict #[⟨(b0 P "__module__"),(.str "__module__" 240),(.str "talejudge.errors" 231)⟩,⟨(b0 P "__qualname__"),(.str "__qualname__" 242),(.str "TaleError" 241)⟩,⟨(b0 P "__firstlineno__"),(.str "__firstlineno__" 244),(.int (18) 243)⟩,kR P "__static_attributes__" 245 55] 4),#[]⟩),
 (51,⟨(.type "tuple"),none,(.seq #[] 0),#[]⟩),
 (53,⟨(.type "code"),none,(.fields #[(.str "TaleError" 235),(.str "TaleError" 236),(.str "/claim/cut.py" 237),(.int (18) 0),(.int (0) 0),(.int (0) 0),(.int (0) 0),(.int (0) 0),(.ref 51),(.bool false),(.int (181) 0),(.ref 52),.none,.none,.none,.none,(.int (238) 0),(.int (18) 0),(.str "/claim/cut.py" 239)]),#[]⟩),
 (55,⟨(.type "tuple"),none,(.seq #[] 0),#[]⟩),
 (56,⟨(.type "dict"),none,(.dict #[⟨(b0 P "__module__"),(.str "__module__" 240),(.str "talejudge.errors" 231)⟩,⟨(b0 P "__firstlineno__"),(.str "__firstlineno__" 244),(.int (18) 243)⟩,kR P "__static_attributes__" 245 55,kR P "__weakref__" 247 58,⟨(b0 P "__doc__"),(.str "__doc__" 248),.none⟩] 3),#[]⟩),
 (57,⟨(.type "type"),none,(.cls ⟨"TaleError",[(.type "ValueError")],[(.ref 57),(.type "ValueError"),(.type "Exception"),(.type "BaseException"),(.type "object")],56,"TaleError",true,[],[(.ref 70),(.ref 82)],false,none,false⟩),#[some (.ref 48),none,some (.str "TaleError" 233),some (.str "TaleError" 241),some (.builtin "ValueError.__new__"),some (.bool true)]⟩),
 (61,⟨(.type "tuple"),none,(.seq #[(.ref 57)] 0),#[]⟩),
 (63,⟨(.type "dict"),none,(.dict #[⟨(b0 P "__module__"),(.str "__module__" 258),(.str "talejudge.errors" 231)⟩,⟨(b0 P "__qualname__"),(.str "__qualname__" 260),(.str "NoTale" 259)⟩,⟨(b0 P "__firstlineno__"),(.str "__firstlineno__" 262),(.int (20) 261)⟩,kR P "__static_attributes__" 263 68] 4),#[]⟩),
 (64,⟨(.type "tuple"),none,(.seq #[] 0),#[]⟩),
 (66,⟨(.type "code"),none,(.fields #[(.str "NoTale" 253),(.str "NoTale" 254),(.str "/claim/cut.py" 255),(.int (20) 0),(.int (0) 0),(.int (0) 0),(.int (0) 0),(.int (0) 0),(.ref 64),(.bool false),(.int (181) 0),(.ref 65),.none,.none,.none,.none,(.int (256) 0),(.int (20) 0),(.str "/claim/cut.py" 257)]),#[]⟩),
 (68,⟨(.type "tuple"),none,(.seq #[] 0),#[]⟩),
 (69,⟨(.type "dict"),none,(.dict #[⟨(b0 P "__module__"),(.str "__module__" 258),(.str "talejudge.errors" 231)⟩,⟨(b0 P "__firstlineno__"),(.str "__firstlineno__" 262),(.int (20) 261)⟩,kR P "__static_attributes__" 263 68,⟨(b0 P "__doc__"),(.str "__doc__" 264),.none⟩] 2),#[]⟩),
 (70,⟨(.type "type"),none,(.cls ⟨"NoTale",[(.ref 57)],[(.ref 70),(.ref 57),(.type "ValueError"),(.type "Exception"),(.type "BaseException"),(.type "object")],69,"NoTale",true,[],[],false,none,false⟩),#[some (.ref 61),none,some (.str "NoTale" 251),some (.str "NoTale" 259),some (.builtin "ValueError.__new__"),some (.bool true)]⟩),
 (73,⟨(.type "tuple"),none,(.seq #[(.ref 57)] 0),#[]⟩),
 (75,⟨(.type "dict"),none,(.dict #[⟨(b0 P "__module__"),(.str "__module__" 274),(.str "talejudge.errors" 231)⟩,⟨(b0 P "__qualname__"),(.str "__qualname__" 276),(.str "NotPlain" 275)⟩,⟨(b0 P "__firstlineno__"),(.str "__firstlineno__" 278),(.int (22) 277)⟩,kR P "__static_attributes__" 279 80] 4),#[]⟩),
 (76,⟨(.type "tuple"),none,(.seq #[] 0),#[]⟩),
 (78,⟨(.type "code"),none,(.fields #[(.str "NotPlain" 269),(.str "NotPlain" 270),(.str "/claim/cut.py" 271),(.int (22) 0),(.int (0) 0),(.int (0) 0),(.int (0) 0),(.int (0) 0),(.ref 76),(.bool false),(.int (181) 0),(.ref 77),.none,.none,.none,.none,(.int (272) 0),(.int (22) 0),(.str "/claim/cut.py" 273)]),#[]⟩),
 (80,⟨(.type "tuple"),none,(.seq #[] 0),#[]⟩),
 (81,⟨(.type "dict"),none,(.dict #[⟨(b0 P "__module__"),(.str "__module__" 274),(.str "talejudge.errors" 231)⟩,⟨(b0 P "__firstlineno__"),(.str "__firstlineno__" 278),(.int (22) 277)⟩,kR P "__static_attributes__" 279 80,⟨(b0 P "__doc__"),(.str "__doc__" 280),.none⟩] 2),#[]⟩),
 (82,⟨(.type "type"),none,(.cls ⟨"NotPlain",[(.ref 57)],[(.ref 82),(.ref 57),(.type "ValueError"),(.type "Exception"),(.type "BaseException"),(.type "object")],81,"NotPlain",true,[],[],false,none,false⟩),#[some (.ref 73),none,some (.str "NotPlain" 267),some (.str "NotPlain" 275),some (.builtin "ValueError.__new__"),some (.bool true)]⟩),
 (85,⟨(.type "dict"),none,(.dict #[⟨(b0 P "register"),(.str "register" 285),(.int (0) 286)⟩,⟨(b0 P "counter"),(.str "counter" 287),(.int (0) 288)⟩,kR P "queue" 289 86,kR P "set" 290 87,⟨(b0 P "cell"),(.str "cell" 291),(.int (0) 292)⟩] 5),#[]⟩),
 (86,⟨(.type "tuple"),none,(.seq #[] 0),#[]⟩),
 (87,⟨(.type "tuple"),none,(.seq #[] 0),#[]⟩),
 (88,⟨(.type "dict"),none,(.dict #[⟨(b0 P "read"),(.str "read" 299),(.int (0) 300)⟩,⟨(b0 P "take"),(.str "take" 301),(.int (0) 302)⟩,⟨(b0 P "write"),(.str "write" 303),(.int (1) 304)⟩,⟨(b0 P "add"),(.str "add" 305),(.int (1) 306)⟩,⟨(b0 P "put"),(.str "put" 307),(.int (1) 308)⟩,⟨(b0 P "cut"),(.str "cut" 309),(.int (1) 310)⟩,⟨(b0 P "has"),(.str "has" 311),(.int (1) 312)⟩,⟨(b0 P "swap"),(.str "swap" 313),(.int (2) 314)⟩] 8),#[]⟩),
 (89,⟨(.type "tuple"),none,(.seq #[] 0),#[]⟩),
 (91,⟨(.type "tuple"),none,(.seq #[(.str "state" 327),(.str "worth" 328)] 0),#[]⟩),
 (92,⟨(.type "tuple"),none,(.seq #[] 0),#[]⟩),
 (94,cO "read_state" "read_state" 324 27 2 89 329),
 (95,fO "read_state" "read_state" (top 16) "talejudge.store" 283 94),
 (96,⟨(.type "tuple"),none,(.seq #[] 0),#[]⟩),
 (98,⟨(.type "tuple"),none,(.seq #[(.str "state" 335),(.str "worth" 336)] 0),#[]⟩),
 (99,⟨(.type "tuple"),none,(.seq #[] 0),#[]⟩),
 (101,cO "write_state" "write_state" 332 29 2 96 337),
 (102,fO "write_state" "write_state" (top 17) "talejudge.store" 283 101),
 (103,⟨(.type "tuple"),none,(.seq #[] 0),#[]⟩),
 (105,⟨(.type "tuple"),none,(.seq #[(.str "state" 343),(.str "worth" 344)] 0),#[]⟩),
 (106,⟨(.type "tuple"),none,(.seq #[] 0),#[]⟩),
 (108,cO "add_to_number" "add_to_number" 340 31 2 103 345),
 (109,fO "add_to_number" "add_to_number" (top 18) "talejudge.store" 283 108),
 (110,⟨(.type "tuple"),none,(.seq #[] 0),#[]⟩),
 (112,⟨(.type "tuple"),none,(.seq #[(.str "state" 351),(.str "worth" 352)] 0),#[]⟩),
 (113,⟨(.type "tuple"),none,(.seq #[] 0),#[]⟩),
 (115,cO "put_behind" "put_behind" 348 33 2 110 353),
 (116,fO "put_behind" "put_behind" (top 19) "talejudge.store" 283 115),
 (117,⟨(.type "tuple"),none,(.seq #[] 0),#[]⟩),
 (119,⟨(.type "tuple"),none,(.seq #[(.str "state" 359),(.str "worth" 360)] 0),#[]⟩),
 (120,⟨(.type "tuple"),none,(.seq #[] 0),#[]⟩),
 (122,cO "take_first" "take_first" 356 35 2 117 361),
 (123,fO "take_first" "take_first" (top 20) "talejudge.store" 283 122),
 (124,⟨(.type "tuple"),none,(.seq #[] 0),#[]⟩),
 (126,⟨(.type "tuple"),none,(.seq #[(.str "state" 367),(.str "worth" 368)] 0),#[]⟩),
 (127,⟨(.type "tuple"),none,(.seq #[] 0),#[]⟩),
 (129,cO "put_into_set" "put_into_set" 364 39 2 124 369),
 (130,fO "put_into_set" "put_into_set" (top 21) "talejudge.store" 283 129),
 (131,⟨(.type "tuple"),none,(.seq #[] 0),#[]⟩),
 (134,cP "cut_from_set" "cut_from_set" 372 43 2 131 375),
 (135,fO "cut_from_set" "cut_from_set" (top 22) "talejudge.store" 283 134),
 (136,⟨(.type "tuple"),none,(.seq #[] 0),#[]⟩),
 (138,⟨(.type "tuple"),none,(.seq #[(.str "state" 381),(.str "worth" 382)] 0),#[]⟩),
 (139,⟨(.type "tuple"),none,(.seq #[] 0),#[]⟩),
 (141,cO "has_in_set" "has_in_set" 378 47 2 136 383),
 (142,fO "has_in_set" "has_in_set" (top 23) "talejudge.store" 283 141),
 (143,⟨(.type "tuple"),none,(.seq #[] 0),#[]⟩),
 (145,⟨(.type "tuple"),none,(.seq #[(.str "state" 389),(.str "worth" 390)] 0),#[]⟩),
 (146,⟨(.type "tuple"),none,(.seq #[] 0),#[]⟩),
 (148,cO "swap_state" "swap_state" 386 49 2 143 391),
 (149,fO "swap_state" "swap_state" (top 24) "talejudge.store" 283 148),
 (150,⟨(.type "dict"),none,(.dict #[⟨(X0 (d0 [b0 P "register",b0 P "read"])),(.ref 151),(.ref 95)⟩,⟨(X0 (d0 [b0 P "register",b0 P "write"])),(.ref 152),(.ref 102)⟩,⟨(X0 (d0 [b0 P "counter",b0 P "read"])),(.ref 153),(.ref 95)⟩,⟨(X0 (d0 [b0 P "counter",b0 P "add"])),(.ref 154),(.ref 109)⟩,⟨(X0 (d0 [b0 P "queue",b0 P "put"])),(.ref 155),(.ref 116)⟩,⟨(X0 (d0 [b0 P "queue",b0 P "take"])),(.ref 156),(.ref 123)⟩,⟨(X0 (d0 [b0 P "set",b0 P "put"])),(.ref 157),(.ref 130)⟩,⟨(X0 (d0 [b0 P "set",b0 P "cut"])),(.ref 158),(.ref 135)⟩,⟨(X0 (d0 [b0 P "set",b0 P "has"])),(.ref 159),(.ref 142)⟩,⟨(X0 (d0 [b0 P "cell",b0 P "read"])),(.ref 160),(.ref 95)⟩,⟨(X0 (d0 [b0 P "cell",b0 P "write"])),(.ref 161),(.ref 102)⟩,⟨(X0 (d0 [b0 P "cell",b0 P "swap"])),(.ref 162),(.ref 149)⟩] 12),#[]⟩),
 (151,⟨(.type "tuple"),none,(.seq #[(.str "register" 394),(.str "read" 395)] 0),#[]⟩),
 (152,⟨(.type "tuple"),none,(.seq #[(.str "register" 396),(.str "write" 397)] 0),#[]⟩),
 (153,⟨(.type "tuple"),none,(.seq #[(.str "counter" 398),(.str "read" 399)] 0),#[]⟩),
 (154,⟨(.type "tuple"),none,(.seq #[(.str "counter" 400),(.str "add" 401)] 0),#[]⟩),
 (155,⟨(.type "tuple"),none,(.seq #[(.str "queue" 402),(.str "put" 403)] 0),#[]⟩),
 (156,⟨(.type "tuple"),none,(.seq #[(.str "queue" 404),(.str "take" 405)] 0),#[]⟩),
 (157,⟨(.type "tuple"),none,(.seq #[(.str "set" 406),(.str "put" 407)] 0),#[]⟩),
 (158,⟨(.type "tuple"),none,(.seq #[(.str "set" 408),(.str "cut" 409)] 0),#[]⟩),
 (159,⟨(.type "tuple"),none,(.seq #[(.str "set" 410),(.str "has" 411)] 0),#[]⟩),
 (160,⟨(.type "tuple"),none,(.seq #[(.str "cell" 412),(.str "read" 413)] 0),#[]⟩),
 (161,⟨(.type "tuple"),none,(.seq #[(.str "cell" 414),(.str "write" 415)] 0),#[]⟩),
 (162,⟨(.type "tuple"),none,(.seq #[(.str "cell" 416),(.str "swap" 417)] 0),#[]⟩),
 (163,⟨(.type "tuple"),none,(.seq #[] 0),#[]⟩),
 (165,⟨(.type "tuple"),none,(.seq #[(.str "kind" 458)] 0),#[]⟩),
 (166,⟨(.type "tuple"),none,(.seq #[] 0),#[]⟩),
 (168,cO "is_kind" "is_kind" 455 54 1 163 459),
 (169,fO "is_kind" "is_kind" (top 26) "talejudge.store" 283 168),
 (170,⟨(.type "tuple"),none,(.seq #[] 0),#[]⟩),
 (173,cP "is_deed" "is_deed" 462 56 3 170 465),
 (174,fO "is_deed" "is_deed" (top 27) "talejudge.store" 283 173),
 (175,⟨(.type "tuple"),none,(.seq #[(.str "ok" 478),(.str "none" 479)] 0),#[]⟩),
 (176,⟨(.type "tuple"),none,(.seq #[] 0),#[]⟩),
 (178,⟨(.type "tuple"),none,(.seq #[(.str "things" 484),(.str "events" 485),(.str "own_things" 486)] 0),#[]⟩),
 (179,⟨(.type "tuple"),none,(.seq #[] 0),#[]⟩),
 (181,cO "make_tale" "make_tale" 481 71 2 176 487),
 (182,fO "make_tale" "make_tale" (top 34) "talejudge.tales" 468 181),
 (183,⟨(.type "tuple"),none,(.seq #[] 0),#[]⟩),
 (186,cP "make_things" "make_things" 490 74 1 183 493),
 (187,fO "make_things" "make_things" (top 35) "talejudge.tales" 468 186),
 (188,⟨(.type "tuple"),none,(.seq #[] 0),#[]⟩),
 (190,⟨(.type "tuple"),none,(.seq #[(.str "thing" 499)] 0),#[]⟩),
 (191,⟨(.type "tuple"),none,(.seq #[] 0),#[]⟩),
 (193,cO "is_thing" "is_thing" 496 82 1 188 500),
 (194,fO "is_thing" "is_thing" (top 36) "talejudge.tales" 468 193),
 (195,⟨(.type "tuple"),none,(.seq #[] 0),#[]⟩),
 (198,cP "make_events" "make_events" 503 84 2 195 506),
 (199,fO "make_events" "make_events" (top 37) "talejudge.tales" 468 198),
 (200,⟨(.type "tuple"),none,(.seq #[] 0),#[]⟩),
 (202,⟨(.type "tuple"),none,(.seq #[(.str "event" 512),(.str "kinds" 513)] 0),#[]⟩),
 (203,⟨(.type "tuple"),none,(.seq #[] 0),#[]⟩),
 (205,cO "is_begin" "is_begin" 509 92 2 200 514),
 (206,fO "is_begin" "is_begin" (top 38) "talejudge.tales" 468 205),
 (207,⟨(.type "tuple"),none,(.seq #[] 0),#[]⟩),
 (209,⟨(.type "tuple"),none,(.seq #[(.str "event" 520)] 0),#[]⟩),
 (210,⟨(.type "tuple"),none,(.seq #[] 0),#[]⟩),
 (212,cO "is_end" "is_end" 517 96 1 207 521),
 (213,fO "is_end" "is_end" (top 39) "talejudge.tales" 468 212),
 (214,⟨(.type "tuple"),none,(.seq #[] 0),#[]⟩),
 (216,⟨(.type "tuple"),none,(.seq #[(.str "event" 527),(.str "word" 528),(.str "many" 529)] 0),#[]⟩),
 (217,⟨(.type "tuple"),none,(.seq #[] 0),#[]⟩),
 (219,cO "is_event" "is_event" 524 98 3 214 530),
 (220,fO "is_event" "is_event" (top 40) "talejudge.tales" 468 219),
 (221,⟨(.type "tuple"),none,(.seq #[] 0),#[]⟩),
 (223,⟨(.type "tuple"),none,(.seq #[(.str "hand" 536)] 0),#[]⟩),
 (224,⟨(.type "tuple"),none,(.seq #[] 0),#[]⟩),
 (226,cO "is_hand" "is_hand" 533 100 1 221 537),
 (227,fO "is_hand" "is_hand" (top 41) "talejudge.tales" 468 226),
 (228,⟨(.type "tuple"),none,(.seq #[] 0),#[]⟩),
 (230,⟨(.type "tuple"),none,(.seq #[(.str "answer" 543)] 0),#[]⟩),
 (231,⟨(.type "tuple"),none,(.seq #[] 0),#[]⟩),
 (233,cO "is_answer" "is_answer" 540 102 1 228 544),
 (234,fO "is_answer" "is_answer" (top 42) "talejudge.tales" 468 233),
 (235,⟨(.type "tuple"),none,(.seq #[] 0),#[]⟩),
 (237,⟨(.type "tuple"),none,(.seq #[(.str "events" 550),(.str "busy" 551),(.str "event" 552),(.str "begins" 553)] 0),#[]⟩),
 (238,⟨(.type "tuple"),none,(.seq #[] 0),#[]⟩),
 (240,cO "go_by_turns" "go_by_turns" 547 106 1 235 554),
 (241,fO "go_by_turns" "go_by_turns" (top 43) "talejudge.tales" 468 240),
 (242,⟨(.type "tuple"),none,(.seq #[] 0),#[]⟩),
 (244,⟨(.type "tuple"),none,(.seq #[(.str "tale" 560),(.str "told" 561),(.str "numbers" 562),(.str "place" 563),(.str "event" 564),(.str "number" 565),(.str "begun" 566)] 0),#[]⟩),
 (245,⟨(.type "tuple"),none,(.seq #[] 0),#[]⟩),
 (247,cO "deeds" "deeds" 557 114 1 242 567),
 (248,fO "deeds" "deeds" (top 44) "talejudge.tales" 468 247),
 (249,⟨(.type "tuple"),none,(.seq #[(.int (-2) 573),(.int (-1) 575)] 0),#[]⟩),
 (250,⟨(.type "tuple"),none,(.seq #[] 0),#[]⟩),
 (253,cP "plain_deeds" "plain_deeds" 577 128 1 250 580),
 (254,fO "plain_deeds" "plain_deeds" (top 47) "talejudge.zones" 570 253),
 (255,⟨(.type "tuple"),none,(.seq #[] 0),#[]⟩),
 (258,cP "are_plain" "are_plain" 583 133 1 255 586),
 (259,fO "are_plain" "are_plain" (top 48) "talejudge.zones" 570 258),
 (260,⟨(.type "tuple"),none,(.seq #[] 0),#[]⟩),
 (262,⟨(.type "tuple"),none,(.seq #[(.str "deed" 592)] 0),#[]⟩),
 (263,⟨(.type "tuple"),none,(.seq #[] 0),#[]⟩),
 (265,cO "is_answered" "is_answered" 589 138 1 260 593),
 (266,fO "is_answered" "is_answered" (top 49) "talejudge.zones" 570 265),
 (267,⟨(.type "tuple"),none,(.seq #[] 0),#[]⟩),
 (269,⟨(.type "tuple"),none,(.seq #[(.str "told" 599),(.str "found" 600),(.str "deed" 601)] 0),#[]⟩),
 (270,⟨(.type "tuple"),none,(.seq #[] 0),#[]⟩),
 (272,cO "writers" "writers" 596 142 1 267 602),
 (273,fO "writers" "writers" (top 50) "talejudge.zones" 570 272),
 (274,⟨(.type "tuple"),none,(.seq #[] 0),#[]⟩),
 (277,cP "ended_reads" "ended_reads" 605 148 1 274 608),
 (278,fO "ended_reads" "ended_reads" (top 51) "talejudge.zones" 570 277),
 (279,⟨(.type "tuple"),none,(.seq #[] 0),#[]⟩),
 (282,cP "zones" "zones" 611 150 1 279 614),
 (283,fO "zones" "zones" (top 52) "talejudge.zones" 570 282),
 (284,⟨(.type "tuple"),none,(.seq #[] 0),#[]⟩),
 (287,cP "zone_of" "zone_of" 617 158 2 284 620),
 (288,fO "zone_of" "zone_of" (top 53) "talejudge.zones" 570 287),
 (289,⟨(.type "tuple"),none,(.seq #[] 0),#[]⟩),
 (291,⟨(.type "tuple"),none,(.seq #[(.str "tale" 626),(.str "told" 627),(.str "written" 628),(.str "number" 629),(.str "read" 630)] 0),#[]⟩),
 (292,⟨(.type "tuple"),none,(.seq #[] 0),#[]⟩),
 (294,cO "collision" "collision" 623 164 1 289 631),
 (295,fO "collision" "collision" (top 54) "talejudge.zones" 570 294),
 (296,⟨(.type "tuple"),none,(.seq #[] 0),#[]⟩),
 (298,⟨(.type "tuple"),none,(.seq #[(.str "found" 637),(.str "kind" 638),(.str "zone" 639),(.str "other" 640)] 0),#[]⟩),
 (299,⟨(.type "tuple"),none,(.seq #[] 0),#[]⟩),
 (301,cO "first_pair" "first_pair" 634 171 1 296 641),
 (302,fO "first_pair" "first_pair" (top 55) "talejudge.zones" 570 301),
 (303,⟨(.type "tuple"),none,(.seq #[] 0),#[]⟩),
 (306,cP "of_kind" "of_kind" 644 178 2 303 647),
 (307,fO "of_kind" "of_kind" (top 56) "talejudge.zones" 570 306),
 (308,⟨(.type "tuple"),none,(.seq #[] 0),#[]⟩),
 (310,⟨(.type "tuple"),none,(.seq #[(.str "zone" 653),(.str "other" 654)] 0),#[]⟩),
 (311,⟨(.type "tuple"),none,(.seq #[] 0),#[]⟩),
 (313,cO "collide" "collide" 650 180 2 308 655),
 (314,fO "collide" "collide" (top 57) "talejudge.zones" 570 313),
 (315,⟨(.type "tuple"),none,(.seq #[] 0),#[]⟩),
 (317,⟨(.type "tuple"),none,(.seq #[(.str "script" 663),(.str "k" 664)] 0),#[]⟩),
 (318,⟨(.type "tuple"),none,(.seq #[] 0),#[]⟩),
 (320,cO "_law_cell_at" "_law_cell_at" 660 185 2 315 665),
 (321,fL "_law_cell_at" "_law_cell_at" (top 59) 320),
 (322,⟨(.type "tuple"),none,(.seq #[] 0),#[]⟩),
 (324,⟨(.type "tuple"),none,(.seq #[(.str "cell" 671)] 0),#[]⟩),
 (325,⟨(.type "tuple"),none,(.seq #[] 0),#[]⟩),
 (327,cO "_law_row" "_law_row" 668 189 1 322 672),
 (328,fL "_law_row" "_law_row" (top 60) 327),
 (329,⟨(.type "tuple"),none,(.seq #[] 0),#[]⟩),
 (331,⟨(.type "tuple"),none,(.seq #[(.str "row" 678),(.str "many" 679),(.str "told" 680)] 0),#[]⟩),
 (332,⟨(.type "tuple"),none,(.seq #[] 0),#[]⟩),
 (334,cO "_law_take" "_law_take" 675 191 2 329 681),
 (335,fL "_law_take" "_law_take" (top 61) 334),
 (336,⟨(.type "tuple"),none,(.seq #[] 0),#[]⟩),
 (339,cP "_law_answer" "_law_answer" 684 198 5 336 687),
 (340,fL "_law_answer" "_law_answer" (top 62) 339),
 (341,⟨(.type "tuple"),none,(.seq #[] 0),#[]⟩),
 (343,⟨(.type "tuple"),none,(.seq #[(.str "cells" 693),(.str "most" 694),(.str "spoilt" 695),(.str "rows" 696),(.str "events" 697),(.str "held" 698),(.str "now" 699),(.str "cell" 700),(.str "row" 701),(.str "hand" 702),(.str "deed" 703),(.str "verb" 704),(.str "worth" 705),(.str "late" 706)] 0),#[]⟩),
 (344,⟨(.type "tuple"),none,(.seq #[] 0),#[]⟩),
 (346,cO "_law_made" "_law_made" 690 205 3 341 707),
 (347,fL "_law_made" "_law_made" (top 63) 346),
 (348,⟨(.type "tuple"),none,(.seq #[] 0),#[]⟩),
 (350,⟨(.type "tuple"),none,(.seq #[(.str "rows" 713),(.str "number" 714),(.str "told" 715),(.str "one" 716),(.str "other" 717)] 0),#[]⟩),
 (351,⟨(.type "tuple"),none,(.seq #[] 0),#[]⟩),
 (353,cO "_law_elder" "_law_elder" 710 233 2 348 718),
 (354,fL "_law_elder" "_law_elder" (top 64) 353),
 (355,⟨(.type "tuple"),none,(.seq #[] 0),#[]⟩),
 (357,⟨(.type "tuple"),none,(.seq #[(.str "events" 724),(.str "place" 725),(.str "hand" 726),(.str "answer" 727)] 0),#[]⟩),
 (358,⟨(.type "tuple"),none,(.seq #[] 0),#[]⟩),
 (360,cO "_law_turned" "_law_turned" 721 242 4 355 728),
 (361,fL "_law_turned" "_law_turned" (top 65) 360),
 (362,⟨(.type "tuple"),none,(.seq #[] 0),#[]⟩),
 (364,⟨(.type "tuple"),none,(.seq #[(.str "script" 734),(.str "tale" 735),(.str "rows" 736),(.str "events" 737),(.str "many" 738),(.str "number" 739),(.str "worth" 740),(.str "turned" 741)] 0),#[]⟩),
 (365,⟨(.type "tuple"),none,(.seq #[] 0),#[]⟩),
 (367,cO "law" "law" 731 244 1 362 742),
 (368,fL "law" "law" (top 66) 367)]
noncomputable def asY:List Addr:=280 :: asX
noncomputable def KY (P:R0):Frag:=(280,⟨.none,none,.fields #[],#[]⟩) :: KX P
noncomputable abbrev cdT:Addr:=282
noncomputable abbrev tbT:Addr:=280
noncomputable def HX:Hook:=kHook KY asY (λ _=>by kernel_rfl)
noncomputable abbrev XtX:y0->Bool:=λ s=>xlAt viewX [] s && recOk (RowW.records (OpenRow.toRowW PySem.Challenge.rw_talejudge_k17_whole_made_strictly.row)) s
theorem look1 (w:N0) (os:T2):(staticsOk (n6 PX.main.body) (boot_heap w.params) (S3X w os).abs.heap && namesBound PX (S3X w os).abs.heap && gensDone (S3X w os).abs && laidKept (boot_heap w.params) (S3X w os).abs.heap)=true:=by kernel_rfl
theorem look2 (w:N0) (os:T2):openSeen viewX looseX (n6 PX.main.body) XtX true (S3X w os).abs=openGood viewX looseX:=by rw [PySem.W.Fast.te4187177175401517315];kernel_rfl
theorem look3 (w:N0) (os:T2):Hook.obs HX (S3X w os).abs=Hook.val HX w:=by kernel_rfl
theorem leftX:LeftO PX viewX looseX XtX (Hook.obs HX) (Hook.val HX) 200000:=
 zdq (H₀:=boot_heap) (gs₀:=Array.mk []) (boot_open (by kernel_rfl) (by decide) (λ s=>rfl)) (λ w=>by kernel_rfl) zdr look1 look2 look3
end K17
set_option maxHeartbeats 4000000
namespace L2
open PySem PySem.Spec PyProof.Rows
theorem FnScope.k {N P:List Str} {sc:Scope} (a:sc.kind=.function:=by exact rfl) (b:sc.isCoroutine=false:=by exact rfl) (c:sc.isGenerator=false:=by exact rfl) (d:N.Nodup:=by decide +kernel) (e:N.take P.length=P:=by exact rfl) (f :∀x∈P,sc.names.lookup x=some .local\/sc.names.lookup x=some .cell:=by decide +kernel) (g :∀y∈sc.names,y.2≠.free:=by decide +kernel):FnScope N P sc:=⟨a,b,c,d,e,f,g⟩
theorem newA {H:Hp} {p:Addr} (o:HO) (h:H p=none) :∃H',H'=upd H p o/\Same H H'/\H' p=some o:=⟨_,rfl,Same.upd h,z01⟩
theorem iteK {c A B:Prop} [Decidable c] (h:B) (hc:¬ c:=by decide +kernel):if c then A else B:=iteN hc h
theorem pg_cn {X:Cx} {scope:Scope} {cl:List (Str×Addr)} {N:List Str} {C:Addr} {s₂:y0} {H₂:Hp} {fp:List Addr} {x:Str} {px:Pos} (i:Nat) (hN:N.Nodup:=by decide +kernel) (hi:N[i]? = some x:=by exact rfl) (hx:scope.names.lookup x=some .local:=by exact rfl):PG (cxComp X scope cl N C s₂ H₂ fp) (.Name x px) (gName i):=ze5 i hN hi hx
theorem pe_cg {X:Cx} {xs:List Str} {tg:Expr} {g:TG} {pos:Pos} {elt iter:Expr} {ifs:List Expr} {scope:Scope} {fr:List (Nat×Str)} {wi:TI} {tc:TT} {te:TE} (hi:PI X tg iter wi)
  (hg :∀cl C s₂ H₂ fp,PG (cxComp X scope cl (xs++fr.map (·.2)) C s₂ H₂ fp) tg g)
  (ht :∀cl C s₂ H₂ fp,PF (cxComp X scope cl (xs++fr.map (·.2)) C s₂ H₂ fp) ifs tc) (he :∀cl C s₂ H₂ fp,PE (cxComp X scope cl (xs++fr.map (·.2)) C s₂ H₂ fp) elt te) (hcalm:X.calm=true:=by exact rfl)
  (hfr :∀p∈fr,X.N[p.1]? = some p.2/\(X.env.kindOf p.2=some .cell\/X.env.kindOf p.2=some .free):=by first|exact λ _ z=>absurd z B0|(intro p hp;obtain rfl:=List.mem_singleton.mp hp;first|exact ⟨rfl,.inl rfl⟩|exact ⟨rfl,.inr rfl⟩))
  (hin:(scope.names.all λ y=>y.2 != P1 || fr.any λ p=>p.2 == y.1)=true:=by decide +kernel)
  (hfs :∀p∈fr,(p.2,P1)∈scope.names/\((O6 scope X.env).names.lookup p.2=some .cell\/(O6 scope X.env).names.lookup p.2=some .free):=by first|exact λ _ z=>absurd z B0|(intro p hp;obtain rfl:=List.mem_singleton.mp hp;exact ⟨by decide +kernel,by first|exact .inl rfl|exact .inr rfl⟩))
  (hcell :∀y∈scope.names,y.2≠NameKind.cell:=by decide +kernel) (hkind:scope.kind=.function:=by exact rfl) (hnames :∀y∈scope.names,y.2=NameKind.local->scope.names.lookup y.1=some .local:=by decide +kernel)
  (hs :∀x,g4 iter X.env x=C3 x:=by intro _;rfl):PE X (.ListComp elt [⟨tg,iter,ifs,0⟩] scope pos) (tCompG wi xs.length fr g tc te):=
 zeo hcalm hi hfr (λ y a e=>by
  have h:=List.all_eq_true.mp hin y a;rw [e] at h;obtain ⟨p,hp,z⟩:=List.any_eq_true.mp (show fr.any (λ p=>p.2 == y.1)=true from h);have:=(hfr p hp).2
  rwa [eq_of_beq z] at this) hfs hcell hkind hnames hg ht he hs
end L2
namespace K17
open PySem PySem.Spec PyProof.Rows TJ L2
abbrev Gg (n:Str) (a:Addr):Prop:=∀P,D3 (KX P) Q1 n=some (some (.ref a))
abbrev Gn (n:Str):Prop:=∀P,D3 (KX P) Q1 n=some none
noncomputable abbrev kx (w:N0):=KX w.params
noncomputable abbrev Ca (P:Program) (w:N0) (mg:Str->Option Value) (base:Heap):=Cal P w (KX w.params) mg base
noncomputable abbrev CaE (P:Program) (w:N0) (mg:Str->Option Value) (base:Heap):=CalE P w (KX w.params) mg base
noncomputable abbrev Fo (P:Program) (w:N0) (mg:Str->Option Value) (base:Heap):=FnOk P w (KX w.params) mg base
theorem z0h:Gn "isinstance":=λ _=>by kernel_rfl
theorem n_len:Gn "len":=λ _=>by kernel_rfl
theorem n_all:Gn "all":=λ _=>by kernel_rfl
theorem n_max:Gn "max":=λ _=>by kernel_rfl
theorem n_min:Gn "min":=λ _=>by kernel_rfl
theorem n_int:Gn "int":=λ _=>by kernel_rfl
theorem n_str:Gn "str":=λ _=>by kernel_rfl
theorem n_bool:Gn "bool":=λ _=>by kernel_rfl
theorem za5:Gn "tuple":=λ _=>by kernel_rfl
theorem n_list:Gn "list":=λ _=>by kernel_rfl
theorem zde:Gn "range":=λ _=>by kernel_rfl
theorem zaa:Gn "sorted":=λ _=>by kernel_rfl
theorem n_dict:Gn "dict":=λ _=>by kernel_rfl
theorem n_set:Gn "set":=λ _=>by kernel_rfl
theorem z3y:Gn "enumerate":=λ _=>by kernel_rfl
theorem z3e (P:R0):D3 (KX P) Q1 "GREATEST_WORTH" = some (some (.int (1000000000) 189)):=by kernel_rfl
theorem z4e (P:R0):D3 (KX P) Q1 "LONGEST_NAME" = some (some (.int (8) 191)):=by kernel_rfl
theorem z3p (P:R0):D3 (KX P) Q1 "SMALL_LETTERS" = some (some (.str "abcdefghijklmnopqrstuvwxyz" 193)):=by kernel_rfl
theorem z9u:Gg "is_whole" 21:=λ _=>by kernel_rfl
theorem z8m:Gg "is_within" 28:=λ _=>by kernel_rfl
theorem z9b:Gg "is_worth" 35:=λ _=>by kernel_rfl
theorem zd1:Gg "is_name" 40:=λ _=>by kernel_rfl
theorem z5u:Gg "is_tuple_of" 47:=λ _=>by kernel_rfl
theorem z4x:Gg "FIRST_STATES" 85:=λ _=>by kernel_rfl
theorem z2s:Gg "WORTHS_OF_VERBS" 88:=λ _=>by kernel_rfl
theorem zfk:Gg "DOERS" 150:=λ _=>by kernel_rfl
theorem zcy:Gg "is_kind" 169:=λ _=>by kernel_rfl
theorem zbt:Gg "is_deed" 174:=λ _=>by kernel_rfl
theorem z62 (P:R0):D3 (KX P) Q1 "MOST_THINGS" = some (some (.int (6) 470)):=by kernel_rfl
theorem z5k (P:R0):D3 (KX P) Q1 "MOST_BEGINS" = some (some (.int (24) 472)):=by kernel_rfl
theorem z90 (P:R0):D3 (KX P) Q1 "LAST_HAND" = some (some (.int (5) 474)):=by kernel_rfl
theorem z2t (P:R0):D3 (KX P) Q1 "GREATEST_ANSWER" = some (some (.int (1000000000000) 476)):=by kernel_rfl
theorem z4d:Gg "ANSWER_WORDS" 175:=λ _=>by kernel_rfl
theorem z8p:Gg "make_tale" 182:=λ _=>by kernel_rfl
theorem z64:Gg "make_things" 187:=λ _=>by kernel_rfl
theorem zbk:Gg "is_thing" 194:=λ _=>by kernel_rfl
theorem z5e:Gg "make_events" 199:=λ _=>by kernel_rfl
theorem zaj:Gg "is_begin" 206:=λ _=>by kernel_rfl
theorem ze1:Gg "is_end" 213:=λ _=>by kernel_rfl
theorem z9w:Gg "is_event" 220:=λ _=>by kernel_rfl
theorem zc2:Gg "is_hand" 227:=λ _=>by kernel_rfl
theorem z8l:Gg "is_answer" 234:=λ _=>by kernel_rfl
theorem z5h:Gg "go_by_turns" 241:=λ _=>by kernel_rfl
theorem zeq:Gg "deeds" 248:=λ _=>by kernel_rfl
theorem z5c:Gg "FIRST_WRITE" 249:=λ _=>by kernel_rfl
theorem z60:Gg "plain_deeds" 254:=λ _=>by kernel_rfl
theorem z8n:Gg "are_plain" 259:=λ _=>by kernel_rfl
theorem z5x:Gg "is_answered" 266:=λ _=>by kernel_rfl
theorem zcj:Gg "writers" 273:=λ _=>by kernel_rfl
theorem z6b:Gg "ended_reads" 278:=λ _=>by kernel_rfl
theorem zf6:Gg "zones" 283:=λ _=>by kernel_rfl
theorem zbo:Gg "zone_of" 288:=λ _=>by kernel_rfl
theorem z8k:Gg "collision" 295:=λ _=>by kernel_rfl
theorem z6h:Gg "first_pair" 302:=λ _=>by kernel_rfl
theorem zd4:Gg "of_kind" 307:=λ _=>by kernel_rfl
theorem zd8:Gg "collide" 314:=λ _=>by kernel_rfl
theorem z9j:Gg "_law_row" 328:=λ _=>by kernel_rfl
theorem z8q:Gg "_law_take" 335:=λ _=>by kernel_rfl
theorem z5s:Gg "_law_answer" 340:=λ _=>by kernel_rfl
theorem z8t:Gg "_law_made" 347:=λ _=>by kernel_rfl
theorem z77:Gg "_law_elder" 354:=λ _=>by kernel_rfl
theorem z6e:Gg "_law_turned" 361:=λ _=>by kernel_rfl
theorem g_law:Gg "law" 368:=λ _=>by kernel_rfl
noncomputable def kl_FIRST_STATES:List (Str×V):=[("register",.int (0)),("counter",.int (0)),("queue",.ref 86),("set",.ref 87),("cell",.int (0))]
theorem z3r (P:R0):KDict (KX P) P 85 kl_FIRST_STATES:=⟨⟨#[⟨(b0 P "register"),(.str "register" 285),(.int (0) 286)⟩,⟨(b0 P "counter"),(.str "counter" 287),(.int (0) 288)⟩,⟨(b0 P "queue"),(.str "queue" 289),(.ref 86)⟩,⟨(b0 P "set"),(.str "set" 290),(.ref 87)⟩,⟨(b0 P "cell"),(.str "cell" 291),(.int (0) 292)⟩],5,by kernel_rfl,(.cons ⟨⟨_,rfl⟩,rfl,⟨_,rfl⟩⟩ (.cons ⟨⟨_,rfl⟩,rfl,⟨_,rfl⟩⟩ (.cons ⟨⟨_,rfl⟩,rfl,rfl⟩ (.cons ⟨⟨_,rfl⟩,rfl,rfl⟩ (.cons ⟨⟨_,rfl⟩,rfl,⟨_,rfl⟩⟩ .nil)))))⟩,by decide⟩
noncomputable def kl_WORTHS_OF_VERBS:List (Str×V):=[("read",.int (0)),("take",.int (0)),("write",.int (1)),("add",.int (1)),("put",.int (1)),("cut",.int (1)),("has",.int (1)),("swap",.int (2))]
theorem z2h (P:R0):KDict (KX P) P 88 kl_WORTHS_OF_VERBS:=⟨⟨#[⟨(b0 P "read"),(.str "read" 299),(.int (0) 300)⟩,⟨(b0 P "take"),(.str "take" 301),(.int (0) 302)⟩,⟨(b0 P "write"),(.str "write" 303),(.int (1) 304)⟩,⟨(b0 P "add"),(.str "add" 305),(.int (1) 306)⟩,⟨(b0 P "put"),(.str "put" 307),(.int (1) 308)⟩,⟨(b0 P "cut"),(.str "cut" 309),(.int (1) 310)⟩,⟨(b0 P "has"),(.str "has" 311),(.int (1) 312)⟩,⟨(b0 P "swap"),(.str "swap" 313),(.int (2) 314)⟩],8,by kernel_rfl,(.cons ⟨⟨_,rfl⟩,rfl,⟨_,rfl⟩⟩ (.cons ⟨⟨_,rfl⟩,rfl,⟨_,rfl⟩⟩ (.cons ⟨⟨_,rfl⟩,rfl,⟨_,rfl⟩⟩ (.cons ⟨⟨_,rfl⟩,rfl,⟨_,rfl⟩⟩ (.cons ⟨⟨_,rfl⟩,rfl,⟨_,rfl⟩⟩ (.cons ⟨⟨_,rfl⟩,rfl,⟨_,rfl⟩⟩ (.cons ⟨⟨_,rfl⟩,rfl,⟨_,rfl⟩⟩ (.cons ⟨⟨_,rfl⟩,rfl,⟨_,rfl⟩⟩ .nil))))))))⟩,by decide⟩
noncomputable def kl_DOERS:List ((Str×Str)×V):=[(("register","read"),.ref 95),(("register","write"),.ref 102),(("counter","read"),.ref 95),(("counter","add"),.ref 109),(("queue","put"),.ref 116),(("queue","take"),.ref 123),(("set","put"),.ref 130),(("set","cut"),.ref 135),(("set","has"),.ref 142),(("cell","read"),.ref 95),(("cell","write"),.ref 102),(("cell","swap"),.ref 149)]
theorem zep (P:R0):KDictT (KX P) P 150 kl_DOERS:=⟨⟨#[⟨(X0 (d0 [b0 P "register",b0 P "read"])),(.ref 151),(.ref 95)⟩,⟨(X0 (d0 [b0 P "register",b0 P "write"])),(.ref 152),(.ref 102)⟩,⟨(X0 (d0 [b0 P "counter",b0 P "read"])),(.ref 153),(.ref 95)⟩,⟨(X0 (d0 [b0 P "counter",b0 P "add"])),(.ref 154),(.ref 109)⟩,⟨(X0 (d0 [b0 P "queue",b0 P "put"])),(.ref 155),(.ref 116)⟩,⟨(X0 (d0 [b0 P "queue",b0 P "take"])),(.ref 156),(.ref 123)⟩,⟨(X0 (d0 [b0 P "set",b0 P "put"])),(.ref 157),(.ref 130)⟩,⟨(X0 (d0 [b0 P "set",b0 P "cut"])),(.ref 158),(.ref 135)⟩,⟨(X0 (d0 [b0 P "set",b0 P "has"])),(.ref 159),(.ref 142)⟩,⟨(X0 (d0 [b0 P "cell",b0 P "read"])),(.ref 160),(.ref 95)⟩,⟨(X0 (d0 [b0 P "cell",b0 P "write"])),(.ref 161),(.ref 102)⟩,⟨(X0 (d0 [b0 P "cell",b0 P "swap"])),(.ref 162),(.ref 149)⟩],12,by kernel_rfl,(.cons ⟨⟨151,394,395,0,rfl,by kernel_rfl⟩,rfl,rfl⟩ (.cons ⟨⟨152,396,397,0,rfl,by kernel_rfl⟩,rfl,rfl⟩ (.cons ⟨⟨153,398,399,0,rfl,by kernel_rfl⟩,rfl,rfl⟩ (.cons ⟨⟨154,400,401,0,rfl,by kernel_rfl⟩,rfl,rfl⟩ (.cons ⟨⟨155,402,403,0,rfl,by kernel_rfl⟩,rfl,rfl⟩ (.cons ⟨⟨156,404,405,0,rfl,by kernel_rfl⟩,rfl,rfl⟩ (.cons ⟨⟨157,406,407,0,rfl,by kernel_rfl⟩,rfl,rfl⟩ (.cons ⟨⟨158,408,409,0,rfl,by kernel_rfl⟩,rfl,rfl⟩ (.cons ⟨⟨159,410,411,0,rfl,by kernel_rfl⟩,rfl,rfl⟩ (.cons ⟨⟨160,412,413,0,rfl,by kernel_rfl⟩,rfl,rfl⟩ (.cons ⟨⟨161,414,415,0,rfl,by kernel_rfl⟩,rfl,rfl⟩ (.cons ⟨⟨162,416,417,0,rfl,by kernel_rfl⟩,rfl,rfl⟩ .nil))))))))))))⟩,by decide +kernel,by decide⟩
noncomputable abbrev y1f:Stmt:=top 4
noncomputable abbrev y0i:FuncData:=fnX "is_whole" "is_whole" (top 4) "talejudge.basics" 187 20
theorem z2y (P:R0):Fun (KX P) "is_whole" "is_whole" y1f 21 y0i:=z0c
theorem za1 (P:R0):Binds (KX P) y0i ["value"] []:=(z2y P).binds λ _ _ _ _ _ _=>us1 λ _=>rfl
theorem z96:FnScope ["value"] ["value"] (z07 y1f):=.k
noncomputable abbrev y17:Stmt:=top 5
noncomputable abbrev y0b:FuncData:=fnX "is_within" "is_within" (top 5) "talejudge.basics" 187 27
theorem z2i (P:R0):Fun (KX P) "is_within" "is_within" y17 28 y0b:=z0c
theorem z91 (P:R0):Binds (KX P) y0b ["value","greatest"] []:=(z2i P).binds λ _ _ _ _ _ _=>us2 λ _ _=>rfl
theorem z7b:FnScope ["value","greatest"] ["value","greatest"] (z07 y17):=.k
noncomputable abbrev y1g:Stmt:=top 6
noncomputable abbrev y0j:FuncData:=fnX "is_worth" "is_worth" (top 6) "talejudge.basics" 187 34
theorem z30 (P:R0):Fun (KX P) "is_worth" "is_worth" y1g 35 y0j:=z0c
theorem zaf (P:R0):Binds (KX P) y0j ["value"] []:=(z30 P).binds λ _ _ _ _ _ _=>us1 λ _=>rfl
theorem z8r:FnScope ["value"] ["value"] (z07 y1g):=.k
noncomputable abbrev y1n:Stmt:=top 7
noncomputable abbrev y0x:FuncData:=fnX "is_name" "is_name" (top 7) "talejudge.basics" 187 39
theorem z4p (P:R0):Fun (KX P) "is_name" "is_name" y1n 40 y0x:=z0c
theorem zd0 (P:R0):Binds (KX P) y0x ["value"] []:=(z4p P).binds λ _ _ _ _ _ _=>us1 λ _=>rfl
theorem za9:FnScope ["value"] ["value"] (z07 y1n):=.k
noncomputable abbrev y0o:Stmt:=top 8
noncomputable abbrev y00:FuncData:=fnX "is_tuple_of" "is_tuple_of" (top 8) "talejudge.basics" 187 46
theorem z1e (P:R0):Fun (KX P) "is_tuple_of" "is_tuple_of" y0o 47 y00:=z0c
theorem z5j (P:R0):Binds (KX P) y00 ["value","many"] []:=(z1e P).binds λ _ _ _ _ _ _=>us2 λ _ _=>rfl
theorem z4u:FnScope ["value","many"] ["value","many"] (z07 y0o):=.k
noncomputable abbrev y1o:Stmt:=top 26
noncomputable abbrev y0y:FuncData:=fnX "is_kind" "is_kind" (top 26) "talejudge.store" 283 168
theorem z4k (P:R0):Fun (KX P) "is_kind" "is_kind" y1o 169 y0y:=z0c
theorem zck (P:R0):Binds (KX P) y0y ["kind"] []:=(z4k P).binds λ _ _ _ _ _ _=>us1 λ _=>rfl
theorem z9k:FnScope ["kind"] ["kind"] (z07 y1o):=.k
noncomputable abbrev y1p:Stmt:=top 27
noncomputable abbrev y0z:FuncData:=fnX "is_deed" "is_deed" (top 27) "talejudge.store" 283 173
theorem z4m (P:R0):Fun (KX P) "is_deed" "is_deed" y1p 174 y0z:=z0c
theorem zcz (P:R0):Binds (KX P) y0z ["kind","verb","worth"] []:=(z4m P).binds λ _ _ _ _ _ _=>us3 λ _ _ _=>rfl
theorem sc_is_deed:FnScope ["kind","verb","worth","many"] ["kind","verb","worth"] (z07 y1p):=.k
noncomputable abbrev y18:Stmt:=top 34
noncomputable abbrev y0c:FuncData:=fnX "make_tale" "make_tale" (top 34) "talejudge.tales" 468 181
theorem z2d (P:R0):Fun (KX P) "make_tale" "make_tale" y18 182 y0c:=z0c
theorem z8w (P:R0):Binds (KX P) y0c ["things","events"] []:=(z2d P).binds λ _ _ _ _ _ _=>us2 λ _ _=>rfl
theorem sc_make_tale:FnScope ["things","events","own_things"] ["things","events"] (z07 y18):=.k
noncomputable abbrev y0p:Stmt:=top 35
noncomputable abbrev y01:FuncData:=fnX "make_things" "make_things" (top 35) "talejudge.tales" 468 186
theorem z1g (P:R0):Fun (KX P) "make_things" "make_things" y0p 187 y01:=z0c
theorem z5b (P:R0):Binds (KX P) y01 ["things"] []:=(z1g P).binds λ _ _ _ _ _ _=>us1 λ _=>rfl
theorem z56:FnScope ["things"] ["things"] (z07 y0p):=.k
noncomputable abbrev y1h:Stmt:=top 36
noncomputable abbrev y0k:FuncData:=fnX "is_thing" "is_thing" (top 36) "talejudge.tales" 468 193
theorem z39 (P:R0):Fun (KX P) "is_thing" "is_thing" y1h 194 y0k:=z0c
theorem z9o (P:R0):Binds (KX P) y0k ["thing"] []:=(z39 P).binds λ _ _ _ _ _ _=>us1 λ _=>rfl
theorem z8z:FnScope ["thing"] ["thing"] (z07 y1h):=.k
noncomputable abbrev y0q:Stmt:=top 37
noncomputable abbrev y02:FuncData:=fnX "make_events" "make_events" (top 37) "talejudge.tales" 468 198
theorem z1h (P:R0):Fun (KX P) "make_events" "make_events" y0q 199 y02:=z0c
theorem z5w (P:R0):Binds (KX P) y02 ["events","kinds"] []:=(z1h P).binds λ _ _ _ _ _ _=>us2 λ _ _=>rfl
theorem z4c:FnScope ["events","kinds"] ["events","kinds"] (z07 y0q):=.k
noncomputable abbrev y1i:Stmt:=top 38
noncomputable abbrev y0l:FuncData:=fnX "is_begin" "is_begin" (top 38) "talejudge.tales" 468 205
theorem z3l (P:R0):Fun (KX P) "is_begin" "is_begin" y1i 206 y0l:=z0c
theorem z99 (P:R0):Binds (KX P) y0l ["event","kinds"] []:=(z3l P).binds λ _ _ _ _ _ _=>us2 λ _ _=>rfl
theorem z8s:FnScope ["event","kinds"] ["event","kinds"] (z07 y1i):=.k
noncomputable abbrev y1v:Stmt:=top 39
noncomputable abbrev y19:FuncData:=fnX "is_end" "is_end" (top 39) "talejudge.tales" 468 212
theorem z71 (P:R0):Fun (KX P) "is_end" "is_end" y1v 213 y19:=z0c
theorem zei (P:R0):Binds (KX P) y19 ["event"] []:=(z71 P).binds λ _ _ _ _ _ _=>us1 λ _=>rfl
theorem zcc:FnScope ["event"] ["event"] (z07 y1v):=.k
noncomputable abbrev y1j:Stmt:=top 40
noncomputable abbrev y0m:FuncData:=fnX "is_event" "is_event" (top 40) "talejudge.tales" 468 219
theorem z38 (P:R0):Fun (KX P) "is_event" "is_event" y1j 220 y0m:=z0c
theorem zbi (P:R0):Binds (KX P) y0m ["event","word","many"] []:=(z38 P).binds λ _ _ _ _ _ _=>us3 λ _ _ _=>rfl
theorem z8h:FnScope ["event","word","many"] ["event","word","many"] (z07 y1j):=.k
noncomputable abbrev y1q:Stmt:=top 41
noncomputable abbrev y10:FuncData:=fnX "is_hand" "is_hand" (top 41) "talejudge.tales" 468 226
theorem z54 (P:R0):Fun (KX P) "is_hand" "is_hand" y1q 227 y10:=z0c
theorem zbm (P:R0):Binds (KX P) y10 ["hand"] []:=(z54 P).binds λ _ _ _ _ _ _=>us1 λ _=>rfl
theorem zay:FnScope ["hand"] ["hand"] (z07 y1q):=.k
noncomputable abbrev y1a:Stmt:=top 42
noncomputable abbrev y0d:FuncData:=fnX "is_answer" "is_answer" (top 42) "talejudge.tales" 468 233
theorem z2a (P:R0):Fun (KX P) "is_answer" "is_answer" y1a 234 y0d:=z0c
theorem z8x (P:R0):Binds (KX P) y0d ["answer"] []:=(z2a P).binds λ _ _ _ _ _ _=>us1 λ _=>rfl
theorem z70:FnScope ["answer"] ["answer"] (z07 y1a):=.k
noncomputable abbrev y0r:Stmt:=top 43
noncomputable abbrev y03:FuncData:=fnX "go_by_turns" "go_by_turns" (top 43) "talejudge.tales" 468 240
theorem z1l (P:R0):Fun (KX P) "go_by_turns" "go_by_turns" y0r 241 y03:=z0c
theorem z58 (P:R0):Binds (KX P) y03 ["events"] []:=(z1l P).binds λ _ _ _ _ _ _=>us1 λ _=>rfl
theorem sc_go_by_turns:FnScope ["events","busy","event","begins"] ["events"] (z07 y0r):=.k
noncomputable abbrev y1w:Stmt:=top 44
noncomputable abbrev y1l:FuncData:=fnX "deeds" "deeds" (top 44) "talejudge.tales" 468 247
theorem zbe (P:R0):Fun (KX P) "deeds" "deeds" y1w 248 y1l:=z0c
theorem zfr (P:R0):Binds (KX P) y1l ["tale"] []:=(zbe P).binds λ _ _ _ _ _ _=>us1 λ _=>rfl
theorem sc_deeds:FnScope ["tale","told","numbers","place","event","number","begun"] ["tale"] (z07 y1w):=.k
noncomputable abbrev y0s:Stmt:=top 47
noncomputable abbrev y04:FuncData:=fnX "plain_deeds" "plain_deeds" (top 47) "talejudge.zones" 570 253
theorem z1b (P:R0):Fun (KX P) "plain_deeds" "plain_deeds" y0s 254 y04:=z0c
theorem z5o (P:R0):Binds (KX P) y04 ["tale"] []:=(z1b P).binds λ _ _ _ _ _ _=>us1 λ _=>rfl
theorem sc_plain_deeds:FnScope ["tale","told"] ["tale"] (z07 y0s):=.k
noncomputable abbrev y1b:Stmt:=top 48
noncomputable abbrev y0e:FuncData:=fnX "are_plain" "are_plain" (top 48) "talejudge.zones" 570 258
theorem z2e (P:R0):Fun (KX P) "are_plain" "are_plain" y1b 259 y0e:=z0c
theorem z8o (P:R0):Binds (KX P) y0e ["told"] []:=(z2e P).binds λ _ _ _ _ _ _=>us1 λ _=>rfl
theorem sc_are_plain:FnScope ["told","worths"] ["told"] (z07 y1b):=.k
noncomputable abbrev y0t:Stmt:=top 49
noncomputable abbrev y05:FuncData:=fnX "is_answered" "is_answered" (top 49) "talejudge.zones" 570 265
theorem z1j (P:R0):Fun (KX P) "is_answered" "is_answered" y0t 266 y05:=z0c
theorem z5a (P:R0):Binds (KX P) y05 ["deed"] []:=(z1j P).binds λ _ _ _ _ _ _=>us1 λ _=>rfl
theorem z46:FnScope ["deed"] ["deed"] (z07 y0t):=.k
noncomputable abbrev y1r:Stmt:=top 50
noncomputable abbrev y11:FuncData:=fnX "writers" "writers" (top 50) "talejudge.zones" 570 272
theorem z51 (P:R0):Fun (KX P) "writers" "writers" y1r 273 y11:=z0c
theorem zc9 (P:R0):Binds (KX P) y11 ["told"] []:=(z51 P).binds λ _ _ _ _ _ _=>us1 λ _=>rfl
theorem sc_writers:FnScope ["told","found","deed"] ["told"] (z07 y1r):=.k
noncomputable abbrev y0u:Stmt:=top 51
noncomputable abbrev y06:FuncData:=fnX "ended_reads" "ended_reads" (top 51) "talejudge.zones" 570 277
theorem z1d (P:R0):Fun (KX P) "ended_reads" "ended_reads" y0u 278 y06:=z0c
theorem z61 (P:R0):Binds (KX P) y06 ["told"] []:=(z1d P).binds λ _ _ _ _ _ _=>us1 λ _=>rfl
theorem z4a:FnScope ["told"] ["told"] (z07 y0u):=.k
noncomputable abbrev y1x:Stmt:=top 52
noncomputable abbrev y1m:FuncData:=fnX "zones" "zones" (top 52) "talejudge.zones" 570 282
theorem zb7 (P:R0):Fun (KX P) "zones" "zones" y1x 283 y1m:=z0c
theorem zfj (P:R0):Binds (KX P) y1m ["tale"] []:=(zb7 P).binds λ _ _ _ _ _ _=>us1 λ _=>rfl
theorem sc_zones:FnScope ["tale","told","found","worth","write","spans"] ["tale"] (z07 y1x):=.k
noncomputable abbrev y1s:Stmt:=top 53
noncomputable abbrev y12:FuncData:=fnX "zone_of" "zone_of" (top 53) "talejudge.zones" 570 287
theorem z4v (P:R0):Fun (KX P) "zone_of" "zone_of" y1s 288 y12:=z0c
theorem zbp (P:R0):Binds (KX P) y12 ["worth","spans"] []:=(z4v P).binds λ _ _ _ _ _ _=>us2 λ _ _=>rfl
theorem sc_zone_of:FnScope ["worth","spans","least","greatest"] ["worth","spans"] (z07 y1s):=.k
noncomputable abbrev y1c:Stmt:=top 54
noncomputable abbrev y0f:FuncData:=fnX "collision" "collision" (top 54) "talejudge.zones" 570 294
theorem z2f (P:R0):Fun (KX P) "collision" "collision" y1c 295 y0f:=z0c
theorem z8v (P:R0):Binds (KX P) y0f ["tale"] []:=(z2f P).binds λ _ _ _ _ _ _=>us1 λ _=>rfl
theorem sc_collision:FnScope ["tale","told","written","number","read"] ["tale"] (z07 y1c):=.k
noncomputable abbrev y15:Stmt:=top 55
noncomputable abbrev y09:FuncData:=fnX "first_pair" "first_pair" (top 55) "talejudge.zones" 570 301
theorem z1x (P:R0):Fun (KX P) "first_pair" "first_pair" y15 302 y09:=z0c
theorem z6l (P:R0):Binds (KX P) y09 ["found"] []:=(z1x P).binds λ _ _ _ _ _ _=>us1 λ _=>rfl
theorem sc_first_pair:FnScope ["found","kind","zone","other"] ["found"] (z07 y15):=.k
noncomputable abbrev y1t:Stmt:=top 56
noncomputable abbrev y13:FuncData:=fnX "of_kind" "of_kind" (top 56) "talejudge.zones" 570 306
theorem z4y (P:R0):Fun (KX P) "of_kind" "of_kind" y1t 307 y13:=z0c
theorem zd7 (P:R0):Binds (KX P) y13 ["found","kind"] []:=(z4y P).binds λ _ _ _ _ _ _=>us2 λ _ _=>rfl
theorem zaw:FnScope ["found","kind"] ["found","kind"] (z07 y1t):=.k
noncomputable abbrev y1u:Stmt:=top 57
noncomputable abbrev y14:FuncData:=fnX "collide" "collide" (top 57) "talejudge.zones" 570 313
theorem z47 (P:R0):Fun (KX P) "collide" "collide" y1u 314 y14:=z0c
theorem zcp (P:R0):Binds (KX P) y14 ["zone","other"] []:=(z47 P).binds λ _ _ _ _ _ _=>us2 λ _ _=>rfl
theorem zal:FnScope ["zone","other"] ["zone","other"] (z07 y1u):=.k
noncomputable abbrev y1k:Stmt:=top 60
noncomputable abbrev y0n:FuncData:=fY "_law_row" "_law_row" (top 60) 327
theorem z34 (P:R0):Fun (KX P) "_law_row" "_law_row" y1k 328 y0n:=z0c
theorem zat (P:R0):Binds (KX P) y0n ["cell"] []:=(z34 P).binds λ _ _ _ _ _ _=>us1 λ _=>rfl
theorem z8e:FnScope ["cell"] ["cell"] (z07 y1k):=.k
noncomputable abbrev y1d:Stmt:=top 61
noncomputable abbrev y0g:FuncData:=fY "_law_take" "_law_take" (top 61) 334
theorem z2g (P:R0):Fun (KX P) "_law_take" "_law_take" y1d 335 y0g:=z0c
theorem z95 (P:R0):Binds (KX P) y0g ["row","many"] []:=(z2g P).binds λ _ _ _ _ _ _=>us2 λ _ _=>rfl
theorem sc__law_take:FnScope ["row","many","told"] ["row","many"] (z07 y1d):=.k
noncomputable abbrev y0v:Stmt:=top 62
noncomputable abbrev y07:FuncData:=fY "_law_answer" "_law_answer" (top 62) 339
theorem z1c (P:R0):Fun (KX P) "_law_answer" "_law_answer" y0v 340 y07:=z0c
theorem z5p (P:R0):Binds (KX P) y07 ["row","deed","now","rows","spoilt"] []:=(z1c P).binds λ _ _ _ _ _ _=>us5 λ _ _ _ _ _=>rfl
theorem sc__law_answer:FnScope ["row","deed","now","rows","spoilt","worths"] ["row","deed","now","rows","spoilt"] (z07 y0v):=.k
noncomputable abbrev y1e:Stmt:=top 63
noncomputable abbrev y0h:FuncData:=fY "_law_made" "_law_made" (top 63) 346
theorem z2j (P:R0):Fun (KX P) "_law_made" "_law_made" y1e 347 y0h:=z0c
theorem z8d (P:R0):Binds (KX P) y0h ["cells","most","spoilt"] []:=(z2j P).binds λ _ _ _ _ _ _=>us3 λ _ _ _=>rfl
theorem sc__law_made:FnScope ["cells","most","spoilt","rows","events","held","now","cell","row","hand","deed","verb","worth","late"] ["cells","most","spoilt"] (z07 y1e):=.k
noncomputable abbrev y16:Stmt:=top 64
noncomputable abbrev y0a:FuncData:=fY "_law_elder" "_law_elder" (top 64) 353
theorem z1t (P:R0):Fun (KX P) "_law_elder" "_law_elder" y16 354 y0a:=z0c
theorem z6y (P:R0):Binds (KX P) y0a ["rows","number"] []:=(z1t P).binds λ _ _ _ _ _ _=>us2 λ _ _=>rfl
theorem sc__law_elder:FnScope ["rows","number","told","one","other"] ["rows","number"] (z07 y16):=.k
noncomputable abbrev y0w:Stmt:=top 65
noncomputable abbrev y08:FuncData:=fY "_law_turned" "_law_turned" (top 65) 360
theorem z1i (P:R0):Fun (KX P) "_law_turned" "_law_turned" y0w 361 y08:=z0c
theorem z69 (P:R0):Binds (KX P) y08 ["events","place","hand","answer"] []:=(z1i P).binds λ _ _ _ _ _ _=>us4 λ _ _ _ _=>rfl
theorem z4z:FnScope ["events","place","hand","answer"] ["events","place","hand","answer"] (z07 y0w):=.k
noncomputable abbrev y1y:Stmt:=top 66
noncomputable abbrev fd_law:FuncData:=fY "law" "law" (top 66) 367
theorem F_law (P:R0):Fun (KX P) "law" "law" y1y 368 fd_law:=z0c
theorem sc_law:FnScope ["script","tale","rows","events","many","number","worth","turned"] ["script"] (z07 y1y):=.k
section
variable {P:Program} {w:N0} {mg:Str->Option Value} {base:Heap}
def z1p:Sp:=λ vs H Q _=>∃x T,vs=[x]/\TagOf H x T/\Q (.bl (decide (T = "int"))) H
theorem z94 (T:TX (kx w) mg):Fo P w mg base CX0 1 21 y0i ["value"] z1p:=by
 refine (z2y w.params).ok z96 (λ b H Q E h=>?_) (λ d A e s H b Q E c h=>?_)
 ·obtain ⟨x,t,rfl,_⟩:=h;rfl
 ·obtain ⟨x,t,rfl,a,q⟩:=h;refine ⟨_,(z05 (ps_ret (pe_and (z09 z0i rfl (T.no (z0h _)) F3 (z00 (pv 0) (z00 (z1r (v:=.ty "int") rfl (T.no (n_int _)) boot_int rfl) pa_nil))) (pe_one (pe_not (z09 z0i rfl (T.no (z0h _)) F3 (z00 (pv 0) (z00 (z1r (v:=.ty "bool") rfl (T.no (n_bool _)) boot_bool rfl) pa_nil)))))))),?_⟩;refine ⟨_,rfl,_,_,_,rfl,a,by decide,_,rfl,?_⟩;by_cases h1:instB t "int" = true
  ·rw [if_pos h1];refine ⟨_,rfl,_,_,_,rfl,a,by decide,_,rfl,?_⟩;rw [z48 a (by decide)];have:(!decide (t = "bool"))=decide (t = "int"):=by rcases a.one with rfl|rfl|rfl|rfl|rfl|rfl|rfl<;>revert h1<;>decide
   rw [this];exact q
  ·rw [if_neg h1];have:decide (t = "int")=false:=by rcases a.one with rfl|rfl|rfl|rfl|rfl|rfl|rfl<;>revert h1<;>decide
   rw [this] at q;exact q
def z1v:Sp:=λ vs H Q _=>∃x T g,vs=[x,.int g]/\TagOf H x T/\Q (.bl (z0q x g)) H
theorem z6o (T:TX (kx w) mg) (c0:Ca P w mg base "is_whole" ["value"] 1 z1p):Fo P w mg base CX0 2 28 y0b ["value","greatest"] z1v:=by
 refine (z2i w.params).ok z7b (λ c H Q E h=>?_) (λ d A e s H c Q E b h=>?_)
 ·obtain ⟨x,t,g,rfl,_⟩:=h;rfl
 ·obtain ⟨x,t,g,rfl,a,q⟩:=h;refine ⟨_,(z05 (ps_ret (pe_and (pe_cal c0 (b.mono (by decide)) rfl (z00 (pv 0) pa_nil)) (pe_one (z6f op_le op_le (pe_un un_neg (pv 1)) (pv 0) (pv 1)))))),?_⟩;refine ⟨_,rfl,x,t,rfl,a,_,rfl,?_⟩;by_cases h1:t = "int"
  ·subst h1;obtain ⟨i,rfl⟩:=a.int;refine iteT ?_;refine ⟨_,rfl,_,rfl,_,rfl,_,_,rfl,rfl,_,rfl,?_⟩;unfold z0q at q;dsimp only at q;by_cases h2:-g<=i
   ·rw [decide_eq_true h2] at q⊢;refine iteT ⟨_,rfl,_,_,rfl,rfl,?_⟩;rw [D6] at q;exact q
   ·rw [decide_eq_false h2] at q⊢;refine iteF ?_;rw [C5] at q;exact q
  ·rw [decide_eq_false h1];refine iteF ?_;rw [noInt a h1] at q;exact q
def z3u:Sp:=λ vs H Q _=>∃x T,vs=[x]/\TagOf H x T/\Q (.bl (z0q x 1000000000)) H
theorem z8y (T:TX (kx w) mg) (c0:Ca P w mg base "is_within" ["value","greatest"] 2 z1v):Fo P w mg base CX0 3 35 y0j ["value"] z3u:=by
 refine (z30 w.params).ok z8r (λ c H Q E h=>?_) (λ d A e s H c Q E a h=>?_)
 ·obtain ⟨x,t,rfl,_⟩:=h;rfl
 ·obtain ⟨x,t,rfl,b,q⟩:=h;refine ⟨_,(z05 (ps_ret (pe_cal c0 (a.mono (by decide)) rfl (z00 (pv 0) (z00 (z18 (v:=.int (1000000000)) rfl (T.of (z3e _)) ⟨_,rfl⟩) pa_nil))))),?_⟩;exact ⟨_,rfl,x,t,1000000000,rfl,b,q⟩
def z0v:Sp:=λ vs H Q _=>∃x T m,vs=[x,.int m]/\TagOf H x T/\Q (.bl (match tupOf H x with|some xs=>decide ((xs.length:Int)=m)|none=>false)) H
theorem z4h (T:TX (kx w) mg):Fo P w mg base CX0 1 47 y00 ["value","many"] z0v:=by
 refine (z1e w.params).ok z4u (λ f H Q E h=>?_) (λ j A k s H f Q E l h=>?_)
 ·obtain ⟨x,t,g,rfl,_⟩:=h;rfl
 ·obtain ⟨x,t,g,rfl,c,q⟩:=h;refine ⟨_,(z05 (ps_ret (pe_and (z09 z0i rfl (T.no (z0h _)) F3 (z00 (pv 0) (z00 (z1r (v:=.ty "tuple") rfl (T.no (za5 _)) boot_tuple rfl) pa_nil))) (pe_one (z1k opEq (z09 z0t rfl (T.no (n_len _)) T3 (z00 (pv 0) pa_nil)) (pv 1) (nomark _)))))),?_⟩;refine ⟨_,rfl,_,_,_,rfl,c,by decide,_,rfl,?_⟩;rw [z48 c (by decide)];by_cases h1:t = "tuple"
  ·subst h1;obtain ⟨a,b,rfl,d⟩:=c.tuple;refine iteT ⟨_,rfl,.inl ⟨a,b,rfl,.inr (SqT.of d),_,rfl,rfl,?_⟩⟩;have e:tupOf H (.ref a)=some b:=by unfold tupOf;dsimp only;rw [d]
   rw [e] at q;have i:decide (V.int (b.length:Int)=V.int g)=decide ((b.length:Int)=g):=by simp
   rw [i];exact q
  ·rw [decide_eq_false h1];refine iteF ?_;rw [noTup c h1] at q;exact q
noncomputable def kindB (x:V):Bool:=match x with
 | .str z=>(kl_FIRST_STATES.lookup z).isSome
 | _=>false
def z32:Sp:=λ vs H Q _=>∃x T,vs=[x]/\TagOf H x T/\Q (.bl (kindB x)) H
theorem z9z (T:TX (kx w) mg):Fo P w mg base CX0 1 169 y0y ["kind"] z32:=by
 refine (z4k w.params).ok z9k (λ b H Q E h=>?_) (λ d A e s H b Q E c h=>?_)
 ·obtain ⟨x,t,rfl,_⟩:=h;rfl
 ·obtain ⟨x,t,rfl,a,q⟩:=h;refine ⟨_,(z05 (ps_ret (pe_and (z09 z0i rfl (T.no (z0h _)) F3 (z00 (pv 0) (z00 (z1r (v:=.ty "str") rfl (T.no (n_str _)) P9 rfl) pa_nil))) (pe_one (z1k (zen (z3r _)) (pv 0) (z18 (v:=.ref 85) rfl (T.of (z4x _)) rfl) (by with_unfolding_all rfl)))))),?_⟩;refine ⟨_,rfl,_,_,_,rfl,a,by decide,_,rfl,?_⟩;rw [z48 a (by decide)];by_cases h1:t = "str"
  ·subst h1;obtain ⟨z,rfl⟩:=a.str;exact iteT ⟨_,rfl,z,rfl,rfl,q⟩
  ·rw [decide_eq_false h1];refine iteF ?_;cases x with
   | str z=>exact absurd a h1
   | _=>exact q
noncomputable def formOf (k v:Str):Int:=match kl_DOERS.lookup (k,v) with
 | none=>-1
 | some _=>(match kl_WORTHS_OF_VERBS.lookup v with|some (.int i)=>i|_=>-1)
noncomputable def deedB (H:Hp) (k v x:V):Bool:=match k,v with
 | .str a,.str b=>if formOf a b=0 then decide (x=.non) else if formOf a b=1 then z0q x 1000000000 else if formOf a b=2 then
   (match tupOf H x with|some xs=>decide (xs.length=2) && xs.all λ y=>z0q y 1000000000|none=>false) else false
 | _,_=>false
theorem z5v {a b:Str} {v:V} (h:kl_DOERS.lookup (a,b)=some v):(kl_FIRST_STATES.lookup a).isSome=true/\∃i,kl_WORTHS_OF_VERBS.lookup b=some (.int i)/\(i=0\/i=1\/i=2):=by
 have m:=z79 h;have all :∀p∈kl_DOERS,(kl_FIRST_STATES.lookup p.1.1).isSome=true/\(kl_WORTHS_OF_VERBS.lookup p.1.2=some (.int 0)\/kl_WORTHS_OF_VERBS.lookup p.1.2=some (.int 1)\/kl_WORTHS_OF_VERBS.lookup p.1.2=some (.int 2)):=by decide +kernel
 obtain ⟨d,c⟩:=all _ m;refine ⟨d,?_⟩;rcases c with c|c|c
 ·exact ⟨0,c,.inl rfl⟩
 ·exact ⟨1,c,.inr (.inl rfl)⟩
 ·exact ⟨2,c,.inr (.inr rfl)⟩
def z67:Sp:=λ vs H Q _=>∃k v x Tk Tv Tx,vs=[k,v,x]/\TagOf H k Tk/\TagOf H v Tv/\TagOf H x Tx/\Flat H x/\∀H',Same H H'->Q (.bl (deedB H k v x)) H'
theorem zb0 (T:TX (kx w) mg) (c0:Ca P w mg base "is_kind" ["kind"] 1 z32) (c1:Ca P w mg base "is_worth" ["value"] 3 z3u) (c2:Ca P w mg base "is_tuple_of" ["value","many"] 1 z0v):Fo P w mg base CX0 4 174 y0z ["kind","verb","worth"] z67:=by
 refine (z4m w.params).ok sc_is_deed (λ Z H Q E h=>?_) (λ a1 A a2 s H Z Q E n h=>?_)
 ·obtain ⟨k,v,x,L,S,B,rfl,_⟩:=h;rfl
 ·obtain ⟨k,v,x,L,S,B,rfl,Y,o,F,hf,q⟩:=h;refine ⟨_,(z06 (ps_if (PW.pt (pw_or (pt_not (pt_val (pe_cal c0 (n.mono (by decide)) rfl (z00 (pv 0) pa_nil)) (λ _=>rfl))) (pw_or (pt_not (pt_val (z09 z0i rfl (T.no (z0h _)) F3 (z00 (pv 1) (z00 (z1r (v:=.ty "str") rfl (T.no (n_str _)) P9 rfl) pa_nil))) (λ _=>rfl))) (pw_or1 (z08 (z6v (hu_of n) (zep _)) (pe_tup (z00 (pv 0) (z00 (pv 1) pa_nil))) (z18 (v:=.ref 150) rfl (T.of (zfk _)) rfl) (by with_unfolding_all rfl))))))
   (z05 (ps_ret pe_bl))
   z0d)
   (z06 (ps_set (i:=3) sc_is_deed.nd rfl (L1 rfl) (pe_ix (ix_kd (z2h _)) (z18 (v:=.ref 88) rfl (T.of (z2s _)) rfl) (pv 1) (λ _ _=>rfl)))
   (z06 (ps_if (z08 opEq (pv 3) pe_int (nomark _))
   (z05 (ps_ret (z1k op_isN (pv 2) pe_non (nomark _))))
   z0d)
   (z06 (ps_if (z08 opEq (pv 3) pe_int (nomark _))
   (z05 (ps_ret (pe_cal c1 (n.mono (by decide)) rfl (z00 (pv 2) pa_nil))))
   z0d)
   (z05 (ps_ret (pe_and (pe_cal c2 (n.mono (by decide)) rfl (z00 (pv 2) (z00 (pv 3) pa_nil))) (pe_one (z09 (z25 rfl) rfl (T.no (n_all _)) Q9 (z00 (pe_cg (xs:=["part"]) (g:=gName 0) (fr:=[]) (pi_tup (pv 2)) (λ _ _ _ _ _=>(pg_cn (N:=["part"]) 0)) (λ _ _ _ _ _=>pf_nil) (λ _ _ _ _ _=>(pe_cal c1 (n.mono (by decide)) rfl (z00 (pv 0) pa_nil)))) pa_nil)))))))))),?_⟩
  refine ⟨_,rfl,k,L,rfl,Y,_,rfl,?_⟩;have G:deedB H k v x=false->Q (.bl false) H:=λ e=>by have:=q H (Same.refl H);rw [e] at this;exact this
  by_cases j :∃a,k=.str a/\(kl_FIRST_STATES.lookup a).isSome=true
  ·obtain ⟨a,rfl,j⟩:=j;have U:kindB (.str a)=true:=j;rw [U];refine iteF ?_;refine ⟨_,rfl,_,_,_,rfl,o,by decide,_,rfl,?_⟩;rw [z48 o (by decide)];by_cases r:S = "str"
   ·subst r;obtain ⟨b,rfl⟩:=o.str;refine iteF ?_;refine ⟨_,rfl,_,rfl,?_⟩;refine ⟨w_2,λ p hp=>⟨p,a,b,rfl,z01,rfl,_,rfl,?_⟩⟩;have d:Same H (upd H p (.tup [.str a,.str b])):=Same.upd hp;cases h3:kl_DOERS.lookup (a,b) with
    | none=>
     refine iteT ?_;have:=q _ d;have e:deedB H (.str a) (.str b) x=false:=by unfold deedB formOf;dsimp only;rw [h3];rfl
     rw [e] at this;exact this
    | some z=>
     refine iteF ?_;obtain ⟨_,i,O,h5⟩:=z5v h3;have t:formOf a b=i:=by unfold formOf;rw [h3];dsimp only;rw [O]
     refine ⟨_,rfl,b,.int i,rfl,rfl,O,?_⟩;refine ⟨_,rfl,rfl,_,rfl,?_⟩;rcases h5 with rfl|rfl|rfl
     ·refine iteT ⟨_,rfl,rfl,?_⟩;have:=q _ d;have e:deedB H (.str a) (.str b) x=decide (x=.non):=by unfold deedB;dsimp only;rw [t];rfl
      rw [e] at this;exact this
     ·refine iteF ⟨_,rfl,rfl,_,rfl,?_⟩;refine iteT ⟨_,rfl,x,B,rfl,F.same d,?_⟩;have:=q _ d;have e:deedB H (.str a) (.str b) x=z0q x 1000000000:=by unfold deedB;dsimp only;rw [t];rfl
      rw [e] at this;exact this
     ·refine iteF ⟨_,rfl,rfl,_,rfl,?_⟩;refine iteF ⟨_,rfl,_,rfl,x,B,2,rfl,F.same d,_,rfl,?_⟩;rw [zbh F d];have e:deedB H (.str a) (.str b) x=(match tupOf H x with|some xs=>decide (xs.length=2) && xs.all λ y=>z0q y 1000000000|none=>false):=by unfold deedB;dsimp only;rw [t];rfl
      rw [e] at q;cases ht:tupOf H x with
      | none=>rw [ht] at q;exact iteF (q _ d)
      | some xs=>
       rw [ht] at q;dsimp only at q⊢;by_cases m:xs.length=2
       ·have D:((xs.length:Nat):Int)=2:=by omega
        rw [if_pos (decide_eq_true D)];rw [decide_eq_true m,D6] at q;obtain ⟨c,rfl,hc⟩:=z9v ht;have a0:xs.length<=sizeLine:=by rw [m];decide
        refine e_cb1 ?_;refine z85 (K:=KX w.params) (a:=c) (xs:=xs) (H1:=upd H p (.tup [.str a,.str b])) (λ _=>true) (λ i y _=>y=.bl (z0q (xs[i]?.getD .non) 1000000000)) (λ _ _ _ _ _ z=>z) (λ R h=>⟨_,rfl,h⟩) (SqT.of (d _ _ hc)) a0 ?_ ?_
        ·intro i M u W C J KT KF X k2;obtain ⟨Ty,ty⟩:=(hf xs ht).2 u (o0 J);refine ⟨[some u],rfl,rfl,iteT ?_⟩;exact ⟨_,rfl,u,Ty,rfl,(ty.same d).same C,X rfl _ _ (Same.refl _) (by rw [J];rfl)⟩
        ·intro l W ys C m I;rw [List.filter_eq_self.mpr (λ _ _=>rfl)] at I;have ey:ys=xs.map λ y=>V.bl (z0q y 1000000000):=by
          rw [z1q (f:=λ i=>V.bl (z0q (xs[i]?.getD .non) 1000000000)) I];apply List.ext_getElem
          ·simp
          ·intro i j r;have M:i < xs.length:=by simpa using j
           simp [Y0 M]
         subst ey;refine ⟨l,_,rfl,SqL.of z01,λ y hy=>?_,?_⟩
         ·obtain ⟨z,_,rfl⟩:=List.mem_map.mp hy;exact ⟨_,rfl⟩
         ·have e9:((xs.map λ y=>V.bl (z0q y 1000000000)).all λ y=>decide (y=V.bl true))=xs.all λ y=>z0q y 1000000000:=by rw [List.all_map];congr 1;funext y;simp
          rw [e9];exact q _ ((d.trans C).trans (Same.upd m))
       ·have D:¬ ((xs.length:Nat):Int)=2:=by omega
        rw [if_neg (by rw [decide_eq_false D];exact O0)];rw [decide_eq_false m,C5] at q;exact q _ d
   ·rw [decide_eq_false r];refine iteT ?_;exact G (by unfold deedB;cases v with|str z=>exact absurd o r|_=>rfl)
  ·have e1:kindB k=false:=by
    cases k with
    | str z=>exact Bool.eq_false_iff.mpr λ e=>j ⟨z,rfl,e⟩
    | _=>rfl
   rw [e1];refine iteT ?_;refine G ?_;cases k with
   | str a=>
    cases v with
    | str b=>
     unfold deedB formOf;dsimp only;cases h3:kl_DOERS.lookup (a,b) with
     | none=>rfl
     | some z=>exact absurd ⟨a,rfl,(z5v h3).1⟩ j
    | _=>rfl
   | _=>rfl
inductive Ev
 | beg (h:Int) (n v x:V)
 | fin (h:Int) (a:V)
noncomputable def EvAt (K:c0) (H:Hp):Ev->V->Prop
 | .beg h n v x,y=>∃p,y=.ref p/\SqT K H p [.str "begin",.int h,n,v,x]
 | .fin h a,y=>∃p,y=.ref p/\SqT K H p [.str "end",.int h,a]
structure Rc where
 h:Int
 n:V
 v:V
 x:V
 a:V
 b:Nat
 e:Option Nat
noncomputable def endV:Option Nat->V
 | none=>.non
 | some i=>.int i
def RcAt (K:c0) (H:Hp) (r:Rc) (y:V):Prop:=∃p,y=.ref p/\SqT K H p [.int r.h,r.n,r.v,r.x,r.a,.int r.b,endV r.e]
def Tups (K:c0) (H H':Hp):Prop:=∀a xs,SqT K H a xs->SqT K H' a xs
theorem Tups.of {K:c0} {H H':Hp} (s:Same H H'):Tups K H H':=λ _ _ q=>s.seqT q
theorem Tups.lst {K:c0} {H:Hp} {l:Addr} {o:HO} {zs:List V} (e:H l=some (.lst zs)):Tups K H (upd H l o):=λ _ _ q=>q.wrote e
theorem Tups.dict {K:c0} {H:Hp} {l:Addr} {o:HO} {kvs:List (Key×V)} (e:H l=some (.dK kvs)):Tups K H (upd H l o):=λ a b h=>by
 rcases h with (h|⟨ob,h⟩)|h
 ·exact .inl (.inl (by rw [upd_ne (ne_of h e (by intro z;cases z))];exact h))
 ·exact .inl (.inr ⟨ob,by rw [upd_ne (ne_of h e (by intro z;cases z))];exact h⟩)
 ·exact .inr h
theorem zfn {n j:Nat} (h:j < n):ixN n (j:Nat)=some j:=by unfold ixN;rw [if_pos (by omega),if_pos (by omega)];rfl
theorem Same.keep {H H':Hp} {l:Addr} {o:HO} (s:Same H H') (n:H l=none):Same H (upd H' l o):=λ a x e=>by rw [upd_ne (z0e e n)];exact s a x e
theorem z0r {α β:Type} {R:α->β->Prop} {x:α} {y:β} :∀{xs:List α} {ys:List β},All2 R xs ys->R x y->All2 R (xs++[x]) (ys++[y])
 | _,_,.nil,h=>.cons h .nil
 | _,_,.cons a r,h=>.cons a (z0r r h)
theorem za8 {κ:Type} [DecidableEq κ] {kvs:List (κ×V)} {k:κ} {v:V}:(putK kvs k v).length<=kvs.length + 1:=by
 unfold putK;by_cases z:(kvs.any λ a=>decide (a.1=k))=true
 ·rw [if_pos z,G0];omega
 ·rw [if_neg z,F0];exact A0 _
noncomputable def lastI (h:Int) (hs:List Int):Option Nat:=(hs.foldl (λ (acc:Nat×Option Nat) k=>(acc.1 + 1,if k=h then some acc.1 else acc.2)) (0,none)).2
theorem lastF (h:Int) :∀hs:List Int,(hs.foldl (λ (acc:Nat×Option Nat) k=>(acc.1 + 1,if k=h then some acc.1 else acc.2)) (0,none)).1=hs.length:=by
 have b :∀(hs:List Int) (a:Nat×Option Nat),(hs.foldl (λ (acc:Nat×Option Nat) k=>(acc.1 + 1,if k=h then some acc.1 else acc.2)) a).1=a.1 + hs.length:=by
  intro hs;induction hs with
  | nil=>intro a;rfl
  | cons k hs ih=>intro a;rw [O8,ih,i1];show a.1 + 1 + hs.length=_;omega
 intro hs;rw [b hs (0,none)];simp
theorem z29 (h k:Int) (hs:List Int):lastI h (hs++[k])=if k=h then some hs.length else lastI h hs:=by unfold lastI;rw [g8];show (if k=h then some _ else _)=_;rw [lastF]
theorem z6q {h:Int} {hs:List Int} {j:Nat} (e:lastI h hs=some j):j < hs.length:=by
 have c :∀(hs:List Int) (a:Nat×Option Nat),(∀j,a.2=some j->j < a.1)->∀j,(hs.foldl (λ (acc:Nat×Option Nat) k=>(acc.1 + 1,if k=h then some acc.1 else acc.2)) a).2=some j->j < a.1 + hs.length:=by
  intro hs;induction hs with
  | nil=>intro a b j e;exact b j e
  | cons k hs ih=>
   intro a b j e;rw [O8] at e;have:=ih (a.1 + 1,if k=h then some a.1 else a.2) (λ j e=>by
    dsimp only at e⊢;by_cases z:k=h
    ·rw [if_pos z] at e;cases e;omega
    ·rw [if_neg z] at e;have:=b j e;omega) j e
   rw [i1];dsimp only at this;omega
 have:=c hs (0,none) (λ j e=>by cases e) j e;simpa using this
noncomputable def dstep (i:Nat) (rs:List Rc):Ev->List Rc
 | .beg h n v x=>rs++[⟨h,n,v,x,.non,i,none⟩]
 | .fin h a=>match lastI h (rs.map Rc.h) with|some j=>rs.modify j (λ r=>{ r with a:=a,e:=some i })|none=>rs
noncomputable def dAll:Nat->List Rc->List Ev->List Rc
 | _,rs,[]=>rs
 | i,rs,e :: es=>dAll (i + 1) (dstep i rs e) es
noncomputable def dWf:Nat->List Rc->List Ev->Prop
 | _,_,[]=>True
 | i,rs,e :: es=>(∀h a,e=.fin h a->(lastI h (rs.map Rc.h)).isSome=true)/\dWf (i + 1) (dstep i rs e) es
theorem RcAt.tups {K:c0} {H H':Hp} {r:Rc} {y:V} (t:Tups K H H') (h:RcAt K H r y):RcAt K H' r y:=h.elim λ p z=>⟨p,z.1,t _ _ z.2⟩
theorem EvAt.tups {K:c0} {H H':Hp} (t:Tups K H H') :∀{e:Ev} {y:V},EvAt K H e y->EvAt K H' e y
 | .beg h n v x,_,z=>z.elim λ p z=>⟨p,z.1,t _ _ z.2⟩
 | .fin h a,_,z=>z.elim λ p z=>⟨p,z.1,t _ _ z.2⟩
theorem z3v {α β:Type} {R:α->β->Prop} {f:α->α} {y:β} :∀{xs:List α} {ys:List β} {j:Nat} {x:α},All2 R xs ys->xs[j]? = some x->R (f x) y->All2 R (xs.modify j f) (ys.set j y)
 | _,_,_,_,.nil,e,_=>by simp at e
 | _,_,0,x,.cons a r,e,h=>by rw [R1] at e;cases e;exact .cons h r
 | _,_,j + 1,x,.cons a r,e,h=>by rw [B1] at e;exact .cons a (z3v r e h)
theorem z2o {α β:Type} {R:α->β->Prop} :∀{xs:List α} {ys:List β} {i:Nat} {x:α},All2 R xs ys->xs[i]? = some x->∃y,ys[i]? = some y/\R x y
 | _,_,i,x,.nil,e=>by simp at e
 | _,_,0,x,.cons a _,e=>by rw [R1] at e;cases e;exact ⟨_,R1,a⟩
 | _,_,i + 1,x,.cons _ r,e=>by rw [B1] at e;obtain ⟨y,c,b⟩:=z2o r e;exact ⟨y,by rw [B1];exact c,b⟩
def za2 (K:c0):Sp:=λ vs H Q _=>∃(t te:Addr) (th:V) (ys:List V) (es:List Ev),vs=[.ref t]/\SqT K H t [th,.ref te]/\SqT K H te ys/\All2 (EvAt K H) es ys/\es.length<=100/\dWf 0 [] es/\
 ∀l zs H',Same H H'->H l=none->H' l=some (.lst zs)->All2 (RcAt K H') (dAll 0 [] es) zs->Q (.ref l) H'
theorem zej (T:TX (kx w) mg):Fo P w mg base CX0 1 248 y1l ["tale"] (za2 (kx w)):=by
 refine (zbe w.params).ok sc_deeds (λ vs H Q E h=>?_) (λ c3 A c2 s H vs Q E hr h=>?_)
 ·obtain ⟨t,te,th,ys,C,rfl,_⟩:=h;rfl
 ·obtain ⟨t,te,th,ys,C,rfl,st,se,al,hl,wf,q⟩:=h;refine ⟨_,(z06 (ps_set (i:=1) sc_deeds.nd rfl (L1 rfl) (pe_lst pa_nil))
   (z06 (ps_set (i:=2) sc_deeds.nd rfl (L1 rfl) z6i)
   (z06 (ps_for C2 rfl (zec rfl (T.no (z3y _)) (z00 (pe_ix ix_seq (pv 0) pe_int (λ _ _=>rfl)) pa_nil)) (pg_tup rfl (z0l (z0m (i:=3) sc_deeds.nd rfl (L1 rfl)) (z0l (z0m (i:=4) sc_deeds.nd rfl (L1 rfl)) z26)))
   (z05 (ps_if (z08 opEq (pe_ix ix_seq (pv 4) pe_int (λ _ _=>rfl)) pe_str (nomark _))
   (z06 (z88 (hu_of hr) (pv 2) (pe_ix ix_seq (pv 4) pe_int (λ _ _=>rfl)) (z09 z0t rfl (T.no (n_len _)) T3 (z00 (pv 1) pa_nil)) rfl)
   (z05 (z3s (z1o (pv 1) (z00 (pe_op opAdd (z14 slSeq (pv 4) (z1s pe_int) z2r) (pe_tup (z00 pe_non (z00 (pv 3) (z00 pe_non pa_nil))))) pa_nil)))))
   (z06 (ps_set (i:=5) sc_deeds.nd rfl (L1 rfl) (zbg (hu_of hr) (pv 2) (pe_ix ix_seq (pv 4) pe_int (λ _ _=>rfl)) (λ _ _=>rfl)))
   (z06 (ps_set (i:=6) sc_deeds.nd rfl (L1 rfl) (pe_ix ix_seq (pv 1) (pv 5) (λ _ _=>rfl)))
   (z05 (ps_asg (pe_op opAdd (z14 slSeq (pv 6) z2r (z1s pe_int)) (pe_tup (z00 (pe_ix ix_seq (pv 4) pe_int (λ _ _=>rfl)) (z00 (pe_ix ix_seq (pv 6) pe_int (λ _ _=>rfl)) (z00 (pv 3) pa_nil))))) (pg_sub (pv 1) (pv 5) z3h))))))))
   (z05 (ps_ret (pv 1)))))),?_⟩
  refine ⟨w_0,λ l Z=>?_⟩;intro d a0;have R:l≠d:=z0e z01 a0;have s0:upd H l (.lst []) d=none->H d=none:=λ z=>by rwa [upd_ne R.symm] at z
  have s2:Same H (upd (upd H l (.lst [])) d (.dK [])):=(Same.upd Z).trans (Same.upd a0);have e1:upd (upd H l (.lst [])) d (.dK []) l=some (.lst []):=by rw [upd_ne R];exact z01
  have e2:upd (upd H l (.lst [])) d (.dK []) d=some (.dK []):=z01;generalize upd (upd H l (.lst [])) d (.dK [])=H2 at s2 e1 e2⊢;have b7:=z04 al;refine ⟨_,rfl,.inr (.inl ⟨t,_,1,.ref te,rfl,rfl,s2.seqT st,z03 (j:=1) rfl,te,ys,rfl,s2.seqT se,?_⟩)⟩;refine zcs (K:=KX w.params) (a:=te) (xs:=ys) (λ i σ S=>∃c f g,S l=some (.lst f)/\All2 (RcAt (kx w) S) c f/\S d=some (.dK g)/\g.length<=i/\c.length<=i/\(∀h,valV g (.inl h)=(lastI h (c.map Rc.h)).map λ j=>V.int (j:Nat))/\dAll i c (C.drop i)=dAll 0 [] C/\dWf i c (C.drop i)/\Same H S/\∃x3 x4 x5 x6,σ=[some (.ref t),some (.ref l),some (.ref d),x3,x4,x5,x6])
   ⟨[],[],[],e1,.nil,e2,A0 _,A0 _,λ h=>rfl,by rw [Q4],by rw [Q4];exact wf,s2,_,_,_,_,rfl⟩ (λ i σ S h=>?_) ?_ ?_
  ·obtain ⟨c,f,g,_,_,_,_,_,_,_,_,s',_⟩:=h;exact s'.seqT se
  ·rintro i y σ H3 p hy ⟨c,f,g,el,ar,ed,hk,hr',hv,G,dw,s3,x3,x4,x5,x6,rfl⟩ hp;obtain ⟨e,he,ev⟩:=z0a al hy;obtain ⟨hi,ee⟩:=List.getElem?_eq_some_iff.mp he;have dr:C.drop i=e :: C.drop (i + 1):=by rw [w6 hi,ee]
   rw [dr] at G dw;have s4:=s3.trans (Same.upd (o:=.tup [.int i,y]) hp);have U:=(Same.upd (o:=.tup [.int i,y]) hp) _ _ el;have W:=(Same.upd (o:=.tup [.int i,y]) hp) _ _ ed;have Y:=z02 (λ a b z=>RcAt.tups (.of (Same.upd (o:=.tup [.int i,y]) hp)) z) ar;have a8:upd H3 p (.tup [.int i,y]) p=some (.tup [.int i,y]):=z01;generalize upd H3 p (.tup [.int i,y])=H4 at s4 U W Y a8⊢;have a5:=EvAt.tups (.of s4) ev;refine ⟨p,_,rfl,SqT.of a8,rfl,.int i,_,rfl,y,_,rfl,rfl,?_⟩;have lz:f.length=c.length:=z04 Y;have a7:100<=sizeLine:=by decide
   have a6:i < 100:=S0 hi hl;cases e with
   | beg h n v x=>
    obtain ⟨J,rfl,I⟩:=a5;refine ⟨_,rfl,.inr (.inl ⟨J,_,0,.str "begin",rfl,rfl,I,z03 (j:=0) rfl,rfl,_,rfl,iteP (decide_eq_true rfl) ?_⟩)⟩;refine ⟨_,rfl,.inl ⟨l,f,rfl,.inl (SqL.of U),⟨_,rfl,⟨_,rfl,.inr (.inl ⟨J,_,1,.int h,rfl,rfl,I,z03 (j:=1) rfl,d,_,rfl,DPut.k (k:=.inl h) W (U1 hk (S0 a6 a7)),?_⟩)⟩⟩⟩⟩;have b5:H d=none:=s0 a0;have t5:Tups (kx w) H4 (upd H4 d (.dK (putK g (.inl h) (.int (f.length:Nat))))):=Tups.dict W;have s5:=Same.keep (o:=.dK (putK g (.inl h) (.int (f.length:Nat)))) s4 b5;have a4:upd H4 d (.dK (putK g (.inl h) (.int (f.length:Nat)))) l=some (.lst f):=by rw [upd_ne R];exact U
    have a9:upd H4 d (.dK (putK g (.inl h) (.int (f.length:Nat)))) d=some (.dK (putK g (.inl h) (.int (f.length:Nat)))):=z01;generalize upd H4 d (.dK (putK g (.inl h) (.int (f.length:Nat))))=H5 at t5 s5 a4 a9⊢;have c0:=t5 _ _ I;have b6:=z02 (λ a b z=>RcAt.tups t5 z) Y;refine ⟨_,rfl,.inl ⟨rfl,f,SqL.of a4⟩,⟨_,rfl,1,rfl,.inr (.inl ⟨J,_,rfl,c0,λ z=>absurd z.1 (show ¬ HT.sIx 5 0 (some 1)=0 by decide),λ D L=>?_⟩)⟩⟩;have c1:cutV [V.str "begin",.int h,n,v,x] (some 1) none=[.int h,n,v,x]:=rfl;rw [c1];refine ⟨_,rfl,w_3,λ F N=>.inr (.inr (.inr ⟨D,F,_,_,rfl,rfl,(Same.upd N).seqT (SqT.of z01),SqT.of z01,by simp,w_7,λ z=>(by cases z),λ _ u a3=>?_⟩))⟩;have B:Same H5 (upd (upd (upd H5 D (.tup [.int h,n,v,x])) F (.tup [.non,.int i,.non])) u (.tup ([.int h,n,v,x]++[.non,.int i,.non]))):=((Same.upd L).trans (Same.upd N)).trans (Same.upd a3);have M:upd (upd (upd H5 D (.tup [.int h,n,v,x])) F (.tup [.non,.int i,.non])) u (.tup ([.int h,n,v,x]++[.non,.int i,.non])) u=some (.tup ([.int h,n,v,x]++[.non,.int i,.non])):=z01;generalize upd (upd (upd H5 D (.tup [.int h,n,v,x])) F (.tup [.non,.int i,.non])) u (.tup ([.int h,n,v,x]++[.non,.int i,.non]))=H6 at B M⊢;have O:=B _ _ a4;have a1:=B _ _ a9;have a2:=z02 (λ a b z=>RcAt.tups (.of B) z) b6;have X:Tups (kx w) H6 (upd H6 l (.lst (f++[.ref u]))):=Tups.lst O;refine ⟨l,f,_,rfl,rfl,O,U1 (J0 (d7 lz) hr') (S0 a6 a7),?_⟩;refine ⟨c++[⟨h,n,v,x,.non,i,none⟩],f++[.ref u],putK g (.inl h) (.int (f.length:Nat)),z01,?_,?_,?_,?_,?_,(show dAll (i + 1) (dstep i c (.beg h n v x)) _=_ from G),dw.2,Same.keep (s5.trans B) Z,_,_,_,_,rfl⟩
    ·exact z0r (z02 (λ a b z=>RcAt.tups X z) a2) ⟨u,rfl,X _ _ (SqT.of M)⟩
    ·rw [upd_ne R.symm];exact a1
    ·exact J0 za8 (by omega)
    ·rw [F0];show c.length + 1<=i + 1;omega
    ·intro k;rw [z6t,P2];show _=Option.map _ (lastI k (c.map Rc.h++[h]));rw [z29,hv k,G0,lz];by_cases z:h=k
     ·rw [if_pos z,if_pos (by rw [z])];rfl
     ·rw [if_neg z,if_neg (λ y=>z (j4 y).symm)]
   | fin h a=>
    obtain ⟨J,rfl,I⟩:=a5;obtain ⟨j,hj⟩:=Option.isSome_iff_exists.mp (dw.1 h a rfl);have b9:valV g (.inl h)=some (.int (j:Nat)):=by rw [hv h,hj];rfl
    have b2:j < c.length:=by have:=z6q hj;rwa [G0] at this
    have b1:c[j]? = some c[j]:=Y0 b2;obtain ⟨yj,b8,pj,rfl,sj⟩:=z2o Y b1;have b4:DGet H4 d (.int h) (some (.int (j:Nat))):=b9 ▸ DGet.k (k:=.inl h) W;refine ⟨_,rfl,.inr (.inl ⟨J,_,0,.str "end",rfl,rfl,I,z03 (j:=0) rfl,rfl,_,rfl,iteK ?_⟩)⟩;refine ⟨_,rfl,⟨_,rfl,.inr (.inl ⟨J,_,1,.int h,rfl,rfl,I,z03 (j:=1) rfl,d,_,rfl,b4,?_⟩)⟩⟩;refine ⟨_,rfl,_,rfl,.inl ⟨l,f,j,.ref pj,rfl,rfl,SqL.of U,z03 b8,?_⟩⟩;refine ⟨_,rfl,4,rfl,.inr (.inl ⟨pj,_,rfl,sj,λ z=>absurd z.2 (show ¬ HT.sIx 7 7 (some 4)=7 by decide),λ D L=>?_⟩)⟩;have c1:cutV [.int c[j].h,c[j].n,c[j].v,c[j].x,c[j].a,.int c[j].b,endV c[j].e] none (some 4)=[.int c[j].h,c[j].n,c[j].v,c[j].x]:=rfl;rw [c1];refine ⟨_,rfl,.inr (.inl ⟨J,_,2,a,rfl,rfl,(Same.upd L).seqT I,z03 (j:=2) rfl,?_⟩)⟩;refine ⟨_,rfl,.inr (.inl ⟨pj,_,5,.int c[j].b,rfl,rfl,(Same.upd L).seqT sj,z03 (j:=5) rfl,?_⟩)⟩;refine ⟨_,rfl,w_3,λ F N=>.inr (.inr (.inr ⟨D,F,_,_,rfl,rfl,(Same.upd N).seqT (SqT.of z01),SqT.of z01,by simp,w_7,λ z=>(by cases z),λ _ u a3=>?_⟩))⟩;have B:Same H4 _:=((Same.upd L).trans (Same.upd N)).trans (Same.upd (o:=.tup ([.int c[j].h,c[j].n,c[j].v,c[j].x]++[a,.int c[j].b,.int (i:Nat)])) a3);have M:upd (upd (upd H4 D (.tup [.int c[j].h,c[j].n,c[j].v,c[j].x])) F (.tup [a,.int c[j].b,.int (i:Nat)])) u (.tup ([.int c[j].h,c[j].n,c[j].v,c[j].x]++[a,.int c[j].b,.int (i:Nat)])) u=some (.tup ([.int c[j].h,c[j].n,c[j].v,c[j].x]++[a,.int c[j].b,.int (i:Nat)])):=z01;generalize upd (upd (upd H4 D (.tup [.int c[j].h,c[j].n,c[j].v,c[j].x])) F (.tup [a,.int c[j].b,.int (i:Nat)])) u (.tup ([.int c[j].h,c[j].n,c[j].v,c[j].x]++[a,.int c[j].b,.int (i:Nat)]))=H6 at B M⊢;have O:=B _ _ U;have a1:=B _ _ W;have a2:=z02 (λ a b z=>RcAt.tups (.of B) z) Y;have X:Tups (kx w) H6 (upd H6 l (.lst (f.set j (.ref u)))):=Tups.lst O;refine ⟨_,rfl,_,rfl,l,f,j,j,rfl,rfl,O,zfn (show j < f.length by rw [lz];exact b2),?_⟩;have dd:dstep i c (.fin h a)=c.modify j (λ r=>{ r with a:=a,e:=some i }):=by unfold dstep;dsimp only;rw [hj]
    have b0:dAll (i + 1) (dstep i c (.fin h a)) (List.drop (i + 1) C)=_:=G;have b3:=dw.2;rw [dd] at b0 b3;have mh:(c.modify j (λ r=>{ r with a:=a,e:=some i })).map Rc.h=c.map Rc.h:=by
     apply z5;intro m;rw [Z0,Z0,C1];cases c[m]? with
     | none=>rfl
     | some r=>
      show some (if j=m then _ else r).h=some r.h;by_cases z:j=m
      ·rw [if_pos z]
      ·rw [if_neg z]
    refine ⟨_,f.set j (.ref u),g,z01,?_,?_,?_,?_,?_,b0,b3,Same.keep (s4.trans B) Z,_,_,_,_,rfl⟩
    ·exact z3v (z02 (λ a b z=>RcAt.tups X z) a2) b1 ⟨u,rfl,X _ _ (SqT.of M)⟩
    ·rw [upd_ne R.symm];exact a1
    ·omega
    ·rw [i5];omega
    ·intro k;rw [mh];exact hv k
  ·rintro σ H3 ⟨c,f,g,el,ar,ed,hk,hr',hv,G,dw,s3,x3,x4,x5,x6,rfl⟩;have:C.drop ys.length=[]:=by rw [b7];exact List.drop_length
   rw [this] at G;have G:c=dAll 0 [] C:=G;rw [<-G] at q;exact ⟨_,rfl,q l f H3 s3 Z el ar⟩
end
section
noncomputable def oStep (os:List Int):Ev->List Int
 | .beg h _ _ _=>os++[h]
 | .fin h _=>os.filter λ k=>decide (k≠h)
noncomputable def oOk (os:List Int):Ev->Prop
 | .beg h _ _ _=>h∉os
 | .fin h _=>h∈os
noncomputable def EWf:List Int->List Ev->Prop
 | _,[]=>True
 | os,e :: es=>oOk os e/\EWf (oStep os e) es
theorem EWf.snoc :∀{es:List Ev} {os:List Int} {e:Ev},EWf os es->oOk (es.foldl oStep os) e->EWf os (es++[e])
 | [],os,e,_,h=>⟨h,trivial⟩
 | x :: es,os,e,w,h=>⟨w.1,EWf.snoc w.2 h⟩
theorem z24 {h:Int} (hs:List Int) :∀{j:Nat},lastI h hs=some j->hs[j]? = some h/\∀k,j < k->hs[k]?≠some h:=by
 suffices key :∀n (hs:List Int),hs.length=n->∀{j:Nat},lastI h hs=some j->hs[j]? = some h/\∀k,j < k->hs[k]?≠some h from λ {j} a=>key _ hs rfl a;intro n;induction n with
 | zero=>intro hs e j a;have:=z6q a;omega
 | succ n ih=>
  intro hs e j a;have c:hs≠[]:=λ z=>by rw [z] at e;cases e
  obtain ⟨b,t,rfl⟩ :∃b t,hs=b++[t]:=⟨hs.dropLast,hs.getLast c,(P8 c).symm⟩
  rw [F0] at e;have e:b.length=n:=by simpa using e
  rw [z29] at a;by_cases z:t=h
  ·rw [if_pos z] at a;cases a;refine ⟨by simp [z],λ k d=>?_⟩;rw [D4 (by rw [F0];show b.length + 1<=k;omega)];intro y;cases y
  ·rw [if_neg z] at a;obtain ⟨g,f⟩:=ih b e a;have lt:=z6q a;refine ⟨by rw [N2 lt];exact g,λ k d=>?_⟩;by_cases y:k < b.length
   ·rw [N2 y];exact f k d
   ·by_cases y2:k=b.length
    ·subst y2;rw [E2 (A0 _)];simp;exact z
    ·rw [D4 (by rw [F0];show b.length + 1<=k;omega)];intro y;cases y
theorem zac {h:Int} (hs:List Int) (hm:h∈hs):(lastI h hs).isSome=true:=by
 suffices key :∀n (hs:List Int),hs.length=n->h∈hs->(lastI h hs).isSome=true from key _ hs rfl hm;intro n;induction n with
 | zero=>intro hs e hm;rw [List.length_eq_zero_iff.mp e] at hm;cases hm
 | succ n ih=>
  intro hs e hm;have b:hs≠[]:=λ z=>by rw [z] at e;cases e
  obtain ⟨a,t,rfl⟩ :∃a t,hs=a++[t]:=⟨hs.dropLast,hs.getLast b,(P8 b).symm⟩
  rw [F0] at e;rw [z29];by_cases z:t=h
  ·rw [if_pos z];rfl
  ·rw [if_neg z];refine ih a (by simpa using e) ?_;rcases List.mem_append.mp hm with y|y
   ·exact y
   ·exact absurd (List.mem_singleton.mp y).symm z
structure DInv (i:Nat) (rs:List Rc) (os:List Int):Prop where
 b :∀r∈rs,r.b < i
 e :∀r∈rs,∀e,r.e=some e->e < i
 p :∀(x y:Nat) (r q:Rc),x < y->rs[x]? = some r->rs[y]? = some q->r.b < q.b/\(r.h=q.h->∃e,r.e=some e/\e < q.b)
 o :∀r∈rs,r.h∉os->r.e.isSome=true
 m :∀h∈os,h∈rs.map Rc.h
theorem DInv.nil:DInv 0 [] []:=⟨λ _ h=>(by cases h),λ _ h=>(by cases h),λ x y r q _ h=>(by simp at h),λ _ h=>(by cases h),λ _ h=>(by cases h)⟩
theorem zan {rs:List Rc} {j:Nat} {f:Rc->Rc} (hf :∀r,(f r).h=r.h):(rs.modify j f).map Rc.h=rs.map Rc.h:=by
 apply z5;intro m;rw [Z0,Z0,C1];cases rs[m]? with
 | none=>rfl
 | some r=>
  show some (if j=m then f r else r).h=some r.h;by_cases z:j=m
  ·rw [if_pos z,hf]
  ·rw [if_neg z]
theorem DInv.step {i:Nat} {rs:List Rc} {os:List Int} (I:DInv i rs os) {e:Ev} (ok:oOk os e):DInv (i + 1) (dstep i rs e) (oStep os e)/\∀h a,e=.fin h a->(lastI h (rs.map Rc.h)).isSome=true:=by
 cases e with
 | beg h n v x=>
  have ok:h∉os:=ok;refine ⟨⟨λ r d=>?_,λ r d e c=>?_,λ u g r q E F D=>?_,λ r d B=>?_,λ k G=>?_⟩,λ h a e=>by cases e⟩
  ·rcases List.mem_append.mp d with z|z
   ·have:=I.b r z;omega
   ·rw [List.mem_singleton.mp z];exact F2 i
  ·rcases List.mem_append.mp d with z|z
   ·have:=I.e r z e c;omega
   ·rw [List.mem_singleton.mp z] at c;cases c
  ·have a0:g < (dstep i rs (.beg h n v x)).length:=(List.getElem?_eq_some_iff.mp D).1;have hl:(dstep i rs (.beg h n v x)).length=rs.length + 1:=by show (rs++[_]).length=_;rw [F0];rfl
   have P:rs[u]? = some r:=by
    have:(rs++[_])[u]? = some r:=F
    rwa [N2 (by omega)] at this
   by_cases z:g < rs.length
   ·have Y:rs[g]? = some q:=by
     have:(rs++[_])[g]? = some q:=D
     rwa [N2 z] at this
    exact I.p u g r q E P Y
   ·have H:(rs++[_])[g]? = some q:=D;have Z:g=rs.length:=by omega
    subst Z;rw [E2 (A0 _)] at H;simp at H;have K:=o0 P;rw [<-H];refine ⟨I.b r K,λ A=>?_⟩;have:r.e.isSome=true:=I.o r K (by rw [A];exact ok);obtain ⟨e,c⟩:=Option.isSome_iff_exists.mp this;exact ⟨e,c,I.e r K e c⟩
  ·rcases List.mem_append.mp d with z|z
   ·exact I.o r z λ y=>B (List.mem_append.mpr (.inl y))
   ·rw [List.mem_singleton.mp z] at B;exact absurd (List.mem_append.mpr (.inr (List.mem_singleton.mpr rfl))) B
  ·show k∈(rs++[_]).map Rc.h;rw [P2];rcases List.mem_append.mp G with z|z
   ·exact List.mem_append.mpr (.inl (I.m k z))
   ·rw [List.mem_singleton.mp z];exact List.mem_append.mpr (.inr (List.mem_singleton.mpr rfl))
 | fin h a=>
  have ok:h∈os:=ok;obtain ⟨j,L⟩:=Option.isSome_iff_exists.mp (zac _ (I.m h ok));refine ⟨?_,λ h' a' e=>by cases e;rw [L];rfl⟩;obtain ⟨R,V⟩:=z24 _ L;have hd:dstep i rs (.fin h a)=rs.modify j (λ r=>{ r with a:=a,e:=some i }):=by unfold dstep;dsimp only;rw [L]
  rw [hd];have hs:oStep os (.fin h a)=os.filter λ k=>decide (k≠h):=rfl;rw [hs];rw [Z0] at R;obtain ⟨rj,T,U⟩:=Option.map_eq_some_iff.mp R;have get :∀m q,(rs.modify j (λ r=>{ r with a:=a,e:=some i }))[m]? = some q->∃r,rs[m]? = some r/\q.h=r.h/\q.b=r.b/\(m=j->q.e=some i)/\(m≠j->q=r):=λ m q X=>by
   rw [C1] at X;obtain ⟨r,d,e⟩:=Option.map_eq_some_iff.mp X;refine ⟨r,d,?_⟩;by_cases z:j=m
   ·rw [if_pos z] at e;rw [<-e];exact ⟨rfl,rfl,λ _=>rfl,λ y=>absurd z.symm y⟩
   ·rw [if_neg z] at e;rw [<-e];exact ⟨rfl,rfl,λ y=>absurd y.symm z,λ _=>rfl⟩
  refine ⟨λ r d=>?_,λ r d e c=>?_,λ u g r q E F D=>?_,λ r d B=>?_,λ k G=>?_⟩
  ·obtain ⟨m,C⟩:=List.mem_iff_getElem?.mp d;obtain ⟨s,t,_,h3,_⟩:=get m r C;have:=I.b s (o0 t);omega
  ·obtain ⟨m,C⟩:=List.mem_iff_getElem?.mp d;obtain ⟨s,t,_,_,N,J⟩:=get m r C;by_cases z:m=j
   ·rw [N z] at c;cases c;exact F2 i
   ·rw [J z] at c;have:=I.e s (o0 t) e c;omega
  ·obtain ⟨s,M,r2,r3,r4,r5⟩:=get u r F;obtain ⟨Q,W,S,q3,_⟩:=get g q D;obtain ⟨p1,O⟩:=I.p u g s Q E M W;refine ⟨by omega,λ A=>?_⟩;by_cases z:u=j
   ·subst z;rw [T] at M;cases M;refine absurd ?_ (V g E);rw [Z0,W];show some Q.h=some h;rw [<-S,<-A,r2,U]
   ·rw [r5 z] at A⊢;rw [S] at A;obtain ⟨e,c,lt⟩:=O A;exact ⟨e,c,by omega⟩
  ·obtain ⟨m,C⟩:=List.mem_iff_getElem?.mp d;obtain ⟨s,t,h2,_,N,J⟩:=get m r C;by_cases z:m=j
   ·rw [N z];rfl
   ·rw [J z] at B⊢;by_cases y:s.h=h
    ·have lt:m < j:=by
      rcases Nat.lt_or_gt_of_ne z with l|l
      ·exact l
      ·exact absurd (by rw [Z0,t];show some s.h=_;rw [y]) (V m l)
     obtain ⟨_,O⟩:=I.p m j s rj lt t T;obtain ⟨e,c,_⟩:=O (by rw [y,U]);rw [c];rfl
    ·exact I.o s (o0 t) λ w=>B (List.mem_filter.mpr ⟨w,decide_eq_true y⟩)
  ·rw [zan (f:=λ r=>{ r with a:=a,e:=some i }) (λ r=>rfl)];exact I.m k (List.mem_filter.mp G).1
theorem DInv.all :∀{es:List Ev} {i:Nat} {rs:List Rc} {os:List Int},DInv i rs os->EWf os es->dWf i rs es/\∃os',DInv (i + es.length) (dAll i rs es) os'
 | [],i,rs,os,I,_=>⟨trivial,os,I⟩
 | e :: es,i,rs,os,I,w=>by obtain ⟨a,d⟩:=I.step w.1;obtain ⟨c,os',b⟩:=DInv.all a w.2;refine ⟨⟨d,c⟩,os',?_⟩;rw [i1,show i + (es.length + 1)=i + 1 + es.length by omega];exact b
theorem z42 {kvs:List (Key×V)} {k:Key}:(valV kvs k).isSome=true↔k∈kvs.map (·.1):=by
 induction kvs with
 | nil=>simp [valV]
 | cons p r ih=>
  obtain ⟨a,pv⟩:=p;by_cases y:a=k
  ·subst y;rw [z0o rfl];simp
  ·rw [z0p y,ih,T0,L3];exact ⟨λ z=>.inr z,λ z=>z.resolve_left λ x=>y x.symm⟩
theorem z35 {kvs:List (Key×V)} {k:Key} {v:V} (h:k∉kvs.map (·.1)):putK kvs k v=kvs++[(k,v)]:=by unfold putK;rw [if_neg];intro z;obtain ⟨p,a,e⟩:=List.any_eq_true.mp z;exact h (List.mem_map.mpr ⟨p,a,of_decide_eq_true e⟩)
theorem z1m {α β:Type} {R:α->β->Prop} :∀{xs:List α} {ys:List β},ys.length=xs.length->(∀(k:Nat) a b,xs[k]? = some a->ys[k]? = some b->R a b)->All2 R xs ys
 | [],[],_,_=>.nil
 | [],y :: ys,h,_=>by cases h
 | x :: xs,[],h,_=>by cases h
 | x :: xs,y :: ys,h,f=>.cons (f 0 x y rfl rfl) (z1m (by simpa using h) λ k a b c d=>f (k + 1) a b (by rw [B1];exact c) (by rw [B1];exact d))
end
section
variable {P:Program} {w:N0} {mg:Str->Option Value} {base:Heap}
structure NameOk (z:Str):Prop where
 l1:1<=z.length
 l8:z.length<=8
 s :∀c∈z.cps.toList,97<=c/\c<=122
theorem NameOk.ascii {z:Str} (h:NameOk z):z.cps.all (· < 128)=true:=by rw [Array.all_eq_true_iff_forall_mem];intro c a;have:=h.s c (Array.mem_toList_iff.mpr a);exact decide_eq_true (by omega)
theorem zd5 :∀k:Fin 26,(g6 ("abcdefghijklmnopqrstuvwxyz" : Str) ⟨#[97 + k.val]⟩ 0 ("abcdefghijklmnopqrstuvwxyz" : Str).length 1).isEmpty=false:=by decide +kernel
theorem zco {c:Nat} (h:97<=c/\c<=122):(g6 ("abcdefghijklmnopqrstuvwxyz" : Str) ⟨#[c]⟩ 0 ("abcdefghijklmnopqrstuvwxyz" : Str).length 1).isEmpty=false:=by have:=zd5 ⟨c - 97,by omega⟩;rw [show 97 + (c - 97)=c by omega] at this;exact this
def z2w:Sp:=λ vs H Q _=>∃z:Str,vs=[.str z]/\NameOk z/\∀H',Same H H'->Q (.bl true) H'
theorem zah (T:TX (kx w) mg):Fo P w mg base CX0 1 40 y0x ["value"] z2w:=by
 refine (z4p w.params).ok za9 (λ l H Q E h=>?_) (λ B A C s H l Q E J h=>?_)
 ·obtain ⟨z,rfl,_⟩:=h;rfl
 ·obtain ⟨z,rfl,b,q⟩:=h;refine ⟨_,(z06 (ps_if (PW.pt (pw_or (pt_not (pt_val (z09 z0i rfl (T.no (z0h _)) F3 (z00 (pv 0) (z00 (z1r (v:=.ty "str") rfl (T.no (n_str _)) P9 rfl) pa_nil))) (λ _=>rfl))) (pw_or1 (pt_not (zdn op_le op_le pe_int (z09 z0t rfl (T.no (n_len _)) T3 (z00 (pv 0) pa_nil)) (z18 (v:=.int (8)) rfl (T.of (z4e _)) ⟨_,rfl⟩))))))
   (z05 (ps_ret pe_bl))
   z0d)
   (z05 (ps_ret (z09 (z25 rfl) rfl (T.no (n_all _)) Q9 (z00 (pe_cg (xs:=["sign"]) (g:=gName 0) (fr:=[]) (pi_str (pv 0)) (λ _ _ _ _ _=>(pg_cn (N:=["sign"]) 0)) (λ _ _ _ _ _=>pf_nil) (λ _ _ _ _ _=>(z1k zbw (pv 0) (z18 (v:=.str "abcdefghijklmnopqrstuvwxyz") rfl (T.of (z3p _)) ⟨_,rfl⟩) (by with_unfolding_all rfl)))) pa_nil))))),?_⟩
  have F:=b.l1;have d:=b.l8;refine sq_if (t_or ?_);refine ⟨_,rfl,_,_,"str",rfl,rfl,by decide,_,rfl,iteN (by decide) ?_⟩;refine ⟨_,rfl,.inr ⟨z,rfl,J0 d (by decide),_,_,rfl,rfl,_,rfl,?_⟩⟩;refine iteP (decide_eq_true (by omega)) ?_;refine ⟨_,_,rfl,rfl,_,rfl,iteN (by rw [decide_eq_true (show (z.length:Int)<=8 by omega)];decide) ?_⟩;refine t_nx (sq_ret (e_cb1 ?_));refine tcompS (x:=z) (H1:=H) (λ _=>true) (λ _ y _=>y=.bl true) (λ _ _ _ _ _ z=>z) (λ R h=>⟨_,rfl,h⟩) b.ascii (J0 (m:=8) d (by decide)) ?_ ?_
  ·intro i G v H1 f u KT D j I;obtain ⟨c,n,rfl⟩:=u;have k:c∈z.cps.toList:=Array.mem_toList_iff.mpr (G9 n);refine ⟨[some (.str ⟨#[c]⟩)],rfl,rfl,iteT ?_⟩;refine ⟨_,rfl,_,_,rfl,rfl,?_⟩;rw [zco (b.s c k)];exact j rfl _ _ (Same.refl _) rfl
  intro p H1 bs f o r;have e :∀y∈bs,y=.bl true:=λ y a=>by obtain ⟨m,t⟩:=List.mem_iff_getElem?.mp a;obtain ⟨_,_,z⟩:=z0a r t;exact z
  refine ⟨p,bs,rfl,SqL.of z01,λ y a=>⟨true,e y a⟩,?_⟩;rw [List.all_eq_true.mpr (λ y a=>decide_eq_true (e y a))];exact q _ (f.trans (Same.upd o))
structure ThingOk (t:Str×Str):Prop where
 n:NameOk t.1
 k:kindB (.str t.2)=true
def ThV (H:Hp) (t:Str×Str) (y:V):Prop:=∃p,y=.ref p/\H p=some (.tup [.str t.1,.str t.2])
theorem ThV.same {H H':Hp} {t:Str×Str} {y:V} (s:Same H H') (h:ThV H t y):ThV H' t y:=h.elim λ p z=>⟨p,z.1,s _ _ z.2⟩
theorem z4n {H:Hp} {p:Addr} {xs:List V} (e:H p=some (.tup xs)):tupOf H (.ref p)=some xs:=by unfold tupOf;dsimp only;rw [e]
def z40:Sp:=λ vs H Q _=>∃t y,vs=[y]/\ThV H t y/\ThingOk t/\∀H',Same H H'->Q (.bl true) H'
theorem z8c (T:TX (kx w) mg) (c0:Ca P w mg base "is_tuple_of" ["value","many"] 1 z0v) (c1:Ca P w mg base "is_name" ["value"] 1 z2w) (c2:Ca P w mg base "is_kind" ["kind"] 1 z32):Fo P w mg base CX0 2 194 y0k ["thing"] z40:=by
 refine (z39 w.params).ok z8z (λ d H Q E h=>?_) (λ f A g s H d Q E b h=>?_)
 ·obtain ⟨t,y,rfl,_⟩:=h;rfl
 ·obtain ⟨t,y,rfl,⟨p,rfl,a⟩,ok,q⟩:=h;refine ⟨_,(z05 (ps_ret (pe_and (pe_cal c0 (b.mono (by decide)) rfl (z00 (pv 0) (z00 pe_int pa_nil))) (pe_and (pe_cal c1 (b.mono (by decide)) rfl (z00 (pe_ix ix_seq (pv 0) pe_int (λ _ _=>rfl)) pa_nil)) (pe_one (pe_cal c2 (b.mono (by decide)) rfl (z00 (pe_ix ix_seq (pv 0) pe_int (λ _ _=>rfl)) pa_nil))))))),?_⟩;refine ⟨_,rfl,_,"tuple",2,rfl,.inr (.inl ⟨⟨_,a⟩,rfl⟩),?_⟩;rw [z4n a];refine ⟨_,rfl,iteP (by simp) ?_⟩;refine ⟨_,rfl,.inr (.inl ⟨p,_,0,.str t.1,rfl,rfl,SqT.of a,z03 (j:=0) rfl,t.1,rfl,ok.n,λ e c=>⟨true,rfl,iteP rfl ?_⟩⟩)⟩;refine ⟨_,rfl,.inr (.inl ⟨p,_,1,.str t.2,rfl,rfl,SqT.of (c _ _ a),z03 (j:=1) rfl,_,"str",rfl,rfl,?_⟩)⟩;rw [ok.k];exact q _ c
def z1z (K:c0):Sp:=λ vs H Q _=>∃(a p0:Addr) (t:Str×Str),vs=[.ref a]/\H a=some (.lst [.ref p0])/\ThV H t (.ref p0)/\ThingOk t/\∀c H',Same H H'->H' c=some (.tup [.ref p0])->Q (.ref c) H'
theorem z4r (T:TX (kx w) mg) (c0:Ca P w mg base "is_thing" ["thing"] 2 z40):Fo P w mg base CX0 3 187 y01 ["things"] (z1z (kx w)):=by
 refine (z1g w.params).ok z56 (λ U H Q E h=>?_) (λ a3 A a4 s H U Q E hr h=>?_)
 ·obtain ⟨a,b,t,rfl,_⟩:=h;rfl
 ·obtain ⟨a,b,t,rfl,F,L,ok,q⟩:=h;refine ⟨_,(z06 (ps_if (PW.pt (pw_or (pt_not (pt_val (z09 z0i rfl (T.no (z0h _)) F3 (z00 (pv 0) (z00 (z1r (v:=.ty "list") rfl (T.no (n_list _)) boot_list rfl) pa_nil))) (λ _=>rfl))) (pw_or1 (pt_not (pt_val (z09 (z25 rfl) rfl (T.no (n_all _)) Q9 (z00 (pe_cg (xs:=["thing"]) (g:=gName 0) (fr:=[]) (z0n (pv 0)) (λ _ _ _ _ _=>(pg_cn (N:=["thing"]) 0)) (λ _ _ _ _ _=>pf_nil) (λ _ _ _ _ _=>(pe_cal c0 (hr.mono (by decide)) rfl (z00 (pv 0) pa_nil)))) pa_nil)) (λ _=>rfl))))))
   (z05 z1w)
   z0d)
   (z06 (ps_if (z08 op_gt (z09 z0t rfl (T.no (n_len _)) T3 (z00 (pv 0) pa_nil)) (z18 (v:=.int (6)) rfl (T.of (z62 _)) ⟨_,rfl⟩) (nomark _))
   (z05 z1w)
   z0d)
   (z06 (ps_if (z08 op_lt (zba rfl rfl (T.no (n_len _)) rfl (T.no (n_set _)) T3 boot_set (pe_cg (xs:=["thing"]) (g:=gName 0) (fr:=[]) (z0n (pv 0)) (λ _ _ _ _ _=>(pg_cn (N:=["thing"]) 0)) (λ _ _ _ _ _=>pf_nil) (λ _ _ _ _ _=>(pe_ix (z1a (K:=KX w.params) rfl) (pv 0) pe_int (λ _ _=>rfl))))) (z09 z0t rfl (T.no (n_len _)) T3 (z00 (pv 0) pa_nil)) (nomark _))
   (z05 z1w)
   z0d)
   (z05 (ps_ret (z2v z2l rfl (T.no (za5 _)) boot_tuple (z00 (z09 z75 rfl (T.no (zaa _)) boot_sorted (z00 (pv 0) pa_nil)) pa_nil))))))),?_⟩
  refine sq_if (t_or ?_);refine ⟨_,rfl,_,_,"list",rfl,.inl ⟨⟨_,F⟩,rfl⟩,by decide,_,rfl,iteN (by decide) ?_⟩;refine tB_not (e_cb1 ?_);refine z10 (K:=KX w.params) (a:=a) (xs:=[.ref b]) (H1:=H) (λ _=>true) (λ _ y _=>y=.bl true) (λ _ _ _ _ _ z=>z) (λ R h=>⟨_,rfl,h⟩) (SqL.of F) w_1 ?_ ?_
  ·intro i hi v H1 x C KT KF l k2;cases List.mem_singleton.mp (o0 C);exact ⟨[some (.ref b)],rfl,rfl,iteT ⟨_,rfl,t,_,rfl,L.same x,ok,λ O d=>l rfl _ _ d rfl⟩⟩
  intro J H1 bs x a0 a1;have I :∀y∈bs,y=.bl true:=λ y f=>by obtain ⟨m,hm⟩:=List.mem_iff_getElem?.mp f;obtain ⟨_,_,z⟩:=z0a a1 hm;exact z
  refine ⟨J,bs,rfl,SqL.of z01,λ y f=>⟨true,I y f⟩,?_⟩;rw [List.all_eq_true.mpr (λ y f=>decide_eq_true (I y f))];refine ⟨_,rfl,iteN (by decide) ?_⟩;have d:=x.trans (Same.upd (o:=.lst bs) a0);generalize upd H1 J (.lst bs)=O at d⊢;have B:=d _ _ F;refine t_nx (sq_if ?_);refine ⟨_,rfl,.inl ⟨a,_,rfl,.inl (SqL.of B),_,_,rfl,rfl,_,rfl,iteN (show ¬ decide ((6:Int) < ((1:Nat):Int))=true by decide) ?_⟩⟩;refine t_nx (sq_if (t_test (zfl ?_)));refine z10 (K:=KX w.params) (a:=a) (xs:=[.ref b]) (H1:=O) (λ _=>true) (λ i y _=>y=.str t.1) (λ _ _ _ _ _ z=>z) (λ R h=>⟨_,rfl,h⟩) (SqL.of B) w_1 ?_ ?_
  ·intro i hi v u n C KT KF l k2;cases List.mem_singleton.mp (o0 C);obtain ⟨p,e,S⟩:=L.same (d.trans n);cases e;exact ⟨[some (.ref b)],rfl,rfl,iteT ⟨_,rfl,.inr (.inl ⟨b,_,0,.str t.1,rfl,rfl,SqT.of S,z03 (j:=0) rfl,l rfl _ _ (Same.refl _) rfl⟩)⟩⟩
  intro k u zs n a2 W;have ez:zs=[V.str t.1]:=by
   cases W with
   | cons a r=>cases r;rw [a]
  subst ez;have D:=n.trans (Same.upd (o:=.lst [V.str t.1]) a2);have G:upd u k (.lst [V.str t.1]) k=some (.lst ([t.1].map V.str)):=z01;generalize upd u k (.lst [V.str t.1])=H4 at D G⊢;have M:=D _ _ B;refine ⟨k,[t.1],rfl,SqL.of G,(show (1:Nat) < 100 by decide),_,rfl,.inl ⟨a,_,rfl,.inl (SqL.of M),_,_,rfl,rfl,_,rfl,iteN (λ e=>absurd (of_decide_eq_true e) (by show ¬ ((addT [] t.1).length:Int) < ((1:Nat):Int);unfold addT;rw [if_neg B0];exact (show ¬ ((1:Nat):Int) < ((1:Nat):Int) by decide))) ?_⟩⟩;refine t_nx (sq_ret ?_);refine ⟨_,rfl,a,_,rfl,SqL.of M,λ Z X=>?_⟩;have s5:=D.trans (Same.upd (o:=.lst [.ref b]) X);exact ⟨Z,_,rfl,.inl ⟨SqL.of z01,λ c Y=>q c _ (d.trans (s5.trans (Same.upd Y))) z01⟩⟩
def z59:Sp:=λ vs H Q _=>∃h:Int,vs=[.int h]/\0<=h/\h<=5/\Q (.bl true) H
theorem zak (T:TX (kx w) mg) (c0:Ca P w mg base "is_whole" ["value"] 1 z1p):Fo P w mg base CX0 2 227 y10 ["hand"] z59:=by
 refine (z54 w.params).ok zay (λ d H Q E h=>?_) (λ f A g s H d Q E b h=>?_)
 ·obtain ⟨h,rfl,_⟩:=h;rfl
 ·obtain ⟨h,rfl,a,c,q⟩:=h;refine ⟨_,(z05 (ps_ret (pe_and (pe_cal c0 (b.mono (by decide)) rfl (z00 (pv 0) pa_nil)) (pe_one (z6f op_le op_le pe_int (pv 0) (z18 (v:=.int (5)) rfl (T.of (z90 _)) ⟨_,rfl⟩)))))),?_⟩;refine ⟨_,rfl,_,"int",rfl,rfl,_,rfl,iteP (by decide) ?_⟩;refine ⟨_,rfl,_,_,rfl,rfl,_,rfl,?_⟩;rw [decide_eq_true a];refine iteT ⟨_,_,rfl,rfl,?_⟩;have e:decide (h<=5)=true:=decide_eq_true c;show Q (.bl (decide (h<=5))) H;rw [e];exact q
def z2b:Sp:=λ vs H Q _=>∃(p:Addr) (xs:List V) (z wd:Str) (h m:Int),vs=[.ref p,.str wd,.int m]/\H p=some (.tup (.str z :: .int h :: xs))/\0<=h/\h<=5/\Q (.bl (decide (((xs.length + 2:Nat):Int)=m) && decide (z=wd))) H
theorem z92 (T:TX (kx w) mg) (c0:Ca P w mg base "is_tuple_of" ["value","many"] 1 z0v) (c1:Ca P w mg base "is_hand" ["hand"] 2 z59):Fo P w mg base CX0 3 220 y0m ["event","word","many"] z2b:=by
 refine (z38 w.params).ok z8h (λ f H Q E h=>?_) (λ k A l s H f Q E d h=>?_)
 ·obtain ⟨p,b,z,c,h,m,rfl,_⟩:=h;rfl
 ·obtain ⟨p,b,z,c,h,m,rfl,a,i,g,q⟩:=h;refine ⟨_,(z05 (ps_ret (pe_and (pe_cal c0 (d.mono (by decide)) rfl (z00 (pv 0) (z00 (pv 2) pa_nil))) (pe_and (z09 z0i rfl (T.no (z0h _)) F3 (z00 (pe_ix ix_seq (pv 0) pe_int (λ _ _=>rfl)) (z00 (z1r (v:=.ty "str") rfl (T.no (n_str _)) P9 rfl) pa_nil))) (pe_and (z1k opEq (pe_ix ix_seq (pv 0) pe_int (λ _ _=>rfl)) (pv 1) (nomark _)) (pe_one (pe_cal c1 (d.mono (by decide)) rfl (z00 (pe_ix ix_seq (pv 0) pe_int (λ _ _=>rfl)) pa_nil)))))))),?_⟩;refine ⟨_,rfl,_,rfl,_,"tuple",m,rfl,.inr (.inl ⟨⟨_,a⟩,rfl⟩),?_⟩;rw [z4n a];refine ⟨_,rfl,?_⟩;by_cases hm:((b.length + 2:Nat):Int)=m;rotate_left
  ·rw [decide_eq_false hm,C5] at q;exact iteN (λ e=>hm (of_decide_eq_true e)) q
  rw [decide_eq_true hm,D6] at q;refine iteP (decide_eq_true hm) ?_;refine ⟨_,rfl,.inr (.inl ⟨p,_,0,.str z,rfl,rfl,SqT.of a,z03 (j:=0) rfl,_,_,"str",rfl,rfl,by decide,_,rfl,iteP (by decide) ?_⟩)⟩;refine ⟨_,rfl,.inr (.inl ⟨p,_,0,.str z,rfl,rfl,SqT.of a,z03 (j:=0) rfl,_,rfl,rfl,_,rfl,?_⟩)⟩;by_cases hz:z=c
  ·subst hz;refine iteP (decide_eq_true rfl) ?_;rw [decide_eq_true rfl] at q;exact ⟨_,rfl,.inr (.inl ⟨p,_,1,.int h,rfl,rfl,SqT.of a,z03 (j:=1) rfl,h,rfl,i,g,q⟩)⟩
  ·refine iteN (λ e=>hz (by have:=of_decide_eq_true e;injection this)) ?_;rw [decide_eq_false hz] at q;exact q
def AnsOk (a:V):Prop:=a=.str "ok"\/a=.str "none"\/∃i,a=.int i/\z0q (.int i) 1000000000000=true
theorem zai {H:Hp}:SqT (kx w) H 175 [.str "ok",.str "none"]:=
 .inr ⟨⟨(.type "tuple"),none,(.seq #[(.str "ok" 478),(.str "none" 479)] 0),#[]⟩,#[(.str "ok" 478),(.str "none" 479)],0,by kernel_rfl,rfl,rfl,w_2,.cons ⟨_,rfl⟩ (.cons ⟨_,rfl⟩ .nil)⟩
def z3c:Sp:=λ vs H Q _=>∃a,vs=[a]/\AnsOk a/\Q (.bl true) H
theorem z74 (T:TX (kx w) mg) (c0:Ca P w mg base "is_within" ["value","greatest"] 2 z1v):Fo P w mg base CX0 3 234 y0d ["answer"] z3c:=by
 refine (z2a w.params).ok z70 (λ c H Q E h=>?_) (λ d A e s H c Q E b h=>?_)
 ·obtain ⟨a,rfl,_⟩:=h;rfl
 ·obtain ⟨a,rfl,ok,q⟩:=h;refine ⟨_,(z06 (ps_if (pt_val (z09 z0i rfl (T.no (z0h _)) F3 (z00 (pv 0) (z00 (z1r (v:=.ty "str") rfl (T.no (n_str _)) P9 rfl) pa_nil))) (λ _=>rfl))
   (z05 (ps_ret (z1k z86 (pv 0) (z18 (v:=.ref 175) rfl (T.of (z4d _)) rfl) (by with_unfolding_all rfl))))
   z0d)
   (z05 (ps_ret (pe_cal c0 (b.mono (by decide)) rfl (z00 (pv 0) (z00 (z18 (v:=.int (1000000000000)) rfl (T.of (z2t _)) ⟨_,rfl⟩) pa_nil)))))),?_⟩
  refine sq_if ?_;rcases ok with rfl|rfl|⟨i,rfl,hi⟩
  ·refine ⟨_,rfl,_,_,"str",rfl,rfl,by decide,_,rfl,iteP (by decide) ?_⟩;exact ⟨_,rfl,175,_,rfl,.inr zai,rfl,rfl,q⟩
  ·refine ⟨_,rfl,_,_,"str",rfl,rfl,by decide,_,rfl,iteP (by decide) ?_⟩;exact ⟨_,rfl,175,_,rfl,.inr zai,rfl,rfl,q⟩
  ·refine ⟨_,rfl,_,_,"int",rfl,rfl,by decide,_,rfl,iteN (by decide) ?_⟩;refine t_nx (sq_ret ?_);refine ⟨_,rfl,_,"int",_,rfl,rfl,?_⟩;rw [hi];exact q
inductive XOk (H:Hp):Str->Str->V->Prop
 | none {k v:Str}:formOf k v=0->XOk H k v .non
 | one {k v:Str} {i:Int}:formOf k v=1->z0q (.int i) 1000000000=true->XOk H k v (.int i)
 | two {k v:Str} {i j:Int} {p:Addr}:formOf k v=2->H p=some (.tup [.int i,.int j])->z0q (.int i) 1000000000=true->z0q (.int j) 1000000000=true->XOk H k v (.ref p)
theorem XOk.same {H H':Hp} {k v:Str} {x:V} (s:Same H H') (h:XOk H k v x):XOk H' k v x:=by
 cases h with
 | none e=>exact .none e
 | one e h=>exact .one e h
 | two e h1 h2 h3=>exact .two e (s _ _ h1) h2 h3
theorem XOk.deed {H:Hp} {k v:Str} {x:V} (h:XOk H k v x):deedB H (.str k) (.str v) x=true/\(∃T,TagOf H x T)/\Flat H x:=by
 cases h with
 | none e=>refine ⟨?_,⟨"NoneType",rfl⟩,λ b z=>by cases z⟩;unfold deedB;dsimp only;rw [e,if_pos rfl];rfl
 | one e h=>refine ⟨?_,⟨"int",rfl⟩,λ b z=>by cases z⟩;unfold deedB;dsimp only;rw [e,if_neg (by decide),if_pos rfl];exact h
 | two e h1 h2 h3=>
  rename_i i j p;refine ⟨?_,⟨"tuple",.inr (.inl ⟨⟨_,h1⟩,rfl⟩)⟩,λ b z=>?_⟩
  ·unfold deedB;dsimp only;rw [e,if_neg (by decide),if_neg (by decide),if_pos rfl,z4n h1];show (decide ([V.int i,V.int j].length=2) && (z0q (.int i) 1000000000 && (z0q (.int j) 1000000000 && true)))=true;rw [h2,h3];rfl
  ·rw [z4n h1] at z;cases z;refine ⟨(show (2:Nat)<=1000 by decide),λ y a=>?_⟩;simp only [L3,B0,or_false] at a;rcases a with rfl|rfl<;>exact ⟨"int",rfl⟩
noncomputable def EvT (H:Hp) (ts:List (Str×Str)):Ev->V->Prop
 | .beg h n v x,y=>∃p nm k vb,y=.ref p/\H p=some (.tup [.str "begin",.int h,n,v,x])/\0<=h/\h<=5/\n=.str nm/\v=.str vb/\(nm,k)∈ts/\NameOk nm/\XOk H k vb x
 | .fin h a,y=>∃p,y=.ref p/\H p=some (.tup [.str "end",.int h,a])/\0<=h/\h<=5/\AnsOk a
theorem EvT.same {H H':Hp} {ts:List (Str×Str)} (s:Same H H') :∀{e:Ev} {y:V},EvT H ts e y->EvT H' ts e y
 | .beg h n v x,_,⟨p,nm,k,vb,h1,h2,h3,h4,h5,h6,h7,h8,h9⟩=>⟨p,nm,k,vb,h1,s _ _ h2,h3,h4,h5,h6,h7,h8,h9.same s⟩
 | .fin h a,_,⟨p,h1,h2,h3⟩=>⟨p,h1,s _ _ h2,h3⟩
def KdAt (H:Hp) (d:Addr) (ts:List (Str×Str)):Prop:=∃kvs:List (Key×V),H d=some (.dK kvs)/\∀nm k,(nm,k)∈ts->valV kvs (.inr nm)=some (.str k)
theorem KdAt.same {H H':Hp} {d:Addr} {ts:List (Str×Str)} (s:Same H H') (h:KdAt H d ts):KdAt H' d ts:=h.elim λ a z=>⟨a,s _ _ z.1,z.2⟩
noncomputable def isBeg:Ev->Bool
 | .beg _ _ _ _=>true
 | .fin _ _=>false
def z45:Sp:=λ vs H Q _=>∃e y d ts,vs=[y,.ref d]/\EvT H ts e y/\KdAt H d ts/\∀H',Same H H'->Q (.bl (isBeg e)) H'
theorem z93 (T:TX (kx w) mg) (c0:Ca P w mg base "is_event" ["event","word","many"] 3 z2b) (c1:Ca P w mg base "is_name" ["value"] 1 z2w) (c2:Ca P w mg base "is_deed" ["kind","verb","worth"] 4 z67):Fo P w mg base CX0 5 206 y0l ["event","kinds"] z45:=by
 refine (z3l w.params).ok z8s (λ B H Q E h=>?_) (λ R A U s H B Q E f h=>?_)
 ·obtain ⟨e,y,d,M,rfl,_⟩:=h;rfl
 ·obtain ⟨e,y,d,M,rfl,r,⟨S,D,I⟩,q⟩:=h;refine ⟨_,(z06 (ps_if (PW.pt (pw_or (pt_not (pt_val (pe_cal c0 (f.mono (by decide)) rfl (z00 (pv 0) (z00 pe_str (z00 pe_int pa_nil)))) (λ _=>rfl))) (pw_or (pt_not (pt_val (pe_cal c1 (f.mono (by decide)) rfl (z00 (pe_ix ix_seq (pv 0) pe_int (λ _ _=>rfl)) pa_nil)) (λ _=>rfl))) (pw_or1 (pt_cmp (z89 (hu_of f) (pe_ix ix_seq (pv 0) pe_int (λ _ _=>rfl)) (pv 1)) (by with_unfolding_all rfl))))))
   (z05 (ps_ret pe_bl))
   z0d)
   (z05 (ps_ret (pe_cal c2 (f.mono (by decide)) rfl (z00 (zbg (hu_of f) (pv 1) (pe_ix ix_seq (pv 0) pe_int (λ _ _=>rfl)) (λ _ _=>rfl)) (z00 (pe_ix ix_seq (pv 0) pe_int (λ _ _=>rfl)) (z00 (pe_ix ix_seq (pv 0) pe_int (λ _ _=>rfl)) pa_nil))))))),?_⟩
  refine sq_if ?_;cases e with
  | fin h a=>obtain ⟨p,rfl,c,m,l,_⟩:=r;refine ⟨_,rfl,p,[a],"end","begin",h,5,rfl,c,m,l,_,rfl,iteP (by rw [show decide (("end" : Str) = "begin")=false by decide +kernel,c9];rfl) ?_⟩;exact iteP rfl (q _ (Same.refl _))
  | beg h n v x=>obtain ⟨p,b,k,u,rfl,c,m,l,rfl,rfl,J,z,L⟩:=r;refine ⟨_,rfl,p,_,"begin","begin",h,5,rfl,c,m,l,_,rfl,iteN (by rw [show decide (("begin" : Str) = "begin")=true by decide +kernel];show ¬ (!(decide (((3 + 2:Nat):Int)=5) && true))=true;decide) ?_⟩;refine ⟨_,rfl,.inr (.inl ⟨p,_,2,.str b,rfl,rfl,SqT.of c,z03 (j:=2) rfl,b,rfl,z,λ F g=>⟨true,rfl,iteN (by decide) ?_⟩⟩)⟩;have G:=g _ _ D;have i:=g _ _ c;have o:DGet F d (.str b) (some (.str k)):=(I b k J) ▸ DGet.k (k:=.inr b) G;refine ⟨_,rfl,.inr (.inl ⟨p,_,2,.str b,rfl,rfl,SqT.of i,z03 (j:=2) rfl,?_⟩)⟩;refine ⟨_,rfl,d,_,rfl,o,_,rfl,iteN (by show ¬ (!true)=true;decide) ?_⟩;refine t_nx (sq_ret ?_);obtain ⟨t,⟨C,O⟩,N⟩:=(L.same g).deed;refine ⟨_,rfl,_,rfl,.inr (.inl ⟨p,_,2,.str b,rfl,rfl,SqT.of i,z03 (j:=2) rfl,d,_,rfl,o,?_⟩)⟩;refine ⟨_,rfl,.inr (.inl ⟨p,_,3,.str u,rfl,rfl,SqT.of i,z03 (j:=3) rfl,?_⟩)⟩;refine ⟨_,rfl,.inr (.inl ⟨p,_,4,x,rfl,rfl,SqT.of i,z03 (j:=4) rfl,_,_,_,"str","str",C,rfl,rfl,rfl,O,N,λ V K=>?_⟩)⟩;rw [t];exact q _ (g.trans K)
def z7j:Sp:=λ vs H Q _=>∃h a y ts,vs=[y]/\EvT H ts (.fin h a) y/\Q (.bl true) H
theorem zcn (T:TX (kx w) mg) (c0:Ca P w mg base "is_event" ["event","word","many"] 3 z2b) (c1:Ca P w mg base "is_answer" ["answer"] 3 z3c):Fo P w mg base CX0 4 213 y19 ["event"] z7j:=by
 refine (z71 w.params).ok zcc (λ f H Q E h=>?_) (λ k A l s H f Q E b h=>?_)
 ·obtain ⟨h,a,y,i,rfl,_⟩:=h;rfl
 ·obtain ⟨h,a,y,i,rfl,⟨p,rfl,c,d,e,g⟩,q⟩:=h;refine ⟨_,(z05 (ps_ret (pe_and (pe_cal c0 (b.mono (by decide)) rfl (z00 (pv 0) (z00 pe_str (z00 pe_int pa_nil)))) (pe_one (pe_cal c1 (b.mono (by decide)) rfl (z00 (pe_ix ix_seq (pv 0) pe_int (λ _ _=>rfl)) pa_nil)))))),?_⟩;refine ⟨_,rfl,p,[a],"end","end",h,3,rfl,c,d,e,_,rfl,iteP (by rw [show decide (("end" : Str) = "end")=true by decide +kernel];rfl) ?_⟩;exact ⟨_,rfl,.inr (.inl ⟨p,_,2,a,rfl,rfl,SqT.of c,z03 (j:=2) rfl,a,rfl,g,q⟩)⟩
def z27 (K:c0):Sp:=λ vs H Q _=>∃a ys ts es,vs=[.ref a]/\SqL K H a ys/\All2 (EvT H ts) es ys/\es.length<=1000/\EWf [] es/\∀H',Same H H'->Q (.bl true) H'
theorem z4g (T:TX (kx w) mg):Fo P w mg base CX0 1 241 y03 ["events"] (z27 (kx w)):=by
 refine (z1l w.params).ok sc_go_by_turns (λ G H Q E h=>?_) (λ a0 A a1 s H G Q E C h=>?_)
 ·obtain ⟨a,o,W,f,rfl,_⟩:=h;rfl
 ·obtain ⟨a,o,W,f,rfl,r,t,ln,O,q⟩:=h;refine ⟨_,(z06 (ps_set (i:=1) sc_go_by_turns.nd rfl (L1 rfl) z6i)
   (z06 (ps_for C2 rfl (z0n (pv 0)) (z0m (i:=2) sc_go_by_turns.nd rfl (L1 rfl))
   (z06 (ps_set (i:=3) sc_go_by_turns.nd rfl (L1 rfl) (z1k opEq (pe_ix ix_seq (pv 2) pe_int (λ _ _=>rfl)) pe_str (nomark _)))
   (z06 (ps_if (z08 opEq (zdv (hu_of C) (pv 1) (pe_ix ix_seq (pv 2) pe_int (λ _ _=>rfl)) pe_bl ⟨rfl,rfl,rfl,rfl⟩) (pv 3) (nomark _))
   (z05 (ps_ret pe_bl))
   z0d)
   (z05 (z88 (hu_of C) (pv 1) (pe_ix ix_seq (pv 2) pe_int (λ _ _=>rfl)) (pv 3) rfl)))))
   (z05 (ps_ret pe_bl)))),?_⟩
  have ly:o.length=f.length:=z04 t;refine z0f ?_;intro d hd;refine g_name ?_;obtain ⟨H0,X,D,S⟩:=newA (.dK []) hd;rw [<-X];refine ⟨_,rfl,a,rfl,⟨_,D.seq r⟩,?_⟩;refine z15 (K:=KX w.params) (a:=a) (xs:=o) (λ i σ l=>Same H l/\(∃kvs os,l d=some (.dK kvs)/\kvs.length<=i/\EWf os (f.drop i)/\∀h:Int,(valV kvs (.inl h)).getD (.bl false)=.bl (decide (h∈os)))/\∃x2 x3,σ=[some (.ref a),some (.ref d),x2,x3])
   ⟨D,⟨[],[],S,A0 _,by rw [Q4];exact O,λ h=>by rw [decide_eq_false B0];rfl⟩,_,_,rfl⟩ (λ _ σ l _ h=>h.1.seq r) ?_ ?_
  ·rintro i y σ B Z ⟨s1,⟨kvs,os,ed,lk,wf1,kv⟩,x2,x3,rfl⟩;obtain ⟨e,L,Y⟩:=z0a t Z;obtain ⟨N,ee⟩:=List.getElem?_eq_some_iff.mp L;have dr:f.drop i=e :: f.drop (i + 1):=by rw [w6 N,ee]
   rw [dr] at wf1;have F:=EvT.same s1 Y;refine g_name ?_;obtain ⟨p,xs,z,h,b,g,c,I,M,R,U⟩ :∃(p:Addr) (xs:List V) (z:Str) (h:Int) (b:Bool),y=.ref p/\B p=some (.tup (.str z :: .int h :: xs))/\decide (z = "begin")=b/\decide (h∈os) = !b/\(∀k:Int,decide (k∈oStep os e)=if k=h then b else decide (k∈os))/\EWf (oStep os e) (f.drop (i + 1)):=by
    cases e with
    | beg h n v x=>
     obtain ⟨p,nm,k,vb,g,c,_⟩:=F;refine ⟨p,_,"begin",h,true,g,c,by decide +kernel,by rw [decide_eq_false (show h∉os from wf1.1)];rfl,λ k=>?_,wf1.2⟩;show decide (k∈os++[h])=_;by_cases z:k=h
     ·rw [if_pos z,decide_eq_true (List.mem_append.mpr (.inr (List.mem_singleton.mpr z)))]
     ·rw [if_neg z];by_cases y:k∈os
      ·rw [decide_eq_true y,decide_eq_true (List.mem_append.mpr (.inl y))]
      ·rw [decide_eq_false y,decide_eq_false (λ w=>(List.mem_append.mp w).elim y λ u=>z (List.mem_singleton.mp u))]
    | fin h a'=>
     obtain ⟨p,g,c,_⟩:=F;refine ⟨p,_,"end",h,false,g,c,by decide +kernel,by rw [decide_eq_true (show h∈os from wf1.1)];rfl,λ k=>?_,wf1.2⟩;show decide (k∈os.filter λ j=>decide (j≠h))=_;by_cases z:k=h
     ·rw [if_pos z,decide_eq_false (λ w=>(of_decide_eq_true (List.mem_filter.mp w).2) z)]
     ·rw [if_neg z];by_cases y:k∈os
      ·rw [decide_eq_true y,decide_eq_true (List.mem_filter.mpr ⟨y,decide_eq_true z⟩)]
      ·rw [decide_eq_false y,decide_eq_false (λ w=>y (List.mem_filter.mp w).1)]
   subst g;refine z0f ?_;refine ⟨_,rfl,.inr (.inl ⟨p,_,0,.str z,rfl,rfl,SqT.of c,z03 (j:=0) rfl,rfl,?_⟩)⟩;have J:decide (V.str z=V.str "begin")=b:=by
    rw [<-I];by_cases y:z = "begin"
    ·rw [y,decide_eq_true rfl,decide_eq_true rfl]
    ·rw [decide_eq_false y,decide_eq_false (λ e=>y (by injection e))]
   rw [J];refine g_name ?_;refine sq_if ?_;refine ⟨_,rfl,d,rfl,.inl ⟨_,.inl ed⟩,_,rfl,.inr (.inl ⟨p,_,1,.int h,rfl,rfl,SqT.of c,z03 (j:=1) rfl,_,DGet.k (k:=.inl h) ed,?_⟩)⟩;rw [kv h,M];refine ⟨_,rfl,rfl,_,rfl,iteN (by cases b<;>decide) ?_⟩;refine t_nx ?_;refine ⟨_,rfl,_,rfl,_,rfl,.inr (.inl ⟨p,_,1,.int h,rfl,rfl,SqT.of c,z03 (j:=1) rfl,d,_,rfl,DPut.k (k:=.inl h) ed (U1 (m:=1000) (by omega) (by decide)),?_⟩)⟩;refine ⟨Same.keep s1 hd,⟨_,oStep os e,z01,J0 za8 (by omega),U,λ k=>?_⟩,_,_,rfl⟩;rw [z6t,R k];by_cases z:k=h
   ·rw [if_pos (by rw [z]),if_pos z];rfl
   ·rw [if_neg (λ e=>z (j4 e)),if_neg z];exact kv k
  ·rintro σ B ⟨s1,_,x2,x3,rfl⟩;exact q _ s1
theorem zer {H:Hp} {ts:List (Str×Str)} {e:Ev} {y:V} (h:EvT H ts e y) :∃(p:Addr) (z:Str) (r:List V),y=.ref p/\H p=some (.tup (.str z :: r))/\decide (z = "begin")=isBeg e:=by
 cases e with
 | beg h n v x=>obtain ⟨p,f,k,d,c,b,_⟩:=h;exact ⟨p,_,_,c,b,(show decide (("begin" : Str) = "begin")=true by decide +kernel)⟩
 | fin h a=>obtain ⟨p,c,b,_⟩:=h;exact ⟨p,_,_,c,b,(show decide (("end" : Str) = "begin")=false by decide +kernel)⟩
theorem z84 {z y:Str}:decide (V.str z=V.str y)=decide (z=y):=by
 by_cases e:z=y
 ·rw [e,decide_eq_true rfl,decide_eq_true rfl]
 ·rw [decide_eq_false e,decide_eq_false (λ x=>e (by injection x))]
def z20 (K:c0):Sp:=λ vs H Q _=>∃a d ys ts es,vs=[.ref a,.ref d]/\H a=some (.lst ys)/\KdAt H d ts/\All2 (EvT H ts) es ys/\es.length<=1000/\(es.filter isBeg).length<=24/\EWf [] es/\∀c H',Same H H'->H' c=some (.tup ys)->Q (.ref c) H'
theorem z52 (T:TX (kx w) mg) (c0:Ca P w mg base "is_begin" ["event","kinds"] 5 z45) (c1:Ca P w mg base "is_end" ["event"] 4 z7j) (c2:Ca P w mg base "go_by_turns" ["events"] 1 (z27 (kx w))):Fo P w mg base CX0 6 199 y02 ["events","kinds"] (z20 (kx w)):=by
 refine (z1h w.params).ok z4c (λ vs H Q E h=>?_) (λ a8 A a9 s H vs Q E L h=>?_)
 ·obtain ⟨a,d,t,D,k,rfl,_⟩:=h;rfl
 ·obtain ⟨a,d,t,D,k,rfl,O,kd,G,ln,a6,wf,q⟩:=h;refine ⟨_,(z06 (ps_if (PW.pt (pw_or (pt_not (pt_val (z09 z0i rfl (T.no (z0h _)) F3 (z00 (pv 0) (z00 (z1r (v:=.ty "list") rfl (T.no (n_list _)) boot_list rfl) pa_nil))) (λ _=>rfl))) (pw_or1 (pt_not (pt_val (z09 (z25 rfl) rfl (T.no (n_all _)) Q9 (z00 (pe_cg (xs:=["event"]) (g:=gName 0) (fr:=[(1,"kinds")]) (z0n (pv 0)) (λ _ _ _ _ _=>(pg_cn (N:=["event","kinds"]) 0)) (λ _ _ _ _ _=>pf_nil) (λ _ _ _ _ _=>(pe_or (pe_cal c0 (L.mono (by decide)) rfl (z00 (pv 0) (z00 (pv 1) pa_nil))) (pe_one (pe_cal c1 (L.mono (by decide)) rfl (z00 (pv 0) pa_nil)))))) pa_nil)) (λ _=>rfl))))))
   (z05 z1w)
   z0d)
   (z06 (ps_if (z08 op_gt (z09 z0t rfl (T.no (n_len _)) T3 (z00 (pe_cg (xs:=["event"]) (g:=gName 0) (fr:=[]) (z0n (pv 0)) (λ _ _ _ _ _=>(pg_cn (N:=["event"]) 0)) (λ _ _ _ _ _=>(pf_one (z08 opEq (pe_ix (z1a (K:=KX w.params) rfl) (pv 0) pe_int (λ _ _=>rfl)) pe_str (nomark _)))) (λ _ _ _ _ _=>(pv 0))) pa_nil)) (z18 (v:=.int (24)) rfl (T.of (z5k _)) ⟨_,rfl⟩) (nomark _))
   (z05 z1w)
   z0d)
   (z06 (ps_if (pt_not (pt_val (pe_cal c2 (L.mono (by decide)) rfl (z00 (pv 0) pa_nil)) (λ _=>rfl)))
   (z05 z1w)
   z0d)
   (z05 (ps_ret (z2v z2l rfl (T.no (za5 _)) boot_tuple (z00 (pv 0) pa_nil))))))),?_⟩
  have ly:t.length=k.length:=z04 G;refine sq_if (t_or ?_);refine ⟨_,rfl,_,_,"list",rfl,.inl ⟨⟨_,O⟩,rfl⟩,by decide,_,rfl,iteN (by decide) ?_⟩;refine tB_not (e_cb1 ?_);refine z10 (K:=KX w.params) (a:=a) (xs:=t) (H1:=H) (λ _=>true) (λ _ y _=>y=.bl true) (λ _ _ _ _ _ z=>z) (λ R h=>⟨_,rfl,h⟩) (SqL.of O) (J0 (m:=1000) (by omega) (by decide)) ?_ ?_
  ·intro i hi v H1 B J KT KF f I;obtain ⟨e,X,M⟩:=z0a G J;have a1:=EvT.same B M;refine ⟨[some v],rfl,rfl,iteT ?_⟩;refine ⟨_,rfl,_,rfl,e,v,d,D,rfl,a1,kd.same B,λ H2 b=>⟨_,rfl,?_⟩⟩;cases e with
   | beg h n v' x=>exact iteP rfl (f rfl _ _ b rfl)
   | fin h a'=>exact iteN (λ z=>by cases z) ⟨_,rfl,h,a',v,D,rfl,EvT.same b a1,f rfl _ _ b rfl⟩
  intro V H1 bs B a4 a5;have S :∀y∈bs,y=.bl true:=λ y l=>by obtain ⟨m,hm⟩:=List.mem_iff_getElem?.mp l;obtain ⟨_,_,z⟩:=z0a a5 hm;exact z
  refine ⟨V,bs,rfl,SqL.of z01,λ y l=>⟨true,S y l⟩,?_⟩;rw [List.all_eq_true.mpr (λ y l=>decide_eq_true (S y l))];refine ⟨_,rfl,iteN (by decide) ?_⟩;have b:=B.trans (Same.upd (o:=.lst bs) a4);generalize upd H1 V (.lst bs)=H2 at b⊢;have Y:=b _ _ O;have a0:=z02 (λ _ _ z=>EvT.same b z) G;refine t_nx (sq_if (zdt ?_));refine z10 (K:=KX w.params) (a:=a) (xs:=t) (H1:=H2) (λ i=>isBeg (k[i]?.getD (.fin 0 .non))) (λ _ y _=>True) (λ _ _ _ _ _ z=>z) (λ R h=>⟨_,rfl,h⟩) (SqL.of Y) (J0 (m:=1000) (by omega) (by decide)) ?_ ?_
  ·intro i hi v W F J KT KF f I;obtain ⟨e,X,M⟩:=z0a a0 J;rw [X] at f I;obtain ⟨p,z,r,rfl,ep,hz⟩:=zer (EvT.same F M);refine ⟨[some (.ref p)],rfl,rfl,?_⟩;refine ⟨_,rfl,.inr (.inl ⟨p,_,0,.str z,rfl,rfl,SqT.of ep,z03 (j:=0) rfl,rfl,_,rfl,?_⟩)⟩;rw [z84,hz];cases hbe:isBeg e with
   | true=>exact iteP rfl ⟨_,rfl,f hbe _ _ (Same.refl _) trivial⟩
   | false=>exact iteN (by decide) (I hbe _ (Same.refl _))
  intro l3 W u F a7 a3;have lz:u.length<=24:=by rw [z04 a3,ly];have:=congrArg List.length (z0x isBeg (λ e=>e) (.fin 0 .non) k);rw [G0,G0] at this;rw [this];exact a6
  have C:=F.trans (Same.upd (o:=.lst u) a7);refine .inl ⟨l3,u,rfl,.inl (SqL.of z01),?_⟩;generalize upd W l3 (.lst u)=H4 at C⊢;refine ⟨_,_,rfl,rfl,_,rfl,iteN (λ e=>absurd (of_decide_eq_true e) (by omega)) ?_⟩;refine t_nx (sq_if ?_);have Z:=C _ _ Y;have a2:=z02 (λ _ _ z=>EvT.same C z) a0;refine ⟨_,rfl,a,t,D,k,rfl,SqL.of Z,a2,ln,wf,λ H5 U=>⟨true,rfl,iteN (by decide) ?_⟩⟩;refine t_nx (sq_ret ?_);refine ⟨_,rfl,a,_,rfl,.inl ⟨SqL.of (U _ _ Z),λ c hc=>?_⟩⟩;exact q c _ (((b.trans C).trans U).trans (Same.upd hc)) z01
theorem val_in :∀{kvs:List (Key×V)} {k:Key} {v:V},(kvs.map (·.1)).Nodup->(k,v)∈kvs->valV kvs k=some v
 | (k',v') :: kvs,k,v,nd,h=>by
  rw [T0,List.nodup_cons] at nd;rcases List.mem_cons.mp h with e|h
  ·cases e;exact z0o rfl
  ·rw [z0p (λ e=>nd.1 (by have e:k'=k:=e;subst e;exact List.mem_map.mpr ⟨_,h,rfl⟩))];exact val_in nd.2 h
def z11 (K:c0):Sp:=λ vs H Q _=>∃(a b p0:Addr) (t:Str×Str) (zs:List V) (es:List Ev),vs=[.ref a,.ref b]/\H a=some (.lst [.ref p0])/\ThV H t (.ref p0)/\ThingOk t/\H b=some (.lst zs)/\All2 (EvT H [t]) es zs/\es.length<=1000/\(es.filter isBeg).length<=24/\EWf [] es/\
 ∀tt c e H',Same H H'->H' tt=some (.tup [.ref c,.ref e])->H' c=some (.tup [.ref p0])->H' e=some (.tup zs)->Q (.ref tt) H'
theorem z6r (T:TX (kx w) mg) (c0:Ca P w mg base "make_things" ["things"] 3 (z1z (kx w))) (c1:Ca P w mg base "make_events" ["events","kinds"] 6 (z20 (kx w))):Fo P w mg base CX0 7 182 y0c ["things","events"] (z11 (kx w)):=by
 refine (z2d w.params).ok sc_make_tale (λ J H Q E h=>?_) (λ W A X s H J Q E B h=>?_)
 ·obtain ⟨a,b,g,t,r,D,rfl,_⟩:=h;rfl
 ·obtain ⟨a,b,g,t,r,D,rfl,N,x,ok,S,O,R,M,L,q⟩:=h;refine ⟨_,(z06 (ps_set (i:=2) sc_make_tale.nd rfl (L1 rfl) (pe_cal c0 (B.mono (by decide)) rfl (z00 (pv 0) pa_nil)))
   (z05 (ps_ret (pe_tup (z00 (pv 2) (z00 (pe_cal c1 (B.mono (by decide)) rfl (z00 (pv 1) (z00 (z2v (za3 rfl) rfl (T.no (n_dict _)) boot_dict (z00 (pv 2) pa_nil)) pa_nil))) pa_nil)))))),?_⟩
  refine z0f ⟨_,rfl,a,g,t,rfl,N,x,ok,λ c u y C=>g_name ?_⟩;obtain ⟨p,e,F⟩:=x.same y;cases e;refine ⟨_,rfl,_,rfl,_,rfl,c,_,[(.inr t.1,.str t.2)],rfl,C,.cons ⟨g,rfl,SqT.of F⟩ .nil,λ d hd=>?_⟩;have f:=y.trans (Same.upd (o:=.dK (mergeK [] [(.inr t.1,.str t.2)])) hd);have v:KdAt (upd u d (.dK (mergeK [] [(.inr t.1,.str t.2)]))) d [t]:=⟨_,z01,λ m k K=>by cases List.mem_singleton.mp K;show valV (putK ([]:List (Key×V)) (.inr m:Key) (.str k)) (.inr m:Key)=_;rw [z6t,if_pos rfl]⟩
  have n:=(Same.upd (o:=.dK (mergeK [] [(.inr t.1,.str t.2)])) hd) _ _ C;generalize upd u d (.dK (mergeK [] [(.inr t.1,.str t.2)]))=H2 at f v n⊢;refine ⟨b,d,r,[t],D,rfl,f _ _ S,v,z02 (λ _ _ z=>EvT.same f z) O,R,M,L,λ e Y l U=>⟨w_2,λ I G=>?_⟩⟩;have j:=Same.upd (o:=.tup [.ref c,.ref e]) G;exact q I c e _ ((f.trans l).trans j) z01 (j _ _ (l _ _ n)) (j _ _ U)
end
section
mutual
noncomputable def HPd (H:Hp):p6->V->Prop
 | .none,v=>v=.non
 | .bool b,v=>v=.bl b
 | .int i,v=>v=.int i
 | .str z,v=>v=.str z
 | .list ds,v=>∃a xs,v=.ref a/\H a=some (.lst xs)/\HPds H ds xs
 | .tuple ds,v=>∃a xs,v=.ref a/\H a=some (.tup xs)/\HPds H ds xs
 | .dict kvs,v=>kvs=[]/\∃a,v=.ref a/\H a=some (.dK [])
noncomputable def HPds (H:Hp):List p6->List V->Prop
 | [],xs=>xs=[]
 | d :: ds,xs=>∃x r,xs=x :: r/\HPd H d x/\HPds H ds r
end
noncomputable def dif (B H:Hp):Hp:=λ p=>if B p=none then H p else none
noncomputable def tDat (P:L2.St->Prop) (d:p6):TE:=λ σ H Q=>P σ/\∀v H',Same H H'->HPd (dif H H') d v->Q v H'
noncomputable def tDats (P:L2.St->Prop) (ds:List p6):TA:=λ σ H Q=>P σ/\∀xs H',Same H H'->HPds (dif H H') ds xs->Q xs H'
variable {X:Cx} {pos:Pos} {P:L2.St->Prop}
structure QD (X:Cx) (P:L2.St->Prop) (e:Expr) (d:p6):Prop where
 run:PE X e (tDat P d)
structure QDs (X:Cx) (P:L2.St->Prop) (es:List Expr) (ds:List p6):Prop where
 run:PA X es (tDats P ds)
end
section
theorem z0k {α:Type} {l:List α} {i:Nat} {x:α} (h:l[i]? = some x):i < l.length:=(List.getElem?_eq_some_iff.mp h).1
theorem z8a :∀{es:List Ev} {i:Nat} {rs:List Rc} {e:Ev},dAll i rs (es++[e])=dstep (i + es.length) (dAll i rs es) e
 | [],i,rs,e=>rfl
 | x :: es,i,rs,e=>by show dAll (i + 1) (dstep i rs x) (es++[e])=dstep (i + (es.length + 1)) (dAll (i + 1) (dstep i rs x) es) e;rw [z8a,show i + (es.length + 1)=i + 1 + es.length by omega]
noncomputable def isW (r:Rc):Bool:=decide (r.v=.str "write")
noncomputable def intV:V->Int
 | .int i=>i
 | _=>0
def RdG (r:Rc):Prop:=r.v=.str "read"/\r.x=.non/\∀e,r.e=some e->r.a=.int (intV r.a)
def WrG (_:Int) (r:Rc):Prop:=r.v=.str "write"/\True/\r.x=.int (intV r.x)/\∀e,r.e=some e->r.a=.str "ok"
theorem z0z:(V.str "read")≠.str "write":=by decide +kernel
theorem WrG.w {wr:Int} {r:Rc} (h:WrG wr r):isW r=true:=decide_eq_true h.1
theorem RdG.w {r:Rc} (h:RdG r):isW r=false:=decide_eq_false λ e=>z0z (h.1.symm.trans e)
theorem z7q {rs:List Rc} {i:Nat} {r:Rc} (h:rs[i]? = some r):rs.take (i + 1)=rs.take i++[r]:=by rw [B7,h];rfl
theorem z5d :∀(us ns:List Int),us.Nodup->(∀u∈us,u∉ns)->(us.foldl addI ns).length=ns.length + us.length
 | [],ns,_,_=>rfl
 | u :: us,ns,nd,h=>by
  rw [List.nodup_cons] at nd;have e:addI ns u=ns++[u]:=by unfold addI;rw [if_neg (h u (.head _))]
  rw [O8,e,z5d us (ns++[u]) nd.2 λ v a z=>?_]
  ·simp only [F0,i1,A4];omega
  ·rcases List.mem_append.mp z with z|z
   ·exact h v (.tail _ a) z
   ·rw [List.mem_singleton.mp z] at a;exact nd.1 a
structure TwG (es:List Ev):Prop where
 wf:dWf 0 [] es
 g :∀wr:Int,∀r∈dAll 0 [] es,RdG r\/WrG wr r
 nd:(((dAll 0 [] es).filter isW).map (λ r=>intV r.x)).Nodup
 n0:(0:Int)∉((dAll 0 [] es).filter isW).map (λ r=>intV r.x)
structure PosI (n:Nat) (rs:List Rc):Prop where
 b :∀r∈rs,r.b < n
 e :∀r∈rs,∀e,r.e=some e->e < n
 bb :∀(i j:Nat) (r q:Rc),rs[i]? = some r->rs[j]? = some q->r.b=q.b->i=j
 ee :∀(i j:Nat) (r q:Rc) (e:Nat),rs[i]? = some r->rs[j]? = some q->r.e=some e->q.e=some e->i=j
 be :∀r∈rs,∀q∈rs,∀e,q.e=some e->r.b≠e
theorem PosI.step {n:Nat} {rs:List Rc} (p:PosI n rs) (e:Ev):PosI (n + 1) (dstep n rs e):=by
 cases e with
 | beg h nm v x=>
  have f :∀{i:Nat} {r:Rc},(rs++[(⟨h,nm,v,x,.non,n,none⟩:Rc)])[i]? = some r->rs[i]? = some r\/(i=rs.length/\r=⟨h,nm,v,x,.non,n,none⟩):=λ {i r} q=>by
   rw [C7] at q;split at q
   ·exact .inl q
   ·rename_i z;obtain ⟨y,_⟩:=List.getElem?_eq_some_iff.mp q;rw [U3] at y;have:i - rs.length=0:=by omega
    rw [this] at q;cases q;exact .inr ⟨by omega,rfl⟩
  show PosI (n + 1) (rs++[_]);refine ⟨λ r g=>?_,λ r g e c=>?_,λ i j r q k m z=>?_,λ i j r q e k m s o=>?_,λ r g q E e c=>?_⟩
  ·rcases List.mem_append.mp g with z|z
   ·exact A1 (p.b r z)
   ·rw [List.mem_singleton.mp z];exact F2 n
  ·rcases List.mem_append.mp g with z|z
   ·exact A1 (p.e r z e c)
   ·rw [List.mem_singleton.mp z] at c;cases c
  ·rcases f k with a|⟨a,rfl⟩
   ·rcases f m with b|⟨b,rfl⟩
    ·exact p.bb i j r q a b z
    ·have:=p.b r (o0 a);exact absurd z (Q0 this)
   ·rcases f m with b|⟨b,rfl⟩
    ·have:=p.b q (o0 b);exact absurd z.symm (Q0 this)
    ·omega
  ·rcases f k with a|⟨a,rfl⟩
   ·rcases f m with b|⟨b,rfl⟩
    ·exact p.ee i j r q e a b s o
    ·cases o
   ·cases s
  ·rcases List.mem_append.mp E with b|b
   ·rcases List.mem_append.mp g with a|a
    ·exact p.be r a q b e c
    ·rw [List.mem_singleton.mp a];exact Y1 (p.e q b e c)
   ·rw [List.mem_singleton.mp b] at c;cases c
 | fin h a=>
  unfold dstep;dsimp only;cases lastI h (rs.map Rc.h) with
  | none=>exact ⟨λ r g=>A1 (p.b r g),λ r g e c=>A1 (p.e r g e c),p.bb,p.ee,p.be⟩
  | some j0=>
   dsimp only;have f :∀{i:Nat} {r:Rc},(rs.modify j0 λ r=>{ r with a:=a,e:=some n })[i]? = some r->∃d,rs[i]? = some d/\r.b=d.b/\((i=j0/\r.e=some n)\/r.e=d.e):=λ {i r} q=>by
    rw [C1] at q;cases z:rs[i]? with
    | none=>rw [z] at q;cases q
    | some d=>
     rw [z] at q;have q:some (if j0=i then { d with a:=a,e:=some n } else d)=some r:=q;by_cases y:j0=i
     ·rw [if_pos y] at q;cases q;exact ⟨d,rfl,rfl,.inl ⟨y.symm,rfl⟩⟩
     ·rw [if_neg y] at q;cases q;exact ⟨_,rfl,rfl,.inr rfl⟩
   have B :∀{r:Rc},r∈(rs.modify j0 λ r=>{ r with a:=a,e:=some n })->∃i,(rs.modify j0 λ r=>{ r with a:=a,e:=some n })[i]? = some r:=λ h=>List.mem_iff_getElem?.mp h;refine ⟨λ r g=>?_,λ r g e c=>?_,λ i j r q k m z=>?_,λ i j r q e k m s o=>?_,λ r g q E e c=>?_⟩
   ·obtain ⟨i,k⟩:=B g;obtain ⟨d,l,A,_⟩:=f k;rw [A];exact A1 (p.b d (o0 l))
   ·obtain ⟨i,k⟩:=B g;obtain ⟨d,l,_,⟨_,z⟩|z⟩:=f k
    ·rw [z] at c;cases c;exact F2 n
    ·rw [z] at c;exact A1 (p.e d (o0 l) e c)
   ·obtain ⟨d,l,A,_⟩:=f k;obtain ⟨t,u,H,_⟩:=f m;exact p.bb i j d t l u (by rw [<-A,<-H];exact z)
   ·obtain ⟨d,l,_,⟨G,F⟩|y⟩:=f k
    ·obtain ⟨t,u,_,⟨D,C⟩|w⟩:=f m
     ·rw [G,D]
     ·rw [F] at s;cases s;rw [w] at o;exact absurd (p.e t (o0 u) _ o) (Z2 _)
    ·obtain ⟨t,u,_,⟨D,C⟩|w⟩:=f m
     ·rw [C] at o;cases o;rw [y] at s;exact absurd (p.e d (o0 l) _ s) (Z2 _)
     ·exact p.ee i j d t e l u (by rw [<-y];exact s) (by rw [<-w];exact o)
   ·obtain ⟨i,k⟩:=B g;obtain ⟨j,m⟩:=B E;obtain ⟨d,l,A,_⟩:=f k;obtain ⟨t,u,_,⟨D,C⟩|w⟩:=f m
    ·rw [C] at c;cases c;rw [A];exact Q0 (p.b d (o0 l))
    ·rw [A];exact p.be d (o0 l) t (o0 u) e (by rw [<-w];exact c)
theorem PosI.all :∀(es:List Ev) {n:Nat} {rs:List Rc},PosI n rs->PosI (n + es.length) (dAll n rs es)
 | [],_,_,p=>p
 | e :: es,n,rs,p=>by have:=PosI.all es (p.step e);rw [show n + (e :: es).length=n + 1 + es.length by rw [i1];omega];exact this
theorem PosI.nil:PosI 0 []:=⟨λ _ h=>absurd h B0,λ _ h=>absurd h B0,λ i j r q h=>by simp at h,λ i j r q e h=>by simp at h,λ _ h=>absurd h B0⟩
theorem z3g {α β:Type} {R:α->β->Prop} :∀{xs:List α} {x:α} {ys:List β},All2 R (xs++[x]) ys->∃ys' y,ys=ys'++[y]/\All2 R xs ys'/\R x y
 | [],x,_,.cons a .nil=>⟨[],_,rfl,.nil,a⟩
 | z :: xs,x,_,.cons a r=>by obtain ⟨ys',y,rfl,c,b⟩:=z3g r;exact ⟨_ :: ys',y,rfl,.cons a c,b⟩
theorem z4o {α β:Type} {S:α->β->Prop} {q:α->Bool} {es:List α} :∀(n:Nat),n<=es.length->∀{ws:List β},All2 (λ i y=>∀e,es[i]? = some e->S e y) ((V1 n).filter λ i=>(es[i]?.map q).getD false) ws->All2 S ((es.take n).filter q) ws
 | 0,_,ws,h=>by cases h;exact .nil
 | n + 1,hn,ws,h=>by
  have e:es[n]? = some es[n]:=Y0 hn;rw [M8,W2] at h;rw [B7,e,W2];by_cases z:q es[n]=true
  ·rw [Z1 (by rw [e];exact z)] at h;obtain ⟨c,y,rfl,b,a⟩:=z3g h;show All2 S (_++[es[n]].filter q) _;rw [Z1 z];exact z0r (z4o n (by omega) b) (a _ e)
  ·rw [i2 (by rw [e];exact z)] at h;show All2 S (_++[es[n]].filter q) _;rw [i2 z,V5,i3];rw [V5,i3] at h;exact z4o n (by omega) h
end
section
variable {P:Program} {w:N0} {mg:Str->Option Value} {base:Heap}
def z21 (K:c0):Sp:=λ vs H Q _=>∃y r wr e,vs=[y]/\RcAt K H r y/\(RdG r\/WrG wr r)/\r.e=some e/\Q (.bl true) H
theorem z55 (T:TX (kx w) mg) (c0:Ca P w mg base "is_whole" ["value"] 1 z1p):Fo P w mg base CX0 2 266 y05 ["deed"] (z21 (kx w)):=by
 refine (z1j w.params).ok z46 (λ d H Q E h=>?_) (λ k A l s H d Q E f h=>?_)
 ·obtain ⟨y,r,i,e,rfl,_⟩:=h;rfl
 ·obtain ⟨y,r,i,e,rfl,⟨p,rfl,b⟩,g,c,q⟩:=h;refine ⟨_,(z06 (ps_if (z08 opEq (pe_ix ix_seq (pv 0) pe_int (λ _ _=>rfl)) pe_str (nomark _))
   (z05 (ps_ret (z1k opEq (pe_ix ix_seq (pv 0) pe_int (λ _ _=>rfl)) pe_str (nomark _))))
   z0d)
   (z05 (ps_ret (pe_cal c0 (f.mono (by decide)) rfl (z00 (pe_ix ix_seq (pv 0) pe_int (λ _ _=>rfl)) pa_nil))))),?_⟩
  rcases g with g|g
  ·refine ⟨_,rfl,.inr (.inl ⟨p,_,2,.str "read",rfl,rfl,b,by rw [g.1];exact z03 (j:=2) rfl,rfl,_,rfl,iteK ?_⟩)⟩;exact ⟨_,rfl,.inr (.inl ⟨p,_,4,.int (intV r.a),rfl,rfl,b,by rw [g.2.2 e c];exact z03 (j:=4) rfl,_,"int",rfl,rfl,by rw [show decide (("int" : String) = "int")=true by decide];exact q⟩)⟩
  ·refine ⟨_,rfl,.inr (.inl ⟨p,_,2,.str "write",rfl,rfl,b,by rw [g.1];exact z03 (j:=2) rfl,rfl,_,rfl,iteP (by decide +kernel) ?_⟩)⟩;exact ⟨_,rfl,.inr (.inl ⟨p,_,4,.str "ok",rfl,rfl,b,by rw [g.2.2.2 e c];exact z03 (j:=4) rfl,rfl,q⟩)⟩
structure ToldAt (K:c0) (H:Hp) (l:Addr) (wr:Int) (rs:List Rc) (zs:List V):Prop where
 l:H l=some (.lst zs)
 a:All2 (RcAt K H) rs zs
 g :∀r∈rs,RdG r\/WrG wr r
 n:rs.length<=63
theorem ToldAt.same {K:c0} {H H':Hp} {l:Addr} {wr:Int} {rs:List Rc} {zs:List V} (s:Same H H') (h:ToldAt K H l wr rs zs):ToldAt K H' l wr rs zs:=⟨s _ _ h.l,z02 (λ _ _ z=>RcAt.tups (.of s) z) h.a,h.g,h.n⟩
noncomputable def r00:Rc:=⟨0,.non,.non,.non,.non,0,none⟩
theorem getD_some {rs:List Rc} {i:Nat} {r:Rc} (h:rs[i]? = some r):rs[i]?.getD r00=r:=by rw [h];rfl
theorem zb8 (x:Int) :∀ns:List Int,inV (.int x) (ns.map V.int)=decide (x∈ns)
 | []=>by rw [decide_eq_false B0];rfl
 | n :: r=>by
  show ((n == x) || inV (.int x) (r.map V.int))=_;rw [zb8 x r];by_cases e:n=x
  ·rw [beq_iff_eq.mpr e,Bool.true_or,decide_eq_true (List.mem_cons.mpr (.inl e.symm))]
  ·rw [Bool.eq_false_iff.mpr (λ h=>e (beq_iff_eq.mp h)),Bool.false_or];by_cases m:x∈r
   ·rw [decide_eq_true m,decide_eq_true (List.mem_cons.mpr (.inr m))]
   ·rw [decide_eq_false m,decide_eq_false (λ h=>(List.mem_cons.mp h).elim (λ y=>e y.symm) m)]
theorem z7t :∀ns:List Int,(ns.map V.int).all flatV=true
 | []=>rfl
 | _ :: r=>by show (true && (r.map V.int).all flatV)=true;rw [z7t r];rfl
theorem zbr {f:Rc->V} {rs:List Rc} {zs ys:List V} (lz:zs.length=rs.length) (h:All2 (λ (i:Nat) y=>y=f (rs[i]?.getD r00)) ((V1 zs.length).filter λ i=>isW (rs[i]?.getD r00)) ys):ys=(rs.filter isW).map f:=by rw [lz] at h;rw [z1q h];exact z0x isW f r00 rs
def z3k (K:c0):Sp:=λ vs H Q _=>∃l zs rs wr,vs=[.ref l]/\ToldAt K H l wr rs zs/\((rs.filter isW).map (λ r=>intV r.x)).Nodup/\(0:Int)∉(rs.filter isW).map (λ r=>intV r.x)/\∀H',Same H H'->Q (.bl true) H'
theorem z73 (T:TX (kx w) mg) (c0:Ca P w mg base "is_answered" ["deed"] 2 (z21 (kx w))):Fo P w mg base CX0 3 259 y0e ["told"] (z3k (kx w)):=by
 refine (z2e w.params).ok sc_are_plain (λ X H Q E h=>?_) (λ a5 A a6 s H X Q E hr h=>?_)
 ·obtain ⟨l,C,b,W,rfl,_⟩:=h;rfl
 ·obtain ⟨l,C,b,W,rfl,c,nd,n0,q⟩:=h;refine ⟨_,(z06 (zfu (i:=1) sc_are_plain.nd rfl (L1 rfl) (xs:=["deed"]) (g:=gName 0) (fr:=[]) rfl (z0n (pv 0)) (λ _ z=>absurd z B0) (zbq rfl) (λ _ z=>absurd z B0) (by decide +kernel) rfl (by decide +kernel) (λ _ _ _ _ _=>(pg_cn (N:=["deed"]) 0)) (λ _ _ _ _ _=>(pf_one (z08 opEq (pe_ix (z1a (K:=KX w.params) rfl) (pv 0) pe_int (λ _ _=>rfl)) pe_str (nomark _)))) (λ _ _ _ _ _=>(pe_ix (z1a (K:=KX w.params) rfl) (pv 0) pe_int (λ _ _=>rfl))))
   (z06 (ps_if (PW.pt (pw_or (z08 z86 pe_int (pv 1) (by with_unfolding_all rfl)) (pw_or1 (z08 op_lt (zbx rfl rfl (T.no (n_len _)) rfl (T.no (n_set _)) T3 boot_set (pv 1)) (z09 z0t rfl (T.no (n_len _)) T3 (z00 (pv 1) pa_nil)) (nomark _)))))
   (z05 (ps_ret pe_bl))
   z0d)
   (z05 (ps_ret (z09 (z25 rfl) rfl (T.no (n_all _)) Q9 (z00 (pe_cg (xs:=["deed"]) (g:=gName 0) (fr:=[]) (z0n (pv 0)) (λ _ _ _ _ _=>(pg_cn (N:=["deed"]) 0)) (λ _ _ _ _ _=>pf_nil) (λ _ _ _ _ _=>(pe_or (z1k op_isN (pe_ix (z1a (K:=KX w.params) rfl) (pv 0) pe_int (λ _ _=>rfl)) pe_non (nomark _)) (pe_one (pe_cal c0 (hr.mono (by decide)) rfl (z00 (pv 0) pa_nil)))))) pa_nil)))))),?_⟩
  have lz:C.length=b.length:=z04 c.a;have a1:=c.n;refine z0f ?_;refine z10 (K:=KX w.params) (a:=l) (xs:=C) (H1:=H) (λ i=>isW (b[i]?.getD r00)) (λ i y _=>y=.int (intV (b[i]?.getD r00).x)) (λ _ _ _ _ _ z=>z) (λ R h=>⟨_,rfl,h⟩) (SqL.of c.l) (J0 (m:=63) (by omega) (by decide)) ?_ ?_
  ·intro i hi v H1 J L KT KF t M;obtain ⟨r,B,p,rfl,F⟩:=z0a c.a L;have d:=J.seqT F;rw [getD_some B] at t M;refine ⟨[some (.ref p)],rfl,rfl,?_⟩;rcases c.g r (o0 B) with g|g
   ·refine ⟨_,rfl,.inr (.inl ⟨p,_,2,.str "read",rfl,rfl,d,by rw [g.1];exact z03 (j:=2) rfl,rfl,_,rfl,iteK (M g.w _ (Same.refl _))⟩)⟩
   ·refine ⟨_,rfl,.inr (.inl ⟨p,_,2,.str "write",rfl,rfl,d,by rw [g.1];exact z03 (j:=2) rfl,rfl,_,rfl,iteP (by decide +kernel) ?_⟩)⟩;exact ⟨_,rfl,.inr (.inl ⟨p,_,3,.int (intV r.x),rfl,rfl,d,by rw [<-g.2.2.1];exact z03 (j:=3) rfl,t g.w _ _ (Same.refl _) rfl⟩)⟩
  intro k H1 ys J a0 a2;have Z:=zbr (f:=λ r=>V.int (intV r.x)) lz a2;have a3:ys=((b.filter isW).map (λ r=>intV r.x)).map V.int:=by rw [Z,R3];rfl
  have lu:((b.filter isW).map (λ r=>intV r.x)).length<=63:=by rw [G0];exact J0 (X1 _ _) a1
  subst a3;generalize (b.filter isW).map (λ r=>intV r.x)=us at nd n0 lu⊢;have U:=Same.upd (o:=.lst (us.map V.int)) a0;have D:upd H1 k (.lst (us.map V.int)) k=some (.lst (us.map V.int)):=z01;have G:=J.trans U;generalize upd H1 k (.lst (us.map V.int))=H2 at U D G⊢;refine g_name ?_;refine sq_if ?_;refine t_or ?_;refine ⟨_,rfl,k,_,rfl,.inl (SqL.of D),rfl,z7t _,_,rfl,iteN (by show ¬ inV _ _=true;rw [zb8,decide_eq_false n0];decide) ?_⟩;refine ⟨_,rfl,k,us,rfl,SqL.of D,by omega,_,rfl,.inl ⟨k,_,rfl,.inl (SqL.of D),_,_,rfl,rfl,_,rfl,iteN ?_ ?_⟩⟩
  ·rw [z5d us [] nd (λ _ _=>B0),A4,G0];exact λ e=>absurd (of_decide_eq_true e) (by omega)
  refine t_nx (sq_ret (e_cb1 ?_));have O:=c.same G;refine z10 (K:=KX w.params) (a:=l) (xs:=C) (H1:=H2) (λ _=>true) (λ i y _=>y=.bl true) (λ _ _ _ _ _ z=>z) (λ R h=>⟨_,rfl,h⟩) (SqL.of O.l) (J0 (m:=63) (by omega) (by decide)) ?_ ?_
  ·intro i hi v H3 I L KT KF t M;obtain ⟨r,B,p,rfl,F⟩:=z0a O.a L;have d:=I.seqT F;refine ⟨[some (.ref p)],rfl,rfl,iteT ?_⟩;cases he:r.e with
   | none=>exact ⟨_,rfl,.inr (.inl ⟨p,_,6,.non,rfl,rfl,d,by rw [he];exact z03 (j:=6) rfl,rfl,_,rfl,iteP (by decide) (t rfl _ _ (Same.refl _) rfl)⟩)⟩
   | some e=>refine ⟨_,rfl,.inr (.inl ⟨p,_,6,.int e,rfl,rfl,d,by rw [he];exact z03 (j:=6) rfl,rfl,_,rfl,iteN (by simp) ?_⟩)⟩;exact ⟨_,rfl,_,r,W,e,rfl,⟨p,rfl,d⟩,c.g r (o0 B),he,t rfl _ _ (Same.refl _) rfl⟩
  intro l3 H3 bs I a4 Y;have S :∀y∈bs,y=.bl true:=λ y u=>by obtain ⟨m,hm⟩:=List.mem_iff_getElem?.mp u;obtain ⟨_,_,z⟩:=z0a Y hm;exact z
  refine ⟨l3,bs,rfl,SqL.of z01,λ y u=>⟨true,S y u⟩,?_⟩;rw [List.all_eq_true.mpr (λ y u=>decide_eq_true (S y u))];exact q _ (G.trans (I.trans (Same.upd a4)))
structure TalR (K:c0) (H:Hp) (t:Addr) (nm:Str) (wr:Int) (es:List Ev) (ys:List V):Prop where
 t :∃pt te th,SqT K H t [.ref pt,.ref te]/\SqT K H pt [.ref th]/\SqT K H th [.str nm,.str "register"]/\SqT K H te ys
 ev:All2 (EvAt K H) es ys
 tw:TwG es
 ln:es.length<=62
theorem TalR.same {K:c0} {H H':Hp} {t:Addr} {nm:Str} {wr:Int} {es:List Ev} {ys:List V} (s:Same H H') (h:TalR K H t nm wr es ys):TalR K H' t nm wr es ys:=by obtain ⟨pt,f,e,a,b,c,d⟩:=h.t;exact ⟨⟨pt,f,e,s.seqT a,s.seqT b,s.seqT c,s.seqT d⟩,z02 (λ _ _ z=>EvAt.tups (.of s) z) h.ev,h.tw,h.ln⟩
theorem z4t :∀{es:List Ev} {i:Nat} {rs:List Rc},(dAll i rs es).length<=rs.length + es.length
 | [],_,_=>A0 _
 | e :: es,i,rs=>by
  have h:=z4t (es:=es) (i:=i + 1) (rs:=dstep i rs e);have b:(dstep i rs e).length<=rs.length + 1:=by
   cases e with
   | beg k n v x=>exact d7 (F0 ..)
   | fin k a=>
    unfold dstep;dsimp only;cases lastI k (rs.map Rc.h) with
    | none=>exact T5 _
    | some j=>dsimp only;rw [i5];exact T5 _
  show (dAll (i + 1) (dstep i rs e) es).length<=_;rw [i1];omega
def z12 (K:c0):Sp:=λ vs H Q _=>∃t nm wr es ys,vs=[.ref t]/\TalR K H t nm wr es ys/\∀l zs H',Same H H'->ToldAt K H' l wr (dAll 0 [] es) zs->Q (.ref l) H'
theorem z7z:plainP (.list [.str "register"])=true:=by decide +kernel
theorem zex:PyData.eqv (.list [.str "register"]) (.list [.str "register"])=true:=by decide +kernel
theorem z4s (T:TX (kx w) mg) (c0:Ca P w mg base "deeds" ["tale"] 1 (za2 (kx w))) (c1:Ca P w mg base "are_plain" ["told"] 3 (z3k (kx w))):Fo P w mg base CX0 4 254 y04 ["tale"] (z12 (kx w)):=by
 refine (z1b w.params).ok sc_plain_deeds (λ Y H Q E h=>?_) (λ a1 A a2 s H Y Q E B h=>?_)
 ·obtain ⟨t,G,f,e,S,rfl,_⟩:=h;rfl
 ·obtain ⟨t,G,f,e,S,rfl,c,q⟩:=h;refine ⟨_,(z06 (ps_set (i:=1) sc_plain_deeds.nd rfl (L1 rfl) (pe_cal c0 (B.mono (by decide)) rfl (z00 (pv 0) pa_nil)))
   (z06 (ps_if (PW.pt (pw_or (z08 (op_neP B) (pe_cg (xs:=["name","kind"]) (g:=gTup (kx w) 2 (gCons (gName 0) (gCons (gName 1) gNil))) (fr:=[]) (pi_tup (pe_ix ix_seq (pv 0) pe_int (λ _ _=>rfl))) (λ _ _ _ _ _=>(pg_tup rfl (z0l (pg_cn (N:=["name","kind"]) 0) (z0l (pg_cn (N:=["name","kind"]) 1) z26)))) (λ _ _ _ _ _=>pf_nil) (λ _ _ _ _ _=>(pv 1))) (pe_lst (z00 pe_str pa_nil)) (nomark _)) (pw_or1 (pt_not (pt_val (pe_cal c1 (B.mono (by decide)) rfl (z00 (pv 1) pa_nil)) (λ _=>rfl))))))
   (z05 z1w)
   z0d)
   (z05 (ps_ret (pv 1))))),?_⟩
  obtain ⟨pt,te,C,D,W,Z,se⟩:=c.t;have tw:=c.tw;have wf:=tw.wf;have a3:=c.ln;have rn:(dAll 0 [] e).length<=63:=J0 z4t (by simp;omega);refine z0f ?_;refine ⟨_,rfl,t,te,.ref pt,S,e,rfl,D,se,c.ev,by omega,wf,λ l m H1 d a4 el al=>?_⟩;refine g_name ?_;have I:ToldAt (kx w) H1 l f (dAll 0 [] e) m:=⟨el,al,tw.g f,rn⟩
  refine sq_if (t_or (t_test ?_));refine z85 (K:=KX w.params) (a:=pt) (xs:=[.ref C]) (H1:=H1) (λ _=>true) (λ i y _=>y=.str "register") (λ _ _ _ _ _ z=>z) (λ R h=>⟨_,rfl,.inr (.inl ⟨t,_,0,.ref pt,rfl,rfl,d.seqT D,z03 (j:=0) rfl,h⟩)⟩) (d.seqT W) w_1 ?_ ?_
  ·intro i hi v u n hv KT KF h1 h2;have:v=.ref C:=List.mem_singleton.mp (o0 hv);subst this;refine ⟨C,_,rfl,(d.trans n).seqT Z,rfl,_,_,rfl,_,_,rfl,rfl,[some (.str G),some (.str "register")],rfl,rfl,iteT ⟨_,rfl,h1 rfl _ _ (Same.refl _) rfl⟩⟩
  intro k u O n X p;have ek:O=[.str "register"]:=by
   replace p:All2 (λ (_:Nat) (y:V)=>y=.str "register") [0] O:=p;cases p with
   | cons a r=>cases r;rw [a]
  subst ek;have F:=Same.upd (o:=.lst [V.str "register"]) X;have M:upd u k (.lst [V.str "register"]) k=some (.lst [V.str "register"]):=z01;have U:=n.trans F;generalize upd u k (.lst [V.str "register"])=H3 at F M U⊢;refine ⟨w_1,λ L a0=>?_⟩;have x:=Same.upd (o:=.lst [V.str "register"]) a0;refine ⟨.list [.str "register"],.list [.str "register"],⟨k,_,rfl,SqL.of (x _ _ M),⟨_,_,rfl,rfl,rfl⟩⟩,⟨L,_,rfl,SqL.of z01,⟨_,_,rfl,rfl,rfl⟩⟩,z7z,z7z,(show (1:Nat)<=60 by decide),_,rfl,iteN (by rw [zex];decide) ?_⟩;have b:=U.trans x;generalize upd H3 L (.lst [V.str "register"])=H4 at x b⊢;refine ⟨_,rfl,l,m,_,f,rfl,I.same b,tw.nd,tw.n0,λ H5 J=>⟨true,rfl,iteN (by decide) ?_⟩⟩;exact ⟨_,rfl,q l m H5 (d.trans (b.trans J)) (I.same (b.trans J))⟩
structure Ent where
 x:Int
 b:Int
 e:Option Int
noncomputable def ent0:Ent:=⟨0,-2,some (-1)⟩
noncomputable def entW (r:Rc):Ent:=⟨intV r.x,r.b,r.e.map λ n=>(n:Int)⟩
noncomputable def ents (rs:List Rc):List Ent:=ent0 :: (rs.filter isW).map entW
theorem ents_mem {rs:List Rc} {t:Ent}:t∈ents rs↔t=ent0\/∃w∈rs,isW w=true/\t=entW w:=by
 unfold ents;rw [L3,List.mem_map];constructor
 ·rintro (h|⟨w,hw,e⟩)
  ·exact .inl h
  ·exact .inr ⟨w,(List.mem_filter.mp hw).1,(List.mem_filter.mp hw).2,e.symm⟩
 ·rintro (h|⟨w,hw,hi,e⟩)
  ·exact .inl h
  ·exact .inr ⟨w,List.mem_filter.mpr ⟨hw,hi⟩,e.symm⟩
theorem z7i (rs:List Rc) (r:Rc):ents (rs++[r])=ents rs++if isW r=true then [entW r] else []:=by
 unfold ents;rw [W2,P2,List.cons_append];by_cases z:isW r=true
 ·rw [if_pos z,Z1 z];rfl
 ·rw [if_neg z,i2 z];rfl
noncomputable def endO:Option Int->V
 | none=>.non
 | some i=>.int i
theorem endV_O (o:Option Nat):endV o=endO (o.map λ n=>(n:Int)):=by cases o<;>rfl
def EntV (K:c0) (H:Hp) (t:Ent) (v:V):Prop:=∃p,v=.ref p/\SqT K H p [.int t.b,endO t.e]
def EntAt (K:c0) (H:Hp) (t:Ent) (kv:Key×V):Prop:=kv.1=.inl t.x/\EntV K H t kv.2
theorem EntV.tups {K:c0} {H H':Hp} {t:Ent} {v:V} (f :∀c xs,SqT K H c xs->SqT K H' c xs) (h:EntV K H t v):EntV K H' t v:=h.elim λ p z=>⟨p,z.1,f _ _ z.2⟩
theorem EntAt.tups {K:c0} {H H':Hp} {t:Ent} {kv:Key×V} (f :∀c xs,SqT K H c xs->SqT K H' c xs) (h:EntAt K H t kv):EntAt K H' t kv:=⟨h.1,h.2.tups f⟩
theorem z4i {K:c0} {H:Hp} :∀{ts:List Ent} {kvs:List (Key×V)},All2 (EntAt K H) ts kvs->kvs.map (·.1)=ts.map λ t=>Sum.inl t.x
 | _,_,.nil=>rfl
 | _,_,.cons a r=>by rw [T0,T0,z4i r,a.1]
theorem z72 (rs:List Rc):(ents rs).length<=rs.length + 1:=by unfold ents;rw [i1,G0];exact Nat.succ_le_succ (X1 _ _)
theorem zft {rs:List Rc} {i:Nat} {r:Rc} (nd:((rs.filter isW).map (λ r=>intV r.x)).Nodup) (n0:(0:Int)∉(rs.filter isW).map (λ r=>intV r.x)) (h:rs[i]? = some r) (hw:isW r=true):(Sum.inl (intV r.x):Key)∉(ents (rs.take i)).map λ t=>(Sum.inl t.x:Key):=λ z=>by
 obtain ⟨t,b,e⟩:=List.mem_map.mp z;have e:=j4 e;rcases ents_mem.mp b with rfl|⟨w,hm,hi,rfl⟩
 ·exact n0 (List.mem_map.mpr ⟨r,List.mem_filter.mpr ⟨o0 h,hw⟩,e.symm⟩)
 ·have c:rs=rs.take i++r :: rs.drop (i + 1):=by obtain ⟨a,d⟩:=List.getElem?_eq_some_iff.mp h;rw [<-d,<-w6 a,List.take_append_drop]
  rw [c,W2,P2,List.nodup_append] at nd;exact nd.2.2 _ (List.mem_map.mpr ⟨w,List.mem_filter.mpr ⟨hm,hi⟩,rfl⟩) _ (List.mem_map.mpr ⟨r,List.mem_filter.mpr ⟨.head _,hw⟩,rfl⟩) e
theorem ze3 {H:Hp}:SqT (kx w) H 249 [.int (-2),.int (-1)]:=
 .inr ⟨⟨(.type "tuple"),none,(.seq #[(.int (-2) 573),(.int (-1) 575)] 0),#[]⟩,#[(.int (-2) 573),(.int (-1) 575)],0,by kernel_rfl,rfl,rfl,w_2,.cons ⟨_,rfl⟩ (.cons ⟨_,rfl⟩ .nil)⟩
def z31 (K:c0):Sp:=λ vs H Q _=>∃l zs rs wr,vs=[.ref l]/\ToldAt K H l wr rs zs/\((rs.filter isW).map (λ r=>intV r.x)).Nodup/\(0:Int)∉(rs.filter isW).map (λ r=>intV r.x)/\∀d kvs H',Same H H'->H d=none->H' d=some (.dK kvs)->All2 (EntAt K H') (ents rs) kvs->Q (.ref d) H'
theorem zav (T:TX (kx w) mg):Fo P w mg base CX0 1 273 y11 ["told"] (z31 (kx w)):=by
 refine (z51 w.params).ok sc_writers (λ S H Q E h=>?_) (λ a0 A a1 s H S Q E Y h=>?_)
 ·obtain ⟨l,D,F,wr,rfl,_⟩:=h;rfl
 ·obtain ⟨l,D,F,wr,rfl,f,nd,n0,q⟩:=h;refine ⟨_,(z06 (ps_set (i:=1) sc_writers.nd rfl (L1 rfl) (zf9 (zek pe_int (z18 (v:=.ref 249) rfl (T.of (z5c _)) rfl) zfa) rfl rfl (by simp) (by decide)))
   (z06 (ps_for C2 rfl (z0n (pv 0)) (z0m (i:=2) sc_writers.nd rfl (L1 rfl))
   (z05 (ps_if (z08 opEq (pe_ix ix_seq (pv 2) pe_int (λ _ _=>rfl)) pe_str (nomark _))
   (z05 (z88 (hu_of Y) (pv 1) (pe_ix ix_seq (pv 2) pe_int (λ _ _=>rfl)) (z14 slSeq (pv 2) (z1s pe_int) z2r) rfl))
   z0d)))
   (z05 (ps_ret (pv 1))))),?_⟩
  have U:D.length=F.length:=z04 f.a;have a2:=f.n;intro d hd;refine ⟨z01,[(.inl 0,.ref 249)],rfl,(show (1:Nat)<=15 by decide),?_⟩;have G:Same H (upd (upd H d (.dK [])) d (.dK (mergeK [] [(.inl 0,.ref 249)]))):=Same.keep (Same.upd hd) hd;have O:upd (upd H d (.dK [])) d (.dK (mergeK [] [(.inl 0,.ref 249)])) d=some (.dK [(.inl 0,.ref 249)]):=z01;generalize upd (upd H d (.dK [])) d (.dK (mergeK [] [(.inl 0,.ref 249)]))=H1 at G O⊢;refine ⟨_,rfl,l,rfl,⟨_,SqL.of (G _ _ f.l)⟩,?_⟩;refine z15 (K:=KX w.params) (a:=l) (xs:=D) (λ i σ u=>Same H u/\(∃kvs,u d=some (.dK kvs)/\All2 (EntAt (kx w) u) (ents (F.take i)) kvs)/\∃x2,σ=[some (.ref l),some (.ref d),x2])
   ⟨G,⟨_,O,.cons ⟨rfl,249,rfl,ze3⟩ .nil⟩,_,rfl⟩ (λ _ σ u _ h=>SqL.of (h.1 _ _ f.l)) ?_ ?_
  ·rintro i y σ M hy ⟨s2,⟨kvs,ed,wk⟩,x2,rfl⟩;obtain ⟨r,o,p,rfl,R⟩:=z0a f.a hy;have hi:i < 63:=by have:=(List.getElem?_eq_some_iff.mp o).1;omega
   have lk:kvs.length<=64:=by rw [z04 wk];refine J0 (z72 _) ?_;rw [K3];omega
   have t:=s2.seqT R;refine g_name ?_;rcases f.g r (o0 o) with g|g
   ·refine ⟨_,rfl,.inr (.inl ⟨p,_,2,.str "read",rfl,rfl,t,by rw [g.1];exact z03 (j:=2) rfl,rfl,_,rfl,iteK ?_⟩)⟩;refine ⟨s2,⟨kvs,ed,?_⟩,_,rfl⟩;rw [z7q o,z7i,if_neg (by rw [g.w];decide),i3];exact wk
   ·refine ⟨_,rfl,.inr (.inl ⟨p,_,2,.str "write",rfl,rfl,t,by rw [g.1];exact z03 (j:=2) rfl,rfl,_,rfl,iteP (by decide +kernel) ?_⟩)⟩;refine ⟨_,rfl,5,rfl,.inr (.inl ⟨p,_,rfl,t,λ z=>absurd z.1 (show ¬ HT.sIx 7 0 (some 5)=0 by decide),λ N V=>?_⟩)⟩;have X:cutV [.int r.h,r.n,r.v,r.x,r.a,.int r.b,endV r.e] (some 5) none=[.int r.b,endV r.e]:=rfl;rw [X];obtain ⟨L,Z,B,W⟩:=newA (.tup [.int r.b,endV r.e]) V;rw [<-Z];have J:=B _ _ ed;refine ⟨_,rfl,_,rfl,.inr (.inl ⟨p,_,3,.int (intV r.x),rfl,rfl,B.seqT t,by rw [<-g.2.2.1];exact z03 (j:=3) rfl,d,_,rfl,DPut.k (k:=.inl (intV r.x)) J (U1 (m:=100) (by omega) (by decide)),?_⟩)⟩;have C:Tups (kx w) L (upd L d (.dK (putK kvs (.inl (intV r.x)) (.ref N)))):=Tups.dict J;have I:=zft nd n0 o g.w;rw [<-z4i wk] at I;refine ⟨Same.keep (s2.trans B) hd,⟨_,z01,?_⟩,_,rfl⟩;rw [z7q o,z7i,if_pos g.w,z35 I];rw [z35 I] at C;refine z0r (z02 (λ _ _ z=>EntAt.tups (λ c xs y=>C _ _ (B.seqT y)) z) wk) ⟨rfl,N,rfl,?_⟩;have:=C _ _ (SqT.of W);rw [endV_O] at this;exact this
  ·rintro σ M ⟨s2,⟨kvs,ed,wk⟩,x2,rfl⟩;rw [U,T4] at wk;exact ⟨_,rfl,q d kvs M s2 hd ed wk⟩
def NumAt (H:Hp) (zs:List V) (i:Nat) (y:V):Prop:=∃p z,y=.ref p/\H p=some (.tup [.int (i:Nat),z])/\zs[i]? = some z
theorem NumAt.same {H H':Hp} {zs:List V} {i:Nat} {y:V} (s:Same H H') (h:NumAt H zs i y):NumAt H' zs i y:=by obtain ⟨p,z,c,a,b⟩:=h;exact ⟨p,z,c,s _ _ a,b⟩
noncomputable def isRE (r:Rc):Bool:=decide (r.v=.str "read") && r.e.isSome
def z13 (K:c0):Sp:=λ vs H Q _=>∃l zs rs wr,vs=[.ref l]/\ToldAt K H l wr rs zs/\∀a ws H',Same H H'->H' a=some (.lst ws)->All2 (NumAt H' zs) ((V1 rs.length).filter λ i=>isRE (rs[i]?.getD r00)) ws->Q (.ref a) H'
theorem z4l (T:TX (kx w) mg):Fo P w mg base CX0 1 278 y06 ["told"] (z13 (kx w)):=by
 refine (z1d w.params).ok z4a (λ L H Q E h=>?_) (λ a0 A a1 s H L Q E hr h=>?_)
 ·obtain ⟨l,c,f,X,rfl,_⟩:=h;rfl
 ·obtain ⟨l,c,f,X,rfl,b,q⟩:=h;refine ⟨_,(z05 (ps_ret (pe_cg (xs:=["number","deed"]) (g:=gTup (kx w) 2 (gCons (gName 0) (gCons (gName 1) gNil))) (fr:=[]) (zed rfl (T.no (z3y _)) (z00 (pv 0) pa_nil)) (λ _ _ _ _ _=>(pg_tup rfl (z0l (pg_cn (N:=["number","deed"]) 0) (z0l (pg_cn (N:=["number","deed"]) 1) z26)))) (λ _ _ _ _ _=>(pf_one (PW.pt (pw_and (z08 opEq (pe_ix (z1a (K:=KX w.params) rfl) (pv 1) pe_int (λ _ _=>rfl)) pe_str (nomark _)) (z5q (z08 z3j (pe_ix (z1a (K:=KX w.params) rfl) (pv 1) pe_int (λ _ _=>rfl)) pe_non (nomark _))))))) (λ _ _ _ _ _=>(pe_tup (z00 (pv 0) (z00 (pv 1) pa_nil))))))),?_⟩;have O:c.length=f.length:=z04 b.a;have a2:=b.n;refine sq_ret ?_;refine zcv (K:=KX w.params) (a:=l) (xs:=c) (H1:=H) (λ i=>isRE (f[i]?.getD r00)) (λ i y J=>NumAt J c i y) (λ _ _ _ _ s z=>z.same s) (λ R h=>⟨_,rfl,h⟩) (SqL.of b.l) (J0 (m:=63) (by omega) (by decide)) ?_ ?_
  ·intro i hi v H1 k Y KT KF B t;obtain ⟨x,M,G,rfl,W⟩:=Y;obtain ⟨r,u,p,rfl,I⟩:=z0a b.a G;have d:=k.seqT I;rw [getD_some u] at B t;refine ⟨M,_,rfl,SqT.of W,rfl,_,_,rfl,_,_,rfl,rfl,[some (.int (i:Nat)),some (.ref p)],rfl,rfl,?_⟩;rcases b.g r (o0 u) with g|g
   ·refine ⟨_,rfl,.inr (.inl ⟨p,_,2,.str "read",rfl,rfl,d,by rw [g.1];exact z03 (j:=2) rfl,rfl,_,rfl,iteP (by decide +kernel) ?_⟩)⟩;cases he:r.e with
    | none=>exact ⟨_,rfl,.inr (.inl ⟨p,_,6,.non,rfl,rfl,d,by rw [he];exact z03 (j:=6) rfl,rfl,_,rfl,iteN (by decide) (t (by unfold isRE;rw [he];exact c9 _) _ (Same.refl _))⟩)⟩
    | some e=>refine ⟨_,rfl,.inr (.inl ⟨p,_,6,.int e,rfl,rfl,d,by rw [he];exact z03 (j:=6) rfl,rfl,_,rfl,iteP (by simp) ?_⟩)⟩;refine ⟨_,rfl,_,rfl,w_2,λ Z V=>B (by unfold isRE;rw [he,decide_eq_true g.1];rfl) _ _ (Same.upd V) ⟨Z,_,rfl,z01,G⟩⟩
   ·refine ⟨_,rfl,.inr (.inl ⟨p,_,2,.str "write",rfl,rfl,d,by rw [g.1];exact z03 (j:=2) rfl,rfl,_,rfl,iteK ?_⟩)⟩;refine iteN (by decide) (t ?_ _ (Same.refl _));unfold isRE;rw [decide_eq_false (λ e=>z0z (e.symm.trans g.1))];rfl
  intro U H1 D k S C;rw [O] at C;have F:=Same.upd (o:=.lst D) S;exact q U D _ (k.trans F) z01 (z02 (λ _ _ z=>z.same F) C)
theorem ck_T (P:R0):CodeK (KX P) cdT tbT:=⟨⟨(.type "code"),none,(.fields #[(.str "zones" 611),(.str "zones" 612),(.str "/claim/cut.py" 613),(.int (150) 0),(.int (1) 0),(.int (0) 0),(.int (0) 0),(.int (3) 0),(.ref 279),(.bool true),(.int (181) 0),(.ref 280),.none,.none,.none,(.ref 281),(.int (614) 0),(.int (150) 0),(.str "/claim/cut.py" 615)]),#[]⟩,_,_,_,_,_,_,_,_,by kernel_rfl,rfl,rfl,rfl,rfl,rfl,rfl,rfl,rfl,by decide⟩
structure Zt where
 x:Int
 lo:Int
 hi:Int
 on:Bool
noncomputable def onS:Bool->Str
 | true=>"on"
 | false=>"in"
def ZtV (H:Hp) (z:Zt) (y:V):Prop:=∃p,y=.ref p/\H p=some (.tup [.int z.x,.int z.lo,.int z.hi,.str (onS z.on)])
theorem ZtV.same {H H':Hp} {z:Zt} {y:V} (s:Same H H') (h:ZtV H z y):ZtV H' z y:=h.elim λ p e=>⟨p,e.1,s _ _ e.2⟩
def MinI (l:Int) (ns:List Int):Prop:=l∈ns/\∀u∈ns,l<=u
def MaxI (l:Int) (ns:List Int):Prop:=l∈ns/\∀u∈ns,u<=l
noncomputable def zOf (x l g:Int):Zt:=if l < g then ⟨x,l,g,true⟩ else ⟨x,g,l,false⟩
def SpV (K:c0) (H:Hp) (s:Int×Option Int) (y:V):Prop:=∃p,y=.ref p/\SqT K H p [.int s.1,endO s.2]
theorem zaz :∀{n:Nat} {ss:List (Int×Option Int)} {ys:List V},n<=ss.length->All2 (λ (i:Nat) y=>∀s e,ss[i]? = some s->s.2=some e->y=V.int e) ((V1 n).filter λ i=>(ss[i]?.map λ s=>s.2.isSome).getD false) ys->ys=((ss.take n).filterMap (·.2)).map V.int
 | 0,ss,ys,_,h=>by cases h;rfl
 | n + 1,ss,ys,hn,h=>by
  have e:ss[n]? = some ss[n]:=Y0 hn;rw [M8,W2] at h;rw [B7,e,List.filterMap_append,P2];cases z:ss[n].2 with
  | none=>rw [i2 (by rw [e];show ¬ ss[n].2.isSome=true;rw [z];decide),V5,i3] at h;rw [zaz (by omega) h];show _=_++([ss[n]].filterMap (·.2)).map V.int;rw [v9 z];exact (i3 _).symm
  | some v=>rw [Z1 (by rw [e];show ss[n].2.isSome=true;rw [z];rfl),V5] at h;obtain ⟨c,y,rfl,b,a⟩:=z3g h;rw [zaz (by omega) b,a _ v e z];show _=_++([ss[n]].filterMap (·.2)).map V.int;rw [B6 z];rfl
def z3b (K:c0):Sp:=λ vs H Q _=>∃(x:Int) (l:Addr) (ys:List V) (ss:List (Int×Option Int)),vs=[.int x,.ref l]/\H l=some (.lst ys)/\All2 (SpV K H) ss ys/\ss.length<=100/\ss.filterMap (·.2)≠[]/\ss≠[]/\∀p lo g H',Same H H'->MinI lo (ss.filterMap (·.2))->MaxI g (ss.map (·.1))->ZtV H' (zOf x lo g) (.ref p)->Q (.ref p) H'
theorem z9a (T:TX (kx w) mg):Fo P w mg base CX0 1 288 y12 ["worth","spans"] (z3b (kx w)):=by
 refine (z4v w.params).ok sc_zone_of (λ vs H Q E h=>?_) (λ a5 A a6 s H vs Q E hr h=>?_)
 ·obtain ⟨x,l,J,b,rfl,_⟩:=h;rfl
 ·obtain ⟨x,l,J,b,rfl,Y,G,a4,a3,a1,q⟩:=h;have Z:=z04 G;refine ⟨_,(z06 (ps_set (i:=2) sc_zone_of.nd rfl (L1 rfl) (z09 (zc7 rfl) rfl (T.no (n_min _)) boot_min (z00 (pe_cg (xs:=["begin","end"]) (g:=gTup (kx w) 2 (gCons (gName 0) (gCons (gName 1) gNil))) (fr:=[]) (z0n (pv 1)) (λ _ _ _ _ _=>(pg_tup rfl (z0l (pg_cn (N:=["begin","end"]) 0) (z0l (pg_cn (N:=["begin","end"]) 1) z26)))) (λ _ _ _ _ _=>(pf_one (z08 z3j (pv 1) pe_non (nomark _)))) (λ _ _ _ _ _=>(pv 1))) pa_nil)))
   (z06 (ps_set (i:=3) sc_zone_of.nd rfl (L1 rfl) (z09 (zcd rfl) rfl (T.no (n_max _)) boot_max (z00 (pe_cg (xs:=["begin","end"]) (g:=gTup (kx w) 2 (gCons (gName 0) (gCons (gName 1) gNil))) (fr:=[]) (z0n (pv 1)) (λ _ _ _ _ _=>(pg_tup rfl (z0l (pg_cn (N:=["begin","end"]) 0) (z0l (pg_cn (N:=["begin","end"]) 1) z26)))) (λ _ _ _ _ _=>pf_nil) (λ _ _ _ _ _=>(pv 0))) pa_nil)))
   (z06 (ps_if (z08 op_lt (pv 2) (pv 3) (nomark _))
   (z05 (ps_ret (pe_tup (z00 (pv 0) (z00 (pv 2) (z00 (pv 3) (z00 pe_str pa_nil)))))))
   z0d)
   (z05 (ps_ret (pe_tup (z00 (pv 0) (z00 (pv 3) (z00 (pv 2) (z00 pe_str pa_nil)))))))))),?_⟩
  refine z0f (e_cb1 ?_);refine z10 (K:=KX w.params) (a:=l) (xs:=J) (H1:=H) (λ i=>(b[i]?.map λ s=>s.2.isSome).getD false) (λ i y _=>∀s e,b[i]? = some s->s.2=some e->y=V.int e) (λ _ _ _ _ _ z=>z) (λ R h=>⟨_,rfl,h⟩) (SqL.of Y) (J0 (m:=100) (by omega) (by decide)) (λ i hi v H1 n I KT KF d r=>?_) λ t H1 U n a2 k=>?_
  ·obtain ⟨c,M,p,rfl,D⟩:=z0a G I;rw [M] at d r;refine ⟨p,_,rfl,n.seqT D,rfl,_,_,rfl,_,_,rfl,rfl,[some (.int c.1),some (endO c.2)],rfl,rfl,?_⟩;cases z:c.2 with
   | none=>exact ⟨_,rfl,rfl,_,rfl,iteN (by decide) (r (by show c.2.isSome=false;rw [z];rfl) _ (Same.refl _))⟩
   | some e=>exact ⟨_,rfl,rfl,_,rfl,iteP (by simp [endO]) ⟨_,rfl,d (by show c.2.isSome=true;rw [z];rfl) _ _ (Same.refl _) λ S e' O B=>by cases O;rw [z] at B;cases B;rfl⟩⟩
  rw [Z] at k;have f:=zaz (A0 _) k;rw [T4] at f;subst f;have u:=n.trans (Same.upd (o:=.lst ((b.filterMap (·.2)).map V.int)) a2);have e1:upd H1 t (.lst ((b.filterMap (·.2)).map V.int)) t=some (.lst ((b.filterMap (·.2)).map V.int)):=z01;generalize upd H1 t (.lst ((b.filterMap (·.2)).map V.int))=H2 at u e1⊢;refine ⟨t,_,rfl,SqL.of e1,a3,λ L d r=>g_name ?_⟩;refine z0f (e_cb1 ?_);refine z10 (K:=KX w.params) (a:=l) (xs:=J) (H1:=H2) (λ _=>true) (λ i y _=>y=V.int (b[i]?.getD (0,none)).1) (λ _ _ _ _ _ z=>z) (λ R h=>⟨_,rfl,h⟩) (SqL.of (u _ _ Y)) (J0 (m:=100) (by omega) (by decide)) (λ i hi v H1 n I KT KF d r=>?_) λ C W U s3 a0 k=>?_
  ·obtain ⟨c,M,p,rfl,D⟩:=z0a G I;exact ⟨p,_,rfl,(u.trans n).seqT D,rfl,_,_,rfl,_,_,rfl,rfl,[some (.int c.1),some (endO c.2)],rfl,rfl,iteT ⟨_,rfl,d rfl _ _ (Same.refl _) (by rw [M];rfl)⟩⟩
  rw [Z,List.filter_eq_self.mpr (λ _ _=>rfl)] at k;have f:=z1q k;have f:U=(b.map (·.1)).map V.int:=by
   rw [f];apply z5;intro m;rw [Z0,Z0,Z0];by_cases z:m < b.length
   ·rw [List.getElem?_range z,Y0 z];show some (V.int (b[m]?.getD (0,none)).1)=_;rw [Y0 z];rfl
   ·rw [D4 (by rw [f8];omega),D4 (by omega)];rfl
  subst f;have u3:=u.trans (s3.trans (Same.upd (o:=.lst ((b.map (·.1)).map V.int)) a0));have X:upd W C (.lst ((b.map (·.1)).map V.int)) C=some (.lst ((b.map (·.1)).map V.int)):=z01;generalize upd W C (.lst ((b.map (·.1)).map V.int))=H4 at u3 X⊢;refine ⟨C,_,rfl,SqL.of X,λ z=>a1 (List.map_eq_nil_iff.mp z),λ g O B=>g_name ?_⟩;have fin :∀(p:Addr) j,Same H4 j->ZtV j (zOf x L g) (.ref p)->Q (.ref p) j:=λ p j S z=>q p L g j (u3.trans S) ⟨d,r⟩ ⟨O,B⟩ z;refine sq_if ⟨_,rfl,_,rfl,_,_,rfl,rfl,_,rfl,ite2 (λ z=>?_) λ z=>t_nx ?_⟩
  ·have z:=of_decide_eq_true z;refine ⟨_,rfl,_,rfl,_,rfl,w_4,λ p F=>fin p _ (Same.upd F) ⟨p,rfl,?_⟩⟩;unfold zOf;rw [if_pos z];exact z01
  ·have z:¬ L < g:=λ y=>z (decide_eq_true y);refine ⟨_,rfl,_,rfl,_,rfl,w_4,λ p F=>fin p _ (Same.upd F) ⟨p,rfl,?_⟩⟩;unfold zOf;rw [if_neg z];exact z01
theorem slSeqK {X:Cx} {K:c0} (hK:X.K=K):SlR X (λ x lo hi H Q=>rSlL K x lo hi H Q\/rSlT K x lo hi H Q\/rSlS x lo hi H Q):=hK ▸ slSeq
theorem zev {K:c0} {tl te:TE} {tc:TT} {g:TG} {m:Nat} {fr:List (Nat×Str)} {σ:L2.St} {H:Hp} {Q:VK} (h:tl σ H λ x H1=>tCompG (iList K λ _ _ R=>R x H1) m fr g tc te σ H1 Q):tCompG (iList K tl) m fr g tc te σ H Q:=h
noncomputable def lamP:Pos:=⟨157,29,157,49⟩
noncomputable def lamQ:Str:=(("zones" : Str)++".<locals>.")++"<lambda>"
abbrev LamH:Hp->Prop:=LamT tbT lamP lamQ
theorem LamH.same {H H':Hp} (s:Same H H') (h:LamH H):LamH H':=by
 rcases h with z|⟨c',z,y⟩
 ·exact .inl (s _ _ z)
 ·exact .inr ⟨c',s _ _ z,s _ _ y⟩
noncomputable def rdsF (rs:List Rc) (x:Int):List Rc:=(rs.filter isRE).filter λ r=>decide (intV r.a=x)
noncomputable def spR (r:Rc):Int×Option Int:=((r.b:Int),r.e.map λ n=>(n:Int))
noncomputable def spans (rs:List Rc) (t:Ent):List (Int×Option Int):=(t.b,t.e) :: (rdsF rs t.x).map spR
noncomputable def cntB (rs:List Rc) (t:Ent):Bool:=decide ((spans rs t).filterMap (·.2)≠[])
def ZnR (rs:List Rc) (t:Ent) (z:Zt):Prop:=∃l g,MinI l ((spans rs t).filterMap (·.2))/\MaxI g ((spans rs t).map (·.1))/\z=zOf t.x l g
def ZonS (rs:List Rc) (zl:List Zt):Prop:=∃zl0,All2 (ZnR rs) ((ents rs).filter (cntB rs)) zl0/\zl.Perm zl0/\zl.Pairwise λ z z'=>z.lo<=z'.lo
theorem z49 {α β γ:Type} {f:α->β} {R:β->γ->Prop} :∀{xs:List α} {ys:List γ},All2 (λ x y=>R (f x) y) xs ys->All2 R (xs.map f) ys
 | _,_,.nil=>.nil
 | _,_,.cons a r=>.cons a (z49 r)
def RdN (K:c0) (H:Hp) (r:Rc) (y:V):Prop:=∃(p:Addr) (i:Int) (z:V),y=.ref p/\H p=some (.tup [.int i,z])/\RcAt K H r z
theorem rdn_of {K:c0} {H:Hp} {rs:List Rc} {zs ws:List V} (a:All2 (RcAt K H) rs zs) (h:All2 (NumAt H zs) ((V1 rs.length).filter λ i=>isRE (rs[i]?.getD r00)) ws):All2 (RdN K H) (rs.filter isRE) ws:=by have e:=z0x isRE id r00 rs;rw [List.map_id] at e;rw [<-e];refine z49 (z02 (λ i y z=>?_) h);obtain ⟨p,v,rfl,c,d⟩:=z;obtain ⟨r,b,q⟩:=z0a a d;exact ⟨p,i,v,rfl,c,by rw [b];exact q⟩
theorem key_zt {H:Hp} {zl:List Zt} {ys out:List V} (a:All2 (ZtV H) zl ys) (k:KeyOut (zl.map (·.lo)) ys out) :∃zl',zl'.Perm zl/\zl'.Pairwise (λ z z'=>z.lo<=z'.lo)/\All2 (ZtV H) zl' out:=by
 obtain ⟨n,d,rfl,f⟩:=k;have e:(zl.map (·.lo)).zip ys=(zl.zip ys).map λ p=>(p.1.lo,p.2):=by rw [List.zip_map_left];exact Q7 λ p _=>rfl
 obtain ⟨b,g,rfl⟩:=z83 d _ e;have j :∀{zl:List Zt} {ys:List V},All2 (ZtV H) zl ys->(∀q∈zl.zip ys,ZtV H q.1 q.2)/\(zl.zip ys).map Z9=zl:=by
  intro zl ys a;induction a with
  | nil=>exact ⟨λ q c=>absurd c B0,rfl⟩
  | cons a r ih=>
   refine ⟨λ q c=>?_,?_⟩
   ·rcases List.mem_cons.mp c with rfl|c
    ·exact a
    ·exact ih.1 q c
   ·show _ :: (List.zip _ _).map Z9=_;rw [ih.2]
 obtain ⟨m,l⟩:=j a;refine ⟨b.map Z9,?_,?_,?_⟩
 ·rw [<-l];exact g.map _
 ·rw [w5] at f⊢;exact f
 ·rw [R3];have i :∀b:List (Zt×V),(∀q∈b,ZtV H q.1 q.2)->All2 (ZtV H) (b.map Z9) (b.map (Prod.snd ∘ λ p=>(p.1.lo,p.2))):=by
   intro b;induction b with
   | nil=>exact λ _=>.nil
   | cons q b ih=>exact λ h=>.cons (h q (.head _)) (ih λ p d=>h p (.tail _ d))
  exact i b λ q c=>m q (g.mem_iff.mp c)
theorem sp_ne {rs:List Rc} {t:Ent} (h:rdsF rs t.x≠[]):(spans rs t).filterMap (·.2)≠[]:=by
 obtain ⟨r,d,e⟩:=b9 h;have b:r∈rdsF rs t.x:=by rw [e];exact .head _
 have a:=(List.mem_filter.mp (List.mem_filter.mp b).1).2;unfold isRE at a;rw [E7] at a;obtain ⟨k,c⟩:=Option.isSome_iff_exists.mp a.2;refine X7 (List.mem_filterMap.mpr ⟨spR r,.tail _ (List.mem_map.mpr ⟨r,b,rfl⟩),(?_:_=some (k:Int))⟩);unfold spR;rw [c];rfl
theorem SameB.of {T:Addr} {H H':Hp} (s:Same H H'):SameB T H H':=λ b o _ e=>s b o e
theorem SameB.trans {T:Addr} {H H1 H2:Hp} (s:SameB T H H1) (r:SameB T H1 H2):SameB T H H2:=λ b o n e=>r b o n (s b o n e)
theorem ZtV.sb {H H':Hp} {z:Zt} {y:V} (s:SameB tbT H H') (h :∃ps,H tbT=some (.tbl ps)) (e:ZtV H z y):ZtV H' z y:=by obtain ⟨ps,b⟩:=h;obtain ⟨p,rfl,a⟩:=e;exact ⟨p,rfl,s _ _ (λ q=>by rw [q,b] at a;cases a) a⟩
def z9e (K:c0):Sp:=λ vs H Q _=>∃t nm wr es ys,vs=[.ref t]/\TalR K H t nm wr es ys/\LamH H/\∀D out zl H',SameB tbT H H'->LamH H'->H D=none->H' D=some (.lst out)->ZonS (dAll 0 [] es) zl->All2 (ZtV H') zl out->Q (.ref D) H'
theorem ze0 (T:TX (kx w) mg) (B:BtMain base mg) (c0:Ca P w mg base "plain_deeds" ["tale"] 4 (z12 (kx w))) (c1:Ca P w mg base "writers" ["told"] 1 (z31 (kx w))) (c2:Ca P w mg base "ended_reads" ["told"] 1 (z13 (kx w))) (c3:Ca P w mg base "zone_of" ["worth","spans"] 1 (z3b (kx w))):Fo P w mg base CX0 6 283 y1m ["tale"] (z9e (kx w)):=by
 refine (zb7 w.params).okC (c:=cdT) rfl sc_zones (λ vs H Q E h=>?_) (λ A f4 s H vs Q E J h=>?_)
 ·obtain ⟨t,nm,O,es,ys,rfl,_⟩:=h;rfl
 ·obtain ⟨t,nm,O,es,ys,rfl,ta,lm,q⟩:=h;refine ⟨_,(z06 (ps_set (i:=1) sc_zones.nd rfl (L1 rfl) (pe_cal c0 (J.mono (by decide)) rfl (z00 (pv 0) pa_nil)))
   (z06 (ps_set (i:=2) sc_zones.nd rfl (L1 rfl) (pe_lst pa_nil))
   (z06 (ps_for C2 rfl (zdw (pe_cal c1 (J.mono (by decide)) rfl (z00 (pv 1) pa_nil))) (pg_tup rfl (z0l (z0m (i:=3) sc_zones.nd rfl (J1 rfl)) (z0l (z0m (i:=4) sc_zones.nd rfl (L1 rfl)) z26)))
   (z06 (ps_set (i:=5) sc_zones.nd rfl (L1 rfl) (pe_op opAdd (pe_lst (z00 (pv 4) pa_nil)) (pe_cg (xs:=["number","read"]) (g:=gTup (kx w) 2 (gCons (gName 0) (gCons (gName 1) gNil))) (fr:=[(3,"worth")]) (z0n (pe_cal c2 (J.mono (by decide)) rfl (z00 (pv 1) pa_nil))) (λ _ _ _ _ _=>(pg_tup rfl (z0l (pg_cn (N:=["number","read","worth"]) 0) (z0l (pg_cn (N:=["number","read","worth"]) 1) z26)))) (λ _ _ _ _ _=>(pf_one (z08 opEq (pe_ix (z1a (K:=KX w.params) rfl) (pv 1) pe_int (λ _ _=>rfl)) (pv 2) (nomark _)))) (λ _ _ _ _ _=>(z14 (slSeqK (K:=KX w.params) rfl) (pv 1) (z1s pe_int) z2r)))))
   (z05 (ps_if (PW.pt (pw_or (z08 z3j (pe_ix ix_seq (pv 4) pe_int (λ _ _=>rfl)) pe_non (nomark _)) (pw_or1 (z08 op_gt (z09 z0t rfl (T.no (n_len _)) T3 (z00 (pv 5) pa_nil)) pe_int (nomark _)))))
   (z05 (z3s (z1o (pv 2) (z00 (pe_cal c3 (J.mono (by decide)) rfl (z00 (pv 3) (z00 (pv 5) pa_nil))) pa_nil))))
   z0d))))
   (z05 (ps_ret (z9q (k:=0) (N:=["zone"]) (px:="zone") B rfl (ck_T _) (J.mono (by decide)) rfl (T.no (zaa _)) (z00 (pv 2) pa_nil) ⟨rfl,rfl,rfl,by decide +kernel,rfl,by decide +kernel,by decide +kernel⟩ (λ _ _ _ _=>rfl) (λ _ _ _ _=>(pe_ix (z1a (K:=KX w.params) rfl) (pv 0) pe_int (λ _ _=>rfl))))))))),?_⟩
  refine z0f ⟨_,rfl,t,nm,O,es,ys,rfl,ta,λ l zs H1 s1 tl=>g_name ?_⟩;have nd:=ta.tw.nd;have c7:(dAll 0 [] es).length<=62:=J0 z4t (by simpa using ta.ln);have n0:=ta.tw.n0;generalize dAll 0 [] es=rs at tl nd n0 q c7;refine z0f ⟨w_0,λ F a8=>g_name ?_⟩;have u2:=s1.trans (Same.upd (o:=.lst []) a8);have ef:upd H1 F (.lst []) F=some (.lst []):=z01;have a1:=tl.same (Same.upd (o:=.lst []) a8);have nf:H F=none:=s1.free a8;have nl:l≠F:=λ z=>by have:=tl.l;rw [z,a8] at this;cases this
  generalize upd H1 F (.lst [])=H2 at u2 ef a1⊢;have f8:=a1.n;have le:=z72 rs;have f5:rs.length<=62:=c7;refine ⟨_,rfl,l,zs,rs,O,rfl,a1,nd,n0,λ d G U s3 b2 ed wk=>⟨d,G,rfl,ed,λ L=>?_⟩⟩;have f0:H d=none:=u2.free b2;have e4:F≠d:=λ z=>by rw [z,b2] at ef;cases ef
  have u4:Same H (upd U d (.frz L (.dK G))):=Same.keep (u2.trans s3) f0;have b8:=a1.same (Same.keep (o:=.frz L (.dK G)) s3 b2);have d0:All2 (EntAt (kx w) (upd U d (.frz L (.dK G)))) (ents rs) G:=z02 (λ _ _ z=>z.tups (Tups.dict ed)) wk;have d3:upd U d (.frz L (.dK G)) F=some (.lst []):=by rw [upd_ne e4];exact s3 _ _ ef
  have c8:upd U d (.frz L (.dK G)) d=some (.frz L (.dK G)):=z01;have lk:=z04 wk;generalize upd U d (.frz L (.dK G))=H4 at u4 b8 d0 d3 c8⊢;clear wk a1 ed s3 ef u2 tl;refine zc0 (λ i σ u=>Same H u/\u d=some (.frz L (.dK G))/\ToldAt (kx w) u l O rs zs/\All2 (EntAt (kx w) u) (ents rs) G/\(∃fs zl,u F=some (.lst fs)/\All2 (ZtV u) zl fs/\All2 (ZnR rs) (((ents rs).take i).filter (cntB rs)) zl)/\∃x3 x4 x5,σ=[some (.ref t),some (.ref l),some (.ref F),x3,x4,x5]) ⟨u4,c8,b8,d0,⟨[],[],d3,.nil,.nil⟩,_,_,_,rfl⟩ (λ i σ u h=>h.2.1) ?_ ?_
  ·rintro i k v σ H5 p hk ⟨u5,ed5,tl5,wk5,⟨fs,zl,ef5,az,an⟩,x3,x4,x5,rfl⟩ hp;obtain ⟨f,c9,e1,C,e2,sw⟩:=z0a wk5 hk;have e1:k=.inl f.x:=e1;have e2:v=.ref C:=e2;subst e1 e2;have hi:=z0k c9;have u6:=Same.upd (o:=.tup [kV (.inl f.x),.ref C]) hp;have e6:upd H5 p (.tup [kV (.inl f.x),.ref C]) p=some (.tup [.int f.x,.ref C]):=z01;generalize upd H5 p (.tup [kV (.inl f.x),.ref C])=H6 at u6 e6⊢;refine ⟨p,_,rfl,SqT.of e6,rfl,_,_,rfl,_,_,rfl,rfl,?_⟩;refine z0f ⟨_,rfl,w_1,λ l0 d7=>?_⟩;have u7:=u6.trans (Same.upd (o:=.lst [.ref C]) d7);have e7:upd H6 l0 (.lst [.ref C]) l0=some (.lst [.ref C]):=z01;generalize upd H6 l0 (.lst [.ref C])=H7 at u7 e7⊢;have d4:=tl5.same u7;refine zev ⟨_,rfl,l,zs,rs,O,rfl,d4,λ la ws H8 s8 e3 aw=>?_⟩;have aw:=rdn_of (d4.same s8).a aw;have lw:=z04 aw;have f7:(rs.filter isRE).length<=rs.length:=X1 _ _;refine z10 (K:=KX w.params) (a:=la) (xs:=ws) (H1:=H8) (λ j=>((rs.filter isRE)[j]?.map λ r=>decide (intV r.a=f.x)).getD false) (λ j y u=>∀r,(rs.filter isRE)[j]? = some r->SpV (kx w) u (spR r) y) (λ _ _ _ _ s z r J=>(z r J).elim λ p e=>⟨p,e.1,s.seqT e.2⟩) (λ R h=>h) (SqL.of e3) (J0 (m:=63) (by omega) (by decide)) (λ j hj v H9 s9 hv KT KF Y X=>?_) λ l1 H9 I s9 c4 Z=>?_
   ·obtain ⟨r,J,p',i',z,rfl,e8,W,rfl,a5⟩:=z0a aw hv;have hm:=List.mem_filter.mp (o0 J);have ra:r.a=.int (intV r.a):=by
     have a2:=hm.2;unfold isRE at a2;rw [E7] at a2;obtain ⟨e,he⟩:=Option.isSome_iff_exists.mp a2.2;rcases tl5.g r hm.1 with g|g
     ·exact g.2.2 e he
     ·exact absurd ((of_decide_eq_true a2.1).symm.trans g.1) z0z
    rw [J] at Y X;have a5:=s9.seqT a5;refine ⟨p',_,rfl,SqT.of (s9 _ _ e8),rfl,_,_,rfl,_,_,rfl,rfl,[some (.int i'),some (.ref W)],rfl,rfl,?_⟩;refine ⟨_,rfl,.inr (.inl ⟨W,_,4,.int (intV r.a),rfl,rfl,a5,by rw [<-ra];exact z03 (j:=4) rfl,_,rfl,rfl,_,rfl,?_⟩)⟩;refine ite2 (λ z=>?_) λ z=>X (decide_eq_false λ y=>z (decide_eq_true (by rw [y]))) _ (Same.refl _);have z:=of_decide_eq_true z;injection z with z;refine ⟨_,rfl,5,rfl,.inr (.inl ⟨W,_,rfl,a5,λ z=>absurd z.1 (show ¬ HT.sIx 7 0 (some 5)=0 by decide),λ p1 d6=>?_⟩)⟩;refine Y (decide_eq_true z) _ _ (Same.upd d6) λ r' f1=>?_;cases f1;refine ⟨p1,rfl,?_⟩;show SqT _ _ _ [.int (r.b:Int),endO (r.e.map λ n=>(n:Int))];rw [<-endV_O];exact SqT.of z01
   rw [lw] at Z;have Z:=z4o (q:=λ r:Rc=>decide (intV r.a=f.x)) _ (A0 _) Z;rw [T4] at Z;have f9:=z04 Z;have f3:((rs.filter isRE).filter λ r=>decide (intV r.a=f.x)).length<=(rs.filter isRE).length:=X1 _ _;have u9:=s8.trans (s9.trans (Same.upd (o:=.lst I) c4));have e9:upd H9 l1 (.lst I) l1=some (.lst I):=z01;have a6:All2 (λ r y=>SpV (kx w) (upd H9 l1 (.lst I)) (spR r) y) (rdsF rs f.x) I:=z02 (λ _ _ z=>z.elim λ p e=>⟨p,e.1,(Same.upd (o:=.lst I) c4).seqT e.2⟩) Z;generalize upd H9 l1 (.lst I)=H10 at u9 e9 a6⊢;refine .inr (.inr (.inl ⟨l0,l1,_,_,rfl,rfl,u9 _ _ e7,e9,J0 (m:=64) (by show 1 + I.length<=64;omega) (by decide),λ S e5=>g_name ?_⟩));have b5:=Same.upd (o:=.lst ([.ref C]++I)) e5;have M:=(u7.trans u9).trans b5;have b1:upd H10 S (.lst ([.ref C]++I)) S=some (.lst (.ref C :: I)):=z01;have b6:All2 (SpV (kx w) (upd H10 S (.lst ([.ref C]++I)))) (spans rs f) (.ref C :: I):=.cons ⟨C,rfl,M.seqT sw⟩ (z49 (z02 (λ _ _ z=>z.elim λ p e=>⟨p,e.1,b5.seqT e.2⟩) a6));generalize upd H10 S (.lst ([.ref C]++I))=H11 at M b1 b6⊢;have a7:=M _ _ ef5;have b9:(ents rs).take (i + 1)=(ents rs).take i++[f]:=by rw [B7,c9];rfl
   have skip:¬ (spans rs f).filterMap (·.2)≠[]->Same H H11/\H11 d=some (.frz L (.dK G))/\ToldAt (kx w) H11 l O rs zs/\All2 (EntAt (kx w) H11) (ents rs) G/\∃fs zl,H11 F=some (.lst fs)/\All2 (ZtV H11) zl fs/\All2 (ZnR rs) (((ents rs).take (i + 1)).filter (cntB rs)) zl:=λ z=>by refine ⟨u5.trans M,M _ _ ed5,tl5.same M,z02 (λ _ _ z=>z.tups (Tups.of M)) wk5,fs,zl,a7,z02 (λ _ _ z=>z.same M) az,?_⟩;rw [b9,W2,i2 (by unfold cntB;rw [decide_eq_false z];decide),V5,i3];exact an
   have go:(spans rs f).filterMap (·.2)≠[]->∀{N:Hp->Prop},(∀u,(Same H u/\u d=some (.frz L (.dK G))/\ToldAt (kx w) u l O rs zs/\All2 (EntAt (kx w) u) (ents rs) G/\∃fs zl,u F=some (.lst fs)/\All2 (ZtV u) zl fs/\All2 (ZnR rs) (((ents rs).take (i + 1)).filter (cntB rs)) zl)->N u)->z3b (kx w) [.int f.x,.ref S] H11 (λ y H2=>z9n (.ref F) [y] H2 λ _ U=>N U) E0:=λ a9 N hN=>by
    refine ⟨f.x,S,_,spans rs f,rfl,b1,b6,by show (((rs.filter isRE).filter λ r=>decide (intV r.a=f.x)).map spR).length + 1<=100;rw [G0];omega,a9,List.cons_ne_nil _ _,λ W lo g a3 d1 Y X hz=>?_⟩;have b0:=d1 _ _ a7;have d5:=z04 an;have d2:=z04 az;have d8:(((ents rs).take i).filter (cntB rs)).length<=((ents rs).take i).length:=X1 _ _;rw [K3] at d8;refine ⟨F,_,_,rfl,rfl,b0,S0 (m:=100) (by omega) (by decide),hN _ ?_⟩;have a0:=M.trans d1;have c5:Tups (kx w) a3 (upd a3 F (.lst (fs++[.ref W]))):=Tups.lst b0;have zt :∀{z:Zt} {y:V},ZtV a3 z y->ZtV (upd a3 F (.lst (fs++[.ref W]))) z y:=λ ⟨p,e,ep⟩=>⟨p,e,by rw [upd_ne (ne_of ep b0 (by intro z;cases z))];exact ep⟩
    have a4:=tl5.same a0;refine ⟨Same.keep (u5.trans a0) nf,by rw [upd_ne (λ z=>by rw [z] at ed5;rw [ef5] at ed5;cases ed5)];exact a0 _ _ ed5,⟨by rw [upd_ne nl];exact a4.l,z02 (λ _ _ z=>RcAt.tups c5 z) a4.a,a4.g,a4.n⟩,z02 (λ _ _ z=>z.tups λ c xs e=>c5 _ _ (a0.seqT e)) wk5,fs++[.ref W],zl++[zOf f.x lo g],z01,z0r (z02 (λ _ _ z=>zt (z.same a0)) az) (zt hz),?_⟩;rw [b9,W2,Z1 (by unfold cntB;exact decide_eq_true a9)];exact z0r an ⟨lo,g,Y,X,rfl⟩
   refine z0s (t_or ⟨_,rfl,.inr (.inl ⟨C,_,1,endO f.e,rfl,rfl,M.seqT sw,z03 (j:=1) rfl,rfl,_,rfl,?_⟩)⟩);cases he:f.e with
   | some e=>exact iteP (by simp [endO]) (iteT ⟨_,rfl,.inl ⟨rfl,_,SqL.of a7⟩,_,rfl,_,rfl,go (by unfold spans;rw [he];exact List.cons_ne_nil _ _) λ u h=>⟨h.1,h.2.1,h.2.2.1,h.2.2.2.1,h.2.2.2.2,_,_,_,rfl⟩⟩)
   | none=>
    refine iteN (by decide) ⟨_,rfl,.inl ⟨S,_,rfl,.inl (SqL.of b1),_,_,rfl,rfl,_,rfl,ite2 (λ z=>?_) λ z=>?_⟩⟩
    ·have z:=of_decide_eq_true z;rw [i1] at z;have a9:rdsF rs f.x≠[]:=λ y=>by have:=z04 a6;rw [y] at this;rw [this] at z;exact absurd z (by decide)
     exact ⟨_,rfl,.inl ⟨rfl,_,SqL.of a7⟩,_,rfl,_,rfl,go (sp_ne a9) λ u h=>⟨h.1,h.2.1,h.2.2.1,h.2.2.2.1,h.2.2.2.2,_,_,_,rfl⟩⟩
    ·have f2:rdsF rs f.x=[]:=by
      cases y:rdsF rs f.x with
      | nil=>rfl
      | cons r rr=>exfalso;have:=z04 a6;rw [y,i1] at this;refine z (decide_eq_true ?_);rw [i1];omega
     have h:=skip (λ y=>y (by unfold spans;rw [f2,he];rfl));exact ⟨h.1,h.2.1,h.2.2.1,h.2.2.2.1,h.2.2.2.2,_,_,_,rfl⟩
  rintro σ H5 ⟨u5,ed5,tl5,wk5,⟨fs,zl,ef5,az,an⟩,x3,x4,x5,rfl⟩;rw [lk,T4] at an;have d2:=z04 az;have d5:=z04 an;have f6:((ents rs).filter (cntB rs)).length<=(ents rs).length:=X1 _ _;have b4:=LamH.same u5 lm;refine ⟨_,rfl,F,fs,zl.map (·.lo),rfl,SqL.of ef5,by rw [G0];exact d2.symm,by omega,b4,λ H7 sb b7=>⟨λ i y k hy hk=>?_,λ D c6 hD ko=>?_⟩⟩
  ·obtain ⟨z,hz,p,rfl,ep⟩:=z0a az hy;rw [Z0,hz] at hk;cases hk;have b3:ZtV H7 z (.ref p):=ZtV.sb sb b4.tb ⟨p,rfl,ep⟩;obtain ⟨p',e',b3⟩:=b3;cases e';exact ⟨_,rfl,.inr (.inl ⟨p,_,1,_,rfl,rfl,SqT.of b3,z03 (j:=1) rfl,rfl,rfl⟩)⟩
  ·obtain ⟨d9,Y,X,h3⟩:=key_zt (z02 (λ _ _ z=>ZtV.sb sb b4.tb z) az) ko;have e0:H D=none:=by
    cases y:H D with
    | none=>rfl
    | some o=>
     exfalso;by_cases z:D=tbT
     ·obtain ⟨ps,e⟩:=b7.tb;rw [z,e] at hD;cases hD
     ·rw [sb _ _ z (u5 _ _ y)] at hD;cases hD
   have v8:=Same.upd (o:=.lst c6) hD;exact q D c6 d9 _ (SameB.trans (SameB.of u5) (SameB.trans sb (SameB.of v8))) (LamH.same v8 b7) e0 z01 ⟨zl,an,Y,X⟩ (z02 (λ _ _ z=>z.same v8) h3)
theorem t_and {t u:TT} {σ:L2.St} {H:Hp} {Q:Bool->Hp->Prop} (h:t σ H λ c H1=>if c=true then u σ H1 Q else Q false H1):tAnd t u σ H Q:=h
def DkAt (H:Hp) (r:Addr):Prop:=∃a b c:Int,H r=some (.lst [.int a,.int b,.int c])/\0<=c/\c < 2147483587
structure Dk (r:Addr) (H H':Hp):Prop where
 k:Kept r H H'
 d:DkAt H' r
theorem Same.kp {H0 H H':Hp} {r:Addr} (s:Same H0 H) (n:H0 r=none) (k:Kept r H H'):Same H0 H':=λ b o e=>k b o (λ z=>by rw [z,n] at e;cases e) (s b o e)
theorem DkAt.same {H H':Hp} {r:Addr} (s:Same H H') (h:DkAt H r):DkAt H' r:=by obtain ⟨a,b,c,e,h⟩:=h;exact ⟨a,b,c,s _ _ e,h⟩
def z43:Sp:=λ vs H Q _=>∃c:Int,vs=[.int c]/\∀r o,H r=none->DkAt (upd H r o) r->Q (.ref r) (upd H r o)
theorem z8j (T:TX (kx w) mg):Fo P w mg base CX0 1 328 y0n ["cell"] z43:=by
 refine (z34 w.params).ok z8e (λ b H Q E h=>?_) (λ d A e s H b Q E a h=>?_)
 ·obtain ⟨c,rfl,_⟩:=h;rfl
 ·obtain ⟨c,rfl,q⟩:=h;refine ⟨_,(z05 (ps_ret (pe_lst (z00 (pe_op z6p (pv 0) pe_int) (z00 (pe_op op_mod (pv 0) pe_int) (z00 (pe_op op_mod (pv 0) pe_int) pa_nil)))))),?_⟩;refine ⟨_,rfl,_,_,rfl,rfl,(show CDivB c 2 from ⟨by decide,by decide⟩),_,rfl,_,_,rfl,rfl,(show (0:Int) < 2 by decide),_,rfl,_,_,rfl,rfl,(show (0:Int) < 2147483587 by decide),w_3,λ r a=>?_⟩;exact q r _ a ⟨_,_,_,z01,k7 _ (by decide),v6 _ (by decide)⟩
def z16:Sp:=λ vs H Q _=>∃(r:Addr) (m:Int),vs=[.ref r,.int m]/\DkAt H r/\0 < m/\m < 2 ^ 64/\∀t H',Dk r H H'->0<=t->t < m->Q (.int t) H'
theorem z6g (T:TX (kx w) mg):Fo P w mg base CX0 1 335 y0g ["row","many"] z16:=by
 refine (z2g w.params).ok sc__law_take (λ k H Q E h=>?_) (λ v A x s H k Q E z h=>?_)
 ·obtain ⟨r,m,rfl,_⟩:=h;rfl
 ·obtain ⟨r,m,rfl,⟨a,b,c,e,l,t⟩,f,n,q⟩:=h;refine ⟨_,(z06 (ps_if (PW.pt (pw_and (z08 opEq (pe_ix ix_seq (pv 0) pe_int (λ _ _=>rfl)) pe_int (nomark _)) (z5q (z08 opNe (pe_ix ix_seq (pv 0) pe_int (λ _ _=>rfl)) pe_int (nomark _)))))
   (z06 (ps_set (i:=2) sc__law_take.nd rfl (L1 rfl) (pe_op op_mod (pe_ix ix_seq (pv 0) pe_int (λ _ _=>rfl)) (pv 1)))
   (z06 (ps_asg (pe_op z6p (pe_ix ix_seq (pv 0) pe_int (λ _ _=>rfl)) (pv 1)) (pg_sub (pv 0) pe_int z3h))
   (z05 (ps_ret (pv 2)))))
   z0d)
   (z06 (ps_asg (pe_op op_mod (pe_op opAdd (pe_op opAdd (pe_op op_mul (pe_ix ix_seq (pv 0) pe_int (λ _ _=>rfl)) (pe_ix ix_seq (pv 0) pe_int (λ _ _=>rfl))) (pe_op op_mul pe_int (pe_ix ix_seq (pv 0) pe_int (λ _ _=>rfl)))) pe_int) pe_int) (pg_sub (pv 0) pe_int z3h))
   (z05 (ps_ret (pe_op op_mod (pe_op z6p (pe_ix ix_seq (pv 0) pe_int (λ _ _=>rfl)) pe_int) (pv 1)))))),?_⟩
  have d:SqL (kx w) H r [.int a,.int b,.int c]:=SqL.of e;refine z3x (λ u j=>j=H/\u=[some (.ref r),some (.int m),none]) ?_ λ g=>?_
  ·rintro σ y ⟨rfl,rfl⟩;have p:0<=(c * c + 69621 * c + 12345) % 2147483587:=k7 _ (by decide);have o:(c * c + 69621 * c + 12345) % 2147483587 < 2147483587:=v6 _ (by decide);refine z0f ⟨_,rfl,.inl ⟨r,_,2,.int c,rfl,rfl,d,rfl,_,rfl,.inl ⟨r,_,2,.int c,rfl,rfl,d,rfl,_,_,rfl,rfl,.inl ⟨by omega,by omega⟩,_,rfl,.inl ⟨r,_,2,.int c,rfl,rfl,d,rfl,_,_,rfl,rfl,.inl ⟨by decide,by decide⟩,.inl ⟨_,_,rfl,rfl,.inl ⟨_,_,rfl,rfl,_,_,rfl,rfl,(show (0:Int) < 2147483587 by decide),?_⟩⟩⟩⟩⟩⟩;refine ⟨_,rfl,r,_,2,2,rfl,rfl,e,rfl,?_⟩;refine ⟨_,rfl,.inl ⟨r,_,2,.int _,rfl,rfl,SqL.of z01,rfl,?_⟩⟩;refine ⟨_,_,rfl,rfl,(show CDivB _ 8 from ⟨by decide,by decide⟩),_,rfl,_,_,rfl,rfl,f,?_⟩;exact q _ _ ⟨.set,a,b,_,z01,p,o⟩ (k7 _ (by omega)) (v6 _ f)
  ·refine z0s (t_and ⟨_,rfl,.inl ⟨r,_,1,.int b,rfl,rfl,d,rfl,rfl,_,rfl,?_⟩⟩);refine ite2 (λ _=>?_) λ _=>iteF (g _ _ ⟨rfl,rfl⟩);refine ⟨_,rfl,.inl ⟨r,_,0,.int a,rfl,rfl,d,rfl,rfl,_,rfl,ite2 (λ _=>?_) λ _=>g _ _ ⟨rfl,rfl⟩⟩⟩;refine z0f ⟨_,rfl,.inl ⟨r,_,0,.int a,rfl,rfl,d,rfl,_,rfl,_,_,rfl,rfl,f,g_name ?_⟩⟩;refine z0f ⟨_,rfl,.inl ⟨r,_,0,.int a,rfl,rfl,d,rfl,_,rfl,_,_,rfl,rfl,⟨f,n⟩,?_⟩⟩;refine ⟨_,rfl,r,_,0,0,rfl,rfl,e,rfl,?_⟩;exact ⟨_,rfl,q _ _ ⟨.set,_,_,c,z01,l,t⟩ (k7 _ (by omega)) (v6 _ f)⟩
def bdI (i:Int):Prop:=-1000000000<=i/\i<=1000000000
def bdA (i:Int):Prop:=-1000000000000<=i/\i<=1000000000000
theorem bdI.a {i:Int} (h:bdI i):bdA i:=⟨by have:=h.1;omega,by have:=h.2;omega⟩
def RowR (H:Hp) (r:Rc) (y:V):Prop:=∃p late,y=.ref p/\H p=some (.lst [.int r.h,r.v,r.x,r.a,.int r.b,endV r.e,.int late])/\bdI late
theorem RowR.same {H H':Hp} {r:Rc} {y:V} (s:Same H H') (h:RowR H r y):RowR H' r y:=by obtain ⟨p,b,d,a,c⟩:=h;exact ⟨p,b,d,s _ _ a,c⟩
structure RwsA (H:Hp) (lr:Addr) (rs:List Rc) (zs:List V):Prop where
 l:H lr=some (.lst zs)
 a:All2 (RowR H) rs zs
 g :∀r∈rs,RdG r\/WrG 0 r
 x :∀r∈rs,isW r=true->bdI (intV r.x)
 n:rs.length<=24
theorem RwsA.same {H H':Hp} {lr:Addr} {rs:List Rc} {zs:List V} (s:Same H H') (h:RwsA H lr rs zs):RwsA H' lr rs zs:=⟨s _ _ h.l,z02 (λ _ _ z=>z.same s) h.a,h.g,h.x,h.n⟩
def z28 (K:c0):Sp:=λ vs H Q _=>∃(rw p lr:Addr) (r:Rc) (now late:Int) (H0:Hp),vs=[.ref rw,.ref p,.int now,.ref lr,.bl false]/\Same H0 H/\H0 rw=none/\DkAt H rw/\H0 p=some (.lst [.int r.h,r.v,r.x,r.a,.int r.b,endV r.e,.int late])/\(RdG r\/WrG 0 r)/\∀a H',Same H0 H'->DkAt H' rw->(isW r=true->a=.str "ok")->(isW r=false->a=.int late\/a=.int now)->Q a H'
theorem z50 (T:TX (kx w) mg) (c0:Ca P w mg base "_law_take" ["row","many"] 1 z16):Fo P w mg base CX0 2 340 y07 ["row","deed","now","rows","spoilt"] (z28 (kx w)):=by
 refine (z1c w.params).ok sc__law_answer (λ Z H Q E h=>?_) (λ a3 A a4 s H Z Q E M h=>?_)
 ·obtain ⟨B,p,lr,r,now,n,D,rfl,_⟩:=h;rfl
 ·obtain ⟨B,p,lr,r,now,n,D,rfl,G,n0,W,O,g,q⟩:=h;refine q_of (z0b (QS.mk (ps_if (z08 opEq (pe_ix ix_seq (pv 1) pe_int (λ _ _=>rfl)) pe_str (nomark _))
   (z05 (ps_ret pe_str))
   z0d))
   (z0b (QS.mk (ps_if (PW.pt (pw_or (pt_not (pt_val (pv 4) (λ _=>rfl))) (pw_or1 (z08 op_gt (pe_cal c0 (M.mono (by decide)) rfl (z00 (pv 0) (z00 pe_int pa_nil))) pe_int (nomark _)))))
   (z05 (ps_ret (pe_ix ix_seq (pe_lst (z00 (pe_ix ix_seq (pv 1) pe_int (λ _ _=>rfl)) (z00 (pv 2) pa_nil))) (pe_cal c0 (M.mono (by decide)) rfl (z00 (pv 0) (z00 pe_int pa_nil))) (λ _ _=>rfl))))
   z0d))
   (z0b (qs_set (i:=5) sc__law_answer.nd rfl (L1 rfl) (qe_op opAdd (qe_lst (z0u (QE.mk pe_int) (z0u (QE.mk pe_int) (z0u (QE.mk (pe_op op_pow pe_int pe_int)) (z0u (QE.mk (pe_op op_sub pe_int (pe_op op_pow pe_int pe_int))) qa_nil))))) (QE.mk (pe_cg (xs:=["one"]) (g:=gName 0) (fr:=[]) (z0n (pv 3)) (λ _ _ _ _ _=>(pg_cn (N:=["one"]) 0)) (λ _ _ _ _ _=>(pf_one (z08 opEq (pe_ix (z1a (K:=KX w.params) rfl) (pv 0) pe_int (λ _ _=>rfl)) pe_str (nomark _)))) (λ _ _ _ _ _=>(pe_ix (z1a (K:=KX w.params) rfl) (pv 0) pe_int (λ _ _=>rfl)))))))
   (z1f (QS.mk (ps_ret (pe_ix ix_seq (pv 5) (pe_cal c0 (M.mono (by decide)) rfl (z00 (pv 0) (z00 (z09 z0t rfl (T.no (n_len _)) T3 (z00 (pv 5) pa_nil)) pa_nil))) (λ _ _=>rfl)))))))) ?_
  have V:SqL (kx w) H p _:=SqL.of (G _ _ O);rcases g with g|g;rotate_left
  ·exact sq_if ⟨_,rfl,.inl ⟨p,_,1,.str "write",rfl,rfl,V,by rw [g.1];exact z03 (j:=1) rfl,rfl,_,rfl,iteP (by decide +kernel) (q _ _ G W (λ _=>rfl) λ z=>by rw [g.w] at z;cases z)⟩⟩
  refine sq_if ⟨_,rfl,.inl ⟨p,_,1,.str "read",rfl,rfl,V,by rw [g.1];exact z03 (j:=1) rfl,rfl,_,rfl,iteK (t_nx ?_)⟩⟩;have done :∀i f,(i=n\/i=now)->Same D f->DkAt f B->Q (.int i) f:=λ i f b F d=>q _ _ F d (λ z=>by rw [g.w] at z;cases z) λ _=>b.elim (λ z=>.inl (by rw [z])) λ z=>.inr (by rw [z]);have a2 :∀(l:Addr) (t:Int) f,0<=t->t < 2->f l=some (.lst [.int n,.int now])->Same D f->DkAt f B->rIx (kx w) (.ref l) (.int t) f Q:=λ l t f S U X F d=>by
   rcases (show t=0\/t=1 by omega) with rfl|rfl
   ·exact .inl ⟨l,_,0,.int n,rfl,rfl,SqL.of X,z03 (j:=0) rfl,done _ _ (.inl rfl) F d⟩
   ·exact .inl ⟨l,_,1,.int now,rfl,rfl,SqL.of X,z03 (j:=1) rfl,done _ _ (.inr rfl) F d⟩
  have a0 :∀m,Same D m->DkAt m B->∀l,m l=none->z16 [.ref B,.int 2] (upd m l (.lst [.int n,.int now])) (λ y L=>rIx (kx w) (.ref l) y L Q) E0:=λ m J R l C=>by
   have u:=Same.upd (o:=.lst [.int n,.int now]) C;have Y:l≠B:=λ z=>by obtain ⟨a,b,c,e,_⟩:=R;rw [z,e] at C;cases C
   exact ⟨B,2,rfl,R.same u,by decide,by decide,λ t L I S U=>a2 l t L S U (I.k _ _ Y z01) (Same.kp (J.trans u) n0 I.k) I.d⟩
  refine sq_if (t_or ?_);have a1 :∀m,Same D m->SqL (kx w) m p [.int r.h,r.v,r.x,r.a,.int r.b,endV r.e,.int n]:=λ m J=>SqL.of (J _ _ O);refine ⟨_,rfl,_,rfl,?_⟩;exact iteP rfl (iteT ⟨_,rfl,.inl ⟨p,_,6,.int n,rfl,rfl,a1 _ G,z03 (j:=6) rfl,_,rfl,w_2,λ l C=>⟨_,rfl,a0 H G W l C⟩⟩⟩)
noncomputable def fixA (p:Nat) (v:V) (r:Rc):Rc:=if r.e=some p then { r with a:=v } else r
theorem fixA_h {p:Nat} {v:V} (r:Rc):(fixA p v r).h=r.h:=by unfold fixA;split<;>rfl
theorem fixA_e {p:Nat} {v:V} (r:Rc):(fixA p v r).e=r.e:=by unfold fixA;split<;>rfl
theorem fixA_x {p:Nat} {v:V} (r:Rc):(fixA p v r).x=r.x:=by unfold fixA;split<;>rfl
theorem fixA_v {p:Nat} {v:V} (r:Rc):(fixA p v r).v=r.v:=by unfold fixA;split<;>rfl
theorem fix_hs {p:Nat} {v:V} (rs:List Rc):(rs.map (fixA p v)).map Rc.h=rs.map Rc.h:=by rw [R3];exact Q7 λ r _=>fixA_h r
theorem zca {p j:Nat} {v:V} (n:p≠j) (rs:List Rc) (e:Ev):dstep j (rs.map (fixA p v)) e=(dstep j rs e).map (fixA p v):=by
 cases e with
 | beg h nm vb x=>show rs.map _++[_]=(rs++[_]).map _;rw [P2];congr 1
 | fin h a=>
  unfold dstep;dsimp only;rw [fix_hs];cases lastI h (rs.map Rc.h) with
  | none=>rfl
  | some k=>
   dsimp only;apply z5;intro m;rw [C1,Z0,Z0,C1];cases rs[m]? with
   | none=>rfl
   | some r=>
    show some (if k=m then _ else _)=some (fixA p v (if k=m then _ else _));by_cases z:k=m
    ·rw [if_pos z,if_pos z];congr 1;unfold fixA;rw [if_neg (show ¬ (some j:Option Nat)=some p from λ y=>n (W0 y).symm)];split<;>rfl
    ·rw [if_neg z,if_neg z]
theorem zag {p:Nat} {v:V} :∀(es:List Ev) (j:Nat) (rs:List Rc),p < j->dAll j (rs.map (fixA p v)) es=(dAll j rs es).map (fixA p v)
 | [],_,_,_=>rfl
 | e :: es,j,rs,h=>by show dAll (j + 1) (dstep j (rs.map _) e) es=(dAll (j + 1) (dstep j rs e) es).map _;rw [zca (Q0 h),zag es (j + 1) _ (by omega)]
theorem ze2 {p:Nat} {v:V} {rs:List Rc} (h :∀r∈rs,r.e≠some p):rs.map (fixA p v)=rs:=by
 conv=>rhs;rw [<-List.map_id rs]
 exact Q7 λ r a=>by unfold fixA;rw [if_neg (h r a)];rfl
theorem z9c {v:V} :∀(es:List Ev) (i:Nat) (rs:List Rc) (p:Nat) (h:Int) (a:V),es[p]? = some (.fin h a)->PosI i rs->dAll i rs (es.set p (.fin h v))=(dAll i rs es).map (fixA (i + p) v)
 | e :: es,i,rs,0,h,a,he,ps=>by
  rw [R1] at he;cases he;show dAll (i + 1) (dstep i rs (.fin h v)) es=(dAll (i + 1) (dstep i rs (.fin h a)) es).map (fixA i v);rw [<-zag es (i + 1) _ (by omega)];congr 1;unfold dstep;dsimp only;have b :∀r∈rs,r.e≠some i:=λ r c z=>Z2 _ (ps.e r c i z);cases lastI h (rs.map Rc.h) with
  | none=>exact (ze2 b).symm
  | some k=>
   dsimp only;apply z5;intro m;rw [C1,Z0,C1];cases z:rs[m]? with
   | none=>rfl
   | some r=>
    show some (if k=m then _ else _)=some (fixA i v (if k=m then _ else _));by_cases y:k=m
    ·rw [if_pos y,if_pos y];unfold fixA;rw [if_pos rfl]
    ·rw [if_neg y,if_neg y];unfold fixA;rw [if_neg (b r (o0 z))]
 | e :: es,i,rs,p + 1,h,a,he,ps=>by rw [B1] at he;show dAll (i + 1) (dstep i rs e) (es.set p _)=_;rw [z9c es (i + 1) (dstep i rs e) p h a he (ps.step e),show i + 1 + p=i + (p + 1) by omega];rfl
theorem zd9 {v:V} :∀(es:List Ev) (os:List Int) (p:Nat) (h:Int) (a:V),es[p]? = some (.fin h a)->EWf os es->EWf os (es.set p (.fin h v))
 | e :: es,os,0,h,a,he,w=>by rw [R1] at he;cases he;exact w
 | e :: es,os,p + 1,h,a,he,w=>⟨w.1,zd9 es _ p h a (by rw [B1] at he;exact he) w.2⟩
theorem zbd {v:V} :∀(es:List Ev) (p:Nat) (h:Int) (a:V),es[p]? = some (.fin h a)->(es.set p (.fin h v)).filter isBeg=es.filter isBeg
 | e :: es,0,h,a,he=>by rw [R1] at he;cases he;rfl
 | e :: es,p + 1,h,a,he=>by
  rw [B1] at he;show (e :: es.set p _).filter isBeg=_;cases z:isBeg e with
  | true=>rw [Z1 z,Z1 z,zbd es p h a he]
  | false=>rw [i2 (by rw [z];decide),i2 (by rw [z];decide),zbd es p h a he]
theorem zb9 :∀(es:List Ev) (j:Nat) (rs:List Rc),∀r∈dAll j rs es,∀e,r.e=some e->e < j->∃r0∈rs,r0.e=some e/\r0.h=r.h/\r0.a=r.a
 | [],_,_,r,hr,e,he,_=>⟨r,hr,he,rfl,rfl⟩
 | x :: es,j,rs,r,hr,e,he,hj=>by
  obtain ⟨f,c,d,i,g⟩:=zb9 es (j + 1) (dstep j rs x) r hr e he (by omega);refine ⟨f,?_,d,i,g⟩;cases x with
  | beg h0 nm v y=>
   rcases List.mem_append.mp c with z|z
   ·exact z
   ·rw [List.mem_singleton.mp z] at d;cases d
  | fin h0 a=>
   unfold dstep at c;dsimp only at c;cases z:lastI h0 (rs.map Rc.h) with
   | none=>rw [z] at c;exact c
   | some k=>
    rw [z] at c;dsimp only at c;obtain ⟨m,b⟩:=List.mem_iff_getElem?.mp c;rw [C1] at b;cases y:rs[m]? with
    | none=>rw [y] at b;cases b
    | some r0=>
     rw [y] at b;have b:some (if k=m then { r0 with a:=a,e:=some j } else r0)=some f:=b;by_cases u:k=m
     ·rw [if_pos u] at b;cases b;have d:some j=some e:=d;cases d;omega
     ·rw [if_neg u] at b;cases b;exact o0 y
theorem end_at :∀(es:List Ev) (i:Nat) (rs:List Rc),(∀r∈rs,∀e,r.e=some e->e < i)->∀r∈dAll i rs es,∀e,r.e=some e->i<=e->es[e - i]? = some (.fin r.h r.a)
 | [],i,rs,h,r,hr,e,he,hi=>by have:=h r hr e he;omega
 | x :: es,i,rs,h,r,hr,e,he,hi=>by
  have g :∀q∈dstep i rs x,∀k,q.e=some k->k < i\/(k=i/\x=.fin q.h q.a):=λ q b k d=>by
   cases x with
   | beg h0 nm v y=>
    rcases List.mem_append.mp b with z|z
    ·exact .inl (h q z k d)
    ·rw [List.mem_singleton.mp z] at d;cases d
   | fin h0 a=>
    unfold dstep at b;dsimp only at b;cases z:lastI h0 (rs.map Rc.h) with
    | none=>rw [z] at b;exact .inl (h q b k d)
    | some j=>
     rw [z] at b;dsimp only at b;obtain ⟨m,c⟩:=List.mem_iff_getElem?.mp b;rw [C1] at c;cases y:rs[m]? with
     | none=>rw [y] at c;cases c
     | some r0=>
      rw [y] at c;have c:some (if j=m then { r0 with a:=a,e:=some i } else r0)=some q:=c;by_cases u:j=m
      ·rw [if_pos u] at c;cases c;cases d;have f:=(z24 _ z).1;rw [Z0,u,y] at f;have f:some r0.h=some h0:=f;cases f;exact .inr ⟨rfl,rfl⟩
      ·rw [if_neg u] at c;cases c;exact .inl (h _ (o0 y) k d)
  by_cases z:e=i
  ·subst z;obtain ⟨o,s,n,p,l⟩:=zb9 es (e + 1) _ r hr e he (by omega);rcases g o s e n with y|⟨_,y⟩
   ·omega
   ·rw [Nat.sub_self,R1,y,p,l]
  ·have:=end_at es (i + 1) (dstep i rs x) (λ q b k d=>by rcases g q b k d with y|⟨y,_⟩<;>omega) r hr e he (by omega);rw [show e - i=e - (i + 1) + 1 by omega,B1];exact this
def WxI (rs:List Rc):Prop:=∀(i:Nat) (r:Rc),rs[i]? = some r->isW r=true->∃t:Int,0<=t/\t < 1000/\(intV r.x=(24 * t + i + 1) * 41666\/intV r.x=-((24 * t + i + 1) * 41666))
theorem WxI.nd {rs:List Rc} (x:WxI rs) (l:rs.length<=24):((rs.filter isW).map λ r=>intV r.x).Nodup:=by
 have p:rs.Pairwise λ r q=>isW r=true->isW q=true->intV r.x≠intV q.x:=by rw [g9];intro i j d f k c g e;obtain ⟨t,m,n,s⟩:=x i _ (Y0 d) c;obtain ⟨u,o,v,w⟩:=x j _ (Y0 f) g;omega
 unfold List.Nodup;rw [w5];exact (p.filter isW).imp_of_mem λ b a h=>h (List.mem_filter.mp b).2 (List.mem_filter.mp a).2
theorem WxI.n0 {rs:List Rc} (x:WxI rs):(0:Int)∉(rs.filter isW).map λ r=>intV r.x:=λ z=>by obtain ⟨r,a,e⟩:=List.mem_map.mp z;obtain ⟨d,b⟩:=List.mem_filter.mp a;obtain ⟨i,c⟩:=List.mem_iff_getElem?.mp d;obtain ⟨t,h,f,g⟩:=x i r c b;omega
theorem WxI.bd {rs:List Rc} (x:WxI rs) (l:rs.length<=24) :∀r∈rs,isW r=true->bdI (intV r.x):=λ r b c=>by obtain ⟨i,a⟩:=List.mem_iff_getElem?.mp b;obtain ⟨t,f,d,e⟩:=x i r a c;have:=z0k a;unfold bdI;omega
theorem WxI.fix {rs:List Rc} {p:Nat} {v:V} (x:WxI rs):WxI (rs.map (fixA p v)):=λ i r b a=>by rw [Z0] at b;obtain ⟨d,c,rfl⟩:=Option.map_eq_some_iff.mp b;rw [fixA_x];refine x i d c ?_;unfold isW at a⊢;rw [fixA_v] at a;exact a
noncomputable abbrev rTh:List (Str×Str):=[("r","register")]
structure Md (HL H:Hp) (lr le:Addr) (es:List Ev) (zs ys:List V):Prop where
 s:Same HL H
 fl:HL lr=none
 fe:HL le=none
 fz :∀p,V.ref p∈zs->HL p=none/\p≠lr/\p≠le
 nd:zs.Nodup
 n1:lr≠le
 l:H lr=some (.lst zs)
 a:All2 (RowR H) (dAll 0 [] es) zs
 g :∀r∈dAll 0 [] es,RdG r\/WrG 0 r
 n:(dAll 0 [] es).length<=24
 e:H le=some (.lst ys)
 ev:All2 (EvT H rTh) es ys
 wf:EWf [] es
 wx:WxI (dAll 0 [] es)
 n60:es.length<=60
 bg:(es.filter isBeg).length<=24
theorem Md.rws {HL H:Hp} {lr le:Addr} {es:List Ev} {zs ys:List V} (m:Md HL H lr le es zs ys):RwsA H lr (dAll 0 [] es) zs:=⟨m.l,m.a,m.g,m.wx.bd m.n,m.n⟩
theorem Md.same {HL H H':Hp} {lr le:Addr} {es:List Ev} {zs ys:List V} (m:Md HL H lr le es zs ys) (s:Same H H'):Md HL H' lr le es zs ys:=
 ⟨m.s.trans s,m.fl,m.fe,m.fz,m.nd,m.n1,s _ _ m.l,z02 (λ _ _ z=>z.same s) m.a,m.g,m.n,s _ _ m.e,z02 (λ _ _ z=>z.same s) m.ev,m.wf,m.wx,m.n60,m.bg⟩
theorem nd_at {zs:List V} (nd:zs.Nodup) {i j:Nat} {v:V} (h1:zs[i]? = some v) (h2:zs[j]? = some v):i=j:=by
 obtain ⟨c,d⟩:=List.getElem?_eq_some_iff.mp h1;obtain ⟨b,a⟩:=List.getElem?_eq_some_iff.mp h2;rcases F5 i j with z|z|z
 ·exact absurd (d.trans a.symm) (List.pairwise_iff_getElem.mp nd i j c b z)
 ·exact z
 ·exact absurd (a.trans d.symm) (List.pairwise_iff_getElem.mp nd j i b c z)
theorem XOk.tp {H H':Hp} {k v:Str} {x:V} (s :∀a xs,H a=some (.tup xs)->H' a=some (.tup xs)) (h:XOk H k v x):XOk H' k v x:=by
 cases h with
 | none e=>exact .none e
 | one e h=>exact .one e h
 | two e h1 h2 h3=>exact .two e (s _ _ h1) h2 h3
theorem EvT.tp {H H':Hp} {ts:List (Str×Str)} (s :∀a xs,H a=some (.tup xs)->H' a=some (.tup xs)) :∀{e:Ev} {y:V},EvT H ts e y->EvT H' ts e y
 | .beg h n v x,_,⟨p,nm,k,vb,h1,h2,h3,h4,h5,h6,h7,h8,h9⟩=>⟨p,nm,k,vb,h1,s _ _ h2,h3,h4,h5,h6,h7,h8,XOk.tp s h9⟩
 | .fin h a,_,⟨p,h1,h2,h3⟩=>⟨p,h1,s _ _ h2,h3⟩
theorem z9l {α β:Type} {R:α->β->Prop} {x:α} {y:β} :∀{xs:List α} {ys:List β} (j:Nat),All2 R xs ys->R x y->All2 R (xs.set j x) (ys.set j y)
 | _,_,_,.nil,_=>.nil
 | _,_,0,.cons _ r,h=>.cons h r
 | _,_,j + 1,.cons a r,h=>.cons a (z9l j r h)
theorem zdj {i:Int} (h:bdA i):AnsOk (.int i):=.inr (.inr ⟨i,rfl,by show (decide (-1000000000000<=i) && decide (i<=1000000000000))=true;rw [decide_eq_true h.1,decide_eq_true h.2];rfl⟩)
end
section
structure HdI (es:List Ev) (os:List (Int×Nat)):Prop where
 o:os.map (·.1)=es.foldl oStep []
 j :∀h j,(h,j)∈os->lastI h ((dAll 0 [] es).map Rc.h)=some j
noncomputable def heldK (os:List (Int×Nat)):List (Key×V):=os.map λ o=>(Sum.inl o.1,V.int (o.2:Nat))
theorem z80 (os:List (Int×Nat)):(heldK os).map (·.1)=(os.map (·.1)).map Sum.inl:=by unfold heldK;rw [R3,R3];rfl
theorem held_in {os:List (Int×Nat)} {h:Int}:(valV (heldK os) (.inl h)).isSome=true↔h∈os.map (·.1):=by rw [z42,z80];exact ⟨λ z=>by obtain ⟨k,a,e⟩:=List.mem_map.mp z;exact j4 e ▸ a,λ z=>List.mem_map.mpr ⟨h,z,rfl⟩⟩
theorem zau :∀{os:List (Int×Nat)} {h:Int},h∈os.map (·.1)->∃b,(h,b)∈os/\valV (heldK os) (.inl h)=some (.int (b:Nat))
 | [],_,z=>absurd z B0
 | (k,c) :: os,h,z=>by
  by_cases e:k=h
  ·subst e;exact ⟨c,.head _,z0o rfl⟩
  ·rcases List.mem_cons.mp z with y|y
   ·exact absurd y.symm e
   ·obtain ⟨b,f,d⟩:=zau (os:=os) y;exact ⟨b,.tail _ f,by show valV ((Sum.inl k,_) :: heldK os) _=_;rw [z0p (λ a=>e (j4 a))];exact d⟩
theorem z4w :∀{os:List (Int×Nat)} {h:Int},dropK (heldK os) (.inl h)=heldK (os.filter λ k=>decide (k.1≠h))
 | [],_=>rfl
 | (k,c) :: os,h=>by
  show dropK ((Sum.inl k,_) :: heldK os) _=_;by_cases e:k=h
  ·rw [zbs (by rw [e]),i2 (by simp [e]),z4w]
  ·rw [zbu (λ a=>e (j4 a)),Z1 (by simp [e]),z4w];rfl
theorem zeb {os:List (Int×Nat)} {h:Int} {b:Nat} (n:h∉os.map (·.1)):putK (heldK os) (.inl h) (.int (b:Nat))=heldK (os++[(h,b)]):=by rw [z35 (by rw [z80];exact λ z=>n (by obtain ⟨k,a,e⟩:=List.mem_map.mp z;exact j4 e ▸ a))];unfold heldK;rw [P2];rfl
theorem z2c {h:Int} :∀os:List (Int×Nat),(os.filter λ k=>decide (k.1≠h)).map (·.1)=(os.map (·.1)).filter λ k=>decide (k≠h)
 | []=>rfl
 | (k,c) :: os=>by
  by_cases e:k=h
  ·rw [i2 (by simp [e]),T0,i2 (by simp [e]),z2c os]
  ·rw [Z1 (by simp [e]),T0,T0,Z1 (by simp [e]),z2c os]
theorem z0y (es:List Ev) (e:Ev):dAll 0 [] (es++[e])=dstep es.length (dAll 0 [] es) e:=by
 have:=z8a (es:=es) (i:=0) (rs:=[]) (e:=e)
 rwa [E5] at this
theorem HdI.fin {es:List Ev} {os:List (Int×Nat)} {h:Int} {a:V} (x:HdI es os):HdI (es++[.fin h a]) (os.filter λ k=>decide (k.1≠h)):=by
 refine ⟨?_,λ k j c=>?_⟩
 ·rw [g8,z2c,x.o];rfl
 ·rw [z0y];have b:(dstep es.length (dAll 0 [] es) (.fin h a)).map Rc.h=(dAll 0 [] es).map Rc.h:=by
   unfold dstep;dsimp only;cases lastI h ((dAll 0 [] es).map Rc.h) with
   | none=>rfl
   | some m=>exact zan λ _=>rfl
  rw [b];exact x.j k j (List.mem_filter.mp c).1
theorem HdI.beg {es:List Ev} {os:List (Int×Nat)} {h:Int} {nm v y:V} (x:HdI es os) (n:h∉os.map (·.1)):HdI (es++[.beg h nm v y]) (os++[(h,(dAll 0 [] es).length)]):=by
 refine ⟨?_,λ k j a=>?_⟩
 ·rw [g8,P2,x.o];rfl
 ·rw [z0y];show lastI k ((dAll 0 [] es++[_]).map Rc.h)=_;rw [P2];show lastI k (_++[h])=_;rw [z29,G0];rcases List.mem_append.mp a with z|z
  ·rw [if_neg (λ q=>n (by rw [q];exact List.mem_map.mpr ⟨_,z,rfl⟩))];exact x.j k j z
  ·cases List.mem_singleton.mp z;rw [if_pos rfl]
theorem Md.kp {HL H H':Hp} {lr le:Addr} {es:List Ev} {zs ys:List V} (m:Md HL H lr le es zs ys) {d:Addr} {kvs:List (Key×V)} (hd:H d=some (.dK kvs)) (fd:HL d=none) (k :∀b o,b≠d->H b=some o->H' b=some o):Md HL H' lr le es zs ys:=by
 have f :∀{b:Addr} {c:List V},H b=some (.lst c)->b≠d:=λ e q=>by rw [q,hd] at e;cases e
 have i :∀{b:Addr} {c:List V},H b=some (.tup c)->b≠d:=λ e q=>by rw [q,hd] at e;cases e
 exact ⟨λ b o e=>k b o (λ q=>by rw [q,fd] at e;cases e) (m.s b o e),m.fl,m.fe,m.fz,m.nd,m.n1,k _ _ (f m.l) m.l,z02 (λ _ _ z=>by obtain ⟨p,j,t,h,r⟩:=z;exact ⟨p,j,t,k _ _ (f h) h,r⟩) m.a,m.g,m.n,k _ _ (f m.e) m.e,z02 (λ _ _ z=>EvT.tp (λ a c e=>k _ _ (i e) e) z) m.ev,m.wf,m.wx,m.n60,m.bg⟩
theorem Md.fin {HL H0 H':Hp} {lr le p tp:Addr} {es:List Ev} {zs ys:List V} {j:Nat} {r:Rc} {late:Int} {a:V} (m:Md HL H0 lr le es zs ys) (hj:lastI r.h ((dAll 0 [] es).map Rc.h)=some j) (hr:(dAll 0 [] es)[j]? = some r) (hz:zs[j]? = some (.ref p)) (ho:r.h∈es.foldl oStep []) (hh:0<=r.h/\r.h<=5) (l60:es.length < 60) (bl:bdI late) (ha1:isW r=true->a=.str "ok") (ha2:isW r=false->∃i,a=.int i/\bdA i)
  (k :∀b o,b≠p->b≠le->H0 b=some o->H' b=some o) (hp:H' p=some (.lst [.int r.h,r.v,r.x,a,.int r.b,.int (es.length:Nat),.int late])) (ht:H' tp=some (.tup [.str "end",.int r.h,a])) (hl:H' le=some (.lst (ys++[.ref tp]))) :
  Md HL H' lr le (es++[.fin r.h a]) zs (ys++[.ref tp]):=by
 obtain ⟨F,N,P⟩:=m.fz p (o0 hz);have t:dAll 0 [] (es++[.fin r.h a])=(dAll 0 [] es).modify j λ q=>{ q with a:=a,e:=some es.length }:=by rw [z0y];unfold dstep;dsimp only;rw [hj]
 have A :∀{i:Nat} {q:Rc},(dAll 0 [] (es++[.fin r.h a]))[i]? = some q->(i=j/\q={ r with a:=a,e:=some es.length })\/(i≠j/\(dAll 0 [] es)[i]? = some q):=λ {i q} z=>by
  rw [t,C1] at z;cases y:(dAll 0 [] es)[i]? with
  | none=>rw [y] at z;cases z
  | some r0=>
   rw [y] at z;have z:some (if j=i then { r0 with a:=a,e:=some es.length } else r0)=some q:=z;by_cases u:j=i
   ·subst u;rw [hr] at y;cases y;rw [if_pos rfl] at z;cases z;exact .inl ⟨rfl,rfl⟩
   ·rw [if_neg u] at z;cases z;exact .inr ⟨n3 u,rfl⟩
 have L :∀a f,H0 a=some (.tup f)->H' a=some (.tup f):=λ a f z=>k a _ (λ q=>by obtain ⟨_,_,_,_,E,I,_⟩:=z0a m.a hz;cases E;rw [q,I] at z;cases z) (λ q=>by rw [q,m.e] at z;cases z) z;have J:AnsOk a:=by
  cases w:isW r with
  | true=>exact .inl (ha1 w)
  | false=>obtain ⟨i,rfl,b⟩:=ha2 w;exact zdj b
 have G:RdG { r with a:=a,e:=some es.length }\/WrG 0 { r with a:=a,e:=some es.length }:=by
  rcases m.g r (o0 hr) with g|g
  ·refine .inl ⟨g.1,g.2.1,λ _ _=>?_⟩;obtain ⟨i,e,_⟩:=ha2 g.w;show a=.int (intV a);rw [e];rfl
  ·exact .inr ⟨g.1,trivial,g.2.2.1,λ _ _=>ha1 g.w⟩
 refine ⟨λ b o z=>k b o (λ q=>by rw [q,F] at z;cases z) (λ q=>by rw [q,m.fe] at z;cases z) (m.s b o z),m.fl,m.fe,m.fz,m.nd,m.n1,k _ _ (n3 N) m.n1 m.l,?_,?_,?_,hl,?_,m.wf.snoc ho,?_,by rw [F0];show es.length + 1<=60;omega,?_⟩
 ·refine z1m (by rw [t,i5];exact z04 m.a) λ i q v c d=>?_;rcases A c with ⟨rfl,rfl⟩|⟨ne,h0⟩
  ·rw [hz] at d;cases d;exact ⟨p,late,rfl,hp,bl⟩
  ·obtain ⟨Q,C,B,M,rfl,K,H⟩:=z0a m.a d;rw [h0] at C;cases C;refine ⟨B,M,rfl,k _ _ (λ z=>?_) (m.fz B (o0 d)).2.2 K,H⟩;subst z;exact ne (nd_at m.nd d hz)
 ·intro q O;obtain ⟨i,c⟩:=List.mem_iff_getElem?.mp O;rcases A c with ⟨_,rfl⟩|⟨_,h0⟩
  ·exact G
  ·exact m.g q (o0 h0)
 ·rw [t,i5];exact m.n
 ·exact z0r (z02 (λ _ _ z=>EvT.tp L z) m.ev) ⟨tp,rfl,ht,hh.1,hh.2,J⟩
 ·intro i q c D;rcases A c with ⟨rfl,rfl⟩|⟨_,h0⟩
  ·exact m.wx i r hr D
  ·exact m.wx i q h0 D
 ·rw [W2];show (_++[]).length<=24;rw [i3];exact m.bg
theorem za7 :∀(es:List Ev) (i:Nat) (rs:List Rc),(dAll i rs es).length=rs.length + (es.filter isBeg).length
 | [],_,_=>rfl
 | .beg h n v x :: es,i,rs=>by show (dAll (i + 1) (rs++[_]) es).length=rs.length + ((es.filter isBeg).length + 1);rw [za7 es,F0];show rs.length + 1 + _=_;omega
 | .fin h a :: es,i,rs=>by
  show (dAll (i + 1) (dstep i rs (.fin h a)) es).length=rs.length + (es.filter isBeg).length;rw [za7 es];congr 1;unfold dstep;dsimp only;cases lastI h (rs.map Rc.h) with
  | none=>rfl
  | some k=>exact i5 ..
theorem nameR:NameOk "r":=⟨by decide +kernel,by decide +kernel,by decide +kernel⟩
def NewD (i:Nat) (v x:V):Prop:=(v=.str "read"/\x=.non)\/(v=.str "write"/\∃t y:Int,0<=t/\t < 1000/\x=.int y/\(y=(24 * t + i + 1) * 41666\/y=-((24 * t + i + 1) * 41666)))
theorem Md.beg {HL H0 H':Hp} {lr le p tp:Addr} {es:List Ev} {zs ys:List V} {h:Int} {v x:V} {late:Int} (m:Md HL H0 lr le es zs ys) (hn:(dAll 0 [] es).length < 24) (nd:NewD (dAll 0 [] es).length v x) (ho:h∉es.foldl oStep []) (hh:0<=h/\h<=5) (l60:es.length < 60) (bl:bdI late)
  (fp:H0 p=none) (k :∀b o,b≠lr->b≠le->H0 b=some o->H' b=some o) (hr:H' lr=some (.lst (zs++[.ref p]))) (hp:H' p=some (.lst [.int h,v,x,.non,.int (es.length:Nat),.non,.int late])) (ht:H' tp=some (.tup [.str "begin",.int h,.str "r",v,x])) (hl:H' le=some (.lst (ys++[.ref tp]))) :
  Md HL H' lr le (es++[.beg h (.str "r") v x]) (zs++[.ref p]) (ys++[.ref tp]):=by
 have j:dAll 0 [] (es++[.beg h (.str "r") v x])=dAll 0 [] es++[⟨h,.str "r",v,x,.non,es.length,none⟩]:=z0y es _;have I:=z04 m.a;have G:=za7 es 0 [];rw [A4] at G;have H:HL p=none:=m.s.free fp;have Q:p≠lr:=λ q=>by rw [q,m.l] at fp;cases fp
 have O:p≠le:=λ q=>by rw [q,m.e] at fp;cases fp
 have P:V.ref p∉zs:=λ q=>by obtain ⟨i,c⟩:=List.mem_iff_getElem?.mp q;obtain ⟨_,_,_,_,D,B,_⟩:=z0a m.a c;cases D;rw [fp] at B;cases B
 have K :∀a u,H0 a=some (.tup u)->H' a=some (.tup u):=λ a u z=>k a _ (λ q=>by rw [q,m.l] at z;cases z) (λ q=>by rw [q,m.e] at z;cases z) z;refine ⟨λ b o z=>k b o (λ q=>by rw [q,m.fl] at z;cases z) (λ q=>by rw [q,m.fe] at z;cases z) (m.s b o z),m.fl,m.fe,λ b w=>?_,?_,m.n1,hr,?_,?_,?_,hl,?_,m.wf.snoc ho,?_,by rw [F0];show es.length + 1<=60;omega,?_⟩
 ·rcases List.mem_append.mp w with z|z
  ·exact m.fz b z
  ·cases List.mem_singleton.mp z;exact ⟨H,Q,O⟩
 ·exact List.nodup_append.mpr ⟨m.nd,List.nodup_cons.mpr ⟨B0,.nil⟩,λ a J b w e=>by rw [List.mem_singleton.mp w] at e;exact P (e ▸ J)⟩
 ·rw [j];refine z0r (z1m I λ i q v c C=>?_) ⟨p,late,rfl,hp,bl⟩;obtain ⟨U,d,A,N,rfl,L,F⟩:=z0a m.a C;rw [c] at d;cases d;obtain ⟨_,E,M⟩:=m.fz A (o0 C);exact ⟨A,N,rfl,k _ _ E M L,F⟩
 ·rw [j];intro q R;rcases List.mem_append.mp R with z|z
  ·exact m.g q z
  ·rw [List.mem_singleton.mp z];rcases nd with ⟨d,f⟩|⟨d,t,y,_,_,f,_⟩
   ·exact .inl ⟨d,f,λ _ z=>by cases z⟩
   ·exact .inr ⟨d,trivial,by show x=.int (intV x);rw [f];rfl,λ _ z=>by cases z⟩
 ·rw [j,F0];show _ + 1<=24;omega
 ·refine z0r (z02 (λ _ _ z=>EvT.tp K z) m.ev) ?_;rcases nd with ⟨rfl,rfl⟩|⟨rfl,t,y,t0,t1,rfl,hy⟩
  ·exact ⟨tp,"r","register","read",rfl,ht,hh.1,hh.2,rfl,rfl,.head _,nameR,.none (by decide +kernel)⟩
  ·refine ⟨tp,"r","register","write",rfl,ht,hh.1,hh.2,rfl,rfl,.head _,nameR,.one (by decide +kernel) ?_⟩;show (decide (-1000000000<=y) && decide (y<=1000000000))=true;rw [decide_eq_true (by omega),decide_eq_true (by omega)];rfl
 ·rw [j];intro i q c n;rw [C7] at c;split at c
  ·exact m.wx i q c n
  ·rename_i z;obtain ⟨y,_⟩:=List.getElem?_eq_some_iff.mp c;rw [U3] at y;have T:i - (dAll 0 [] es).length=0:=by omega
   rw [T] at c;cases c;have S:i=(dAll 0 [] es).length:=by omega
   rcases nd with ⟨d,f⟩|⟨d,t,y,t0,t1,f,hy⟩
   ·unfold isW at n;rw [show (⟨h,.str "r",v,x,.non,es.length,none⟩:Rc).v=v from rfl,d,decide_eq_false z0z] at n;cases n
   ·refine ⟨t,t0,t1,?_⟩;show intV x=_\/intV x=_;rw [f,S];exact hy
 ·rw [W2];show (_++[_]).length<=24;rw [F0];show _ + 1<=24;omega
end
section
variable {P:Program} {w:N0} {mg:Str->Option Value} {base:Heap}
noncomputable def enN (r:Rc):Int:=((r.e.getD 0:Nat):Int)
theorem re_end {r:Rc} (h:isRE r=true):r.v=.str "read"/\r.e=some (r.e.getD 0):=by unfold isRE at h;rw [E7] at h;obtain ⟨k,a⟩:=Option.isSome_iff_exists.mp h.2;exact ⟨of_decide_eq_true h.1,by rw [a];rfl⟩
theorem zet (rs:List Rc) (t:Ent):(spans rs t).filterMap (·.2)=t.e.toList++(rdsF rs t.x).map enN:=by
 have c :∀l:List Rc,(∀r∈l,isRE r=true)->(l.map spR).filterMap (·.2)=l.map enN:=by
  intro l;induction l with
  | nil=>exact λ _=>rfl
  | cons r l ih=>
   intro h;rw [T0,B6 (b:=enN r) (by show r.e.map (λ n=>(n:Int))=some (enN r);unfold enN;rw [(re_end (h r (.head _))).2];rfl),ih λ q d=>h q (.tail _ d)];rfl
 have k:=c (rdsF rs t.x) λ r a=>(List.mem_filter.mp (List.mem_filter.mp a).1).2;unfold spans;cases h:t.e with
 | none=>rw [v9 rfl,k];rfl
 | some e=>rw [B6 (f:=λ x:Int×Option Int=>x.2) (b:=e) rfl,k];rfl
theorem zeg {a b:Int} {ns:List Int} (h:MinI a ns) (h':MinI b ns):a=b:=Int.le_antisymm (h.2 b h'.1) (h'.2 a h.1)
theorem z66 {rs:List Rc} (nd:((rs.filter isW).map (λ r=>intV r.x)).Nodup) (n0:(0:Int)∉(rs.filter isW).map (λ r=>intV r.x)):((ents rs).map λ t=>(Sum.inl t.x:Key)).Nodup:=by
 have e:(ents rs).map (λ t=>(Sum.inl t.x:Key))=((0:Int) :: (rs.filter isW).map (λ r=>intV r.x)).map Sum.inl:=by unfold ents;rw [T0,R3,T0,R3];rfl
 rw [e];unfold List.Nodup;rw [w5];exact (List.nodup_cons.mpr ⟨n0,nd⟩:List.Nodup _).imp λ h z=>h (j4 z)
end
section
def PosOf (rs:List Rc) (x p:Int):Prop:=(x=0/\p < 0)\/∃(i:Nat) (r:Rc),rs[i]? = some r/\(p=r.b\/∃e:Nat,r.e=some e/\p=(e:Int))/\((isW r=true/\intV r.x=x)\/(isRE r=true/\intV r.a=x))
theorem zel {n:Nat} {rs:List Rc} (ps:PosI n rs) {x x' p:Int} (h:PosOf rs x p) (h':PosOf rs x' p):x=x':=by
 rcases h with ⟨rfl,h⟩|⟨i,r,hi,hp,hx⟩
 ·rcases h' with ⟨rfl,_⟩|⟨j,q,hj,hp',_⟩
  ·rfl
  ·rcases hp' with z|⟨e,_,z⟩<;>omega
 ·rcases h' with ⟨rfl,h'⟩|⟨j,q,hj,hp',hx'⟩
  ·rcases hp with z|⟨e,_,z⟩<;>omega
  ·have d:i=j:=by
    rcases hp with z|⟨e,he,z⟩
    ·rcases hp' with y|⟨f,hf,y⟩
     ·exact ps.bb i j r q hi hj (by omega)
     ·exact absurd (by omega) (ps.be r (o0 hi) q (o0 hj) f hf)
    ·rcases hp' with y|⟨f,hf,y⟩
     ·exact absurd (by omega) (ps.be q (o0 hj) r (o0 hi) e he)
     ·have:e=f:=by omega
      subst this;exact ps.ee i j r q e hi hj he hf
   subst d;rw [hi] at hj;cases hj;have c:¬ (isW r=true/\isRE r=true):=λ ⟨a,b⟩=>z0z ((re_end b).1.symm.trans (of_decide_eq_true a));rcases hx with ⟨a,rfl⟩|⟨a,rfl⟩
   ·rcases hx' with ⟨_,b⟩|⟨b,_⟩
    ·exact b
    ·exact absurd ⟨a,b⟩ c
   ·rcases hx' with ⟨b,_⟩|⟨_,b⟩
    ·exact absurd ⟨b,a⟩ c
    ·exact b
theorem z9m {rs:List Rc} {t:Ent} (ht:t∈ents rs) {s:Int×Option Int} (hs:s∈spans rs t):PosOf rs t.x s.1/\∀e,s.2=some e->PosOf rs t.x e:=by
 rcases List.mem_cons.mp hs with rfl|hs
 ·rcases ents_mem.mp ht with rfl|⟨w,hw,hi,rfl⟩
  ·exact ⟨.inl ⟨rfl,by decide⟩,λ e a=>by cases a;exact .inl ⟨rfl,by decide⟩⟩
  ·obtain ⟨i,h⟩:=List.mem_iff_getElem?.mp hw;refine ⟨.inr ⟨i,w,h,.inl rfl,.inl ⟨hi,rfl⟩⟩,λ e a=>?_⟩;unfold entW at a;cases hk:w.e with
   | none=>rw [hk] at a;cases a
   | some k=>rw [hk] at a;cases a;exact .inr ⟨i,w,h,.inr ⟨k,hk,rfl⟩,.inl ⟨hi,rfl⟩⟩
 ·obtain ⟨r,d,rfl⟩:=List.mem_map.mp hs;obtain ⟨g,b⟩:=List.mem_filter.mp d;obtain ⟨f,c⟩:=List.mem_filter.mp g;have b:=of_decide_eq_true b;obtain ⟨i,h⟩:=List.mem_iff_getElem?.mp f;refine ⟨.inr ⟨i,r,h,.inl rfl,.inr ⟨c,b⟩⟩,λ e a=>?_⟩;unfold spR at a;cases hk:r.e with
  | none=>rw [hk] at a;cases a
  | some k=>rw [hk] at a;cases a;exact .inr ⟨i,r,h,.inr ⟨k,hk,rfl⟩,.inr ⟨c,b⟩⟩
theorem zn_pos {rs:List Rc} {t:Ent} {z:Zt} (ht:t∈ents rs) (h:ZnR rs t z):PosOf rs t.x z.lo:=by
 obtain ⟨l,g,c,b,rfl⟩:=h;unfold zOf;split
 ·obtain ⟨s,a,e⟩:=List.mem_filterMap.mp c.1;exact (z9m ht a).2 l e
 ·obtain ⟨s,a,e⟩:=List.mem_map.mp b.1;rw [<-e];exact (z9m ht a).1
theorem zdp {a b:Int} {ns:List Int} (h:MaxI a ns) (h':MaxI b ns):a=b:=Int.le_antisymm (h'.2 a h.1) (h.2 b h'.1)
theorem zdf {rs:List Rc} {t:Ent} {z z':Zt} (h:ZnR rs t z) (h':ZnR rs t z'):z=z':=by obtain ⟨l,g,d,b,rfl⟩:=h;obtain ⟨f,e,c,a,rfl⟩:=h';rw [zeg d c,zdp b a]
theorem ents_x {rs:List Rc} (nd:((ents rs).map λ t=>(Sum.inl t.x:Key)).Nodup) {t t':Ent} (h:t∈ents rs) (h':t'∈ents rs) (e:t.x=t'.x):t=t':=by
 obtain ⟨i,b⟩:=List.mem_iff_getElem?.mp h;obtain ⟨j,a⟩:=List.mem_iff_getElem?.mp h';obtain ⟨f,d⟩:=List.getElem?_eq_some_iff.mp b;obtain ⟨c,k⟩:=List.getElem?_eq_some_iff.mp a;have g:=List.pairwise_iff_getElem.mp nd;rcases F5 i j with z|z|z
 ·refine absurd ?_ (g i j (by rw [G0];exact f) (by rw [G0];exact c) z);rw [n4,n4,d,k,e]
 ·subst z;rw [b] at a;exact W0 a
 ·refine absurd ?_ (g j i (by rw [G0];exact c) (by rw [G0];exact f) z);rw [n4,n4,d,k,e]
theorem z7v {α β:Type} {R:α->β->Prop} :∀{xs:List α} {ys:List β},All2 R xs ys->∀y∈ys,∃x∈xs,R x y
 | _,_,.cons a r,y,h=>by
  rcases List.mem_cons.mp h with rfl|h
  ·exact ⟨_,.head _,a⟩
  ·obtain ⟨x,c,b⟩:=z7v r y h;exact ⟨x,.tail _ c,b⟩
end
section
def onP (z z':Zt):Prop:=z.on=true/\z'.on=true/\z.lo < z'.lo/\z'.lo < z.hi
def inP (z z':Zt):Prop:=z.on=false/\z'.on=true/\z'.lo < z.lo/\z.hi < z'.hi
noncomputable def kdP:Bool->Zt->Zt->Prop
 | true=>onP
 | false=>inP
def FstP (P:Zt->Zt->Prop) (zl:List Zt) (z z':Zt):Prop:=z∈zl/\z'∈zl/\P z z'/\∀y y',y∈zl->y'∈zl->P y y'->z.lo < y.lo\/(z.lo=y.lo/\z'.lo<=y'.lo)
def NoP (P:Zt->Zt->Prop) (zl:List Zt):Prop:=∀y y',y∈zl->y'∈zl->¬ P y y'
inductive Oc
 | lost (n:Nat)
 | pr (k:Bool) (x y:Int)
 | non
def LosB (rs:List Rc) (r:Rc):Prop:=isRE r=true/\∀t∈ents rs,t.x=intV r.a->((r.e.getD 0:Nat):Int) < t.b
def FstL (rs:List Rc) (n:Nat):Prop:=∃r,rs[n]? = some r/\LosB rs r/\∀(m:Nat) (q:Rc),m < n->rs[m]? = some q->¬ LosB rs q
def NoL (rs:List Rc):Prop:=∀r∈rs,¬ LosB rs r
noncomputable def PrOk (zl:List Zt):Oc->Prop
 | .lost _=>False
 | .pr true x y=>∃z z',FstP onP zl z z'/\x=z.x/\y=z'.x
 | .pr false x y=>NoP onP zl/\∃z z',FstP inP zl z z'/\x=z.x/\y=z'.x
 | .non=>NoP onP zl/\NoP inP zl
noncomputable def OcOk (rs:List Rc):Oc->Prop
 | .lost n=>FstL rs n
 | o=>NoL rs/\∃zl,ZonS rs zl/\PrOk zl o
noncomputable def OcV (H:Hp):Oc->V->Prop
 | .lost n,v=>∃p,v=.ref p/\H p=some (.tup [.str "lost",.int (n:Nat)])
 | .pr k x y,v=>∃p,v=.ref p/\H p=some (.tup [.str (onS k),.int x,.int y])
 | .non,v=>v=.non
theorem zon_lo {n:Nat} {rs:List Rc} (ps:PosI n rs) (nd:((rs.filter isW).map (λ r=>intV r.x)).Nodup) (n0:(0:Int)∉(rs.filter isW).map (λ r=>intV r.x)) {zl:List Zt} (h:ZonS rs zl) :∀z∈zl,∀z'∈zl,z.lo=z'.lo->z=z':=λ z o z' k e=>by obtain ⟨a,b,j,s⟩:=h;obtain ⟨t,l,i⟩:=z7v b z (j.mem_iff.mp o);obtain ⟨q,m,g⟩:=z7v b z' (j.mem_iff.mp k);have f:=(List.mem_filter.mp l).1;have d:=(List.mem_filter.mp m).1;have c:=zn_pos f i;have p:=zn_pos d g;rw [e] at c;have:=ents_x (z66 nd n0) f d (zel ps c p);subst this;exact zdf i g
theorem zfy {rs:List Rc} {n:Nat} (h:FstL rs n) (h':NoL rs):False:=by obtain ⟨r,b,a,c⟩:=h;exact h' r (o0 b) a
theorem fst_no {P:Zt->Zt->Prop} {zl:List Zt} {z z':Zt} (h:FstP P zl z z') (h':NoP P zl):False:=h' z z' h.1 h.2.1 h.2.2.1
end
section
variable {P:Program} {w:N0} {mg:Str->Option Value} {base:Heap}
noncomputable def colB (z z':Zt):Bool:=if z.on=true then decide (z.lo < z'.lo) && decide (z'.lo < z.hi) else decide (z'.lo < z.lo) && decide (z.hi < z'.hi)
def z6a (K:c0):Sp:=λ vs H Q _=>∃z z' y y',vs=[y,y']/\ZtV H z y/\ZtV H z' y'/\Q (.bl (colB z z')) H
theorem z9t (T:TX (kx w) mg):Fo P w mg base CX0 1 314 y14 ["zone","other"] (z6a (kx w)):=by
 refine (z47 w.params).ok zal (λ g H Q E h=>?_) (λ k A l s H g Q E m h=>?_)
 ·obtain ⟨z,b,y,i,rfl,_⟩:=h;rfl
 ·obtain ⟨z,b,y,i,rfl,⟨p,rfl,c⟩,⟨f,rfl,d⟩,q⟩:=h;refine ⟨_,(z06 (ps_if (z08 opEq (pe_ix ix_seq (pv 0) pe_int (λ _ _=>rfl)) pe_str (nomark _))
   (z05 (ps_ret (pe_and (z1k op_lt (pe_ix ix_seq (pv 1) pe_int (λ _ _=>rfl)) (pe_ix ix_seq (pv 0) pe_int (λ _ _=>rfl)) (nomark _)) (pe_one (z1k op_lt (pe_ix ix_seq (pv 0) pe_int (λ _ _=>rfl)) (pe_ix ix_seq (pv 1) pe_int (λ _ _=>rfl)) (nomark _))))))
   z0d)
   (z05 (ps_ret (z6f op_lt op_lt (pe_ix ix_seq (pv 0) pe_int (λ _ _=>rfl)) (pe_ix ix_seq (pv 1) pe_int (λ _ _=>rfl)) (pe_ix ix_seq (pv 0) pe_int (λ _ _=>rfl)))))),?_⟩
  have c:=SqT.of (K:=KX w.params) c;have d:=SqT.of (K:=KX w.params) d;refine sq_if ⟨_,rfl,.inr (.inl ⟨p,_,3,.str (onS z.on),rfl,rfl,c,z03 (j:=3) rfl,rfl,_,rfl,?_⟩)⟩;cases hz:z.on with
  | true=>
   refine iteK (t_nx ?_);refine ⟨_,rfl,.inr (.inl ⟨p,_,1,.int z.lo,rfl,rfl,c,z03 (j:=1) rfl,_,rfl,.inr (.inl ⟨f,_,1,.int b.lo,rfl,rfl,d,z03 (j:=1) rfl,_,_,rfl,rfl,_,rfl,ite2 (λ a=>?_) λ a=>?_⟩)⟩)⟩
   ·have e:colB z b=decide (b.lo < z.hi):=by unfold colB;rw [hz,if_pos rfl,a,D6]
    rw [e] at q;exact ⟨_,rfl,.inr (.inl ⟨p,_,2,.int z.hi,rfl,rfl,c,z03 (j:=2) rfl,_,_,rfl,rfl,q⟩)⟩
   ·have e:colB z b=false:=by unfold colB;rw [hz,if_pos rfl,Bool.eq_false_iff.mpr a,C5]
    rw [e] at q;exact q
  | false=>
   refine iteP (by decide +kernel) ?_;refine ⟨_,rfl,.inr (.inl ⟨f,_,1,.int b.lo,rfl,rfl,d,z03 (j:=1) rfl,_,rfl,.inr (.inl ⟨p,_,1,.int z.lo,rfl,rfl,c,z03 (j:=1) rfl,_,_,rfl,rfl,_,rfl,ite2 (λ a=>?_) λ a=>?_⟩)⟩)⟩
   ·have e:colB z b=decide (z.hi < b.hi):=by unfold colB;rw [hz,if_neg (by decide),a,D6]
    rw [e] at q;exact ⟨_,rfl,.inr (.inl ⟨p,_,2,.int z.hi,rfl,rfl,c,z03 (j:=2) rfl,_,rfl,.inr (.inl ⟨f,_,2,.int b.hi,rfl,rfl,d,z03 (j:=2) rfl,_,_,rfl,rfl,q⟩)⟩)⟩
   ·have e:colB z b=false:=by unfold colB;rw [hz,if_neg (by decide),Bool.eq_false_iff.mpr a,C5]
    rw [e] at q;exact q
def z5l (K:c0):Sp:=λ vs H Q _=>∃l zl ys b,vs=[.ref l,.str (onS b)]/\H l=some (.lst ys)/\All2 (ZtV H) zl ys/\zl.length<=100/\∀a ws H',Same H H'->H' a=some (.lst ws)->All2 (ZtV H') (zl.filter λ z=>z.on == b) ws->Q (.ref a) H'
theorem on_eq (b c:Bool):decide (V.str (onS b)=V.str (onS c))=(b == c):=by cases b<;>cases c<;>decide +kernel
theorem z9x (T:TX (kx w) mg):Fo P w mg base CX0 1 307 y13 ["found","kind"] (z5l (kx w)):=by
 refine (z4y w.params).ok zaw (λ I H Q E h=>?_) (λ W A X s H I Q E t h=>?_)
 ·obtain ⟨l,d,C,b,rfl,_⟩:=h;rfl
 ·obtain ⟨l,d,C,b,rfl,S,f,V,q⟩:=h;refine ⟨_,(z05 (ps_ret (pe_cg (xs:=["zone"]) (g:=gName 0) (fr:=[(1,"kind")]) (z0n (pv 0)) (λ _ _ _ _ _=>(pg_cn (N:=["zone","kind"]) 0)) (λ _ _ _ _ _=>(pf_one (z08 opEq (pe_ix (z1a (K:=KX w.params) rfl) (pv 0) pe_int (λ _ _=>rfl)) (pv 1) (nomark _)))) (λ _ _ _ _ _=>(pv 0))))),?_⟩;have U:=z04 f;refine sq_ret ?_;refine z10 (K:=KX w.params) (a:=l) (xs:=C) (H1:=H) (λ i=>(d[i]?.map λ z=>z.on == b).getD false) (λ i y F=>∀z,d[i]? = some z->ZtV F z y) (λ _ _ _ _ s z r t=>(z r t).same s) (λ R h=>⟨_,rfl,h⟩) (SqL.of S) (J0 (m:=100) (by omega) (by decide)) (λ i hi v H1 e O KT Z k u=>?_) λ M H1 n e L c=>?_
  ·obtain ⟨z,G,p,rfl,D⟩:=z0a f O;have x:=e _ _ D;rw [G] at k u;refine ⟨[some (.ref p)],rfl,rfl,⟨_,rfl,.inr (.inl ⟨p,_,3,.str (onS z.on),rfl,rfl,SqT.of x,z03 (j:=3) rfl,_,rfl,rfl,_,rfl,?_⟩)⟩⟩;refine ite2 (λ y=>⟨_,rfl,k ((on_eq _ _).symm.trans y) _ _ (Same.refl _) λ Y J=>by cases J;exact ⟨p,rfl,x⟩⟩) λ y=>u ((on_eq _ _).symm.trans (Bool.eq_false_iff.mpr y)) _ (Same.refl _)
  rw [U] at c;have c:=z4o (q:=λ z:Zt=>z.on == b) _ (A0 _) c;rw [T4] at c;have B:=Same.upd (o:=.lst n) L;exact q M n _ (e.trans B) z01 (z02 (λ _ _ z=>z.same B) c)
theorem zn_x {rs:List Rc} {t:Ent} {z:Zt} (h:ZnR rs t z):z.x=t.x:=by obtain ⟨l,g,_,_,rfl⟩:=h;unfold zOf;split<;>rfl
theorem zon_lt {n:Nat} {rs:List Rc} (ps:PosI n rs) (nd:((rs.filter isW).map (λ r=>intV r.x)).Nodup) (n0:(0:Int)∉(rs.filter isW).map (λ r=>intV r.x)) {zl:List Zt} (h:ZonS rs zl):zl.Pairwise λ z z'=>z.lo < z'.lo:=by
 have q:=zon_lo ps nd n0 h;obtain ⟨a,k,m,s⟩:=h;have e :∀{d:List Ent} {a:List Zt},All2 (ZnR rs) d a->(a.map λ z=>(Sum.inl z.x:Key))=d.map λ t=>(Sum.inl t.x:Key):=by
  intro d a h;induction h with
  | nil=>rfl
  | cons a r ih=>rw [T0,T0,ih,zn_x a]
 have l:(a.map λ z=>(Sum.inl z.x:Key)).Nodup:=by rw [e k];exact (z66 nd n0).sublist ((List.filter_sublist).map _)
 have o:(zl.map λ z=>(Sum.inl z.x:Key)).Nodup:=(m.map _).nodup_iff.mpr l;have u:=List.pairwise_iff_getElem.mp o;have p:=List.pairwise_iff_getElem.mp s;rw [g9];intro i j b c g;have f:=u i j (by rw [G0];exact b) (by rw [G0];exact c) g;rw [n4,n4] at f;have v:=p i j b c g;have w:zl[i].lo≠zl[j].lo:=λ z=>f (by rw [q _ (M5 b) _ (M5 c) z]);omega
theorem pw_lo {xs:List Zt} (pw:xs.Pairwise λ z z'=>z.lo < z'.lo) {i j:Nat} {z y:Zt} (hi:xs[i]? = some z) (hj:xs[j]? = some y) (h:i < j):z.lo < y.lo:=by
 obtain ⟨c,b⟩:=List.getElem?_eq_some_iff.mp hi;obtain ⟨a,d⟩:=List.getElem?_eq_some_iff.mp hj;have:=List.pairwise_iff_getElem.mp pw i j c a h
 rwa [b,d] at this
theorem kd_on {b:Bool} {z z':Zt} (h:kdP b z z'):z.on=b/\z'.on=true:=by
 cases b with
 | true=>exact ⟨h.1,h.2.1⟩
 | false=>exact ⟨h.1,h.2.1⟩
theorem zey {b:Bool} {z z':Zt} (h:z.on=b) (h':z'.on=true):colB z z'=true↔kdP b z z':=by
 unfold colB;subst h;cases hz:z.on with
 | true=>rw [if_pos rfl,S3,decide_eq_true_iff,decide_eq_true_iff];exact ⟨λ ⟨a,b⟩=>⟨hz,h',a,b⟩,λ ⟨_,_,a,b⟩=>⟨a,b⟩⟩
 | false=>rw [if_neg (by decide),S3,decide_eq_true_iff,decide_eq_true_iff];exact ⟨λ ⟨a,b⟩=>⟨hz,h',a,b⟩,λ ⟨_,_,a,b⟩=>⟨a,b⟩⟩
theorem mem_kd {b:Bool} {zl:List Zt} {y:Zt} (h:y∈zl) (e:y.on=b) :∃i:Nat,(zl.filter λ z=>z.on == b)[i]? = some y:=List.mem_iff_getElem?.mp (List.mem_filter.mpr ⟨h,beq_iff_eq.mpr e⟩)
def z2n (K:c0):Sp:=λ vs H Q _=>∃l zl ys,vs=[.ref l]/\H l=some (.lst ys)/\All2 (ZtV H) zl ys/\zl.length<=100/\(zl.Pairwise λ z z'=>z.lo < z'.lo)/\∀o v H',Same H H'->PrOk zl o->OcV H' o v->Q v H'
theorem z6c (T:TX (kx w) mg) (c0:Ca P w mg base "of_kind" ["found","kind"] 1 (z5l (kx w))) (c1:Ca P w mg base "collide" ["zone","other"] 1 (z6a (kx w))):Fo P w mg base CX0 2 302 y09 ["found"] (z2n (kx w)):=by
 refine (z1x w.params).ok sc_first_pair (λ vs H Q E h=>?_) (λ b5 A b4 s H vs Q E J h=>?_)
 ·obtain ⟨l,e,M,rfl,_⟩:=h;rfl
 ·obtain ⟨l,e,M,rfl,el,az,O,pw,q⟩:=h;refine ⟨_,(z06 (ps_for C2 rfl (pi_tup (pe_tup (z00 pe_str (z00 pe_str pa_nil)))) (z0m (i:=1) sc_first_pair.nd rfl (L1 rfl))
   (z05 (ps_for C2 rfl (z0n (pe_cal c0 (J.mono (by decide)) rfl (z00 (pv 0) (z00 (pv 1) pa_nil)))) (z0m (i:=2) sc_first_pair.nd rfl (L1 rfl))
   (z05 (ps_for C2 rfl (z0n (pe_cal c0 (J.mono (by decide)) rfl (z00 (pv 0) (z00 pe_str pa_nil)))) (z0m (i:=3) sc_first_pair.nd rfl (L1 rfl))
   (z05 (ps_if (pt_val (pe_cal c1 (J.mono (by decide)) rfl (z00 (pv 2) (z00 (pv 3) pa_nil))) (λ _=>rfl))
   (z05 (ps_ret (pe_tup (z00 (pv 1) (z00 (pe_ix ix_seq (pv 2) pe_int (λ _ _=>rfl)) (z00 (pe_ix ix_seq (pv 3) pe_int (λ _ _=>rfl)) pa_nil))))))
   z0d)))))))
   (z05 (ps_ret pe_non))),?_⟩
  refine ⟨w_2,λ tb a6=>?_⟩;obtain ⟨H1,v_,u1,e1⟩:=newA (.tup [.str "on",.str "in"]) a6;rw [<-v_];refine ⟨tb,rfl,⟨_,SqT.of e1⟩,?_⟩;refine zes (K:=KX w.params) (a:=tb) (xs:=[.str "on",.str "in"]) (λ i σ f=>Same H1 f/\(1<=i->NoP onP e)/\(2<=i->NoP inP e)/\∃x1 x2 x3,σ=[some (.ref l),x1,x2,x3]) ⟨Same.refl _,λ z=>absurd z (by decide),λ z=>absurd z (by decide),_,_,_,rfl⟩ (λ _ σ f _ h=>SqT.of (h.1 _ _ e1)) ?_ ?_;rotate_left
  ·rintro σ H2 ⟨s2,n1,n2,x1,x2,x3,rfl⟩;exact q .non .non _ (u1.trans s2) ⟨n1 (by decide),n2 (by decide)⟩ rfl
  rintro i y σ H2 d ⟨s2,n1,n2,x1,x2,x3,rfl⟩;obtain ⟨b,rfl,b0,a3⟩ :∃b,y=V.str (onS b)/\(b=true->i=0)/\(b=false->i=1):=by
   match i,d with
   | 0,d=>cases d;exact ⟨true,rfl,λ _=>rfl,(λ z=>by cases z)⟩
   | 1,d=>cases d;exact ⟨false,rfl,(λ z=>by cases z),λ _=>rfl⟩
  have N:=u1.trans s2;refine g_name ?_;refine ⟨_,rfl,_,rfl,l,e,M,b,rfl,N _ _ el,z02 (λ _ _ z=>z.same N) az,O,λ a ws H3 s3 ea X=>⟨a,rfl,⟨_,SqL.of ea⟩,?_⟩⟩;have u3:=N.trans s3;have b3:(e.filter λ z=>z.on == b).Pairwise λ z z'=>z.lo < z'.lo:=pw.filter _;have b1:(e.filter λ z=>z.on == true).Pairwise λ z z'=>z.lo < z'.lo:=pw.filter _;refine z15 (K:=KX w.params) (a:=a) (xs:=ws) (λ j σ f=>Same H3 f/\(∀(o:Nat) (z:Zt),o < j->(e.filter λ z=>z.on == b)[o]? = some z->∀z'∈e,¬ kdP b z z')/\∃x2 x3,σ=[some (.ref l),some (.str (onS b)),x2,x3]) ⟨Same.refl _,λ o z h=>absurd h (j7 _),_,_,rfl⟩ (λ _ σ f _ h=>SqL.of (h.1 _ _ ea)) ?_ ?_;rotate_left
  ·rintro σ H4 ⟨s4,nb,x2,x3,rfl⟩;have U:NoP (kdP b) e:=λ y D d u k=>by obtain ⟨j,hj⟩:=mem_kd d (kd_on k).1;exact nb j y (by rw [z04 X];exact z0k hj) hj D u k
   refine ⟨s2.trans (s3.trans s4),λ h=>?_,λ h=>?_,_,_,_,rfl⟩
   ·cases b with
    | true=>exact U
    | false=>exact n1 (by rw [a3 rfl];decide)
   ·cases b with
    | true=>have:=b0 rfl;omega
    | false=>exact U
  rintro j v σ H4 hv ⟨s4,nb,x2,x3,rfl⟩;obtain ⟨z,G,zv⟩:=z0a X hv;have a0:=List.mem_filter.mp (o0 G);have I:=u3.trans s4;refine g_name ?_;refine ⟨_,rfl,l,e,M,true,rfl,I _ _ el,z02 (λ _ _ z=>z.same I) az,O,λ W a7 H5 L Z a4=>⟨W,rfl,⟨_,SqL.of Z⟩,?_⟩⟩;refine z15 (K:=KX w.params) (a:=W) (xs:=a7) (λ k σ f=>Same H5 f/\(∀(r:Nat) (z':Zt),r < k->(e.filter λ z=>z.on == true)[r]? = some z'->¬ kdP b z z')/\∃x3,σ=[some (.ref l),some (.str (onS b)),some v,x3]) ⟨Same.refl _,λ r z' h=>absurd h (j7 _),_,rfl⟩ (λ _ σ f _ h=>SqL.of (h.1 _ _ Z)) ?_ ?_;rotate_left
  ·rintro σ H6 ⟨s6,nk,x3,rfl⟩;refine ⟨s4.trans (L.trans s6),λ o y h d z' g k=>?_,_,_,rfl⟩;rcases Nat.lt_succ_iff_lt_or_eq.mp h with h|rfl
   ·exact nb o y h d z' g k
   ·rw [G] at d;cases d;obtain ⟨m,n⟩:=mem_kd g (kd_on k).2;exact nk m z' (by rw [z04 a4];exact z0k n) n k
  rintro k v' σ H6 b2 ⟨s6,nk,x3,rfl⟩;obtain ⟨z',g,a8⟩:=z0a a4 b2;have a1:=List.mem_filter.mp (o0 g);have a5:=zv.same (s4.trans (L.trans s6));have Y:=a8.same s6;have ci:=zey (b:=b) (z:=z) (z':=z') (beq_iff_eq.mp a0.2) (beq_iff_eq.mp a1.2);refine g_name ?_;refine z0s ⟨_,rfl,_,rfl,z,z',v,v',rfl,a5,Y,_,rfl,ite2 (λ c=>?_) λ c=>?_⟩
  ·have C:=ci.mp c;have S:FstP (kdP b) e z z':=⟨a0.1,a1.1,C,λ y D d u F=>by
    obtain ⟨m,n⟩:=mem_kd d (kd_on F).1;rcases F5 m j with t|t|t
    ·exact absurd F (nb m y t n D u)
    ·subst t;rw [G] at n;cases n;refine .inr ⟨rfl,?_⟩;obtain ⟨R,B⟩:=mem_kd u (kd_on F).2;rcases F5 R k with t|t|t
     ·exact absurd F (nk R D t B)
     ·subst t;rw [g] at B;cases B;exact Int.le_refl _
     ·exact Int.le_of_lt (pw_lo b1 g B t)
    ·exact .inl (pw_lo b3 G n t)⟩
   obtain ⟨p,rfl,ep⟩:=a5;obtain ⟨p',rfl,a9⟩:=Y;refine ⟨_,rfl,_,rfl,.inr (.inl ⟨p,_,0,.int z.x,rfl,rfl,SqT.of ep,z03 (j:=0) rfl,_,rfl,.inr (.inl ⟨p',_,0,.int z'.x,rfl,rfl,SqT.of a9,z03 (j:=0) rfl,w_3,λ t ht=>?_⟩)⟩)⟩;refine q (.pr b z.x z'.x) (.ref t) _ (I.trans (L.trans (s6.trans (Same.upd ht)))) ?_ ⟨t,rfl,z01⟩;cases b with
   | true=>exact ⟨z,z',S,rfl,rfl⟩
   | false=>exact ⟨n1 (by rw [a3 rfl];decide),z,z',S,rfl,rfl⟩
  ·refine ⟨s6,λ r y h d C=>?_,_,rfl⟩;rcases Nat.lt_succ_iff_lt_or_eq.mp h with h|rfl
   ·exact nk r y h d C
   ·rw [g] at d;cases d;exact c (ci.mpr C)
theorem zf2 {K:c0} {H:Hp} {rs:List Rc} {kvs:List (Key×V)} (wk:All2 (EntAt K H) (ents rs) kvs) (nd:((ents rs).map λ t=>(Sum.inl t.x:Key)).Nodup) (x:Int):(valV kvs (.inl x)=none/\∀t∈ents rs,t.x≠x)\/∃t pw,t∈ents rs/\t.x=x/\valV kvs (.inl x)=some (.ref pw)/\SqT K H pw [.int t.b,endO t.e]:=by
 by_cases h :∃t∈ents rs,t.x=x
 ·obtain ⟨t,a,rfl⟩:=h;obtain ⟨i,g⟩:=List.mem_iff_getElem?.mp a;obtain ⟨f,j,d,pw,c,l⟩:=z2o wk g;obtain ⟨k,v⟩:=f;have d:k=.inl t.x:=d;have c:v=.ref pw:=c;subst d c;exact .inr ⟨t,pw,a,rfl,val_in (by rw [z4i wk];exact nd) (o0 j),l⟩
 ·refine .inl ⟨?_,λ t a e=>h ⟨t,a,e⟩⟩;cases z:valV kvs (.inl x) with
  | none=>rfl
  | some v=>have:=(z42 (kvs:=kvs) (k:=.inl x)).mp (by rw [z];rfl);rw [z4i wk] at this;obtain ⟨t,a,e⟩:=List.mem_map.mp this;exact absurd ⟨t,a,j4 e⟩ h
theorem zds {rs:List Rc} {r:Rc} (h:isRE r=true) (n :∀t∈ents rs,t.x≠intV r.a):LosB rs r:=⟨h,λ t b e=>absurd e (n t b)⟩
theorem zef {rs:List Rc} {r:Rc} (nd:((ents rs).map λ t=>(Sum.inl t.x:Key)).Nodup) (h:isRE r=true) {t:Ent} (ht:t∈ents rs) (e:t.x=intV r.a):LosB rs r↔((r.e.getD 0:Nat):Int) < t.b:=⟨λ l=>l.2 t ht e,λ l=>⟨h,λ f c d=>by rw [ents_x nd c ht (d.trans e.symm)];exact l⟩⟩
theorem idx_lt {n k i m:Nat} {p:Nat->Bool} (h:((V1 n).filter p)[k]? = some i) (hm:m < i) (hp:p m=true) :∃k',k' < k/\((V1 n).filter p)[k']? = some m:=by
 have d:=List.mem_range.mp (List.mem_filter.mp (o0 h)).1;obtain ⟨k',b⟩:=List.mem_iff_getElem?.mp (List.mem_filter.mpr ⟨List.mem_range.mpr (G5 hm d),hp⟩);refine ⟨k',?_,b⟩;have g:=List.pairwise_iff_getElem.mp ((P6 (n:=n)).filter p);obtain ⟨e,c⟩:=List.getElem?_eq_some_iff.mp h;obtain ⟨f,a⟩:=List.getElem?_eq_some_iff.mp b;rcases F5 k' k with z|z|z
 ·exact z
 ·subst z;rw [c] at a;omega
 ·have:=g k k' e f z;rw [c,a] at this;omega
theorem oc_of {rs:List Rc} {zl:List Zt} {o:Oc} (n:NoL rs) (z:ZonS rs zl) (p:PrOk zl o):OcOk rs o:=by
 cases o with
 | lost _=>exact p.elim
 | pr k x y=>exact ⟨n,zl,z,p⟩
 | non=>exact ⟨n,zl,z,p⟩
theorem zfs {rs:List Rc} {zl:List Zt} (h:ZonS rs zl):zl.length<=rs.length + 1:=by obtain ⟨a,b,c,_⟩:=h;rw [c.length_eq,z04 b];exact J0 (X1 _ _) (z72 rs)
def z1u (K:c0):Sp:=λ vs H Q _=>∃t nm wr es ys,vs=[.ref t]/\TalR K H t nm wr es ys/\LamH H/\∀o v H',SameB tbT H H'->LamH H'->OcOk (dAll 0 [] es) o->OcV H' o v->Q v H'
theorem z6x (T:TX (kx w) mg) (c0:Ca P w mg base "plain_deeds" ["tale"] 4 (z12 (kx w))) (c1:Ca P w mg base "writers" ["told"] 1 (z31 (kx w))) (c2:Ca P w mg base "ended_reads" ["told"] 1 (z13 (kx w))) (c3:Ca P w mg base "zones" ["tale"] 6 (z9e (kx w))) (c4:Ca P w mg base "first_pair" ["found"] 2 (z2n (kx w))):Fo P w mg base CX0 7 295 y0f ["tale"] (z1u (kx w)):=by
 refine (z2f w.params).ok sc_collision (λ vs H Q E h=>?_) (λ b9 A b8 s H vs Q E c h=>?_)
 ·obtain ⟨t,Z,N,G,ys,rfl,_⟩:=h;rfl
 ·obtain ⟨t,Z,N,G,ys,rfl,O,lm,q⟩:=h;refine ⟨_,(z06 (ps_set (i:=1) sc_collision.nd rfl (L1 rfl) (pe_cal c0 (c.mono (by decide)) rfl (z00 (pv 0) pa_nil)))
   (z06 (ps_set (i:=2) sc_collision.nd rfl (L1 rfl) (pe_cal c1 (c.mono (by decide)) rfl (z00 (pv 1) pa_nil)))
   (z06 (ps_for C2 rfl (z0n (pe_cal c2 (c.mono (by decide)) rfl (z00 (pv 1) pa_nil))) (pg_tup rfl (z0l (z0m (i:=3) sc_collision.nd rfl (L1 rfl)) (z0l (z0m (i:=4) sc_collision.nd rfl (L1 rfl)) z26)))
   (z05 (ps_if (PW.pt (pw_or (pt_cmp (z89 (hu_of c) (pe_ix ix_seq (pv 4) pe_int (λ _ _=>rfl)) (pv 2)) (by with_unfolding_all rfl)) (pw_or1 (z08 op_lt (pe_ix ix_seq (pv 4) pe_int (λ _ _=>rfl)) (pe_ix ix_seq (zbg (hu_of c) (pv 2) (pe_ix ix_seq (pv 4) pe_int (λ _ _=>rfl)) (λ _ _=>rfl)) pe_int (λ _ _=>rfl)) (nomark _)))))
   (z05 (ps_ret (pe_tup (z00 pe_str (z00 (pv 3) pa_nil)))))
   z0d)))
   (z05 (ps_ret (pe_cal c4 (c.mono (by decide)) rfl (z00 (pe_cal c3 (c.mono (by decide)) rfl (z00 (pv 0) pa_nil)) pa_nil))))))),?_⟩
  have ps:=PosI.all G PosI.nil;have nd:=O.tw.nd;have n0:=O.tw.n0;have b4:(dAll 0 [] G).length<=62:=J0 z4t (by simpa using O.ln);refine z0f ⟨_,rfl,t,Z,N,G,ys,rfl,O,λ l zs H1 s1 tl=>g_name ?_⟩;generalize hrs:dAll 0 [] G=rs at tl nd n0 q b4 ps;have a8:=z66 nd n0;refine z0f ⟨_,rfl,l,zs,rs,N,rfl,tl,nd,n0,λ d Y H2 s2 hd ed wk=>g_name ?_⟩;have u2:=s1.trans s2;have a6:=tl.same s2;refine ⟨_,rfl,l,zs,rs,N,rfl,a6,λ la ws H3 U a5 aw=>⟨la,rfl,⟨_,SqL.of a5⟩,?_⟩⟩;have u3:=u2.trans U;have a2:=a6.same U;have b3:All2 (EntAt (kx w) H3) (ents rs) Y:=z02 (λ _ _ z=>z.tups (Tups.of U)) wk;have b1:=U _ _ ed;refine z15 (K:=KX w.params) (a:=la) (xs:=ws) (λ k σ C=>Same H3 C/\(∀(u i:Nat),u < k->((V1 rs.length).filter λ i=>isRE (rs[i]?.getD r00))[u]? = some i->¬ LosB rs (rs[i]?.getD r00))/\∃x3 x4,σ=[some (.ref t),some (.ref l),some (.ref d),x3,x4]) ⟨Same.refl _,λ u i h=>absurd h (j7 _),_,_,rfl⟩ (λ _ σ C _ h=>SqL.of (h.1 _ _ a5)) ?_ ?_;rotate_left
  ·rintro σ I ⟨s4,nl,x3,x4,rfl⟩;have no:NoL rs:=λ r c L=>by obtain ⟨i,B⟩:=List.mem_iff_getElem?.mp c;obtain ⟨k,J⟩:=List.mem_iff_getElem?.mp ((List.mem_filter (p:=λ i=>isRE (rs[i]?.getD r00))).mpr ⟨List.mem_range.mpr (z0k B),show isRE (rs[i]?.getD r00)=true by rw [getD_some B];exact L.1⟩);refine nl k i (by rw [z04 aw];exact z0k J) J ?_;rw [getD_some B];exact L
   have F:=u3.trans s4;refine ⟨_,rfl,t,Z,N,G,ys,rfl,O.same F,LamH.same F lm,λ D b2 zl H5 sb b6 nD eD S az=>?_⟩;rw [hrs] at S;have b7:=zfs S;refine ⟨D,zl,b2,rfl,eD,az,by omega,zon_lt ps nd n0 S,λ o v H6 s6 pr ov=>q o v H6 (SameB.trans (SameB.of F) (SameB.trans sb (SameB.of s6))) (LamH.same s6 b6) (oc_of no S pr) ov⟩
  rintro k y σ I hy ⟨s4,nl,x3,x4,rfl⟩;obtain ⟨i,B,p,z,rfl,ep,hz⟩:=z0a aw hy;obtain ⟨r,c,pz,rfl,a9⟩:=z0a a2.a hz;have hm:=List.mem_filter.mp (o0 B);have X:isRE r=true:=by have:=hm.2;rw [getD_some c] at this;exact this
  obtain ⟨rv,a7⟩:=re_end X;have ra:r.a=.int (intV r.a):=by
   rcases a2.g r (o0 c) with g|g
   ·exact g.2.2 _ a7
   ·exact absurd (rv.symm.trans g.1) z0z
  have F:=u3.trans s4;have a0:=s4.seqT a9;have a3:=s4 _ _ b1;have a1:LosB rs r->∀C,Same I C->∀f,C f=none->Q (.ref f) (upd C f (.tup [.str "lost",.int (i:Nat)])):=λ L C s' f M=>by have v:=s'.trans (Same.upd (o:=.tup [.str "lost",.int (i:Nat)]) M);refine q (.lost i) (.ref f) _ (SameB.of (F.trans v)) (LamH.same (F.trans v) lm) ⟨r,c,L,λ m q' b0 hq lq=>?_⟩ ⟨f,rfl,z01⟩;obtain ⟨u,h1,h2⟩:=idx_lt B b0 (show isRE (rs[m]?.getD r00)=true by rw [getD_some hq];exact lq.1);refine nl u m h1 h2 ?_;rw [getD_some hq];exact lq
  have next:¬ LosB rs r->∀(u R:Nat),u < k + 1->((V1 rs.length).filter λ i=>isRE (rs[i]?.getD r00))[u]? = some R->¬ LosB rs (rs[R]?.getD r00):=λ nb u R h J=>by
   rcases Nat.lt_succ_iff_lt_or_eq.mp h with h|rfl
   ·exact nl u R h J
   ·rw [B] at J;cases J;rw [getD_some c];exact nb
  refine ⟨p,_,rfl,SqT.of (s4 _ _ ep),rfl,_,_,rfl,_,_,rfl,rfl,?_⟩;have b5:All2 (EntAt (kx w) I) (ents rs) Y:=z02 (λ _ _ z=>z.tups (Tups.of s4)) b3;have a4:atI [V.int r.h,r.n,r.v,r.x,r.a,.int r.b,endV r.e] 4=some (.int (intV r.a)):=by rw [<-ra];exact z03 (j:=4) rfl
  have e6:atI [V.int r.h,r.n,r.v,r.x,r.a,.int r.b,endV r.e] 6=some (.int ((r.e.getD 0:Nat):Int)):=by rw [a7];exact z03 (j:=6) rfl
  refine z0s (t_or ⟨_,rfl,.inr (.inl ⟨pz,_,4,.int (intV r.a),rfl,rfl,a0,a4,_,rfl,d,_,rfl,DGet.k (k:=.inl (intV r.a)) a3,_,rfl,?_⟩)⟩);rcases zf2 b5 a8 (intV r.a) with ⟨W,hn⟩|⟨te,pw,hte,hx,W,sw⟩
  ·rw [W];exact iteP rfl ⟨_,rfl,w_2,λ f M=>a1 (zds X hn) I (Same.refl _) f M⟩
  ·have dg:DGet I d (.int (intV r.a)) (some (.ref pw)):=.inl ⟨Y,.inl (intV r.a),.inl a3,rfl,W.symm⟩;have li:=zef (r:=r) a8 X hte hx;rw [W];refine iteN (λ z=>O0 z) ⟨_,rfl,.inr (.inl ⟨pz,_,6,_,rfl,rfl,a0,e6,_,rfl,_,rfl,.inr (.inl ⟨pz,_,4,.int (intV r.a),rfl,rfl,a0,a4,d,_,rfl,dg,.inr (.inl ⟨pw,_,0,.int te.b,rfl,rfl,sw,z03 (j:=0) rfl,_,_,rfl,rfl,_,rfl,ite2 (λ z=>?_) λ z=>?_⟩)⟩)⟩)⟩
   ·exact ⟨_,rfl,w_2,λ f M=>a1 (li.mpr (of_decide_eq_true z)) I (Same.refl _) f M⟩
   ·exact ⟨s4,next λ L=>z (decide_eq_true (li.mp L)),_,_,rfl⟩
end
section
def Cvx (l:List Int):Prop:=∀(i j k:Nat) (w:Int),i<=j->j<=k->l[i]? = some w->l[k]? = some w->l[j]? = some w
theorem z3a {α:Type} {l:List α} {c x:α} {i:Nat}:(l++[c])[i]? = some x->l[i]? = some x\/(i=l.length/\x=c):=λ q=>by
 rw [C7] at q;split at q
 ·exact .inl q
 ·rename_i z;obtain ⟨y,_⟩:=List.getElem?_eq_some_iff.mp q;rw [U3] at y;have:i - l.length=0:=by omega
  rw [this] at q;cases q;exact .inr ⟨by omega,rfl⟩
theorem z17 {α:Type} {l:List α} {c x:α} {i:Nat} (h:l[i]? = some x):(l++[c])[i]? = some x:=by rw [N2 (z0k h)];exact h
theorem at_end {α:Type} {l:List α} {c:α}:(l++[c])[l.length]? = some c:=by rw [E2 (A0 _),Nat.sub_self];rfl
theorem Cvx.snoc {l:List Int} {n:Nat} {now c:Int} (v:Cvx l) (hn:l.length=n + 1) (h:l[n]? = some now) (hc:c=now\/c∉l):Cvx (l++[c]):=λ i j k w d f a b=>by
 rcases z3a b with b|⟨rfl,rfl⟩
 ·have g:=z0k b;rcases z3a a with a|⟨rfl,rfl⟩
  ·exact z17 (v i j k w d f a b)
  ·omega
 ·by_cases e:j=l.length
  ·subst e;exact at_end
  ·rcases z3a a with a|⟨rfl,_⟩
   ·rcases hc with rfl|hc
    ·exact z17 (v i j n w d (by omega) a h)
    ·exact absurd (o0 a) hc
   ·omega
noncomputable def wth (r:Rc):Int:=if isW r=true then intV r.x else intV r.a
def LaI (l:List Int) (r:Rc) (a:Int):Prop:=if isW r=true then (a=0/\l[r.b + 1]? = some (intV r.x))\/(a=1/\(r.e=none->intV r.x∉l)) else l[r.b + 1]? = some a
structure StI (l:List Int) (rs:List Rc) (n:Nat):Prop where
 n:l.length=n + 1
 z:l[0]? = some 0
 cv:Cvx l
 tk :∀(p:Nat) (w:Int),l[p]? = some w->w=0\/∃r∈rs,isW r=true/\intV r.x=w/\r.b + 1<=p
 en :∀r∈rs,∀e,r.e=some e->∃p,r.b + 1<=p/\p<=e + 1/\l[p]? = some (wth r)
structure Rg (l:List Int) (rs:List Rc) (ls:List Int) (now:Int) (n:Nat):Prop where
 s:StI l rs n
 nw:l[n]? = some now
 la :∀(i:Nat) (r:Rc) (a:Int),rs[i]? = some r->ls[i]? = some a->LaI l r a
theorem Rg.step {l:List Int} {rs rs':List Rc} {ls ls':List Int} {now c:Int} {n:Nat} (g:Rg l rs ls now n) (hc:c=now\/c∉l) (ck:c=now\/∃r∈rs',isW r=true/\intV r.x=c/\r.b<=n)
  (old :∀r∈rs,isW r=true->∃r'∈rs',isW r'=true/\intV r'.x=intV r.x/\r'.b=r.b)
  (en :∀r∈rs',∀e,r.e=some e->r∈rs\/∃p,r.b + 1<=p/\p<=e + 1/\(l++[c])[p]? = some (wth r))
  (la :∀(i:Nat) (r:Rc) (a:Int),rs'[i]? = some r->ls'[i]? = some a->(rs[i]? = some r/\ls[i]? = some a/\(c=now\/(isW r=true->r.e=none->intV r.x≠c)))\/LaI (l++[c]) r a):Rg (l++[c]) rs' ls' c (n + 1):=by
 have t:=g.s.n;have v :∀(p:Nat) (w:Int),l[p]? = some w->w=0\/∃r∈rs',isW r=true/\intV r.x=w/\r.b + 1<=p:=λ p w h=>by
  rcases g.s.tk p w h with z|⟨r,j,d,f,h4⟩
  ·exact .inl z
  ·obtain ⟨r',q,o,B,D⟩:=old r j d;exact .inr ⟨r',q,o,B.trans f,by omega⟩
 refine ⟨⟨by rw [F0,t];rfl,z17 g.s.z,g.s.cv.snoc t g.nw hc,λ p w h=>?_,λ r y e u=>?_⟩,by rw [<-t];exact at_end,λ i r a A C=>?_⟩
 ·rcases z3a h with h|⟨rfl,rfl⟩
  ·exact v p w h
  ·rcases ck with rfl|⟨r,j,d,f,h4⟩
   ·rcases v n _ g.nw with z|⟨r,j,d,f,h4⟩
    ·exact .inl z
    ·exact .inr ⟨r,j,d,f,by omega⟩
   ·exact .inr ⟨r,j,d,f,by omega⟩
 ·rcases en r y e u with z|z
  ·obtain ⟨p,j,d,f⟩:=g.s.en r z e u;exact ⟨p,j,d,z17 f⟩
  ·exact z
 ·rcases la i r a A C with ⟨j,d,f⟩|z
  ·have k:=g.la i r a j d;unfold LaI at k⊢;by_cases w:isW r=true
   ·rw [if_pos w] at k⊢;rcases k with ⟨q,o⟩|⟨q,o⟩
    ·exact .inl ⟨q,z17 o⟩
    ·refine .inr ⟨q,λ e m=>?_⟩;rcases List.mem_append.mp m with m|m
     ·exact o e m
     ·have m:=List.mem_singleton.mp m;rcases f with z|z
      ·exact o e (by rw [m,z];exact o0 g.nw)
      ·exact z w e m
   ·rw [if_neg w] at k⊢;exact z17 k
  ·exact z
theorem Rg.nil:Rg [0] [] [] 0 0:=⟨⟨rfl,rfl,λ i j k w g d f b=>by
 have:=z0k b;have e:k=0:=by rw [U3] at this;omega
 subst e;have e:j=0:=by omega
 subst e;exact b,λ p w h=>by
 have:=z0k h;have e:p=0:=by rw [U3] at this;omega
 subst e;cases h;exact .inl rfl,λ r c=>absurd c B0⟩,rfl,λ i r a h=>by cases h⟩
theorem Rg.beg {l:List Int} {rs:List Rc} {ls:List Int} {now c a:Int} {n:Nat} {r:Rc} (g:Rg l rs ls now n) (ln:ls.length=rs.length) (rb:r.b=n) (re:r.e=none)
  (h:(isW r=false/\a=now/\c=now)\/(isW r=true/\intV r.x∉l/\(∀q∈rs,isW q=true->intV q.x≠intV r.x)/\((a=0/\c=intV r.x)\/(a=1/\c=now)))):Rg (l++[c]) (rs++[r]) (ls++[a]) c (n + 1):=by
 have u:=g.s.n;refine g.step ?_ ?_ (λ q p w=>⟨q,List.mem_append.mpr (.inl p),w,rfl,rfl⟩) (λ q p e t=>?_) (λ i q b j f=>?_)
 ·rcases h with ⟨_,_,z⟩|⟨_,x,_,⟨_,z⟩|⟨_,z⟩⟩
  ·exact .inl z
  ·exact .inr (by rw [z];exact x)
  ·exact .inl z
 ·rcases h with ⟨_,_,z⟩|⟨w,x,_,⟨_,z⟩|⟨_,z⟩⟩
  ·exact .inl z
  ·exact .inr ⟨r,List.mem_append.mpr (.inr (.head _)),w,z.symm,by omega⟩
  ·exact .inl z
 ·rcases List.mem_append.mp p with z|z
  ·exact .inl z
  ·rw [List.mem_singleton.mp z,re] at t;cases t
 ·rcases z3a j with j|⟨rfl,rfl⟩
  ·rcases z3a f with f|⟨e,_⟩
   ·refine .inl ⟨j,f,?_⟩;rcases h with ⟨_,_,z⟩|⟨w,x,d,⟨_,z⟩|⟨_,z⟩⟩
    ·exact .inl z
    ·exact .inr λ v _=>by rw [z];exact d q (o0 j) v
    ·exact .inl z
   ·have:=z0k j;omega
  ·rcases z3a f with f|⟨_,rfl⟩
   ·have:=z0k f;omega
   ·refine .inr ?_;have le:(l++[c])[q.b + 1]? = some c:=by rw [rb,<-u];exact at_end
    unfold LaI;rcases h with ⟨w,o,k⟩|⟨w,x,d,z⟩
    ·rw [if_neg (by rw [w];decide),le,o,k]
    ·rw [if_pos w];rcases z with ⟨o,k⟩|⟨o,k⟩
     ·exact .inl ⟨o,by rw [le,k]⟩
     ·refine .inr ⟨o,λ _ m=>?_⟩;rcases List.mem_append.mp m with m|m
      ·exact x m
      ·rw [List.mem_singleton.mp m,k] at x;exact x (o0 g.nw)
theorem Rg.fin {l:List Int} {rs:List Rc} {ls:List Int} {now c la:Int} {n j:Nat} {r:Rc} {a:V} (g:Rg l rs ls now n) (hb:r.b + 1<=n) (hj:rs[j]? = some r) (hl:ls[j]? = some la) (re:r.e=none) (dx :∀(i:Nat) (q:Rc),rs[i]? = some q->isW q=true->isW r=true->intV q.x=intV r.x->i=j)
  (h:(isW r=false/\(a=.int la\/a=.int now)/\c=now)\/(isW r=true/\((la=1/\c=intV r.x)\/(la≠1/\c=now)))):Rg (l++[c]) (rs.modify j λ q=>{ q with a:=a,e:=some n }) ls c (n + 1):=by
 have D:=g.s.n;have k:=g.la j r la hj hl;have v :∀{i:Nat} {q:Rc},(rs.modify j λ q=>{ q with a:=a,e:=some n })[i]? = some q->(i=j/\q={ r with a:=a,e:=some n })\/(i≠j/\rs[i]? = some q):=λ {i q} z=>by
  rw [C1] at z;cases y:rs[i]? with
  | none=>rw [y] at z;cases z
  | some r0=>
   rw [y] at z;have z:some (if j=i then { r0 with a:=a,e:=some n } else r0)=some q:=z;by_cases u:j=i
   ·subst u;rw [hj] at y;cases y;rw [if_pos rfl] at z;cases z;exact .inl ⟨rfl,rfl⟩
   ·rw [if_neg u] at z;cases z;exact .inr ⟨n3 u,rfl⟩
 have C:({ r with a:=a,e:=some n }:Rc)∈rs.modify j λ q=>{ q with a:=a,e:=some n }:=by refine o0 (i:=j) ?_;rw [C1,hj];show some (if j=j then _ else _)=_;rw [if_pos rfl]
 have le:(l++[c])[n + 1]? = some c:=by rw [<-D];exact at_end
 have G:isW r=true->la=1->intV r.x∉l:=λ w e=>by
  unfold LaI at k;rw [if_pos w] at k;rcases k with ⟨f,_⟩|⟨_,m⟩
  ·omega
  ·exact m re
 refine g.step ?_ ?_ (λ q p w=>?_) (λ q p e o=>?_) (λ i q b d hb=>?_)
 ·rcases h with ⟨_,_,z⟩|⟨w,⟨e,z⟩|⟨_,z⟩⟩
  ·exact .inl z
  ·exact .inr (by rw [z];exact G w e)
  ·exact .inl z
 ·rcases h with ⟨_,_,z⟩|⟨w,⟨e,z⟩|⟨_,z⟩⟩
  ·exact .inl z
  ·exact .inr ⟨_,C,w,z.symm,by show r.b<=n;omega⟩
  ·exact .inl z
 ·obtain ⟨i,d⟩:=List.mem_iff_getElem?.mp p;by_cases u:i=j
  ·subst u;rw [hj] at d;cases d;exact ⟨_,C,w,rfl,rfl⟩
  ·refine ⟨q,o0 (i:=i) ?_,w,rfl,rfl⟩;rw [C1,d];show some (if j=i then _ else _)=_;rw [if_neg (n3 u)]
 ·obtain ⟨i,d⟩:=List.mem_iff_getElem?.mp p;rcases v d with ⟨_,rfl⟩|⟨_,d⟩
  ·refine .inr ?_;have o:some n=some e:=o;cases o;unfold LaI at k;rcases h with ⟨w,z,F⟩|⟨w,z⟩
   ·rw [if_neg (by rw [w];decide)] at k;have t:wth { r with a:=a,e:=some n }=intV a:=by unfold wth;rw [if_neg (by rw [show isW { r with a:=a,e:=some n }=isW r from rfl,w];decide)]
    rw [t];rcases z with rfl|rfl
    ·exact ⟨r.b + 1,A0 _,by omega,z17 k⟩
    ·exact ⟨n + 1,by show r.b + 1<=n + 1;omega,A0 _,by rw [le,F];rfl⟩
   ·rw [if_pos w] at k;have t:wth { r with a:=a,e:=some n }=intV r.x:=by unfold wth;rw [if_pos (show isW { r with a:=a,e:=some n }=true from w)]
    rw [t];rcases z with ⟨B,A⟩|⟨B,A⟩
    ·exact ⟨n + 1,by show r.b + 1<=n + 1;omega,A0 _,by rw [le,A]⟩
    ·rcases k with ⟨_,m⟩|⟨f,_⟩
     ·exact ⟨r.b + 1,A0 _,by omega,z17 m⟩
     ·exact absurd f B
  ·exact .inl (o0 d)
 ·rcases v d with ⟨rfl,rfl⟩|⟨u,d⟩
  ·refine .inr ?_;rw [hl] at hb;cases hb;unfold LaI at k⊢;rw [show isW { r with a:=a,e:=some n }=isW r from rfl];cases w:isW r with
   | false=>rw [w,if_neg (by decide)] at k;rw [if_neg (by decide)];exact z17 k
   | true=>
    rw [w,if_pos rfl] at k;rw [if_pos rfl];rcases k with ⟨f,m⟩|⟨f,_⟩
    ·exact .inl ⟨f,z17 m⟩
    ·exact .inr ⟨f,λ z=>by cases z⟩
  ·refine .inl ⟨d,hb,?_⟩;rcases h with ⟨_,_,z⟩|⟨w,⟨e,z⟩|⟨_,z⟩⟩
   ·exact .inl z
   ·exact .inr λ E _ y=>u (dx i q d E w (by rw [y,z]))
   ·exact .inl z
theorem zdd {l:List Int} {rs:List Rc} {n:Nat} (st:StI l rs n) (nd:((ents rs).map λ t=>(Sum.inl t.x:Key)).Nodup) {t:Ent} (ht:t∈ents rs) (hc:(spans rs t).filterMap (·.2)≠[]) {s:Int×Option Int} (hs:s∈spans rs t) :∃q:Nat,s.1 + 1<=q/\(∀e,s.2=some e->(q:Int)<=e + 1)/\l[q]? = some t.x:=by
 have j :∀r∈rdsF rs t.x,∃q:Nat,(r.b:Int) + 1<=q/\(∀e,(spR r).2=some e->(q:Int)<=e + 1)/\l[q]? = some t.x:=λ r h=>by
  obtain ⟨o,B⟩:=List.mem_filter.mp h;obtain ⟨C,A⟩:=List.mem_filter.mp o;obtain ⟨v,c⟩:=re_end A;obtain ⟨p,y,D,d⟩:=st.en r C _ c;have i:wth r=t.x:=by unfold wth;rw [if_neg (by unfold isW;rw [v,decide_eq_false z0z];decide)];exact of_decide_eq_true B
  rw [i] at d;refine ⟨p,by omega,λ e f=>?_,d⟩;unfold spR at f;rw [c] at f;have f:some ((r.e.getD 0:Nat):Int)=some e:=f;cases f;omega
 rcases List.mem_cons.mp hs with rfl|hs
 ·rcases ents_mem.mp ht with rfl|⟨w,hw,wi,rfl⟩
  ·exact ⟨0,by decide,λ e c=>by cases c;decide,st.z⟩
  ·cases c:w.e with
   | some e=>
    obtain ⟨p,y,D,d⟩:=st.en w hw e c;have i:wth w=intV w.x:=by unfold wth;rw [if_pos wi]
    rw [i] at d;refine ⟨p,by show (w.b:Int) + 1<=p;omega,λ g a=>?_,d⟩;have a:w.e.map (λ n=>(n:Int))=some g:=a;rw [c] at a;have a:(e:Int)=g:=W0 a;omega
   | none=>
    rw [zet] at hc;have u:(entW w).e.toList=[]:=by show (w.e.map λ n=>(n:Int)).toList=[];rw [c];rfl
    rw [u,List.nil_append] at hc;obtain ⟨r,E,m⟩:=b9 (λ z=>hc (by rw [z];rfl):rdsF rs (entW w).x≠[]);obtain ⟨q,_,_,k⟩:=j r (by rw [m];exact .head _);refine ⟨q,?_,λ g a=>?_,k⟩
    ·rcases st.tk q _ k with z|⟨r',k1,k2,k3,k4⟩
     ·have:=ents_x nd ht (ents_mem.mpr (.inl rfl)) z;rw [this];show (-2:Int) + 1<=q;omega
     ·have:=ents_x nd ht (ents_mem.mpr (.inr ⟨r',k1,k2,rfl⟩)) k3.symm;rw [this];show (r'.b:Int) + 1<=q;omega
    ·have a:w.e.map (λ n=>(n:Int))=some g:=a;rw [c] at a;cases a
 ·obtain ⟨r,h,rfl⟩:=List.mem_map.mp hs;exact j r h
theorem z87 {l:List Int} {rs:List Rc} {n:Nat} (st:StI l rs n) (nd:((ents rs).map λ t=>(Sum.inl t.x:Key)).Nodup) {t:Ent} (ht:t∈ents rs) (hc:(spans rs t).filterMap (·.2)≠[]) {z:Zt} (hz:ZnR rs t z) :
  z.x=t.x/\((z.on=true/\0<=z.lo + 1/\z.lo < z.hi/\∀q:Nat,z.lo + 1<=q->(q:Int)<=z.hi + 1->l[q]? = some t.x)\/(z.on=false/\∃q:Nat,z.lo + 1<=q/\(q:Int)<=z.hi + 1/\l[q]? = some t.x)):=by
 obtain ⟨lo,g,⟨o,u⟩,⟨k,w⟩,rfl⟩:=hz;obtain ⟨s,j,r⟩:=List.mem_filterMap.mp o;obtain ⟨v,p,m⟩:=List.mem_map.mp k;obtain ⟨b,_,d,e⟩:=zdd st nd ht hc j;obtain ⟨a,h,_,c⟩:=zdd st nd ht hc p;have d:=d lo r;rw [m] at h;unfold zOf;by_cases y:lo < g
 ·rw [if_pos y];refine ⟨rfl,.inl ⟨rfl,by show 0<=lo + 1;omega,y,λ q f i=>?_⟩⟩;have f:lo + 1<=q:=f;have i:(q:Int)<=g + 1:=i;exact st.cv b q a _ (by omega) (by omega) e c
 ·rw [if_neg y];refine ⟨rfl,.inr ⟨rfl,?_⟩⟩;show∃q:Nat,g + 1<=q/\(q:Int)<=lo + 1/\_;by_cases y1:(a:Int)<=lo + 1
  ·exact ⟨a,h,y1,c⟩
  ·by_cases y2:g + 1<=(b:Int)
   ·exact ⟨b,y2,d,e⟩
   ·exact ⟨(g + 1).toNat,by omega,by omega,st.cv b _ a _ (by omega) (by omega) e c⟩
theorem z44 {rs:List Rc} {zl:List Zt} (h:ZonS rs zl) {z:Zt} (hz:z∈zl) :∃t,t∈ents rs/\(spans rs t).filterMap (·.2)≠[]/\ZnR rs t z:=by obtain ⟨a,b,f,i⟩:=h;obtain ⟨t,d,e⟩:=z7v b z (f.mem_iff.mp hz);obtain ⟨g,c⟩:=List.mem_filter.mp d;exact ⟨t,g,of_decide_eq_true c,e⟩
theorem zon_of {rs:List Rc} {zl:List Zt} (h:ZonS rs zl) {t:Ent} (ht:t∈ents rs) (hc:(spans rs t).filterMap (·.2)≠[]) :∃z∈zl,ZnR rs t z:=by obtain ⟨a,b,e,f⟩:=h;obtain ⟨i,c⟩:=List.mem_iff_getElem?.mp (List.mem_filter.mpr ⟨ht,decide_eq_true hc⟩:t∈(ents rs).filter (cntB rs));obtain ⟨z,d,r⟩:=z2o b c;exact ⟨z,e.mem_iff.mpr (o0 d),r⟩
theorem no_col {l:List Int} {rs:List Rc} {n:Nat} (st:StI l rs n) (nd:((rs.filter isW).map (λ r=>intV r.x)).Nodup) (n0:(0:Int)∉(rs.filter isW).map (λ r=>intV r.x)) {o:Oc} (h:OcOk rs o):o=.non:=by
 have w:=z66 nd n0;have one :∀{c:List Zt},ZonS rs c->∀{z g:Zt},z∈c->g∈c->z.x=g.x->z=g:=λ {c} d {z g} i m e=>by obtain ⟨t,v,C,s⟩:=z44 d i;obtain ⟨H,A,B,u⟩:=z44 d m;have:=ents_x w v A (by rw [<-zn_x s,<-zn_x u];exact e);subst this;exact zdf s u
 have P:NoL rs:=λ r R ⟨l1,l2⟩=>by
  obtain ⟨Q,N⟩:=re_end l1;obtain ⟨p,V,U,I⟩:=st.en r R _ N;have S:wth r=intV r.a:=by unfold wth;rw [if_neg (by unfold isW;rw [Q,decide_eq_false z0z];decide)]
  rw [S] at I;rcases st.tk p _ I with z|⟨q,q1,q2,q3,q4⟩
  ·have:=l2 ent0 (ents_mem.mpr (.inl rfl)) z.symm;have:((r.e.getD 0:Nat):Int) < -2:=this;omega
  ·have:=l2 (entW q) (ents_mem.mpr (.inr ⟨q,q1,q2,rfl⟩)) q3;have:((r.e.getD 0:Nat):Int) < q.b:=this;omega
 have L :∀c,ZonS rs c->NoP onP c:=λ c d z g i m ⟨o1,o2,o3,o4⟩=>by
  obtain ⟨t,v,C,s⟩:=z44 d i;obtain ⟨H,A,B,u⟩:=z44 d m;obtain ⟨E,⟨_,K,O,F⟩|⟨k,_⟩⟩:=z87 st w v C s
  ·obtain ⟨D,⟨_,T,M,G⟩|⟨j,_⟩⟩:=z87 st w A B u
   ·have a:=F (g.lo + 1).toNat (by omega) (by omega);have b:=G (g.lo + 1).toNat (by omega) (by omega);rw [a] at b;cases one d i m (by rw [E,D];exact W0 b);omega
   ·rw [o2] at j;cases j
  ·rw [o1] at k;cases k
 have J :∀c,ZonS rs c->NoP inP c:=λ c d z g i m ⟨o1,o2,o3,o4⟩=>by
  obtain ⟨t,v,C,s⟩:=z44 d i;obtain ⟨H,A,B,u⟩:=z44 d m;obtain ⟨E,⟨k,_⟩|⟨_,q,K,O,F⟩⟩:=z87 st w v C s
  ·rw [o1] at k;cases k
  ·obtain ⟨D,⟨_,T,M,G⟩|⟨j,_⟩⟩:=z87 st w A B u
   ·have b:=G q (by omega) (by omega);rw [F] at b;cases one d i m (by rw [E,D];exact W0 b);rw [o1] at o2;cases o2
   ·rw [o2] at j;cases j
 match o,h with
 | .lost k,f=>exact (zfy f P).elim
 | .pr true x y,⟨_,c,d,z,g,f,_,_⟩=>exact (fst_no f (L c d)).elim
 | .pr false x y,⟨_,c,d,_,z,g,f,_,_⟩=>exact (fst_no f (J c d)).elim
 | .non,_=>rfl
theorem zeu {rs:List Rc} {n:Nat} (ps:PosI n rs) (nd:((rs.filter isW).map (λ r=>intV r.x)).Nodup) (n0:(0:Int)∉(rs.filter isW).map (λ r=>intV r.x)) {r q:Rc} {t:Ent} {e1:Int} {e2:Nat} (hr:r∈rs) (hre:isRE r=true) (ht:t∈ents rs) (ha:intV r.a=t.x) (h1:t.e=some e1) (hq:q∈rs) (hw:isW q=true) (h2:q.e=some e2) (be:q.b<=e2) (l1:e1 < q.b) (l2:e2 < r.b) (h:OcOk rs .non):False:=by
 obtain ⟨_,N,o,s,H⟩:=h;have J:=z66 nd n0;have A:e1∈(spans rs t).filterMap (·.2):=List.mem_filterMap.mpr ⟨(t.b,t.e),.head _,h1⟩;have E:(r.b:Int)∈(spans rs t).map (·.1):=List.mem_map.mpr ⟨spR r,.tail _ (List.mem_map.mpr ⟨r,List.mem_filter.mpr ⟨List.mem_filter.mpr ⟨hr,hre⟩,decide_eq_true ha⟩,rfl⟩),rfl⟩;have v:entW q∈ents rs:=ents_mem.mpr (.inr ⟨q,hq,hw,rfl⟩);have B:(entW q).e=some (e2:Int):=by show q.e.map (λ n=>(n:Int))=_;rw [h2];rfl
 have w:(e2:Int)∈(spans rs (entW q)).filterMap (·.2):=List.mem_filterMap.mpr ⟨((entW q).b,(entW q).e),.head _,B⟩;have G:(q.b:Int)∈(spans rs (entW q)).map (·.1):=List.mem_map.mpr ⟨((entW q).b,(entW q).e),.head _,rfl⟩;obtain ⟨z,j,m,g,⟨_,C⟩,⟨_,D⟩,d⟩:=zon_of o ht (X7 A);obtain ⟨i,l,k,p,⟨_,F⟩,⟨_,K⟩,c⟩:=zon_of o v (X7 w);have O:=C _ A;have M:=D _ E;have P:=F _ w;have L:=K _ G;have I:z≠i:=λ e=>by
  have f:z.x=i.x:=by rw [e]
  have f:t.x=(entW q).x:=by rw [d,c] at f;unfold zOf at f;split at f<;>split at f<;>exact f
  have:=ents_x J ht v f;rw [this,B] at h1;cases h1;omega
 unfold zOf at d;rw [if_pos (show m < g by omega)] at d;unfold zOf at c;by_cases y:k < p
 ·rw [if_pos y] at c;rcases Int.lt_trichotomy m k with u|u|u
  ·exact s z i j l ⟨by rw [d],by rw [c],by rw [d,c];exact u,by rw [d,c];show k < g;omega⟩
  ·exact I (zon_lo ps nd n0 o z j i l (by rw [d,c];exact u))
  ·exact s i z l j ⟨by rw [c],by rw [d],by rw [d,c];exact u,by rw [d,c];show m < p;omega⟩
 ·rw [if_neg y] at c;exact H i z l j ⟨by rw [c],by rw [d],by rw [d,c];show m < p;omega,by rw [d,c];show k < g;omega⟩
end
section
variable {P:Program} {w:N0} {mg:Str->Option Value} {base:Heap}
theorem Same.upd2 {B H:Hp} {l:Addr} {o:HO} (s:Same B H):Same (upd B l o) (upd H l o):=λ p x e=>by
 by_cases z:p=l
 ·subst z;rw [z01] at e⊢;exact e
 ·rw [upd_ne z] at e⊢;exact s _ _ e
theorem row_ok {es:List Ev} {h:Int} {j:Nat} (hj:lastI h ((dAll 0 [] es).map Rc.h)=some j) :∃r,(dAll 0 [] es)[j]? = some r/\r.h=h:=by have a:=(z24 _ hj).1;rw [Z0] at a;obtain ⟨r,c,b⟩:=Option.map_eq_some_iff.mp a;exact ⟨r,c,b⟩
theorem nx_to3 {t:TS} {D:Ends} {rt:VK} {bk ct:L2.St->Hp->Prop} {σ:L2.St} {H:Hp} (h:t D σ H):({ nx:=t D,rt:=rt,bk:=bk,ct:=ct }:Ends).nx σ H:=h
theorem ev_at {K:c0} {H:Hp} {ts:List (Str×Str)} :∀{e:Ev} {y:V},EvT H ts e y->EvAt K H e y
 | .beg _ _ _ _,_,⟨p,_,_,_,h1,h2,_⟩=>⟨p,h1,SqT.of h2⟩
 | .fin _ _,_,⟨p,h1,h2,_⟩=>⟨p,h1,SqT.of h2⟩
def Lts (H:Hp) (zs:List V) (ls:List Int):Prop:=All2 (λ v la=>∃p xs,v=.ref p/\H p=some (.lst xs)/\xs[6]? = some (V.int la)) zs ls
theorem Lts.kp {H H':Hp} {zs:List V} {ls:List Int} (h:Lts H zs ls) (k :∀p xs,V.ref p∈zs->H p=some (.lst xs)->∃xs',H' p=some (.lst xs')/\xs'[6]? = xs[6]?):Lts H' zs ls:=by refine z1m (z04 h) λ i v j b c=>?_;obtain ⟨g,a,p,xs,rfl,e,z⟩:=z0a h c;rw [b] at a;cases a;obtain ⟨xs',f,d⟩:=k p xs (o0 b) e;exact ⟨p,xs',rfl,f,by rw [d,z]⟩
theorem Lts.same {H H':Hp} {zs:List V} {ls:List Int} (s:Same H H') (h:Lts H zs ls):Lts H' zs ls:=h.kp λ p a _ e=>⟨a,s _ _ e,rfl⟩
structure GdE (es:List Ev):Prop where
 g :∀r∈dAll 0 [] es,RdG r\/WrG 0 r
 n:(dAll 0 [] es).length<=24
 wf:EWf [] es
 wx:WxI (dAll 0 [] es)
 n60:es.length<=60
 bg:(es.filter isBeg).length<=24
theorem GdE.tw {es:List Ev} (m:GdE es):TwG es:=⟨(DInv.nil.all m.wf).1,λ _ r a=>m.g r a,m.wx.nd m.n,m.wx.n0⟩
theorem Md.gd {HL H:Hp} {lr le:Addr} {es:List Ev} {zs ys:List V} (m:Md HL H lr le es zs ys):GdE es:=⟨m.g,m.n,m.wf,m.wx,m.n60,m.bg⟩
def Pfx (es:List Ev):Prop:=∀n,GdE (es.take n)/\∃l,StI l (dAll 0 [] (es.take n)) (es.take n).length
theorem Pfx.snoc {es:List Ev} {e:Ev} {l:List Int} (p:Pfx es) (g:GdE (es++[e])) (s:StI l (dAll 0 [] (es++[e])) (es++[e]).length):Pfx (es++[e]):=λ n=>by
 by_cases h:n<=es.length
 ·rw [List.take_append_of_le_length h];exact p n
 ·rw [Q3 (by rw [F0];show es.length + 1<=n;omega)];exact ⟨g,l,s⟩
theorem Pfx.all {es:List Ev} (p:Pfx es):GdE es/\∃l,StI l (dAll 0 [] es) es.length:=by
 have:=p es.length
 rwa [T4] at this
theorem Pfx.nil:Pfx []:=λ n=>by rw [t9];exact ⟨⟨λ r a=>absurd a B0,D1 _,trivial,(λ i r h=>by cases h),D1 _,D1 _⟩,_,Rg.nil.s⟩
def OpI (es:List Ev) (os:List (Int×Nat)):Prop:=∀h j,(h,j)∈os->∃r,(dAll 0 [] es)[j]? = some r/\r.e=none
theorem OpI.fin {es:List Ev} {os:List (Int×Nat)} {h:Int} {a:V} (x:HdI es os) (o:OpI es os) {j:Nat} (hj:lastI h ((dAll 0 [] es).map Rc.h)=some j):OpI (es++[.fin h a]) (os.filter λ k=>decide (k.1≠h)):=λ k i l=>by
 obtain ⟨c,g⟩:=List.mem_filter.mp l;obtain ⟨r,f,m⟩:=o k i c;have n:j≠i:=λ e=>by subst e;have d:=(z24 _ hj).1;have b:=(z24 _ (x.j k j c)).1;rw [d] at b;exact of_decide_eq_true g (W0 b).symm
 refine ⟨r,?_,m⟩;rw [z0y];unfold dstep;dsimp only;rw [hj];dsimp only;rw [C1,f];show some (if j=i then _ else _)=_;rw [if_neg n]
theorem OpI.beg {es:List Ev} {os:List (Int×Nat)} {h:Int} {nm v y:V} (o:OpI es os):OpI (es++[.beg h nm v y]) (os++[(h,(dAll 0 [] es).length)]):=λ k i b=>by
 rw [z0y];show∃r,(dAll 0 [] es++[_])[i]? = some r/\_;rcases List.mem_append.mp b with z|z
 ·obtain ⟨r,a,c⟩:=o k i z;exact ⟨r,z17 a,c⟩
 ·cases List.mem_singleton.mp z;exact ⟨_,at_end,rfl⟩
theorem WxI.inj {rs:List Rc} (x:WxI rs) (l:rs.length<=24) {i j:Nat} {r q:Rc} (hi:rs[i]? = some r) (hj:rs[j]? = some q) (h1:isW r=true) (h2:isW q=true) (e:intV r.x=intV q.x):i=j:=by obtain ⟨t,g,a,c⟩:=x i _ hi h1;obtain ⟨u,f,d,b⟩:=x j _ hj h2;have:=z0k hi;have:=z0k hj;omega
theorem Rg.begM {es:List Ev} {l ls:List Int} {now c a:Int} {h:Int} {nm v x:V} (g:Rg l (dAll 0 [] es) ls now es.length) (ln:ls.length=(dAll 0 [] es).length) (gd:GdE (es++[.beg h nm v x]))
  (hh:(v=.str "read"/\a=now/\c=now)\/(v=.str "write"/\((a=0/\c=intV x)\/(a=1/\c=now)))):Rg (l++[c]) (dAll 0 [] (es++[.beg h nm v x])) (ls++[a]) c (es++[Ev.beg h nm v x]).length:=by
 have t:dAll 0 [] (es++[.beg h nm v x])=dAll 0 [] es++[⟨h,nm,v,x,.non,es.length,none⟩]:=z0y es _;have d:=gd.wx;have o:=gd.n;rw [F0];rw [t] at d o⊢;refine g.beg ln rfl rfl ?_;rcases hh with ⟨rfl,b,f⟩|⟨rfl,hh⟩
 ·exact .inl ⟨by unfold isW;exact decide_eq_false z0z,b,f⟩
 ·have w:isW ⟨h,nm,.str "write",x,.non,es.length,none⟩=true:=by unfold isW;exact decide_eq_true rfl
  have j :∀q∈dAll 0 [] es,isW q=true->intV q.x≠intV x:=λ q u A e=>by obtain ⟨i,k⟩:=List.mem_iff_getElem?.mp u;have:=d.inj o (z17 k) at_end A w e;have:=z0k k;omega
  refine .inr ⟨w,λ m=>?_,j,hh⟩;obtain ⟨p,y⟩:=List.mem_iff_getElem?.mp m;rcases g.s.tk p _ y with z|⟨r,h1,b,f,_⟩
  ·exact d.n0 (List.mem_map.mpr ⟨_,List.mem_filter.mpr ⟨List.mem_append.mpr (.inr (.head _)),w⟩,z⟩)
  ·exact j r h1 b f
theorem Rg.finM {es:List Ev} {l ls:List Int} {now c la:Int} {j:Nat} {r:Rc} {a:V} (g:Rg l (dAll 0 [] es) ls now es.length) (gd:GdE es) (hj:lastI r.h ((dAll 0 [] es).map Rc.h)=some j) (hr:(dAll 0 [] es)[j]? = some r) (hl:ls[j]? = some la) (re:r.e=none)
  (h:(isW r=false/\(a=.int la\/a=.int now)/\c=now)\/(isW r=true/\((la=1/\c=intV r.x)\/(la≠1/\c=now)))):Rg (l++[c]) (dAll 0 [] (es++[.fin r.h a])) ls c (es++[Ev.fin r.h a]).length:=by
 have m:dAll 0 [] (es++[.fin r.h a])=(dAll 0 [] es).modify j λ q=>{ q with a:=a,e:=some es.length }:=by rw [z0y];unfold dstep;dsimp only;rw [hj]
 have d:=PosI.all es PosI.nil;rw [E5] at d;rw [m,F0];exact g.fin (d.b r (o0 hr)) hr hl re (λ i q f o k e=>gd.wx.inj gd.n f hr o k e) h
def z2x (K:c0):Sp:=λ vs H Q _=>∃(c:Addr) (ns:List Int),vs=[.ref c,.int 24,.bl false]/\SqL K H c (ns.map V.int)/\ns.length<=60/\∀tt tl lr zs es ys H',Same H H'->H' tt=some (.tup [.ref tl,.ref lr])->TalR K H' tl "r" 0 es ys->RwsA H' lr (dAll 0 [] es) zs->All2 (EvT H' rTh) es ys->Pfx es->Q (.ref tt) H'
theorem z78 (T:TX (kx w) mg) (c0:Ca P w mg base "_law_row" ["cell"] 1 z43) (c1:Ca P w mg base "_law_take" ["row","many"] 1 z16) (c2:Ca P w mg base "_law_answer" ["row","deed","now","rows","spoilt"] 2 (z28 (kx w))) (c3:Ca P w mg base "make_tale" ["things","events"] 7 (z11 (kx w))):Fo P w mg base CX0 8 347 y0h ["cells","most","spoilt"] (z2x (kx w)):=by
 refine (z2j w.params).ok sc__law_made (λ vs H Q E h=>?_) (λ k3 A j5 s H vs Q E I h=>?_)
 ·obtain ⟨c,ns,rfl,_⟩:=h;rfl
 ·obtain ⟨c,ns,rfl,sq,j6,q⟩:=h;refine q_of (z0b (QS.mk (ps_set (i:=3) sc__law_made.nd rfl (L1 rfl) (pe_lst pa_nil)))
   (z0b (QS.mk (ps_set (i:=4) sc__law_made.nd rfl (L1 rfl) (pe_lst pa_nil)))
   (z0b (QS.mk (ps_set (i:=5) sc__law_made.nd rfl (L1 rfl) z6i))
   (z0b (QS.mk (ps_set (i:=6) sc__law_made.nd rfl (L1 rfl) pe_int))
   (z0b (qs_for C2 rfl (z0n (pv 0)) (z0m (i:=7) sc__law_made.nd rfl (L1 rfl))
   (z0b (QS.mk (ps_set (i:=8) sc__law_made.nd rfl (L1 rfl) (pe_cal c0 (I.mono (by decide)) rfl (z00 (pv 7) pa_nil))))
   (z0b (QS.mk (ps_set (i:=9) sc__law_made.nd rfl (L1 rfl) (pe_cal c1 (I.mono (by decide)) rfl (z00 (pv 8) (z00 pe_int pa_nil)))))
   (z1f (qs_if (pt_cmp (pc_din (hu_of I) (pv 9) (pv 5)) (by with_unfolding_all rfl))
   (z0b (QS.mk (ps_set (i:=10) sc__law_made.nd rfl (L1 rfl) (pe_ix ix_seq (pv 3) (zdu (pv 5) (pv 9) ⟨rfl,rfl,rfl,rfl⟩) (λ _ _=>rfl))))
   (z0b (QS.mk (ps_if (PW.pt (pw_and (z08 opEq (pe_ix ix_seq (pv 10) pe_int (λ _ _=>rfl)) pe_str (nomark _)) (z5q (z08 opEq (pe_ix ix_seq (pv 10) pe_int (λ _ _=>rfl)) pe_int (nomark _)))))
   (z05 (ps_set (i:=6) sc__law_made.nd rfl (L1 rfl) (pe_ix ix_seq (pv 10) pe_int (λ _ _=>rfl))))
   z0d))
   (z0b (QS.mk (ps_asg (pe_cal c2 (I.mono (by decide)) rfl (z00 (pv 8) (z00 (pv 10) (z00 (pv 6) (z00 (pv 3) (z00 (pv 2) pa_nil)))))) (pg_sub (pv 10) pe_int z3h)))
   (z0b (QS.mk (ps_asg (z09 z0t rfl (T.no (n_len _)) T3 (z00 (pv 4) pa_nil)) (pg_sub (pv 10) pe_int z3h)))
   (z1f (QS.mk (z3s (z1o (pv 4) (z00 (pe_tup (z00 pe_str (z00 (pv 9) (z00 (pe_ix ix_seq (pv 10) pe_int (λ _ _=>rfl)) pa_nil)))) pa_nil)))))))))
   (z1f (qs_if (z08 op_lt (z09 z0t rfl (T.no (n_len _)) T3 (z00 (pv 3) pa_nil)) (pv 1) (nomark _))
   (z0b (qs_set (i:=11) sc__law_made.nd rfl (L1 rfl) (qe_ix ix_seq (qe_lst (z0u (QE.mk pe_str) (z0u (QE.mk pe_str) qa_nil))) (QE.mk (pe_cal c1 (I.mono (by decide)) rfl (z00 (pv 8) (z00 pe_int pa_nil)))) (λ _ _=>rfl)))
   (z0b (QS.mk (ps_set (i:=12) sc__law_made.nd rfl (L1 rfl) pe_non))
   (z0b (QS.mk (ps_set (i:=13) sc__law_made.nd rfl (L1 rfl) (pv 6)))
   (z0b (qs_if (z08 opEq (pv 11) pe_str (nomark _))
   (z0b (qs_set (i:=12) sc__law_made.nd rfl (L1 rfl) (qe_op op_mul (QE.mk (pe_op op_mul (pe_op opAdd (pe_op opAdd (pe_op op_mul pe_int (pe_cal c1 (I.mono (by decide)) rfl (z00 (pv 8) (z00 pe_int pa_nil)))) (z09 z0t rfl (T.no (n_len _)) T3 (z00 (pv 3) pa_nil))) pe_int) pe_int)) (qe_ix ix_seq (qe_lst (z0u (QE.mk pe_int) (z0u (QE.mk (pe_un un_neg pe_int)) qa_nil))) (QE.mk (pe_cal c1 (I.mono (by decide)) rfl (z00 (pv 8) (z00 pe_int pa_nil)))) (λ _ _=>rfl))))
   (z0b (QS.mk (ps_set (i:=13) sc__law_made.nd rfl (L1 rfl) (pe_cal c1 (I.mono (by decide)) rfl (z00 (pv 8) (z00 pe_int pa_nil)))))
   (z1f (QS.mk (ps_if (z08 opEq (pv 13) pe_int (nomark _))
   (z05 (ps_set (i:=6) sc__law_made.nd rfl (L1 rfl) (pv 12)))
   z0d)))))
   (QSs.mk z0d))
   (z0b (QS.mk (z88 (hu_of I) (pv 5) (pv 9) (z09 z0t rfl (T.no (n_len _)) T3 (z00 (pv 3) pa_nil)) rfl))
   (z0b (QS.mk (z3s (z1o (pv 3) (z00 (pe_lst (z00 (pv 9) (z00 (pv 11) (z00 (pv 12) (z00 pe_non (z00 (z09 z0t rfl (T.no (n_len _)) T3 (z00 (pv 4) pa_nil)) (z00 pe_non (z00 (pv 13) pa_nil)))))))) pa_nil))))
   (z1f (QS.mk (z3s (z1o (pv 4) (z00 (pe_tup (z00 pe_str (z00 (pv 9) (z00 pe_str (z00 (pv 11) (z00 (pv 12) pa_nil)))))) pa_nil)))))))))))
   (QSs.mk z0d))))))))
   (z1f (QS.mk (ps_ret (pe_tup (z00 (pe_cal c3 (I.mono (by decide)) rfl (z00 (pe_lst (z00 (pe_tup (z00 pe_str (z00 pe_str pa_nil))) pa_nil)) (z00 (pv 4) pa_nil))) (z00 (pv 3) pa_nil))))))))))) ?_
  refine z0f ⟨w_0,λ u g2=>g_name ?_⟩;obtain ⟨H1,v_,u1,e1⟩:=newA (.lst []) g2;rw [<-v_];refine z0f ⟨w_0,λ le b6=>g_name ?_⟩;have i7:u≠le:=λ z=>by rw [<-z,e1] at b6;cases b6
  have i0:=u1.free b6;have v2:=Same.upd (o:=.lst []) b6;have u2:=u1.trans v2;have a9:=v2 _ _ e1;have e2:upd H1 le (.lst []) le=some (.lst []):=z01;generalize upd H1 le (.lst [])=H2 at v2 u2 a9 e2⊢;refine z0f λ hd f8=>g_name ?_;have e0:=u2.free f8;have v3:=Same.upd (o:=.dK []) f8;have e3:upd H2 hd (.dK []) hd=some (.dK (heldK [])):=z01;have b9:Md H (upd H2 hd (.dK [])) u le [] [] []:=⟨u2.trans v3,g2,i0,λ p Y=>absurd Y B0,.nil,i7,v3 _ _ a9,.nil,λ r I=>absurd I B0,D1 _,v3 _ _ e2,.nil,trivial,(λ i r h=>by cases h),D1 _,D1 _⟩
  generalize upd H2 hd (.dK [])=H3 at e3 b9⊢;refine z0f (g_name ?_);refine ⟨_,rfl,c,rfl,⟨_,b9.s.seq sq⟩,?_⟩;refine z15 (K:=KX w.params) (a:=c) (xs:=ns.map V.int) (λ i σ H'=>∃es zs ys os now x7 x8 x9 x10 x11 x12 x13,Md H H' u le es zs ys/\H' hd=some (.dK (heldK os))/\HdI es os/\(OpI es os/\Pfx es/\∃l ls,Lts H' zs ls/\Rg l (dAll 0 [] es) ls now es.length)/\bdI now/\es.length<=i/\os.length<=i/\σ=[some (.ref c),some (.int 24),some (.bl false),some (.ref u),some (.ref le),some (.ref hd),some (.int now),x7,x8,x9,x10,x11,x12,x13]) ⟨[],[],[],[],0,_,_,_,_,_,_,_,b9,e3,⟨rfl,λ h j z=>absurd z B0⟩,⟨λ h j z=>absurd z B0,Pfx.nil,_,_,.nil,Rg.nil⟩,⟨by decide,by decide⟩,A0 _,A0 _,rfl⟩ (λ _ σ H' _ h=>by obtain ⟨_,_,_,_,_,_,_,_,_,_,_,_,t,_⟩:=h;exact t.s.seq sq) ?_ ?_
  ·rintro i y σ C hy ⟨es,zs,ys,os,now,x7,x8,x9,x10,x11,x12,x13,t,ehd,hdI,⟨opI,pfx,l,ls,lts,rg⟩,bn,lei,loi,rfl⟩;obtain ⟨cl,_,rfl⟩:=List.mem_map.mp (o0 hy);have hi:i < 60:=by have:=(List.getElem?_eq_some_iff.mp hy).1;rw [G0] at this;omega
   have lz:=z04 t.a;have ly:=z04 t.ev;refine g_name ?_;refine z0f ⟨_,rfl,cl,rfl,λ r o M e8=>g_name ?_⟩;have u5:=Same.upd (o:=o) M;generalize upd C r o=H5 at u5 e8⊢;refine z0f ⟨_,rfl,r,4,rfl,e8,by decide,by decide,λ h H6 c8 h0 h1=>g_name ?_⟩;have s6:=Same.kp u5 M c8.k;have b4:=s6 _ _ ehd;have f6:r≠hd:=λ z=>by rw [z,ehd] at M;cases M
   refine z0s ⟨_,rfl,_,rfl,hd,_,rfl,DGet.k (k:=.inl h) b4,_,rfl,?_⟩;by_cases J:h∈os.map (·.1)
   ·refine iteP (held_in.mpr J) ?_;obtain ⟨j,g3,j0⟩:=zau J;have hj:=hdI.j h j g3;obtain ⟨f,a8,i8⟩:=row_ok hj;obtain ⟨z,b5,pz⟩:=z2o t.a a8;obtain ⟨p,F,rfl,ep,bl⟩:=id pz;obtain ⟨f1,f2,f3⟩:=t.fz p (o0 b5);obtain ⟨r1,f4,i6⟩:=opI h j g3;rw [a8] at f4;cases f4;obtain ⟨la,c9,p',k2,i4,f0,i9⟩:=z2o lts b5;cases i4;rw [ep] at f0;cases f0;cases i9;have b1:Lts (upd C hd (.dK (dropK (heldK os) (.inl h)))) zs ls:=lts.kp λ p xs _ e=>⟨xs,by rw [upd_ne (λ q=>by rw [q,ehd] at e;cases e)];exact e,rfl⟩
    have G:Md H (upd C hd (.dK (dropK (heldK os) (.inl h)))) u le es zs ys:=t.kp ehd e0 λ b o n e=>by rw [upd_ne n];exact e
    have Z:=Same.upd2 (l:=hd) (o:=.dK (dropK (heldK os) (.inl h))) s6;have n7:upd C hd (.dK (dropK (heldK os) (.inl h))) r=none:=by rw [upd_ne f6];exact M
    have g5:DkAt (upd H6 hd (.dK (dropK (heldK os) (.inl h)))) r:=by obtain ⟨a,b,c,e,z⟩:=c8.d;exact ⟨a,b,c,by rw [upd_ne f6];exact e,z⟩
    have a5:upd C hd (.dK (dropK (heldK os) (.inl h))) hd=some (.dK (heldK (os.filter λ k=>decide (k.1≠h)))):=by rw [z01,z4w]
    have e5:upd H6 hd (.dK (dropK (heldK os) (.inl h))) u=some (.lst zs):=Z _ _ G.l;refine z0f ⟨_,rfl,_,rfl,hd,rfl,.inl ⟨_,.inl b4⟩,_,rfl,heldK os,.inl h,.int (j:Nat),b4,rfl,j0,.inl ⟨u,zs,j,.ref p,rfl,rfl,SqL.of e5,z03 b5,g_name ?_⟩⟩;have a2:upd C hd (.dK (dropK (heldK os) (.inl h))) p=some (.lst [.int f.h,f.v,f.x,f.a,.int f.b,endV f.e,.int F]):=by rw [upd_ne (show p≠hd from λ z=>by rw [z,ehd] at ep;cases ep)];exact ep
    generalize upd C hd (.dK (dropK (heldK os) (.inl h)))=H0' at G Z n7 a5 a2 b1;generalize upd H6 hd (.dK (dropK (heldK os) (.inl h)))=H7 at Z g5 e5⊢;have b8:=SqL.of (K:=KX w.params) (Z _ _ a2);have g0:=t.g f (o0 a8);refine z3x (λ σ' H'=>H'=H7/\∃now',bdI now'/\((isW f=false/\now'=now)\/(isW f=true/\((F=1/\now'=intV f.x)\/(F≠1/\now'=now))))/\σ'=[some (.ref c),some (.int 24),some (.bl false),some (.ref u),some (.ref le),some (.ref hd),some (.int now'),some (.int cl),some (.ref r),some (.int h),some (.ref p),x11,x12,x13]) ?_ λ go=>?_;rotate_left
    ·rcases g0 with g|g
     ·exact z0s (t_and ⟨_,rfl,.inl ⟨p,_,1,.str "read",rfl,rfl,b8,by rw [g.1];exact z03 (j:=1) rfl,rfl,_,rfl,iteK (iteF (go _ _ ⟨rfl,now,bn,.inl ⟨g.w,rfl⟩,rfl⟩))⟩⟩)
     ·refine z0s (t_and ⟨_,rfl,.inl ⟨p,_,1,.str "write",rfl,rfl,b8,by rw [g.1];exact z03 (j:=1) rfl,rfl,_,rfl,iteP (by decide +kernel) ⟨_,rfl,.inl ⟨p,_,6,.int F,rfl,rfl,b8,z03 (j:=6) rfl,rfl,_,rfl,ite2 (λ S=>?_) λ S=>go _ _ ⟨rfl,now,bn,.inr ⟨g.w,.inr ⟨λ y=>S (decide_eq_true (by rw [y])),rfl⟩⟩,rfl⟩⟩⟩⟩⟩);have bx:=t.wx.bd t.n f (o0 a8) g.w;exact ⟨_,rfl,.inl ⟨p,_,2,.int (intV f.x),rfl,rfl,b8,by rw [<-g.2.2.1];exact z03 (j:=2) rfl,g_name (go _ _ ⟨rfl,_,bx,.inr ⟨g.w,.inl ⟨V.int.inj (of_decide_eq_true S),rfl⟩⟩,rfl⟩)⟩⟩
    rintro σ j7 ⟨rfl,now',bn',nw',rfl⟩;refine z0f ⟨_,rfl,_,rfl,_,rfl,_,rfl,_,rfl,r,p,u,f,now',F,H0',rfl,Z,n7,g5,a2,g0,λ a H8 O b3 h3 d9=>?_⟩;refine ⟨_,rfl,p,_,3,3,rfl,rfl,O _ _ a2,rfl,?_⟩;have e9:upd H8 p (.lst ([.int f.h,f.v,f.x,f.a,.int f.b,endV f.e,.int F].set 3 a)) p=some (.lst [.int f.h,f.v,f.x,a,.int f.b,endV f.e,.int F]):=z01;have k9 :∀b o,b≠p->H8 b=some o->upd H8 p (.lst ([.int f.h,f.v,f.x,f.a,.int f.b,endV f.e,.int F].set 3 a)) b=some o:=λ b o n z=>by rw [upd_ne n];exact z
    generalize upd H8 p (.lst ([.int f.h,f.v,f.x,f.a,.int f.b,endV f.e,.int F].set 3 a))=X at e9 k9⊢;have h4:=k9 _ _ (n3 f3) (O _ _ G.e);refine z0f ⟨_,rfl,.inl ⟨le,ys,rfl,.inl (SqL.of h4),_,rfl,p,_,5,5,rfl,rfl,e9,rfl,?_⟩⟩;have W:upd X p (.lst ([.int f.h,f.v,f.x,a,.int f.b,endV f.e,.int F].set 5 (.int (ys.length:Nat)))) p=some (.lst [.int f.h,f.v,f.x,a,.int f.b,.int (ys.length:Nat),.int F]):=z01;have b2 :∀b o,b≠p->H8 b=some o->upd X p (.lst ([.int f.h,f.v,f.x,a,.int f.b,endV f.e,.int F].set 5 (.int (ys.length:Nat)))) b=some o:=λ b o n z=>by rw [upd_ne n];exact k9 _ _ n z
    generalize upd X p (.lst ([.int f.h,f.v,f.x,a,.int f.b,endV f.e,.int F].set 5 (.int (ys.length:Nat))))=H10 at W b2⊢;have c6:=b2 _ _ (n3 f3) (O _ _ G.e);refine ⟨_,rfl,.inl ⟨rfl,_,SqL.of c6⟩,_,rfl,_,rfl,.inl ⟨p,_,3,a,rfl,rfl,SqL.of W,z03 (j:=3) rfl,w_3,λ tp a3=>?_⟩⟩;have D:=Same.upd (o:=.tup [.str "end",.int h,a]) a3;have a1:upd H10 tp (.tup [.str "end",.int h,a]) tp=some (.tup [.str "end",.int h,a]):=z01;have nt:tp≠le:=λ z=>by rw [z,c6] at a3;cases a3
    generalize upd H10 tp (.tup [.str "end",.int h,a])=N at D a1⊢;refine ⟨le,ys,_,rfl,rfl,D _ _ c6,U1 (m:=100) (by omega) (by decide),?_⟩;subst i8;have ho:f.h∈es.foldl oStep []:=by rw [<-hdI.o];exact J
    rw [ly] at W;have a7:=G.fin (H':=upd N le (.lst (ys++[.ref tp]))) (tp:=tp) (a:=a) hj a8 b5 ho ⟨h0,by omega⟩ (by omega) bl h3 (λ w=>(d9 w).elim (λ z=>⟨_,z,bl.a⟩) λ z=>⟨_,z,bn'.a⟩) (λ b o n1 n2 z=>by rw [upd_ne n2];exact D _ _ (b2 _ _ n1 (O _ _ z))) (by rw [upd_ne f3];exact D _ _ W) (by rw [upd_ne nt];exact a1) z01;have d4:upd N le (.lst (ys++[.ref tp])) hd=some (.dK (heldK (os.filter λ k=>decide (k.1≠f.h)))):=by rw [upd_ne (λ z=>by rw [z] at a5;have:=G.e;rw [a5] at this;cases this)];exact D _ _ (b2 _ _ (λ z=>by rw [z] at a5;rw [a5] at a2;cases a2) (O _ _ a5))
    have b0:Rg (l++[now']) (dAll 0 [] (es++[.fin f.h a])) ls now' (es++[Ev.fin f.h a]).length:=rg.finM t.gd hj a8 c9 i6 (by
     rcases nw' with ⟨w,z⟩|⟨w,z⟩
     ·exact .inl ⟨w,(by rw [<-z];exact d9 w),z⟩
     ·exact .inr ⟨w,z⟩)
    have d1:Lts (upd N le (.lst (ys++[.ref tp]))) zs ls:=b1.kp λ b xs J e=>by
     obtain ⟨_,_,nb⟩:=t.fz b J;by_cases zb:b=p
     ·subst zb;rw [a2] at e;cases e;refine ⟨[.int f.h,f.v,f.x,a,.int f.b,.int (es.length:Nat),.int F],?_,rfl⟩;rw [upd_ne nb];exact D _ _ W
     ·exact ⟨xs,by rw [upd_ne nb];exact D _ _ (b2 _ _ zb (O _ _ e)),rfl⟩
    exact ⟨es++[.fin f.h a],zs,ys++[.ref tp],os.filter λ k=>decide (k.1≠f.h),now',_,_,_,_,_,_,_,a7,d4,hdI.fin,⟨opI.fin hdI hj,pfx.snoc a7.gd b0.s,_,_,d1,b0⟩,bn',by rw [F0];show es.length + 1<=i + 1;omega,J0 (X1 _ _) (by omega),rfl⟩
   ·refine iteN (λ z=>J (held_in.mp z)) ?_;have a6:=t.same s6;refine z0s ⟨_,rfl,.inl ⟨u,zs,rfl,.inl (SqL.of a6.l),_,rfl,_,_,rfl,rfl,_,rfl,ite2 (λ S=>?_) λ _=>⟨es,zs,ys,os,now,_,_,_,_,_,_,_,a6,b4,hdI,⟨opI,pfx,l,ls,lts.same s6,rg⟩,bn,by omega,by omega,rfl⟩⟩⟩;have S:zs.length < 24:=by have:=of_decide_eq_true S;omega
    have g6:=c8.d;refine z0f ⟨w_2,λ lv d0=>?_⟩;have u7:=Same.upd (o:=.lst [.str "read",.str "write"]) d0;have e7:upd H6 lv (.lst [.str "read",.str "write"]) lv=some (.lst [.str "read",.str "write"]):=z01;have i3:lv≠r:=λ z=>by obtain ⟨a,b,c,e,_⟩:=g6;rw [z,e] at d0;cases d0
    generalize upd H6 lv (.lst [.str "read",.str "write"])=H7 at u7 e7⊢;refine ⟨_,rfl,r,2,rfl,g6.same u7,by decide,by decide,λ tv H8 b3 j4 k5=>?_⟩;have O:=Same.kp (s6.trans u7) M b3.k;obtain ⟨n,B,rfl,h2,ev⟩ :∃(n:Nat) (B:Str),tv=(n:Int)/\(B = "read"\/B = "write")/\[V.str "read",.str "write"][n]? = some (.str B):=by
     rcases (show tv=0\/tv=1 by omega) with rfl|rfl
     ·exact ⟨0,"read",rfl,.inl rfl,rfl⟩
     ·exact ⟨1,"write",rfl,.inr rfl,rfl⟩
    refine .inl ⟨lv,_,n,.str B,rfl,rfl,SqL.of (b3.k _ _ i3 e7),z03 ev,g_name ?_⟩;refine z0f (g_name ?_);refine z0f ⟨_,rfl,g_name ?_⟩;refine z3x (λ σ' H'=>∃x late' now',Same C H'/\DkAt H' r/\NewD zs.length (.str B) x/\bdI late'/\bdI now'/\((V.str B=.str "read"/\late'=now/\now'=now)\/(V.str B=.str "write"/\((late'=0/\now'=intV x)\/(late'=1/\now'=now))))/\σ'=[some (.ref c),some (.int 24),some (.bl false),some (.ref u),some (.ref le),some (.ref hd),some (.int now'),some (.int cl),some (.ref r),some (.int h),x10,some (.str B),some x,some (.int late')]) ?_ λ go=>?_;rotate_left
    ·rcases h2 with rfl|rfl
     ·exact z0s ⟨_,rfl,rfl,_,rfl,iteK (go _ _ ⟨.non,now,now,O,b3.d,.inl ⟨rfl,rfl⟩,bn,bn,.inl ⟨rfl,rfl,rfl⟩,rfl⟩)⟩
     ·refine z0s ⟨_,rfl,rfl,_,rfl,iteP (by decide +kernel) ?_⟩;refine z0f ⟨_,rfl,r,1000,rfl,b3.d,by decide,by decide,λ tw X c7 j2 j1=>?_⟩;have s9:=Same.kp O M c7.k;refine ⟨24,_,rfl,rfl,.inl ⟨by decide,by decide⟩,_,rfl,.inl ⟨u,zs,rfl,.inl (SqL.of (s9 _ _ t.l)),.inl ⟨_,_,rfl,rfl,.inl ⟨_,_,rfl,rfl,_,_,rfl,rfl,.inl ⟨by omega,by omega⟩,?_⟩⟩⟩⟩;refine ⟨1,rfl,w_2,λ lx d5=>?_⟩;have g4:=c7.d;have d6:=Same.upd (o:=.lst [.int 1,.int (-1)]) d5;have W:upd X lx (.lst [.int 1,.int (-1)]) lx=some (.lst [.int 1,.int (-1)]):=z01;have h8:lx≠r:=λ z=>by obtain ⟨a,b,c,e,_⟩:=g4;rw [z,e] at d5;cases d5
      generalize upd X lx (.lst [.int 1,.int (-1)])=H10 at d6 W⊢;refine ⟨_,rfl,r,2,rfl,g4.same d6,by decide,by decide,λ ts N d7 j9 j8=>?_⟩;have i1:=Same.kp (s9.trans d6) M d7.k;obtain ⟨n2,sg,rfl,e4,j3⟩ :∃(n:Nat) (sg:Int),ts=(n:Int)/\(sg=1\/sg=-1)/\[V.int 1,.int (-1)][n]? = some (.int sg):=by
       rcases (show ts=0\/ts=1 by omega) with rfl|rfl
       ·exact ⟨0,1,rfl,.inl rfl,rfl⟩
       ·exact ⟨1,-1,rfl,.inr rfl,rfl⟩
      refine .inl ⟨lx,_,n2,.int sg,rfl,rfl,SqL.of (d7.k _ _ h8 W),z03 j3,_,_,rfl,rfl,.inl ⟨by omega,by omega⟩,?_⟩;obtain ⟨y,hy,nw,h5⟩ :∃y:Int,(24 * tw + (zs.length:Int) + 1) * 41666 * sg=y/\(y=(24 * tw + zs.length + 1) * 41666\/y=-((24 * tw + zs.length + 1) * 41666))/\bdI y:=by
       refine ⟨_,rfl,?_,?_⟩
       ·rcases e4 with rfl|rfl<;>omega
       ·unfold bdI;rcases e4 with rfl|rfl<;>omega
      show gName 12 (V.int ((24 * tw + (zs.length:Int) + 1) * 41666 * sg)) _ _ _;rw [hy];refine g_name ?_;have nd:NewD zs.length (.str "write") (.int y):=.inr ⟨rfl,tw,y,j2,j1,rfl,nw⟩;refine z0f ⟨_,rfl,r,2,rfl,d7.d,by decide,by decide,λ tl c4 d8 k1 k4=>g_name ?_⟩;have g1:=Same.kp i1 M d8.k;have bl:bdI tl:=⟨by omega,by omega⟩
      refine z0s ⟨_,rfl,rfl,_,rfl,ite2 (λ z0=>⟨_,rfl,g_name (go _ _ ⟨.int y,tl,y,g1,d8.d,nd,bl,h5,.inr ⟨rfl,.inl ⟨V.int.inj (of_decide_eq_true z0),rfl⟩⟩,rfl⟩)⟩) λ z0=>go _ _ ⟨.int y,tl,now,g1,d8.d,nd,bl,bn,.inr ⟨rfl,.inr ⟨(by have:tl≠0:=(λ y=>z0 (decide_eq_true (by rw [y])));omega),rfl⟩⟩,rfl⟩⟩
    rintro σ X ⟨x,late',now',s9,c7,nd,bl,bn',nw',rfl⟩;have h9:=SqL.of (K:=KX w.params) (s9 _ _ t.l);have put:=zeb (b:=zs.length) J;refine ⟨_,rfl,.inl ⟨u,zs,rfl,.inl h9,_,rfl,_,rfl,hd,_,rfl,DPut.k (k:=.inl h) (s9 _ _ ehd) (U1 (m:=100) (by unfold heldK;rw [G0];omega) (by decide)),t_nx ?_⟩⟩;have G:Md H (upd C hd (.dK (putK (heldK os) (.inl h) (.int (zs.length:Nat))))) u le es zs ys:=t.kp ehd e0 λ b o n e=>by rw [upd_ne n];exact e
    have b1:Lts (upd C hd (.dK (putK (heldK os) (.inl h) (.int (zs.length:Nat))))) zs ls:=lts.kp λ p xs _ e=>⟨xs,by rw [upd_ne (λ q=>by rw [q,ehd] at e;cases e)];exact e,rfl⟩
    have R:=Same.upd2 (l:=hd) (o:=.dK (putK (heldK os) (.inl h) (.int (zs.length:Nat)))) s9;have a4:upd C hd (.dK (putK (heldK os) (.inl h) (.int (zs.length:Nat)))) hd=some (.dK (heldK (os++[(h,zs.length)]))):=by rw [z01,put]
    generalize upd C hd (.dK (putK (heldK os) (.inl h) (.int (zs.length:Nat))))=H0' at G R a4 b1;generalize upd X hd (.dK (putK (heldK os) (.inl h) (.int (zs.length:Nat))))=H10 at R⊢;have d2:=R _ _ G.l;have d3:=R _ _ G.e;refine ⟨_,rfl,.inl ⟨rfl,_,SqL.of d2⟩,_,rfl,_,rfl,_,rfl,_,rfl,.inl ⟨le,ys,rfl,.inl (SqL.of d3),_,rfl,w_7,λ p Y=>?_⟩⟩;have D:=Same.upd (o:=.lst [.int h,.str B,x,.non,.int (ys.length:Nat),.non,.int late']) Y;have a1:upd H10 p (.lst [.int h,.str B,x,.non,.int (ys.length:Nat),.non,.int late']) p=some (.lst [.int h,.str B,x,.non,.int (ys.length:Nat),.non,.int late']):=z01;have fp:H0' p=none:=R.free Y;have e6:p≠u:=λ z=>by rw [z,d2] at Y;cases Y
    have g7:p≠le:=λ z=>by rw [z,d3] at Y;cases Y
    generalize upd H10 p (.lst [.int h,.str B,x,.non,.int (ys.length:Nat),.non,.int late'])=N at D a1⊢;refine ⟨u,zs,_,rfl,rfl,D _ _ d2,U1 (m:=100) (by omega) (by decide),t_nx ?_⟩;have a9:upd N u (.lst (zs++[.ref p])) u=some (.lst (zs++[.ref p])):=z01;have a0 :∀b o,b≠u->N b=some o->upd N u (.lst (zs++[.ref p])) b=some o:=λ b o n z=>by rw [upd_ne n];exact z
    generalize upd N u (.lst (zs++[.ref p]))=c4 at a9 a0⊢;have c5:=a0 _ _ (n3 t.n1) (D _ _ d3);refine ⟨_,rfl,.inl ⟨rfl,_,SqL.of c5⟩,_,rfl,_,rfl,_,rfl,w_5,λ tp a3=>?_⟩;have U:=Same.upd (o:=.tup [.str "begin",.int h,.str "r",.str B,x]) a3;have f9:upd c4 tp (.tup [.str "begin",.int h,.str "r",.str B,x]) tp=some (.tup [.str "begin",.int h,.str "r",.str B,x]):=z01;have nt:tp≠le:=λ z=>by rw [z,c5] at a3;cases a3
    generalize upd c4 tp (.tup [.str "begin",.int h,.str "r",.str B,x])=H13 at U f9⊢;refine ⟨le,ys,_,rfl,rfl,U _ _ c5,U1 (m:=100) (by omega) (by decide),?_⟩;have ho:h∉es.foldl oStep []:=by rw [<-hdI.o];exact J
    rw [ly] at a1;rw [lz] at nd S;have a7:=G.beg (H':=upd H13 le (.lst (ys++[.ref tp]))) (tp:=tp) (p:=p) S nd ho ⟨h0,by omega⟩ (by omega) bl fp (λ b o n1 n2 z=>by rw [upd_ne n2];exact U _ _ (a0 _ _ n1 (D _ _ (R _ _ z)))) (by rw [upd_ne t.n1];exact U _ _ a9) (by rw [upd_ne g7];exact U _ _ (a0 _ _ e6 a1)) (by rw [upd_ne nt];exact f9) z01;have d4:upd H13 le (.lst (ys++[.ref tp])) hd=some (.dK (heldK (os++[(h,zs.length)]))):=by rw [upd_ne (λ z=>by rw [z] at a4;have:=G.e;rw [a4] at this;cases this)];exact U _ _ (a0 _ _ (λ z=>by rw [z] at a4;have:=G.l;rw [a4] at this;cases this) (D _ _ (R _ _ a4)))
    have f5:=hdI.beg (nm:=.str "r") (v:=.str B) (y:=x) J;have f7:=OpI.beg (h:=h) (nm:=.str "r") (v:=.str B) (y:=x) opI;rw [<-lz] at f5 f7;have h7:ls.length=(dAll 0 [] es).length:=by rw [<-lz];exact z04 lts
    have b0:=rg.begM (a:=late') h7 a7.gd nw';have d1:Lts (upd H13 le (.lst (ys++[.ref tp]))) (zs++[.ref p]) (ls++[late']):=by refine z0r (b1.kp λ b xs J e=>?_) ⟨p,_,rfl,(by rw [upd_ne g7];exact U _ _ (a0 _ _ e6 a1)),rfl⟩;obtain ⟨_,h6,g9⟩:=t.fz b J;exact ⟨xs,by rw [upd_ne g9];exact U _ _ (a0 _ _ h6 (D _ _ (R _ _ e))),rfl⟩
    exact ⟨es++[.beg h (.str "r") (.str B) x],zs++[.ref p],ys++[.ref tp],os++[(h,zs.length)],now',_,_,_,_,_,_,_,a7,d4,f5,⟨f7,pfx.snoc a7.gd b0.s,_,_,d1,b0⟩,bn',by rw [F0];show es.length + 1<=i + 1;omega,by rw [F0];show os.length + 1<=i + 1;omega,rfl⟩
  rintro σ C ⟨es,zs,ys,os,now,x7,x8,x9,x10,x11,x12,x13,t,ehd,hdI,⟨opI,pfx,l,ls,lts,rg⟩,bn,lei,loi,rfl⟩;refine nx_to3 ?_;refine ⟨w_2,λ L g8=>⟨w_1,λ la c9=>?_⟩⟩;have w1:=Same.upd (o:=.tup [.str "r",.str "register"]) g8;have w2:=Same.upd (o:=.lst [.ref L]) c9;have u6:=w1.trans w2;have ep:=w2 _ _ (z01 (H:=C) (a:=L) (o:=.tup [.str "r",.str "register"]));have ea:upd (upd C L (.tup [.str "r",.str "register"])) la (.lst [.ref L]) la=some (.lst [.ref L]):=z01;generalize upd (upd C L (.tup [.str "r",.str "register"])) la (.lst [.ref L])=H6 at u6 ep ea⊢;have a6:=t.same u6;have k0:=t.n60;refine ⟨_,rfl,la,le,L,("r","register"),ys,es,rfl,ea,⟨L,rfl,ep⟩,⟨nameR,by decide +kernel⟩,a6.e,a6.ev,by omega,t.bg,t.wf,λ tt c' e' H7 Z i2 ec ee=>?_⟩;refine ⟨_,rfl,w_2,λ t2 i5=>?_⟩;have u8:=Same.upd (o:=.tup [.ref tt,.ref u]) i5;have b7:=a6.same (Z.trans u8);exact q t2 tt u zs es ys _ b7.s z01 ⟨⟨c',e',L,SqT.of (u8 _ _ i2),SqT.of (u8 _ _ ec),SqT.of (u8 _ _ (Z _ _ ep)),SqT.of (u8 _ _ ee)⟩,z02 (λ _ _ z=>ev_at z) b7.ev,t.gd.tw,by omega⟩ b7.rws b7.ev pfx
theorem zew {X:Cx} {pos:Pos} {tg iter:Expr} {body:List Stmt} {tl:TE} {g:TG} {tb:TS} (hp:PassesOwn (V0 X.prog X.w) X.A X.env X.xe) (hc:X.calm=true) (hi:QE X iter tl) (hg:PG X tg g) (hb:QSs X body tb)
  (hs :∀x,g4 iter X.env x=C3 x:=by intro _;rfl):QS X (.For tg iter body [] pos) (tFor (iList X.K tl) g tb):=⟨ps_for hp hc (z0n hi.run) hg hb.run hs⟩
theorem for_tl {K:c0} {tl:TE} {g:TG} {tb:TS} {D:Ends} {σ:L2.St} {H:Hp} (h:tl σ H λ x H1=>tFor (iList K λ _ _ R=>R x H1) g tb D σ H1):tFor (iList K tl) g tb D σ H:=h
def Eld (rs:List Rc) (r:Rc) (w:Int):Prop:=bdI w/\∃t q e1 e2,t∈ents rs/\t.x=w/\t.e=some e1/\q∈rs/\isW q=true/\q.e=some e2/\e1 < (q.b:Int)/\e2 < r.b
def z2p (K:c0):Sp:=λ vs H Q _=>∃(lr:Addr) (rs:List Rc) (zs:List V) (j:Nat) (r:Rc),vs=[.ref lr,.int (j:Nat)]/\RwsA H lr rs zs/\rs[j]? = some r/\∀l (ws:List Int) H',Same H H'->H' l=some (.lst (ws.map V.int))->(∀w∈ws,Eld rs r w)->Q (.ref l) H'
theorem z5z (T:TX (kx w) mg):Fo P w mg base CX0 1 354 y0a ["rows","number"] (z2p (kx w)):=by
 refine (z1t w.params).ok sc__law_elder (λ vs H Q E h=>?_) (λ c2 A b8 s H vs Q E hr h=>?_)
 ·obtain ⟨I,G,v,j,r,rfl,_⟩:=h;rfl
 ·obtain ⟨I,G,v,j,r,rfl,B,hj,q⟩:=h;refine q_of (z0b (QS.mk (ps_set (i:=2) sc__law_elder.nd rfl (L1 rfl) (pe_lst pa_nil)))
   (z0b (zew C2 rfl (qe_op opAdd (qe_lst (z0u (qe_lst (z0u (QE.mk pe_int) (z0u (QE.mk pe_str) (z0u (QE.mk pe_int) (z0u (QE.mk pe_str) (z0u (QE.mk (pe_un un_neg pe_int)) (z0u (QE.mk (pe_un un_neg pe_int)) (z0u (QE.mk pe_int) qa_nil)))))))) qa_nil)) (QE.mk (pv 0))) (z0m (i:=3) sc__law_elder.nd rfl (L1 rfl))
   (z0b (QS.mk (ps_if (PW.pt (pw_or (z08 opNe (pe_ix ix_seq (pv 3) pe_int (λ _ _=>rfl)) pe_str (nomark _)) (pw_or1 (z08 op_isN (pe_ix ix_seq (pv 3) pe_int (λ _ _=>rfl)) pe_non (nomark _)))))
   (z05 z8f)
   z0d))
   (z1f (QS.mk (ps_for C2 rfl (z0n (pv 0)) (z0m (i:=4) sc__law_elder.nd rfl (L1 rfl))
   (z05 (ps_if (PW.pt (pw_and (z08 opEq (pe_ix ix_seq (pv 4) pe_int (λ _ _=>rfl)) pe_str (nomark _)) (pw_and (z08 z3j (pe_ix ix_seq (pv 4) pe_int (λ _ _=>rfl)) pe_non (nomark _)) (pw_and (z08 op_lt (pe_ix ix_seq (pv 3) pe_int (λ _ _=>rfl)) (pe_ix ix_seq (pv 4) pe_int (λ _ _=>rfl)) (nomark _)) (z5q (z08 op_lt (pe_ix ix_seq (pv 4) pe_int (λ _ _=>rfl)) (pe_ix ix_seq (pe_ix ix_seq (pv 0) (pv 1) (λ _ _=>rfl)) pe_int (λ _ _=>rfl)) (nomark _)))))))
   (z05 (z3s (z1o (pv 2) (z00 (pe_ix ix_seq (pv 3) pe_int (λ _ _=>rfl)) pa_nil))))
   z0d)))))))
   (z1f (QS.mk (ps_ret (pv 2)))))) ?_
  have lz:v.length=G.length:=z04 B.a;have b9:=B.n;refine z0f ⟨w_0,λ lt a2=>g_name ?_⟩;have u1:=Same.upd (o:=.lst []) a2;have F:upd H lt (.lst []) lt=some (.lst (([]:List Int).map V.int)):=z01;generalize upd H lt (.lst [])=H1 at u1 F⊢;refine z3x (λ σ d=>∃ws:List Int,Same H d/\d lt=some (.lst (ws.map V.int))/\(∀w∈ws,Eld G r w)/\∃x3 x4,σ=[some (.ref I),some (.int (j:Nat)),some (.ref lt),x3,x4]) ?_ λ go=>?_
  ·rintro σ d ⟨ws,sH,et,f,x3,x4,rfl⟩;exact ⟨_,rfl,q lt ws d sH et f⟩
  refine for_tl ⟨2,rfl,1,rfl,w_7,λ c Z=>⟨w_1,λ u a7=>?_⟩⟩;have v2:=Same.upd (o:=.lst [.int 0,.str "write",.int 0,.str "ok",.int (-2),.int (-1),.int 0]) Z;have N:upd H1 c (.lst [.int 0,.str "write",.int 0,.str "ok",.int (-2),.int (-1),.int 0]) c=some (.lst [.int 0,.str "write",.int 0,.str "ok",.int (-2),.int (-1),.int 0]):=z01;have O:Same H1 (upd (upd H1 c (.lst [.int 0,.str "write",.int 0,.str "ok",.int (-2),.int (-1),.int 0])) u (.lst [.ref c])):=v2.trans (Same.upd a7);have e3:upd (upd H1 c (.lst [.int 0,.str "write",.int 0,.str "ok",.int (-2),.int (-1),.int 0])) u (.lst [.ref c]) u=some (.lst [.ref c]):=z01;have a3:=(Same.upd (o:=.lst [.ref c]) a7) _ _ N;have b3:c≠lt:=λ z=>by rw [z,F] at Z;cases Z
  show tVar 0 _ (upd (upd H1 c (.lst [.int 0,.str "write",.int 0,.str "ok",.int (-2),.int (-1),.int 0])) u (.lst [.ref c])) _;generalize upd (upd H1 c (.lst [.int 0,.str "write",.int 0,.str "ok",.int (-2),.int (-1),.int 0])) u (.lst [.ref c])=H3 at O e3 a3⊢;have b1:=(u1.trans O) _ _ B.l;refine ⟨_,rfl,.inr (.inr (.inl ⟨u,I,_,_,rfl,rfl,e3,b1,J0 (m:=25) (by show 1 + v.length<=25;omega) (by decide),λ C a9=>?_⟩))⟩;have S:=Same.upd (o:=.lst ([V.ref c]++v)) a9;have e4:upd H3 C (.lst ([V.ref c]++v)) C=some (.lst (.ref c :: v)):=z01;have b4:C≠lt:=λ z=>by have:=O _ _ F;rw [<-z,a9] at this;cases this
  have s4:=(u1.trans O).trans S;have a6:=S _ _ a3;have a4:=S _ _ (O _ _ F);generalize upd H3 C (.lst ([V.ref c]++v))=H4 at S e4 s4 a6 a4⊢;refine ⟨C,rfl,⟨_,SqL.of e4⟩,?_⟩;refine z15 (K:=KX w.params) (a:=C) (xs:=.ref c :: v) (λ i σ d=>Same H d/\d C=some (.lst (.ref c :: v))/\d c=some (.lst [.int 0,.str "write",.int 0,.str "ok",.int (-2),.int (-1),.int 0])/\(∃ws:List Int,d lt=some (.lst (ws.map V.int))/\(∀w∈ws,Eld G r w)/\ws.length<=24 * i)/\∃x3 x4,σ=[some (.ref I),some (.int (j:Nat)),some (.ref lt),x3,x4]) ⟨s4,e4,a6,⟨[],a4,λ w f=>absurd f B0,D1 _⟩,_,_,rfl⟩ (λ _ σ d _ h=>SqL.of h.2.1) ?_ ?_;rotate_left
  ·rintro σ M ⟨s5,_,_,⟨ws,ew,f,_⟩,x3,x4,rfl⟩;exact go _ _ ⟨ws,s5,ew,f,_,_,rfl⟩
  rintro i y σ M U ⟨s5,ec5,ep5,⟨ws,ew,f,lw⟩,x3,x4,rfl⟩;have hi:=z0k U;rw [i1] at hi;refine g_name ?_;have one :∃p h W x a b e u,y=.ref p/\M p=some (.lst [h,W,x,a,b,e,u])/\(W=.str "read"\/(W=.str "write"/\∃t,t∈ents G/\x=.int t.x/\e=endO t.e/\bdI t.x)):=by
   cases i with
   | zero=>cases U;exact ⟨c,_,_,_,_,_,_,_,rfl,ep5,.inr ⟨rfl,ent0,ents_mem.mpr (.inl rfl),rfl,rfl,⟨by decide,by decide⟩⟩⟩
   | succ i=>
    rw [B1] at U;obtain ⟨Y,a0,p5,c3,rfl,e5,_⟩:=z0a B.a U;refine ⟨p5,_,_,_,_,_,_,_,rfl,s5 _ _ e5,?_⟩;rcases B.g Y (o0 a0) with g|g
    ·exact .inl g.1
    ·exact .inr ⟨g.1,entW Y,ents_mem.mpr (.inr ⟨Y,o0 a0,g.w,rfl⟩),g.2.2.1,endV_O _,B.x Y (o0 a0) g.w⟩
  obtain ⟨p,h,W,x,a,b,e,u,rfl,ep,hv⟩:=one;have R:=SqL.of (K:=KX w.params) ep;have skip:Same H M/\M C=some (.lst (.ref c :: v))/\M c=some (.lst [.int 0,.str "write",.int 0,.str "ok",.int (-2),.int (-1),.int 0])/\(∃ws:List Int,M lt=some (.lst (ws.map V.int))/\(∀w∈ws,Eld G r w)/\ws.length<=24 * (i + 1)):=⟨s5,ec5,ep5,ws,ew,f,by omega⟩
  rcases hv with rfl|⟨rfl,t,ht,rfl,rfl,bt⟩
  ·exact sq_if (t_or ⟨_,rfl,.inl ⟨p,_,1,.str "read",rfl,rfl,R,z03 (j:=1) rfl,rfl,_,rfl,iteP (by decide +kernel) (iteT ⟨skip.1,skip.2.1,skip.2.2.1,skip.2.2.2,_,_,rfl⟩)⟩⟩)
  refine sq_if (t_or ⟨_,rfl,.inl ⟨p,_,1,.str "write",rfl,rfl,R,z03 (j:=1) rfl,rfl,_,rfl,iteK ?_⟩⟩);cases hte:t.e with
  | none=>exact ⟨_,rfl,.inl ⟨p,_,5,.non,rfl,rfl,R,by rw [hte];exact z03 (j:=5) rfl,rfl,_,rfl,iteP (by decide) ⟨skip.1,skip.2.1,skip.2.2.1,skip.2.2.2,_,_,rfl⟩⟩⟩
  | some F=>
  refine ⟨_,rfl,.inl ⟨p,_,5,.int F,rfl,rfl,R,by rw [hte];exact z03 (j:=5) rfl,rfl,_,rfl,iteN (λ z=>O0 z) (t_nx ?_)⟩⟩;refine ⟨_,rfl,I,rfl,⟨_,SqL.of (s5 _ _ B.l)⟩,?_⟩;refine z15 (K:=KX w.params) (a:=I) (xs:=v) (λ i' σ d=>Same H d/\d C=some (.lst (.ref c :: v))/\d c=some (.lst [.int 0,.str "write",.int 0,.str "ok",.int (-2),.int (-1),.int 0])/\d p=some (.lst [h,.str "write",.int t.x,a,b,endO t.e,u])/\(∃ws:List Int,d lt=some (.lst (ws.map V.int))/\(∀w∈ws,Eld G r w)/\ws.length<=24 * i + i')/\∃x4,σ=[some (.ref I),some (.int (j:Nat)),some (.ref lt),some (.ref p),x4]) ⟨s5,ec5,ep5,ep,⟨ws,ew,f,by omega⟩,_,rfl⟩ (λ _ σ d _ h=>SqL.of (h.1 _ _ B.l)) ?_ ?_;rotate_left
  ·rintro σ D ⟨s6,ec6,ep6,_,⟨ws,ew,f,lw⟩,x4,rfl⟩;exact ⟨s6,ec6,ep6,⟨ws,ew,f,by omega⟩,_,_,rfl⟩
  clear ew f lw skip ws ec5 ep5;rintro i' y σ D a1 ⟨s6,ec6,ep6,epo,⟨ws,ew,f,lw⟩,x4,rfl⟩;have c1:=z0k a1;obtain ⟨X,b2,J,c0,rfl,eq,_⟩:=z0a B.a a1;have L:=SqL.of (K:=KX w.params) (s6 _ _ eq);have a5:SqL (kx w) D p [h,.str "write",.int t.x,a,b,.int F,u]:=by rw [hte] at epo;exact SqL.of epo
  have a8:=o0 b2;refine g_name ?_;have skip:Same H D/\D C=some (.lst (.ref c :: v))/\D c=some (.lst [.int 0,.str "write",.int 0,.str "ok",.int (-2),.int (-1),.int 0])/\D p=some (.lst [h,.str "write",.int t.x,a,b,endO t.e,u])/\(∃ws:List Int,D lt=some (.lst (ws.map V.int))/\(∀w∈ws,Eld G r w)/\ws.length<=24 * i + (i' + 1)):=⟨s6,ec6,ep6,epo,ws,ew,f,by omega⟩
  rcases B.g X a8 with g|g
  ·exact z0s (t_and ⟨_,rfl,.inl ⟨J,_,1,.str "read",rfl,rfl,L,by rw [g.1];exact z03 (j:=1) rfl,rfl,_,rfl,iteK (iteF ⟨skip.1,skip.2.1,skip.2.2.1,skip.2.2.2.1,skip.2.2.2.2,_,rfl⟩)⟩⟩)
  refine z0s (t_and ⟨_,rfl,.inl ⟨J,_,1,.str "write",rfl,rfl,L,by rw [g.1];exact z03 (j:=1) rfl,rfl,_,rfl,iteP (by decide +kernel) ?_⟩⟩);cases hqe:X.e with
  | none=>exact t_and ⟨_,rfl,.inl ⟨J,_,5,.non,rfl,rfl,L,by rw [hqe];exact z03 (j:=5) rfl,rfl,_,rfl,iteN (by decide) (iteF ⟨skip.1,skip.2.1,skip.2.2.1,skip.2.2.2.1,skip.2.2.2.2,_,rfl⟩)⟩⟩
  | some N=>
  refine t_and ⟨_,rfl,.inl ⟨J,_,5,.int (N:Nat),rfl,rfl,L,by rw [hqe];exact z03 (j:=5) rfl,rfl,_,rfl,iteP (by simp) ?_⟩⟩;refine t_and ⟨_,rfl,.inl ⟨p,_,5,.int F,rfl,rfl,a5,z03 (j:=5) rfl,_,rfl,.inl ⟨J,_,4,.int (X.b:Nat),rfl,rfl,L,z03 (j:=4) rfl,_,_,rfl,rfl,_,rfl,ite2 (λ z1=>?_) λ _=>iteF ⟨skip.1,skip.2.1,skip.2.2.1,skip.2.2.2.1,skip.2.2.2.2,_,rfl⟩⟩⟩⟩;obtain ⟨y',b6,py,b7,rfl,ey,_⟩:=z2o B.a hj;have sy:=SqL.of (K:=KX w.params) (s6 _ _ ey);refine ⟨_,rfl,.inl ⟨J,_,5,.int (N:Nat),rfl,rfl,L,by rw [hqe];exact z03 (j:=5) rfl,_,rfl,_,rfl,.inl ⟨I,_,j,.ref py,rfl,rfl,SqL.of (s6 _ _ B.l),z03 b6,.inl ⟨py,_,4,.int (r.b:Nat),rfl,rfl,sy,z03 (j:=4) rfl,_,_,rfl,rfl,_,rfl,ite2 (λ z2=>?_) λ _=>⟨skip.1,skip.2.1,skip.2.2.1,skip.2.2.2.1,skip.2.2.2.2,_,rfl⟩⟩⟩⟩⟩;refine ⟨_,rfl,.inl ⟨rfl,_,SqL.of ew⟩,_,rfl,.inl ⟨p,_,2,.int t.x,rfl,rfl,a5,z03 (j:=2) rfl,lt,_,_,rfl,rfl,ew,U1 (m:=1000) (by rw [G0];omega) (by decide),?_⟩⟩;have nt :∀{b:Addr} {o:HO},D b=some o->b≠lt->upd D lt (.lst (ws.map V.int++[.int t.x])) b=some o:=λ h1 h2=>by rw [upd_ne h2];exact h1
  have b0:p≠lt:=λ z=>by
   rw [z,ew] at epo;have:ws.map V.int=[h,.str "write",.int t.x,a,b,endO t.e,u]:=by injection epo with z;injection z
   have:(ws.map V.int)[1]? = some (.str "write"):=by rw [this];rfl
   rw [Z0] at this;obtain ⟨k,_,hk⟩:=Option.map_eq_some_iff.mp this;cases hk
  refine ⟨Same.keep s6 a2,nt ec6 b4,nt ep6 b3,nt epo b0,⟨ws++[t.x],?_,λ w b5=>?_,?_⟩,_,rfl⟩
  ·rw [z01,P2];rfl
  ·rcases List.mem_append.mp b5 with z|z
   ·exact f w z
   ·rw [List.mem_singleton.mp z];refine ⟨bt,t,X,F,N,ht,rfl,hte,a8,g.w,hqe,?_,?_⟩
    ·exact of_decide_eq_true z1
    ·have:=of_decide_eq_true z2;omega
  ·rw [F0];show ws.length + 1<=_;omega
theorem ze7 (xs:List V) (n:Nat):cutV xs (some (n:Int)) none=xs.drop n:=by
 have b:HT.sIx xs.length 0 (some (n:Int))=min n xs.length:=HT.sIx_nat xs.length 0 n;have a:HT.sIx xs.length xs.length none=xs.length:=rfl;unfold cutV;rw [b,a];rw [Q3 (by rw [U4];omega)];by_cases h:n<=xs.length
 ·rw [Nat.min_eq_left h]
 ·rw [Nat.min_eq_right (by omega),E9 (A0 _),E9 (by omega)]
theorem cut_to (xs:List V) (n:Nat):cutV xs none (some (n:Int))=xs.take n:=by
 have b:HT.sIx xs.length 0 none=0:=rfl;have a:HT.sIx xs.length xs.length (some (n:Int))=min n xs.length:=HT.sIx_nat xs.length xs.length n;unfold cutV;rw [b,a,Q4,Nat.sub_zero];by_cases h:n<=xs.length
 ·rw [Nat.min_eq_left h]
 ·rw [Nat.min_eq_right (by omega),Q3 (A0 _),Q3 (by omega)]
def z23 (K:c0):Sp:=λ vs H Q _=>∃(le:Addr) (ys:List V) (e:Nat) (h:Int) (a:V),vs=[.ref le,.int (e:Nat),.int h,a]/\H le=some (.lst ys)/\e < ys.length/\ys.length<=60/\∀l tp H',Same H H'->H' l=some (.lst (ys.set e (.ref tp)))->H' tp=some (.tup [.str "end",.int h,a])->Q (.ref l) H'
theorem z4f (T:TX (kx w) mg):Fo P w mg base CX0 1 361 y08 ["events","place","hand","answer"] (z23 (kx w)):=by
 refine (z1i w.params).ok z4z (λ F H Q E h=>?_) (λ X A Y s H F Q E Z h=>?_)
 ·obtain ⟨le,b,e,h,a,rfl,_⟩:=h;rfl
 ·obtain ⟨le,b,e,h,a,rfl,y,M,W,q⟩:=h;refine q_of (z1f (QS.mk (ps_ret (pe_op opAdd (pe_op opAdd (z14 slSeq (pv 0) z2r (z1s (pv 1))) (pe_lst (z00 (pe_tup (z00 pe_str (z00 (pv 2) (z00 (pv 3) pa_nil)))) pa_nil))) (z14 slSeq (pv 0) (z1s (pe_op opAdd (pv 1) pe_int)) z2r))))) ?_;refine ⟨_,rfl,_,rfl,(e:Int),rfl,.inl ⟨le,_,rfl,SqL.of y,λ K J=>?_⟩⟩;rw [cut_to];obtain ⟨j,R,N,S⟩:=newA (.lst (b.take e)) J;rw [<-R];refine ⟨_,rfl,_,rfl,w_3,λ tp L=>⟨w_1,λ f l=>?_⟩⟩;have I:=Same.upd (o:=.tup [.str "end",.int h,a]) L;have v:=(Same.upd (o:=.lst [.ref tp]) l) _ _ (z01 (H:=j) (a:=tp) (o:=.tup [.str "end",.int h,a]));have u:upd (upd j tp (.tup [.str "end",.int h,a])) f (.lst [.ref tp]) f=some (.lst [.ref tp]):=z01;have g:=I.trans (Same.upd (o:=.lst [.ref tp]) l);generalize upd (upd j tp (.tup [.str "end",.int h,a])) f (.lst [.ref tp])=H2 at g v u⊢;have lt:(b.take e).length=e:=by rw [K3];omega
  refine .inr (.inr (.inl ⟨K,f,_,_,rfl,rfl,g _ _ S,u,J0 (m:=61) (by rw [lt];show e + 1<=61;omega) (by decide),λ d U=>?_⟩));have C:=Same.upd (o:=.lst (b.take e++[.ref tp])) U;have n:upd H2 d (.lst (b.take e++[.ref tp])) d=some (.lst (b.take e++[.ref tp])):=z01;have k:=(N.trans g).trans C;have p:=C _ _ v;generalize upd H2 d (.lst (b.take e++[.ref tp]))=H3 at k n p⊢;refine ⟨_,rfl,_,rfl,.inl ⟨_,_,rfl,rfl,(e + 1:Int),rfl,.inl ⟨le,_,rfl,SqL.of (k _ _ y),λ c O=>?_⟩⟩⟩;rw [show ((e:Int) + 1)=((e + 1:Nat):Int) from rfl,ze7];have i:=Same.upd (o:=.lst (b.drop (e + 1))) O;have z:upd H3 c (.lst (b.drop (e + 1))) c=some (.lst (b.drop (e + 1))):=z01;have x:=k.trans i;have B:=i _ _ p;have t:=i _ _ n;generalize upd H3 c (.lst (b.drop (e + 1)))=H4 at x z B t⊢;have D:b.take e++[V.ref tp]++b.drop (e + 1)=b.set e (.ref tp):=by rw [List.set_eq_take_append_cons_drop,if_pos M,List.append_assoc];rfl
  refine .inr (.inr (.inl ⟨d,c,_,_,rfl,rfl,t,z,J0 (m:=61) (by rw [F0,lt,U4];show e + 1 + (b.length - (e + 1))<=61;omega) (by decide),λ G r=>?_⟩));exact q G tp _ (x.trans (Same.upd r)) (by rw [z01,D]) ((Same.upd r) _ _ B)
theorem fixA_b {p:Nat} {v:V} (r:Rc):(fixA p v r).b=r.b:=by unfold fixA;split<;>rfl
theorem fixA_w {p:Nat} {v:V} (r:Rc):isW (fixA p v r)=isW r:=by unfold isW;rw [fixA_v]
theorem GdE.fix {es:List Ev} {i:Nat} {r:Rc} {e:Nat} {x:Int} (m:GdE es) (hr:(dAll 0 [] es)[i]? = some r) (hre:isRE r=true) (he:r.e=some e):GdE (es.set e (.fin r.h (.int x)))/\es[e]? = some (.fin r.h r.a)/\dAll 0 [] (es.set e (.fin r.h (.int x)))=(dAll 0 [] es).map (fixA e (.int x)):=by
 have o:=o0 hr;have c:es[e]? = some (.fin r.h r.a):=by
  have:=end_at es 0 [] (λ _ h=>absurd h B0) r o e he (D1 _)
  rwa [Nat.sub_zero] at this
 have b:=z9c (v:=.int x) es 0 [] e r.h r.a c PosI.nil;rw [E5] at b;have q:=PosI.all es PosI.nil;have l:RdG r:=by
  rcases m.g r o with g|g
  ·exact g
  ·exact absurd ((re_end hre).1.symm.trans g.1) z0z
 refine ⟨⟨?_,?_,zd9 es [] e r.h r.a c m.wf,?_,by rw [List.length_set];exact m.n60,by rw [zbd es e r.h r.a c];exact m.bg⟩,c,b⟩
 ·rw [b];intro s p;obtain ⟨d,k,rfl⟩:=List.mem_map.mp p;obtain ⟨j,f⟩:=List.mem_iff_getElem?.mp k;by_cases z:d.e=some e
  ·have:=q.ee j i d r e f hr z he;subst this;rw [hr] at f;cases f;unfold fixA;rw [if_pos z];exact .inl ⟨l.1,l.2.1,λ _ _=>rfl⟩
  ·unfold fixA;rw [if_neg z];exact m.g d k
 ·rw [b,G0];exact m.n
 ·rw [b];exact m.wx.fix
theorem zdl {es:List Ev} {l:List Int} {n i:Nat} {r:Rc} {e:Nat} {x:Int} (st:StI l (dAll 0 [] es) n) (m:GdE es) (hr:(dAll 0 [] es)[i]? = some r) (hre:isRE r=true) (he:r.e=some e) (el:Eld (dAll 0 [] es) r x) {o:Oc} (h:OcOk (dAll 0 [] (es.set e (.fin r.h (.int x)))) o):o≠.non:=λ z=>by
 subst z;obtain ⟨k,_,v⟩:=m.fix (x:=x) hr hre he;have g:=PosI.all (es.set e (.fin r.h (.int x))) PosI.nil;have nd:=k.tw.nd;have n0:=k.tw.n0;obtain ⟨_,t,q,E,f,s,C,y,j,A,c,w,B⟩:=el;have u:q.b<=f:=by obtain ⟨p,D,F,_⟩:=st.en q j f c;omega
 have d:fixA e (.int x) r={ r with a:=.int x }:=by unfold fixA;rw [if_pos he]
 rw [v] at g nd n0 h;refine zeu (r:=fixA e (.int x) r) (q:=fixA e (.int x) q) (t:=t) g nd n0 (List.mem_map.mpr ⟨r,o0 hr,rfl⟩) (by rw [d];exact hre) ?_ (by rw [d];exact C.symm) y (List.mem_map.mpr ⟨q,j,rfl⟩) (by rw [fixA_w];exact A) (by rw [fixA_e];exact c) (by rw [fixA_b];exact u) (by rw [fixA_b];exact w) (by rw [fixA_b];exact B) h;rcases ents_mem.mp s with rfl|⟨w0,h1,h2,rfl⟩
 ·exact ents_mem.mpr (.inl rfl)
 ·refine ents_mem.mpr (.inr ⟨fixA e (.int x) w0,List.mem_map.mpr ⟨w0,h1,rfl⟩,by rw [fixA_w];exact h2,?_⟩);unfold entW;rw [fixA_x,fixA_b,fixA_e]
theorem zdz (ns:List Int) (a b:Option Int) :∃ms:List Int,cutV (ns.map V.int) a b=ms.map V.int/\ms.length<=ns.length:=by
 refine ⟨(ns.drop (HT.sIx (ns.map V.int).length 0 a)).take (HT.sIx (ns.map V.int).length (ns.map V.int).length b - HT.sIx (ns.map V.int).length 0 a),?_,?_⟩
 ·unfold cutV;rw [List.map_take,List.map_drop]
 ·rw [K3,U4];omega
theorem cut_60 (xs:List V):(cutV xs (some 1) (some 61)).length<=60:=by have b:HT.sIx xs.length 0 (some 1)=min 1 xs.length:=HT.sIx_nat xs.length 0 1;have a:HT.sIx xs.length xs.length (some 61)=min 61 xs.length:=HT.sIx_nat xs.length xs.length 61;unfold cutV;rw [b,a,K3,U4];omega
theorem RwsA.sb {H H':Hp} {lr:Addr} {rs:List Rc} {zs:List V} (s:SameB tbT H H') (h :∃ps,H tbT=some (.tbl ps)) (r:RwsA H lr rs zs):RwsA H' lr rs zs:=by obtain ⟨ps,z⟩:=h;have k :∀{b:Addr} {xs:List V},H b=some (.lst xs)->H' b=some (.lst xs):=λ e=>s _ _ (λ q=>by rw [q,z] at e;cases e) e;exact ⟨k r.l,z02 (λ _ _ z=>by obtain ⟨p,d,i,c,f⟩:=z;exact ⟨p,d,i,k c,f⟩) r.a,r.g,r.x,r.n⟩
theorem side17 :∀n,n < 61->R5 ((n:Nat) - 0) 3=false/\B5 0 (n:Nat) 3=true/\0<=N1 0 (n:Nat) 3:=by decide +kernel
theorem zfh (n:Nat) (h:n < 61):R5 ((n:Int) - 0) 3=false/\B5 0 (n:Int) 3=true/\0<=N1 0 (n:Int) 3:=side17 n h
theorem z7p {α β:Type} {R:α->β->Prop} :∀{xs:List α} {ys:List β} (n:Nat),All2 R xs ys->All2 R (xs.take n) (ys.take n)
 | _,_,_,.nil=>by rw [t9,t9];exact .nil
 | _,_,0,.cons _ _=>.nil
 | _,_,n + 1,.cons a r=>.cons a (z7p n r)
theorem judge {K:c0} {H:Hp} {la ly p0:Addr} {ys:List V} {es:List Ev} {N:VK} (lm:LamH H) (ea:H la=some (.lst [.ref p0])) (ep:H p0=some (.tup [.str "r",.str "register"])) (el:H ly=some (.lst ys)) (ev:All2 (EvT H rTh) es ys) (gd:GdE es)
  (h :∀o v H',SameB tbT H H'->LamH H'->OcOk (dAll 0 [] es) o->OcV H' o v->N v H'):z11 K [.ref la,.ref ly] H (λ y H2=>z1u K [y] H2 N E0) E0:=by
 have l:=gd.n60;refine ⟨la,ly,p0,("r","register"),ys,es,rfl,ea,⟨p0,rfl,ep⟩,⟨nameR,by decide +kernel⟩,el,ev,by omega,gd.bg,gd.wf,λ d i f m a b c e=>?_⟩;exact ⟨d,"r",0,es,ys,rfl,⟨⟨i,f,p0,SqT.of b,SqT.of c,SqT.of (a _ _ ep),SqT.of e⟩,z02 (λ _ _ z=>ev_at (z.same a)) ev,gd.tw,by omega⟩,LamH.same a lm,λ o v H' sb j g k=>h o v H' (SameB.trans (SameB.of a) sb) j g k⟩
def sp_law (K:c0):Sp:=λ vs H Q _=>∃(sc:Addr) (ns:List Int),vs=[.ref sc]/\SqL K H sc (ns.map V.int)/\ns.length<=63/\H tbT=some (.tbl #[])/\∀H',Q (.bl true) H'
theorem ok_law (T:TX (kx w) mg) (c0:Ca P w mg base "_law_made" ["cells","most","spoilt"] 8 (z2x (kx w))) (c1:Ca P w mg base "collision" ["tale"] 7 (z1u (kx w))) (c2:Ca P w mg base "make_tale" ["things","events"] 7 (z11 (kx w))) (c3:Ca P w mg base "_law_elder" ["rows","number"] 1 (z2p (kx w))) (c4:Ca P w mg base "_law_turned" ["events","place","hand","answer"] 1 (z23 (kx w))):Fo P w mg base CX0 9 368 fd_law ["script"] (sp_law (kx w)):=by
 refine (F_law w.params).ok sc_law (λ vs H Q E h=>?_) (λ g2 A f7 s H vs Q E u h=>?_)
 ·obtain ⟨I,ns,rfl,_⟩:=h;rfl
 ·obtain ⟨I,ns,rfl,sq,hn,hT,q⟩:=h;refine q_of (z0b (QS.mk (ps_asg (pe_cal c0 (u.mono (by decide)) rfl (z00 (z14 slSeq (pv 0) (z1s pe_int) (z1s pe_int)) (z00 pe_int (z00 pe_bl pa_nil)))) (pg_tup rfl (z0l (z0m (i:=1) sc_law.nd rfl (L1 rfl)) (z0l (z0m (i:=2) sc_law.nd rfl (L1 rfl)) z26)))))
   (z0b (QS.mk (ps_set (i:=3) sc_law.nd rfl (L1 rfl) (z2v z6s rfl (T.no (n_list _)) boot_list (z00 (pe_ix ix_seq (pv 1) pe_int (λ _ _=>rfl)) pa_nil))))
   (z0b (QS.mk (ps_if (z08 z3j (pe_cal c1 (u.mono (by decide)) rfl (z00 (pv 1) pa_nil)) pe_non (nomark _))
   (z05 (ps_ret pe_bl))
   z0d))
   (z0b (QS.mk (ps_for C2 rfl (zcx rfl (T.no (zde _)) (z00 pe_int (z00 (z09 z0t rfl (T.no (n_len _)) T3 (z00 (pv 3) pa_nil)) (z00 pe_int pa_nil)))) (z0m (i:=4) sc_law.nd rfl (L1 rfl))
   (z05 (ps_if (z08 z3j (pe_cal c1 (u.mono (by decide)) rfl (z00 (pe_cal c2 (u.mono (by decide)) rfl (z00 (pe_lst (z00 (pe_tup (z00 pe_str (z00 pe_str pa_nil))) pa_nil)) (z00 (z14 slSeq (pv 3) z2r (z1s (pv 4))) pa_nil))) pa_nil)) pe_non (nomark _))
   (z05 (ps_ret pe_bl))
   z0d))))
   (z0b (QS.mk (ps_for C2 rfl (zce rfl (T.no (zde _)) (z00 (z09 z0t rfl (T.no (n_len _)) T3 (z00 (pv 2) pa_nil)) pa_nil)) (z0m (i:=5) sc_law.nd rfl (L1 rfl))
   (z05 (ps_if (PW.pt (pw_and (z08 opEq (pe_ix ix_seq (pe_ix ix_seq (pv 2) (pv 5) (λ _ _=>rfl)) pe_int (λ _ _=>rfl)) pe_str (nomark _)) (z5q (z08 z3j (pe_ix ix_seq (pe_ix ix_seq (pv 2) (pv 5) (λ _ _=>rfl)) pe_int (λ _ _=>rfl)) pe_non (nomark _)))))
   (z05 (ps_for C2 rfl (z0n (z14 slSeq (pe_cal c3 (u.mono (by decide)) rfl (z00 (pv 2) (z00 (pv 5) pa_nil))) z2r (z1s pe_int))) (z0m (i:=6) sc_law.nd rfl (L1 rfl))
   (z06 (ps_set (i:=7) sc_law.nd rfl (L1 rfl) (pe_cal c4 (u.mono (by decide)) rfl (z00 (pv 3) (z00 (pe_ix ix_seq (pe_ix ix_seq (pv 2) (pv 5) (λ _ _=>rfl)) pe_int (λ _ _=>rfl)) (z00 (pe_ix ix_seq (pe_ix ix_seq (pv 2) (pv 5) (λ _ _=>rfl)) pe_int (λ _ _=>rfl)) (z00 (pv 6) pa_nil))))))
   (z05 (ps_if (z08 op_isN (pe_cal c1 (u.mono (by decide)) rfl (z00 (pe_cal c2 (u.mono (by decide)) rfl (z00 (pe_lst (z00 (pe_tup (z00 pe_str (z00 pe_str pa_nil))) pa_nil)) (z00 (pv 7) pa_nil))) pa_nil)) pe_non (nomark _))
   (z05 (ps_ret pe_bl))
   z0d)))))
   z0d))))
   (z1f (QS.mk (ps_ret pe_bl)))))))) ?_
  have f4:LamH H:=.inl hT;refine z0f ⟨_,rfl,1,rfl,61,rfl,.inl ⟨I,_,rfl,sq,λ l1 e5=>?_⟩⟩;obtain ⟨ms,f3,_⟩:=zdz ns (some 1) (some 61);have a8:=cut_60 (ns.map V.int);rw [f3] at a8⊢;rw [G0] at a8;obtain ⟨H1,v_,u1,O⟩:=newA (.lst (ms.map V.int)) e5;rw [<-v_];refine ⟨l1,ms,rfl,SqL.of O,a8,λ tt J m X es d H2 s2 b8 b0 ra ev d4=>?_⟩;refine ⟨tt,_,rfl,SqT.of b8,rfl,_,_,rfl,_,_,rfl,rfl,?_⟩;have b4:=LamH.same (u1.trans s2) f4;obtain ⟨pt,te,th,t1,t2,t3,t4⟩:=b0.t;refine z0f ⟨_,rfl,.inr (.inl ⟨J,_,1,.ref te,rfl,rfl,t1,z03 (j:=1) rfl,te,d,rfl,.inr t4,λ le c9=>g_name ?_⟩)⟩;have L:=Same.upd (o:=.lst d) c9;have a2:upd H2 le (.lst d) le=some (.lst d):=z01;have d3:=b0.same L;have N:=ra.same L;have a6:=LamH.same L b4;have a4:All2 (EvT (upd H2 le (.lst d)) rTh) es d:=z02 (λ _ _ z=>z.same L) ev;generalize upd H2 le (.lst d)=HB at L a2 d3 N a6 a4⊢;have tb:=a6.tb;have lk :∀{b:Addr} {xs:List V} {c:Hp},SameB tbT HB c->HB b=some (.lst xs)->c b=some (.lst xs):=λ sb e=>sb _ _ (λ q=>by obtain ⟨ps,z⟩:=tb;rw [q,z] at e;cases e) e;have tk :∀{b:Addr} {xs:List V} {c:Hp},SameB tbT HB c->HB b=some (.tup xs)->c b=some (.tup xs):=λ sb e=>sb _ _ (λ q=>by obtain ⟨ps,z⟩:=tb;rw [q,z] at e;cases e) e;obtain ⟨gd,l,st⟩:=d4.all;have ly:=z04 ev;have g0:=gd.n60;clear L b0 ra b4 ev b8 t1 t2 t3 t4 c9 O u1 s2;refine sq_if ⟨_,rfl,J,"r",0,es,d,rfl,d3,a6,λ o v H4 s4 d5 R U=>?_⟩;cases no_col st gd.tw.nd gd.tw.n0 R;cases (show v=.non from U);refine ⟨rfl,_,rfl,iteN (by decide) (t_nx ?_)⟩;obtain ⟨r1,r2,r3⟩:=zfh d.length (by omega);refine z3x (λ σ c=>SameB tbT HB c/\LamH c/\∃x4,σ=[some (.ref I),some (.ref J),some (.ref m),some (.ref le),x4,none,none,none]) ?_ λ go=>?_;rotate_left
  ·refine ⟨_,rfl,.inl ⟨le,d,rfl,.inl (SqL.of (lk s4 a2)),0,(d.length:Int),3,rfl,by decide,r1,r2,r3,?_⟩⟩;refine zb4 (λ i σ c=>SameB tbT HB c/\LamH c/\∃x4,σ=[some (.ref I),some (.ref J),some (.ref m),some (.ref le),x4,none,none,none]) ⟨s4,d5,_,rfl⟩ (λ σ c h=>go σ c h) ?_;rintro i σ H5 hi ⟨s5,lm5,x4,rfl⟩;rw [show (0:Int) + (i:Int) * 3=((3 * i:Nat):Int) by omega];refine g_name ?_;refine z0s ⟨w_2,λ f a5=>⟨w_1,λ F a7=>?_⟩⟩;have W:=Same.upd (o:=.tup [.str "r",.str "register"]) a5;have G:=Same.upd (o:=.lst [.ref f]) a7;have u6:=W.trans G;have Z:=G _ _ (z01 (H:=H5) (a:=f) (o:=.tup [.str "r",.str "register"]));have Y:upd (upd H5 f (.tup [.str "r",.str "register"])) F (.lst [.ref f]) F=some (.lst [.ref f]):=z01;generalize upd (upd H5 f (.tup [.str "r",.str "register"])) F (.lst [.ref f])=H6 at u6 Z Y⊢;refine ⟨_,rfl,_,rfl,((3 * i:Nat):Int),rfl,.inl ⟨le,_,rfl,SqL.of (u6 _ _ (lk s5 a2)),λ l7 f5=>?_⟩⟩;rw [cut_to];have u7:=Same.upd (o:=.lst (d.take (3 * i))) f5;have e7:upd H6 l7 (.lst (d.take (3 * i))) l7=some (.lst (d.take (3 * i))):=z01;have M:SameB tbT HB (upd H6 l7 (.lst (d.take (3 * i)))):=SameB.trans s5 (SameB.of (u6.trans u7));have b2:=LamH.same (u6.trans u7) lm5;have d1:=u7 _ _ Z;have c8:=u7 _ _ Y;generalize upd H6 l7 (.lst (d.take (3 * i)))=H7 at M b2 e7 d1 c8⊢;obtain ⟨gp,lp,f0⟩:=d4 (3 * i);refine judge b2 c8 d1 e7 (z7p (3 * i) (z02 (λ _ _ z=>EvT.tp (λ a xs e=>tk M e) z) a4)) gp λ o v H8 s8 a1 R U=>?_;cases no_col f0 gp.tw.nd gp.tw.n0 R;cases (show v=.non from U);exact ⟨rfl,_,rfl,iteN (by decide) ⟨SameB.trans M s8,a1,_,rfl⟩⟩
  rintro σ H5 ⟨s5,lm5,x4,rfl⟩;have lz:X.length=(dAll 0 [] es).length:=z04 N.a;have f9:=N.n;refine z3x (λ σ c=>True) ?_ λ go=>?_
  ·intro σ c _;exact q c
  refine ⟨_,rfl,.inl ⟨m,X,rfl,.inl (SqL.of (lk s5 N.l)),_,rfl,by omega,by omega,?_⟩⟩;refine zc4 (lo:=0) (n:=X.length) (λ i σ c=>SameB tbT HB c/\LamH c/\∃x5 x6 x7,σ=[some (.ref I),some (.ref J),some (.ref m),some (.ref le),x4,x5,x6,x7]) ⟨s5,lm5,_,_,_,rfl⟩ ?_ ?_;rotate_left
  ·intro σ c _;exact go σ c trivial
  rintro i σ H6 hi ⟨s6,lm6,x5,x6,x7,rfl⟩;rw [Int.zero_add];refine g_name ?_;obtain ⟨y,B⟩ :∃y,X[i]? = some y:=⟨_,Y0 (by omega)⟩
  have a3:=N.sb s6 tb;obtain ⟨r,S,p,g3,rfl,f6,_⟩:=z0a a3.a B;have e6:=SqL.of (K:=KX w.params) f6;have l6:=SqL.of (K:=KX w.params) a3.l;have hm:=o0 S;rcases a3.g r hm with g|g;rotate_left
  ·exact z0s (t_and ⟨_,rfl,_,rfl,.inl ⟨m,_,i,.ref p,rfl,rfl,l6,z03 B,.inl ⟨p,_,1,.str "write",rfl,rfl,e6,by rw [g.1];exact z03 (j:=1) rfl,rfl,_,rfl,iteK (iteF ⟨s6,lm6,_,_,_,rfl⟩)⟩⟩⟩)
  refine z0s (t_and ⟨_,rfl,_,rfl,.inl ⟨m,_,i,.ref p,rfl,rfl,l6,z03 B,.inl ⟨p,_,1,.str "read",rfl,rfl,e6,by rw [g.1];exact z03 (j:=1) rfl,rfl,_,rfl,iteP (by decide +kernel) ?_⟩⟩⟩);cases he:r.e with
  | none=>exact ⟨_,rfl,_,rfl,.inl ⟨m,_,i,.ref p,rfl,rfl,l6,z03 B,.inl ⟨p,_,5,.non,rfl,rfl,e6,by rw [he];exact z03 (j:=5) rfl,rfl,_,rfl,iteN (by decide) ⟨s6,lm6,_,_,_,rfl⟩⟩⟩⟩
  | some e=>
  have b1:isRE r=true:=by unfold isRE;rw [he,decide_eq_true g.1];rfl
  refine ⟨_,rfl,_,rfl,.inl ⟨m,_,i,.ref p,rfl,rfl,l6,z03 B,.inl ⟨p,_,5,.int (e:Nat),rfl,rfl,e6,by rw [he];exact z03 (j:=5) rfl,rfl,_,rfl,iteP (by simp) ?_⟩⟩⟩;refine for_tl ⟨_,rfl,_,rfl,m,_,X,i,r,rfl,a3,S,λ lw C H7 M e4 hw=>?_⟩;refine ⟨3,rfl,.inl ⟨lw,_,rfl,SqL.of e4,λ D e3=>?_⟩⟩;rw [show (3:Int)=((3:Nat):Int) from rfl,cut_to];have v8:=Same.upd (o:=.lst ((C.map V.int).take 3)) e3;have e8:upd H7 D (.lst ((C.map V.int).take 3)) D=some (.lst ((C.map V.int).take 3)):=z01;have s8:SameB tbT HB (upd H7 D (.lst ((C.map V.int).take 3))):=SameB.trans s6 (SameB.of (M.trans v8));have a1:=LamH.same (M.trans v8) lm6;generalize upd H7 D (.lst ((C.map V.int).take 3))=H8 at s8 e8 a1⊢;refine ⟨D,rfl,⟨_,SqL.of e8⟩,?_⟩;refine z15 (K:=KX w.params) (a:=D) (xs:=(C.map V.int).take 3) (λ _ σ c=>SameB tbT HB c/\LamH c/\c D=some (.lst ((C.map V.int).take 3))/\∃x6 x7,σ=[some (.ref I),some (.ref J),some (.ref m),some (.ref le),x4,some (.int (i:Nat)),x6,x7]) ⟨s8,a1,e8,_,_,rfl⟩ (λ _ σ c _ h=>SqL.of h.2.2.1) ?_ ?_;rotate_left
  ·rintro σ H9 ⟨s9,lm9,_,y6,y7,rfl⟩;exact ⟨s9,lm9,_,_,_,rfl⟩
  rintro k y σ H9 hk ⟨s9,lm9,e9,y6,y7,rfl⟩;obtain ⟨x,hx,rfl⟩:=List.mem_map.mp (List.mem_of_mem_take (o0 hk));have d2:=hw x hx;refine g_name ?_;obtain ⟨gf,b5,_⟩:=gd.fix (x:=x) S b1 he;have lt:=z0k b5;have b9:=N.sb s9 tb;obtain ⟨r',b3,p',f8,e',f2,_⟩:=z0a b9.a B;cases e';rw [S] at b3;cases b3;have b7:=SqL.of (K:=KX w.params) f2;have l9:=SqL.of (K:=KX w.params) b9.l;refine z0f ⟨_,rfl,_,rfl,_,rfl,.inl ⟨m,_,i,.ref p,rfl,rfl,l9,z03 B,.inl ⟨p,_,5,.int (e:Nat),rfl,rfl,b7,by rw [he];exact z03 (j:=5) rfl,_,rfl,_,rfl,.inl ⟨m,_,i,.ref p,rfl,rfl,l9,z03 B,.inl ⟨p,_,0,.int r.h,rfl,rfl,b7,z03 (j:=0) rfl,_,rfl,le,d,e,r.h,.int x,rfl,lk s9 a2,by omega,by omega,λ g1 tp a9 d6 e2 e0=>g_name ?_⟩⟩⟩⟩⟩;refine z0s ⟨w_2,λ f a5=>⟨w_1,λ F a7=>?_⟩⟩;have W:=Same.upd (o:=.tup [.str "r",.str "register"]) a5;have G:=Same.upd (o:=.lst [.ref f]) a7;have a0:=d6.trans (W.trans G);have Z:=G _ _ (z01 (H:=a9) (a:=f) (o:=.tup [.str "r",.str "register"]));have Y:upd (upd a9 f (.tup [.str "r",.str "register"])) F (.lst [.ref f]) F=some (.lst [.ref f]):=z01;have c6:=(W.trans G) _ _ e2;have c5:=(W.trans G) _ _ e0;generalize upd (upd a9 f (.tup [.str "r",.str "register"])) F (.lst [.ref f])=H11 at a0 Z Y c6 c5⊢;have b6:SameB tbT HB H11:=SameB.trans s9 (SameB.of a0);have d0:=LamH.same a0 lm9;have hh:0<=r.h/\r.h<=5:=by obtain ⟨_,_,_,_,_,z1,z2,_⟩:=z2o a4 b5;exact ⟨z1,z2⟩
  have d9:EvT H11 rTh (.fin r.h (.int x)) (.ref tp):=⟨tp,rfl,c5,hh.1,hh.2,zdj d2.1.a⟩
  refine ⟨_,rfl,?_⟩;refine judge d0 Y Z c6 (z9l e (z02 (λ _ _ z=>EvT.tp (λ a xs e=>tk b6 e) z) a4) d9) gf λ o v d7 c7 f1 R U=>?_;have no:=zdl st gd S b1 he d2 R;have d8:d7 D=some (.lst ((C.map V.int).take 3)):=c7 _ _ (λ z=>by obtain ⟨ps,y⟩:=d0.tb;have:=a0 _ _ e9;rw [z,y] at this;cases this) (a0 _ _ e9);have nv:v≠.non:=by
   match o,U,no with
   | .lost n,⟨p,O,_⟩,_=>rw [O];exact λ z=>by cases z
   | .pr k a b,⟨p,O,_⟩,_=>rw [O];exact λ z=>by cases z
   | .non,_,no=>exact absurd rfl no
  exact ⟨rfl,_,rfl,iteN (by rw [decide_eq_false nv];decide) ⟨SameB.trans b6 c7,f1,d8,_,_,rfl⟩⟩
end
theorem ky_in {w:N0} {h:Heap} (Y:(KY w.params).In h):(kx w).In h/\h.get? tbT=some (X6 #[]):=by
 have n0:J8 tbT (kx w)=none:=by kernel_rfl
 refine ⟨λ b o e=>Y b o ?_,Y tbT _ ?_⟩
 ·have e:J8 b (kx w)=some o:=e;show J8 b ((tbT,_) :: KX w.params)=some o;rw [G3,beq_eq_false_iff_ne.mpr λ z=>by rw [z,n0] at e;cases e];exact e
 ·show J8 tbT ((tbT,_) :: KX w.params)=some _;rw [G3,beq_self_eq_true]
theorem all_law {P:Program} {w:N0} {mg:Str->Option Value} {base:Heap} (T:TX (kx w) mg) (B:BtMain base mg):Fo P w mg base CX0 9 368 fd_law ["script"] (sp_law (kx w)):=by have m:=@cal_mk P w (kx w) mg base;have a:=m T (z2y _) (z9u _) (za1 _) (z94 T );have h:=m T (z2i _) (z8m _) (z91 _) (z6o T a);have l:=m T (z30 _) (z9b _) (zaf _) (z8y T h);have b:=m T (z1e _) (z5u _) (z5j _) (z4h T );have g:=m T (z4k _) (zcy _) (zck _) (z9z T );have r:=m T (z4m _) (zbt _) (zcz _) (zb0 T g l b);have o:=m T (zbe _) (zeq _) (zfr _) (zej T );have f:=m T (z4p _) (zd1 _) (zd0 _) (zah T );have x:=m T (z39 _) (zbk _) (z9o _) (z8c T b f g);have F:=m T (z1g _) (z64 _) (z5b _) (z4r T x);have p:=m T (z54 _) (zc2 _) (zbm _) (zak T a);have c:=m T (z38 _) (z9w _) (zbi _) (z92 T b p);have D:=m T (z2a _) (z8l _) (z8x _) (z74 T h);have s:=m T (z3l _) (zaj _) (z99 _) (z93 T c f r);have z:=m T (z71 _) (ze1 _) (zei _) (zcn T c D);have G:=m T (z1l _) (z5h _) (z58 _) (z4g T );have q:=m T (z1h _) (z5e _) (z5w _) (z52 T s z G);have e:=m T (z2d _) (z8p _) (z8w _) (z6r T F q);have v:=m T (z1j _) (z5x _) (z5a _) (z55 T a);have L:=m T (z2e _) (z8n _) (z8o _) (z73 T v);have d:=m T (z1b _) (z60 _) (z5o _) (z4s T o L);have i:=m T (z51 _) (zcj _) (zc9 _) (zav T );have k:=m T (z1d _) (z6b _) (z61 _) (z4l T );have y:=m T (z4v _) (zbo _) (zbp _) (z9a T );have I:=m T (zb7 _) (zf6 _) (zfj _) (ze0 T B d i k y);have C:=m T (z34 _) (z9j _) (zat _) (z8j T );have j:=m T (z2g _) (z8q _) (z95 _) (z6g T );have E:=m T (z1c _) (z5s _) (z5p _) (z50 T j);have K:=m T (z47 _) (zd8 _) (zcp _) (z9t T );have n:=m T (z4y _) (zd4 _) (zd7 _) (z9x T );have H:=m T (z1x _) (z6h _) (z6l _) (z6c T n K);have A:=m T (z2f _) (z8k _) (z8v _) (z6x T d i k I H);have t:=m T (z2j _) (z8t _) (z8d _) (z78 T C j E e);have J:=m T (z1t _) (z77 _) (z6y _) (z5z T );have u:=m T (z1i _) (z6e _) (z69 _) (z4f T );exact ok_law T t A e J u
end K17
open PySem PySem.W PyProof.Rows
set_option maxRecDepth 100000 in
set_option maxHeartbeats 0 in
theorem PySem.Challenge.cw_talejudge_k17_whole_made_strictly_holds : PySem.Challenge.rw_talejudge_k17_whole_made_strictly.Holds := by
 w_on;o_law
 refine holds_open (q:=K17.viewX) (loose:=K17.looseX) (Xt:=K17.XtX) (XP:=XL K17.viewX []) (Yf:=Hook.obs K17.HX) (Ya:=Hook.val K17.HX) (YP:=Hook.says K17.HX) (N:=200000) K17.leftX (Hook.of K17.HX) (Hook.keeps K17.HX) (λ s e=>xl_of s (Bool.and_eq_true_iff.mp e).1) XL.keeps (by rfl) (by rfl) (by rfl) (λ s e=>recFacts_of (Bool.and_eq_true_iff.mp e).2) (by rfl) (by assumption) (by decide +kernel) ⟨rfl,rfl,rfl,rfl,rfl,by decide +kernel⟩ ?hw ?hc
 case hw=>w_witness2
 case hc=>
  refine L2.walk_ofT (T:=K17.tbT) (c:=K17.cdT) (l:=PySem.Challenge.rw_talejudge_k17_whole_made_strictly) (n:=63) (k:=9) (x:="script") (K:=K17.KX) (CX:=λ _=>L2.CX0) (sp:=λ w=>K17.sp_law (K17.KX w.params)) rfl (by decide) rfl ⟨rfl,by decide,by decide,rfl⟩ (λ w h Y=>K17.ky_in (PySem.W.kIn_of Y)) (λ P=>by kernel_rfl) K17.ck_T ?F ?S ?C
  case F=>intro w t p h KX G f;have T:=L2.TX.mk' KX G;have j:=f.symm.trans (T.of (K17.g_law _));cases j;exact ⟨K17.fd_law,λ s u=>.of_eq rfl,λ o r m B=>K17.all_law T B⟩
  case S=>exact λ w H a b i d g=>⟨a,b,rfl,g,i,d,λ _=>rfl⟩
  case C=>exact λ _ _ _ _ _ z=>z
